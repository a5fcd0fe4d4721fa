import PyProof.Rows.All
import Wide.All
import OpenK.AllK
import Wide.FinOn
import Lean
import PyProof.EqAt
import PyProof.EqKinds
import PyProof.TupleCall
import PyProof.P3Statements
import PyProof.Lay0
import PyProof.P3Eq
import PyProof.NeData
import KE.KEqDict
import PyProof.ListRange
import KE.KDictSum
import PyProof.AttrMissHeap
import PyProof.WalksS
import KE.KDictOf
import KE.KRevSl
import PyProof.ZipIter
import PyProof.WalksMore
import PyProof.Rows.FactsT2
import PyProof.Rows.SetFrom
import PyProof.Rows.SortStr
import KE.KDictList
import PyProof.FactsAll.set
import PyProof.CollectWalk
import KE.KSortTup
import KE.KRevIter
import PyProof.TupleOfGen
import PyProof.CollectIter
import PySem.Challenge.RW_calm_k47_papers_down_to_single_books
set_option Elab.async false
set_option linter.all false
set_option maxRecDepth 100000
set_option maxHeartbeats 8000000
section
namespace L2
open PySem PySem.Spec PyProof.Rows
abbrev Key:=Sum Int Str
def U7:Key→Value→Bool
 | .inl k,v=>Value.isInt k v
 | .inr x,v=>Value.isStrOf x v
def ahh (w:World):Key→Int
 | .inl k=>hashInt k
 | .inr x=>hashStr w x
theorem qz:∀ {k:Key} {v:Value},U7 k v=true→(∃ i t,k=Sum.inl i∧v=Value.int i t)∨(∃ x t,k=Sum.inr x∧v=Value.str x t)
 | .inl i,v,h=>by
  obtain ⟨t,e⟩:=Value.isInt_shape (k:=i) (v:=v) h
  exact .inl ⟨i,t,rfl,e⟩
 | .inr x,v,h=>by
  obtain ⟨t,e⟩:=Value.isStrOf_shape (x:=x) (v:=v) h
  exact .inr ⟨x,t,rfl,e⟩
theorem Yr (i:Int) (t:Tok):U7 (.inl i) (.int i t)=true:=by simp [U7,Value.isInt]
theorem a1d (x:Str) (t:Tok):U7 (.inr x) (.str x t)=true:=by simp [U7,Value.isStrOf]
theorem acj (a b:Int):decide ((Sum.inl a:Key)=Sum.inl b)=(a==b):=by
 by_cases e:a=b
 ·subst e; simp
 ·have h:¬ (Sum.inl a:Key)=Sum.inl b:=fun q=>e (Sum.inl.inj q)
  rw [decide_eq_false h]
  exact (beq_eq_false_iff_ne.mpr e).symm
theorem acq (a b:Str):decide ((Sum.inr a:Key)=Sum.inr b)=decide (a=b):=by
 by_cases e:a=b
 ·subst e; simp
 ·have h:¬ (Sum.inr a:Key)=Sum.inr b:=fun q=>e (Sum.inr.inj q)
  rw [decide_eq_false h,decide_eq_false e]
theorem aau (a:Int) (b:Str):decide ((Sum.inl a:Key)=Sum.inr b)=false:=decide_eq_false (fun q=>nomatch q)
theorem aaw (a:Str) (b:Int):decide ((Sum.inr a:Key)=Sum.inl b)=false:=decide_eq_false (fun q=>nomatch q)
def uh (prog:Program) (w:World):PySem.KeyKind prog w Key where
 is:=U7
 hash:=ahh w
 inj:=fun v a b ha hb=>by
  rcases qz ha with ⟨i,t,rfl,rfl⟩ | ⟨x,t,rfl,rfl⟩
  ·rcases qz hb with ⟨j,u,rfl,e⟩ | ⟨y,u,rfl,e⟩
   ·injection e with e1 _; rw [e1]
   ·exact nomatch e
  ·rcases qz hb with ⟨j,u,rfl,e⟩ | ⟨y,u,rfl,e⟩
   ·exact nomatch e
   ·injection e with e1 _; rw [e1]
 byValue:=fun k v h=>by
  rcases qz h with ⟨i,t,rfl,rfl⟩ | ⟨x,t,rfl,rfl⟩ <;> rfl
 pyHash:=fun hv h=>by
  rcases qz hv with ⟨i,t,rfl,rfl⟩ | ⟨x,t,rfl,rfl⟩
  ·exact wpAny_pyHash_int h
  ·exact wpAny_pyHash_str h
 eqBool:=fun hu hv h=>by
  rcases qz hu with ⟨i,t,rfl,rfl⟩ | ⟨x,t,rfl,rfl⟩
  ·rcases qz hv with ⟨j,u,rfl,rfl⟩ | ⟨y,u,rfl,rfl⟩
   ·rw [acj] at h; exact wpAny_eqBool_int h
   ·rw [aau] at h; exact SeqAt.EqAt.int_str i t y u _ _ _ _ h
  ·rcases qz hv with ⟨j,u,rfl,rfl⟩ | ⟨y,u,rfl,rfl⟩
   ·rw [aaw] at h; exact SeqAt.EqAt.str_int x t j u _ _ _ _ h
   ·rw [acq] at h; exact wpAny_eqBool_str h
 «strs»:=fun k x t v h=>by
  rcases qz h with ⟨i,u,rfl,e⟩ | ⟨y,u,rfl,e⟩
  ·exact nomatch e
  ·injection e with e1 _
   subst e1
   cases v <;> rfl
theorem Wo (prog:Program) (w:World) (k:Key) (v:Value):(uh prog w).is k v=U7 k v:=rfl
theorem Ry (prog:Program) (w:World) (i:Int) (t:Tok):(uh prog w).is (.inl i) (.int i t)=true:=Yr i t
theorem T4 (prog:Program) (w:World) (x:Str) (t:Tok):(uh prog w).is (.inr x) (.str x t)=true:=a1d x t
end L2
namespace L2
open PySem PySem.Spec PyProof.Rows
inductive V where
 | non | bl (b:Bool) | int (i:Int) | str (x:Str) | byt (b:Array UInt8) | flt (b:UInt64) | ref (a:Addr) | ty (n:String)
 deriving DecidableEq
def RelV:V→Value→Prop
 | .non,u=>u=Value.none
 | .bl b,u=>u=Value.bool b
 | .int i,u=>∃ t,u=Value.int i t
 | .str x,u=>∃ t,u=Value.str x t
 | .byt b,u=>∃ t,u=Value.bytes b t
 | .flt b,u=>∃ t,u=Value.float b t
 | .ref a,u=>u=Value.ref a
 | .ty n,u=>u=Value.type n
abbrev Vals:List V→List Value→Prop:=Paired RelV
theorem Vals.length {xs:List V} {us:List Value} (r:Vals xs us):xs.length=us.length:=Paired.length r
theorem Vals.get:∀ {xs:List V} {us:List Value} {i:Nat} {x:V},Vals xs us→xs[i]? = some x→∃ u,us[i]? = some u∧RelV x u
 | _,_,_,_,.nil,e=>by simp at e
 | _,_,0,_,.cons r _,e=>by simp at e; subst e; exact ⟨_,rfl,r⟩
 | _,_,i+1,x,.cons _ t,e=>by
  obtain ⟨u,h1,h2⟩:=Vals.get (i:=i) (x:=x) t (by simpa using e)
  exact ⟨u,by simpa using h1,h2⟩
theorem Vals.set {x:V} {u:Value} (r:RelV x u):∀ {xs:List V} {us:List Value} (i:Nat),Vals xs us→Vals (xs.set i x) (us.set i u)
 | _,_,_,.nil=>.nil
 | _,_,0,.cons _ t=>.cons r t
 | _,_,i+1,.cons q t=>.cons q (Vals.set r i t)
theorem Vals.append {xs ys:List V} {us ws:List Value} (r:Vals xs us) (s:Vals ys ws):Vals (xs++ys) (us++ws):=by
 induction r with
 | nil=>exact s
 | cons r _ ih=>exact .cons r ih
theorem Vals.take:∀ {xs:List V} {us:List Value} (n:Nat),Vals xs us→Vals (xs.take n) (us.take n)
 | _,_,0,_=>.nil
 | _,_,_+1,.nil=>.nil
 | _,_,n+1,.cons r t=>.cons r (Vals.take n t)
theorem Vals.drop:∀ {xs:List V} {us:List Value} (n:Nat),Vals xs us→Vals (xs.drop n) (us.drop n)
 | _,_,0,r=>r
 | _,_,_+1,.nil=>.nil
 | _,_,n+1,.cons _ t=>Vals.drop n t
def Rm:Option V→Option Value→Prop
 | some v,some u=>RelV v u
 | none,none=>True
 | _,_=>False
def KV {κ:Type}:List (κ × V)→List (κ × Value)→Prop:=Paired fun (p:κ × V) (q:κ × Value)=>p.1=q.1∧RelV p.2 q.2
def kV:Key→V
 | .inl i=>.int i
 | .inr x=>.str x
inductive HO where
 /-- a list -/
 | lst (xs:List V)
 /-- a tuple (never changes) -/
 | tup (xs:List V)
 /-- a dict whose keys are ints and texts; one whose keys are tuples of ints and texts (the empty one is both) -/
 | dK (kvs:List (Key × V)) | dT (kvs:List (List Key × V))
 /-- a set of ints: its members,its size -/
 | set (S:Int→Bool) (n:Nat)
 /-- an instance of the class at C,its dict at dx,its attributes -/
 | ins (C dx:Addr) (fs:List (Str × V))
 /-- the dict of the instance at x -/
 | own (x:Addr)
 /-- the dict of an exception -/
 | xd (fs:List (Str × V))
 /-- a bound method,f of x -/
 | met (f x:Addr)
 /-- a range object lo,lo+1,.. below hi -/
 | rng (lo hi:Int)
 /-- a thing that is known to the object (the script; a dict while a loop walks it): read,never written while it is so -/
 | frz (o:Obj) (u:HO)
 /-- a code object's table -/
 | tbl (ps:Array Value)
 /-- any other thing,by what is true of its one object (a def of one's own: SetO a S n:=HO.ext fun h=>..) -/
 | ext (φ:Heap→Prop)
abbrev Hp:=Addr→Option HO
def upd (H:Hp) (a:Addr) (o:HO):Hp:=fun b=>if b=a then some o else H b
theorem j8 {H:Hp} {a:Addr} {o:HO}:upd H a o a=some o:=by unfold upd; rw [if_pos rfl]
theorem n8 {H:Hp} {a b:Addr} {o:HO} (h:b≠a):upd H a o b=H b:=by unfold upd; rw [if_neg h]
theorem ae9 {H:Hp} {a b:Addr} {o u:HO} (h:H a=some o) (h':H b=some u) (d:o≠u):a≠b:=by
 intro e; subst e; rw [h] at h'; exact d (Option.some.inj h')
theorem sy {H:Hp} {a b:Addr} {o:HO} (h:H a=some o) (h':H b=none):a≠b:=by
 intro e; subst e; rw [h] at h'; cases h'
def a2x (h:Heap) (a:Addr) (items:Array Value):Prop:=∃ o,h.get? a=some o∧o.cls=.type "tuple" ∧ o.dict=none∧∃ n,o.data=.seq items n
theorem a2x.is {h:Heap} {a:Addr} {items:Array Value} (x:a2x h a items):IsTup h a items:=let ⟨o,e,c,_,d⟩:=x; ⟨o,e,c,d⟩
theorem a2x.new (h:Heap) (items:Array Value):a2x (h.push { cls:=.type "tuple",data:=.seq items }) h.objs.size items:=⟨_,Heap.get?_push_size _ rfl,rfl,rfl,0,rfl⟩
section
variable (P:Program) (w:World)
def xu (H:Hp) (h:Heap) (a:Addr):HO→Prop
 | .lst xs=>xs.length≤sizeLine∧∃ (its:List Value) (n:Nat),Vals xs its∧h.get? a=some { cls:=.type "list",data:=.seq its.toArray n }
 | .tup xs=>xs.length≤sizeLine∧∃ its:List Value,Vals xs its∧a2x h a its.toArray
 | .dK kvs=>kvs.length≤sizeLine∧(a==sysModules)=false∧∃ vs,KV kvs vs∧h.DictOf (uh P w) a vs
 | .dT kvs=>kvs.length≤sizeLine∧(a==sysModules)=false∧∃ xs:List (List Key × Addr × Value),
   Paired (fun (p:List Key × V) (q:List Key × Addr × Value)=>p.1=q.1∧H q.2.1=some (.tup (p.1.map kV))∧RelV p.2 q.2.2) kvs xs ∧
   ∃ o es ep,h.get? a=some o∧o.ExactDict∧o.data=.dict es ep∧es.toList=xs.map (entryOfKey (tupleKind (uh P w)))∧(xs.map (·.1)).Nodup
 | .set S n=>h.SetOf (intKind P w) a S n
 | .ins C dx fs=>H dx=some (.own a)∧fs.length≤1000∧dx≠a∧h.get? a=some (PySem.W.instObj C dx) ∧
   ∃ mA,h.Ns1 dx mA∧(∀ f,Rm (fs.lookup f) (mA f))∧PySem.Within mA (fs.map (·.1))
 | .own _=>∃ o,h.get? a=some o
 | .xd fs=>∃ mA,h.Ns1 a mA∧∀ f,Rm (fs.lookup f) (mA f)
 | .rng lo hi=>∃ t u v,h.get? a=some { cls:=.type "range",data:=.fields #[.int lo t,.int hi u,.int 1 v] }
 | .frz o u=>h.get? a=some o∧xu H h a u
 | .tbl ps=>h.get? a=some { cls:=.none,data:=.fields ps }
 | .met f x=>h.get? a=some (PySem.W.methodObj (.ref f) (.ref x))
 | .ext φ=>φ h∧(∃ o,h.get? a=some o)∧∀ h1 h2:Heap,φ h1→(∀ o,h1.get? a=some o→h2.get? a=some o)→φ h2
def HOk (H:Hp) (h:Heap):Prop:=∀ a o,H a=some o→xu P w H h a o
end
section
variable {P:Program} {w:World} {H H':Hp} {h h':Heap} {a:Addr} {o:HO}
theorem xu.lt (x:xu P w H h a o):a<h.objs.size:=by
 cases o with
 | lst xs=>obtain ⟨_,_,_,_,e⟩:=x; exact Heap.lt_size e
 | tup xs=>obtain ⟨_,_,_,p⟩:=x; exact p.is.lt
 | dK kvs=>obtain ⟨_,_,_,_,o,_,_,e,_⟩:=x; exact Heap.lt_size e
 | dT kvs=>obtain ⟨_,_,_,_,o,_,_,e,_⟩:=x; exact Heap.lt_size e
 | set S n=>obtain ⟨o,_,_,_,e,_⟩:=x; exact Heap.lt_size e
 | ins C dx fs=>obtain ⟨_,_,_,e,_⟩:=x; exact Heap.lt_size e
 | own y=>obtain ⟨_,e⟩:=x; exact Heap.lt_size e
 | xd fs=>obtain ⟨_,⟨_,_,_,e,_⟩,_⟩:=x; exact Heap.lt_size e
 | rng lo hi=>obtain ⟨_,_,_,e⟩:=x; exact Heap.lt_size e
 | frz ob u=>obtain ⟨e,_⟩:=x; exact Heap.lt_size e
 | tbl ps=>exact Heap.lt_size (show h.get? a=some _ from x)
 | met f y=>exact Heap.lt_size (show h.get? a=some _ from x)
 | ext φ=>obtain ⟨_,⟨_,e⟩,_⟩:=x; exact Heap.lt_size e
theorem Paired.ag3 {α β:Type} {F G:α→β→Prop} {l₁:List α} {l₂:List β} (r:Paired F l₁ l₂) (f:∀ a b,F a b→G a b):Paired G l₁ l₂:=by
 induction r with
 | nil=>exact .nil
 | cons r _ ih=>exact .cons (f _ _ r) ih
theorem xu.stay (x:xu P w H h a o) (k:∀ b u,(b=a∨H b=some (.own a))→h.get? b=some u→h'.get? b=some u)
  (ho:∀ b,H b=some (.own a)→H' b=some (.own a)) (ht:∀ b xs,H b=some (.tup xs)→H' b=some (.tup xs)):xu P w H' h' a o:=by
 induction o with
 | lst xs=>obtain ⟨z,its,n,r,e⟩:=x; exact ⟨z,its,n,r,k _ _ (.inl rfl) e⟩
 | tup xs=>obtain ⟨z,its,r,ob,e,c⟩:=x; exact ⟨z,its,r,ob,k _ _ (.inl rfl) e,c⟩
 | dK kvs=>obtain ⟨z,y,vs,r,ob,es,ep,e,c⟩:=x; exact ⟨z,y,vs,r,ob,es,ep,k _ _ (.inl rfl) e,c⟩
 | dT kvs =>
  obtain ⟨z,y,xs,r,ob,es,ep,e,c⟩:=x
  exact ⟨z,y,xs,Paired.ag3 r fun p q z=>⟨z.1,ht _ _ z.2.1,z.2.2⟩,ob,es,ep,k _ _ (.inl rfl) e,c⟩
 | set S n=>obtain ⟨ob,es,ep,t,e,c⟩:=x; exact ⟨ob,es,ep,t,k _ _ (.inl rfl) e,c⟩
 | ins C dx fs =>
  obtain ⟨d,z,ne,e,mA,⟨od,es,ep,e2,c⟩,r⟩:=x
  exact ⟨ho _ d,z,ne,k _ _ (.inl rfl) e,mA,⟨od,es,ep,k _ _ (.inr d) e2,c⟩,r⟩
 | own y=>obtain ⟨ob,e⟩:=x; exact ⟨ob,k _ _ (.inl rfl) e⟩
 | xd fs=>obtain ⟨mA,⟨od,es,ep,e,c⟩,r⟩:=x; exact ⟨mA,⟨od,es,ep,k _ _ (.inl rfl) e,c⟩,r⟩
 | rng lo hi=>obtain ⟨t,u,v,e⟩:=x; exact ⟨t,u,v,k _ _ (.inl rfl) e⟩
 | frz ob u ih=>obtain ⟨e,q⟩:=x; exact ⟨k _ _ (.inl rfl) e,ih q⟩
 | tbl ps =>
  have e:h.get? a=some { cls:=.none,data:=.fields ps }:=x
  show h'.get? a=some { cls:=.none,data:=.fields ps }
  exact k a _ (.inl rfl) e
 | met f y =>
  have e:h.get? a=some (PySem.W.methodObj (.ref f) (.ref y)):=x
  show h'.get? a=some (PySem.W.methodObj (.ref f) (.ref y))
  exact k a _ (.inl rfl) e
 | ext φ=>obtain ⟨p,⟨o,e⟩,st⟩:=x; exact ⟨st _ _ p fun o q=>k _ _ (.inl rfl) q,⟨o,k _ _ (.inl rfl) e⟩,st⟩
theorem HOk.lt (x:HOk P w H h) (e:H a=some o):a<h.objs.size:=(x a o e).lt
theorem HOk.fresh (x:HOk P w H h) (e:h.objs.size≤a):H a=none:=by
 cases q:H a with
 | none=>rfl
 | some u=>exact absurd (Nat.lt_of_lt_of_le (x.lt q) e) (Nat.lt_irrefl _)
theorem HOk.kept (x:HOk P w H h) (k:∀ b u,h.get? b=some u→h'.get? b=some u):HOk P w H h':=fun a o e =>
 (x a o e).stay (fun b u _ q=>k b u q) (fun _ q=>q) fun _ _ q=>q
theorem HOk.laid (x:HOk P w H h) (k:∀ b u,h.get? b=some u→h'.get? b=some u) (hp:h.objs.size≤a) (new:xu P w (upd H a o) h' a o):HOk P w (upd H a o) h':=fun b u e=>by
 have hn:=x.fresh hp
 by_cases hb:b=a
 ·subst hb; rw [j8] at e; cases e; exact new
 ·rw [n8 hb] at e
  exact (x b u e).stay (fun c v _ q=>k c v q) (fun c q=>by rw [n8 (sy q hn)]; exact q) fun c xs q=>by rw [n8 (sy q hn)]; exact q
end
def Rd (H:Hp) (a:Addr) (u:HO):Prop:=H a=some u∨∃ o,H a=some (.frz o u)
theorem Rd.of {H:Hp} {a:Addr} {u:HO} (h:H a=some u):Rd H a u:=.inl h
theorem Rd.ok {P:Program} {w:World} {H:Hp} {h:Heap} {a:Addr} {u:HO} (r:Rd H a u) (x:HOk P w H h):xu P w H h a u:=by
 rcases r with r | ⟨o,r⟩
 ·exact x a u r
 ·obtain ⟨_,q⟩:=x a _ r
  exact q
def Mut:Option HO→Prop
 | some (.lst _)=>True
 | some (.dK _)=>True
 | some (.dT _)=>True
 | some (.set _ _)=>True
 | some (.ins _ _ _)=>True
 | some (.ext _)=>True
 | _=>False
section
variable {P:Program} {w:World} {H:Hp} {h h':Heap} {x e:Addr} {o':HO}
theorem HOk.write (ok:HOk P w H h) (mu:Mut (H x)) (he:e=x∨H e=some (.own x)) (k:∀ b u,b≠e→h.get? b=some u→h'.get? b=some u) (heo:∃ u,h'.get? e=some u)
  (new:xu P w (upd H x o') h' x o'):HOk P w (upd H x o') h':=fun b u q=>by
 have nown:∀ c y,H c=some (.own y)→c≠x:=fun c y r z=>by subst z; rw [r] at mu; exact mu
 have ntup:∀ c xs,H c=some (.tup xs)→c≠x:=fun c xs r z=>by subst z; rw [r] at mu; exact mu
 by_cases hb:b=x
 ·subst hb; rw [j8] at q; cases q; exact new
 ·rw [n8 hb] at q
  by_cases hbe:b=e
  ·have q':H b=some (.own x):=by
    rcases he with z | z
    ·exact absurd (hbe.trans z) hb
    ·rw [hbe]; exact z
   rw [q] at q'; cases q'
   obtain ⟨v,hv⟩:=heo
   exact ⟨v,by rw [hbe]; exact hv⟩
  ·refine (ok b u q).stay (fun c v hc r=>k c v ?_ r) (fun c r=>by rw [n8 (nown c b r)]; exact r) fun c xs r=>by rw [n8 (ntup c xs r)]; exact r
   rcases hc with rfl | hc
   ·exact hbe
   ·rintro rfl
    rcases he with z | z
    ·exact nown c b hc z
    ·rw [hc] at z; cases z; exact hb rfl
end
structure Un (fs ex:List Addr) (H H':Hp) (h h':Heap):Prop where
 keep:∀ b o,h.get? b=some o→H b=none→b∉fs→b∉ex→h'.get? b=some o
 slot:∀ b o,h.get? b=some o→H b=none→b∈fs→b∉ex→∃ sl,h'.get? b=some { o with slots:=sl }
 free:∀ b o,h.get? b=some o→H b=none→b∉ex→H' b=none
 there:∀ b o,h.get? b=some o→b∉ex→∃ o',h'.get? b=some o'
 tups:∀ b xs,H b=some (.tup xs)→H' b=some (.tup xs)
 frzs:∀ b o u,H b=some (.frz o u)→H' b=some (.frz o u)
 tbls:∀ b ps,H b=some (.tbl ps)→∃ more,H' b=some (.tbl (ps++more))
section
variable {fs fs' ex ex':List Addr} {H H1 H2:Hp} {h h1 h2 h':Heap} {a x e:Addr} {o:HO}
theorem Un.any (u:Un fs ex H H1 h h1) {b:Addr} {ob:Obj} (q:h.get? b=some ob) (n:H b=none) (hx:b∉ex):∃ sl,h1.get? b=some { ob with slots:=sl }:=by
 by_cases hb:b∈fs
 ·exact u.slot b ob q n hb hx
 ·exact ⟨ob.slots,u.keep b ob q n hb hx⟩
theorem Un.trans (a:Un fs ex H H1 h h1) (b:Un fs ex H1 H2 h1 h2):Un fs ex H H2 h h2 where
 keep:=fun c ob q n hc hx=>b.keep c ob (a.keep c ob q n hc hx) (a.free c ob q n hx) hc hx
 slot:=fun c ob q n hc hx=>by
  obtain ⟨sl,e1⟩:=a.slot c ob q n hc hx
  obtain ⟨sl',e2⟩:=b.slot c _ e1 (a.free c ob q n hx) hc hx
  exact ⟨sl',e2⟩
 free:=fun c ob q n hx=>by
  obtain ⟨o',e1⟩:=a.there c ob q hx
  exact b.free c o' e1 (a.free c ob q n hx) hx
 there:=fun c ob q hx=>by
  obtain ⟨o',e1⟩:=a.there c ob q hx
  exact b.there c o' e1 hx
 tups:=fun c xs q=>b.tups c xs (a.tups c xs q)
 frzs:=fun c ob xs q=>b.frzs c ob xs (a.frzs c ob xs q)
 tbls:=fun c ps q=>by
  obtain ⟨m1,e1⟩:=a.tbls c ps q
  obtain ⟨m2,e2⟩:=b.tbls c _ e1
  exact ⟨m1++m2,by rw [e2,Array.append_assoc]⟩
theorem Un.kept (k:∀ b u,h.get? b=some u→h'.get? b=some u):Un fs ex H H h h' :=
 ⟨fun b ob q _ _ _=>k b ob q,fun b ob q _ _ _=>⟨ob.slots,k b ob q⟩,fun _ _ _ n _=>n,fun b ob q _=>⟨ob,k b ob q⟩,fun _ _ q=>q,fun _ _ _ q=>q,fun _ ps q=>⟨#[],by rw [q]; simp⟩⟩
theorem Un.refl:Un fs ex H H h h:=Un.kept fun _ _ q=>q
theorem Un.laid (k:∀ b u,h.get? b=some u→h'.get? b=some u) (hp:h.objs.size≤a) (hn:H a=none):Un fs ex H (upd H a o) h h' where
 keep:=fun b u q _ _ _=>k b u q
 slot:=fun b u q _ _ _=>⟨u.slots,k b u q⟩
 free:=fun b u q n _=>by rw [n8 (Nat.ne_of_lt (Nat.lt_of_lt_of_le (Heap.lt_size q) hp))]; exact n
 there:=fun b u q _=>⟨u,k b u q⟩
 tups:=fun b xs q=>by rw [n8 (sy q hn)]; exact q
 frzs:=fun b u xs q=>by rw [n8 (sy q hn)]; exact q
 tbls:=fun b ps q=>⟨#[],by rw [n8 (sy q hn),q]; simp⟩
theorem Un.write (mu:Mut (H x)) (he:e=x∨H e=some (.own x)) (k:∀ b u,b≠e→h.get? b=some u→h'.get? b=some u) (heo:∃ u,h'.get? e=some u):Un fs ex H (upd H x o) h h':=by
 have hx:∀ b,H b=none→b≠x:=fun b n z=>by subst z; rw [n] at mu; exact mu
 have hb:∀ b,H b=none→b≠e:=fun b n z=>by
  subst z
  rcases he with r | r
  ·exact hx b n r
  ·rw [n] at r; cases r
 have hm:∀ b u,H b=some u→¬ Mut (some u)→b≠x:=fun b u q nm z=>by subst z; rw [q] at mu; exact nm mu
 refine ⟨fun b u q n _ _=>k b u (hb b n) q,fun b u q n _ _=>⟨u.slots,k b u (hb b n) q⟩,fun b u q n _=>by rw [n8 (hx b n)]; exact n,fun b u q _=>?_,
  fun b xs q=>by rw [n8 (hm b _ q fun z=>z)]; exact q,fun b u xs q=>by rw [n8 (hm b _ q fun z=>z)]; exact q,fun b ps q=>⟨#[],by rw [n8 (hm b _ q fun z=>z),q]; simp⟩⟩
 by_cases hbe:b=e
 ·subst hbe; exact heo
 ·exact ⟨u,k b u hbe q⟩
theorem Un.mono (u:Un fs ex H H1 h h1) (hs:∀ b∈fs,b∈fs') (hx:∀ b∈ex,b∈ex'):Un fs' ex' H H1 h h1 :=
 ⟨fun b ob q n hb he=>u.keep b ob q n (fun z=>hb (hs b z)) fun z=>he (hx b z),fun _ _ q n _ he=>u.any q n fun z=>he (hx _ z),fun b ob q n he=>u.free b ob q n fun z=>he (hx b z),fun b ob q he=>u.there b ob q fun z=>he (hx b z),u.tups,u.frzs,u.tbls⟩
end
def trk (h:Heap) (H:Hp):List Addr:=(List.range h.objs.size).filter fun a=>(H a).isSome
def a4i (h:Heap) (H:Hp):Heap:=PySem.W.hideAll h (trk h H)
theorem Y6 (h:Heap) (H:Hp):(a4i h H).objs.size=h.objs.size:=PySem.W.hideAll_size _ _
theorem a4h {h:Heap} {H:Hp} {b:Addr} {o:Obj} (e:h.get? b=some o) (n:H b=none):(a4i h H).get? b=some o :=
 PySem.W.hideAll_get _ e fun hm=>by
  have q:(H b).isSome=true:=(List.mem_filter.mp hm).2
  rw [n] at q; simp at q
theorem a9z {h:Heap} {H:Hp} {b:Addr} {o:Obj} (e:(a4i h H).get? b=some o):h.get? b=some o∧H b=none:=by
 have e':h.get? b=some o:=PySem.W.of_hideAll (trk h H) e
 refine ⟨e',?_⟩
 cases q:H b with
 | none=>rfl
 | some x =>
  have hm:b∈trk h H:=List.mem_filter.mpr ⟨List.mem_range.mpr (Heap.lt_size e'),by simp [q]⟩
  have z:(a4i h H).get? b=none:=PySem.W.hideAll_none (trk h H) hm
  rw [z] at e; cases e
def a98 (g h:Heap) (L:Addr):List (Addr × Obj):=(List.range h.objs.size).filterMap fun a=>if a=L∨(g.get? a).isSome=true then none else (h.get? a).map fun o=>(a,o)
def rest (g h:Heap) (L d:Addr):List (Addr × Obj):=(a98 g h L).filter fun p=>decide (p.1≠d)
end L2
namespace L2
open PySem PySem.Spec PyProof.Rows
structure Mod (K:PySem.W.Frag) (mg:Str→Option Value) (base:Heap):Prop where
 kin:K.In base
 glob:base.Ns mainGlobals mg
 blt:∃ mb,base.Ns builtinsNs mb∧∀ x:Str,x ≠ "__name__" → mb x=bootBuiltins x
 nolimit:base.NoLimit
structure Cx where
 prog:Program
 w:World
 K:PySem.W.Frag
 mg:Str→Option Value
 base:Heap
 A:Around
 N:List Str
 s₀:Shared
 H₀:Hp
 env:Env
 outer:List Env
 stack:List Env
 ex:List Addr
 fn:Str→Bool
 calm:Bool
 pn:List (Addr × Obj)
 xe:Value→Shared→Prop
def frs (l:List Env):List Addr:=l.filterMap (·.frame)
abbrev Cx.fs (X:Cx):List Addr:=frs X.outer
def Vis (sc:Scope) (x:Str):Prop:=sc.names.lookup x=some .local∨sc.names.lookup x=some .cell∨sc.names.lookup x=some .free
def Loc (sc:Scope) (x:Str):Prop:=sc.names.lookup x=some .local∨sc.names.lookup x=some .cell
def Look (env:Env) (h:Heap) (m:Str→Option Value) (x:Str) (u:Value):Prop :=
 (env.kindOf x=some .local∧m x=some u)∨((env.kindOf x=some .cell∨env.kindOf x=some .free)∧∃ c,env.cells.lookup x=some c∧h.IsCell c (some u))
structure Cx.Ok (X:Cx):Prop where
 mod:Mod X.K X.mg X.base
 kind:X.env.scope.kind=.function
 glob:X.env.globals=mainGlobals
 blt:X.env.builtins=builtinsNs
 above:X.s₀.heap.objs.size≤X.env.locals
 inj:∀ x y c,X.env.cells.lookup x=some c→X.env.cells.lookup y=some c→x=y
 has:∀ x,(X.env.kindOf x=some .cell∨X.env.kindOf x=some .free)→∃ c,X.env.cells.lookup x=some c
 cab:∀ x c,X.fn x=true→X.env.cells.lookup x=some c→X.s₀.heap.objs.size≤c
 hd:X.calm=true→X.A.handled=none
 frames:X.A.frames=some X.stack
 stk:X.stack=X.outer∨(X.stack=X.env::X.outer∧X.env.frame=some X.env.locals)
 exf:∀ b∈X.ex,b≠X.env.locals∧∀ x c,X.env.cells.lookup x=some c→c≠b
 bs:∀ b o,X.base.get? b=some o→X.s₀.heap.get? b=some o∧X.H₀ b=none
 bsz:X.base.objs.size≤X.s₀.heap.objs.size
 noex:∀ b o,X.base.get? b=some o→b∉X.ex
 exfs:∀ b∈X.ex,b∉X.fs
 Y0:X.s₀.heap.FunFrames X.base X.outer
 frf:∀ b∈X.fs,X.H₀ b=none
structure Inv (X:Cx) (pins:List (Addr × Obj)) (σ:List (Option V)) (H:Hp) (s:Shared):Prop where
 ok:X.Ok
 os:s.os=X.s₀.os
 bare:AllBare s.gens
 base:Un X.fs X.ex X.H₀ H X.s₀.heap s.heap
 loc:∃ m,s.heap.Ns X.env.locals m∧∀ (i:Nat) (x:Str) (v:V),X.N[i]? = some x→σ[i]? = some (some v)→Vis X.env.scope x→∃ u,RelV v u∧Look X.env s.heap m x u
 cell:∀ x c,X.env.cells.lookup x=some c→∃ v,s.heap.IsCell c v
 free:H X.env.locals=none
 freeC:∀ x c,X.env.cells.lookup x=some c→H c=none
 pin:∀ p∈X.pn++pins,s.heap.get? p.1=some p.2∧H p.1=none∧p.1≠X.env.locals∧p.1∉X.fs∧∀ v,p.2.data≠.cell v
 hok:HOk X.prog X.w H s.heap
 len:σ.length=X.N.length
section
variable {X:Cx} {pins:List (Addr × Obj)} {σ:List (Option V)} {H H':Hp} {s:Shared} {h':Heap}
theorem Cx.Ok.ah6 (ok:X.Ok) {b:Addr} {o:Obj} (e:X.base.get? b=some o):b∉X.fs:=fun hb=>by
 have:=(ok.Y0.mem hb).1
 rw [e] at this; cases this
theorem Inv.bs (I:Inv X pins σ H s):∀ b o,X.base.get? b=some o→s.heap.get? b=some o∧H b=none:=fun b o e =>
 ⟨I.base.keep b o (I.ok.bs b o e).1 (I.ok.bs b o e).2 (I.ok.ah6 e) (I.ok.noex b o e),I.base.free b o (I.ok.bs b o e).1 (I.ok.bs b o e).2 (I.ok.noex b o e)⟩
theorem Inv.bk (I:Inv X pins σ H s):∀ b o,X.base.get? b=some o→s.heap.get? b=some o:=fun b o e=>(I.bs b o e).1
theorem Inv.mod (I:Inv X pins σ H s):Mod X.K X.mg X.base:=I.ok.mod
theorem Inv.kIn (I:Inv X pins σ H s):X.K.In s.heap:=I.ok.mod.kin.keeps I.bk
theorem Inv.fr (I:Inv X pins σ H s):∃ m,Fr X.base X.env.locals s.heap m :=
 let ⟨m,hn,_⟩:=I.loc
 ⟨m,hn,I.bk,Nat.le_trans I.ok.bsz I.ok.above⟩
theorem Inv.lt (I:Inv X pins σ H s):X.env.locals<s.heap.objs.size:=let ⟨_,hn,_⟩:=I.loc; hn.lt
theorem Inv.sz (I:Inv X pins σ H s):X.s₀.heap.objs.size≤s.heap.objs.size:=Nat.le_trans I.ok.above (Nat.le_of_lt I.lt)
theorem Inv.ahf (I:Inv X pins σ H s) {a:Addr} (h:s.heap.objs.size≤a):a∉X.fs:=fun hb=>by
 obtain ⟨_,o,ho,_⟩:=I.ok.Y0.mem hb
 exact absurd (Nat.lt_of_lt_of_le (Heap.lt_size ho) (Nat.le_trans I.sz h)) (Nat.lt_irrefl _)
theorem Inv.cne (I:Inv X pins σ H s):∀ x c,X.env.cells.lookup x=some c→c≠X.env.locals:=fun x c e z=>by
 obtain ⟨v,o,ho,hd⟩:=I.cell x c e
 obtain ⟨m,⟨o',es,ep,ho',hd',_⟩,_⟩:=I.loc
 rw [z,ho'] at ho; cases ho; rw [hd'] at hd; cases hd
theorem Inv.Y0 (I:Inv X pins σ H s):s.heap.FunFrames X.base X.outer:=by
 have all:∀ (l:List Env),(∀ b∈frs l,b∈X.fs)→X.s₀.heap.FunFrames X.base l→s.heap.FunFrames X.base l:=by
  intro l
  induction l with
  | nil=>intro _ _; trivial
  | cons env r ih =>
   intro hs hl
   obtain ⟨hk,⟨L,o,hf,hn,ho,hd⟩,hr⟩:=hl
   have hL:L∈X.fs:=hs L (by unfold frs; rw [List.filterMap_cons,hf]; exact List.mem_cons_self)
   obtain ⟨sl,e⟩:=I.base.slot L o ho (I.ok.frf L hL) hL fun z=>I.ok.exfs L z hL
   exact ⟨hk,⟨L,_,hf,hn,e,hd⟩,ih (fun b hb=>hs b (by unfold frs; rw [List.filterMap_cons,hf]; exact List.mem_cons_of_mem _ hb)) hr⟩
 exact all X.outer (fun _ hb=>hb) I.ok.Y0
theorem Inv.stack (I:Inv X pins σ H s):s.heap.FunFrames X.base X.stack:=by
 rcases I.ok.stk with e | ⟨e,hf⟩
 ·rw [e]; exact I.Y0
 ·rw [e]
  obtain ⟨m,hn,_⟩:=I.loc
  refine .cons (by rw [I.ok.kind]; decide) hf hn ?_ I.Y0
  exact Heap.get?_none_of_le (Nat.le_trans I.ok.bsz I.ok.above)
theorem Inv.Wi (I:Inv X pins σ H s):∀ b∈frs X.stack,b∈X.env.locals::X.fs:=fun b hb=>by
 rcases I.ok.stk with e | ⟨e,hf⟩
 ·rw [e] at hb; exact List.mem_cons_of_mem _ hb
 ·rw [e] at hb
  unfold frs at hb
  rw [List.filterMap_cons,hf] at hb
  exact hb
theorem Inv.Y8 (I:Inv X pins σ H s):∀ b∈frs X.stack,H b=none:=fun b hb=>by
 rcases List.mem_cons.mp (I.Wi b hb) with e | hb
 ·rw [e]; exact I.free
 ·obtain ⟨_,o,ho,_⟩:=I.ok.Y0.mem hb
  exact I.base.free b o ho (I.ok.frf b hb) fun z=>I.ok.exfs b z hb
theorem Inv.step {g':Array GenState} {t':Nat} {d':Drawn} {ch:List Addr} (I:Inv X pins σ H s)
  (hch:∀ b∈ch,(b∈X.ex∨X.s₀.heap.objs.size≤b)∧b≠X.env.locals∧(∀ x c,X.env.cells.lookup x=some c→c≠b)∧∀ p∈X.pn++pins,p.1≠b)
  (keep:∀ b o,b≠X.env.locals→b∉X.fs→b∉ch→s.heap.get? b=some o→H b=none→h'.get? b=some o)
  (slot:∀ b o,b≠X.env.locals→b∈X.fs→b∉ch→s.heap.get? b=some o→H b=none→∃ sl,h'.get? b=some { o with slots:=sl }) (free:∀ b o,b∉ch→s.heap.get? b=some o→H b=none→H' b=none)
  (there:∀ b o,b∉ch→s.heap.get? b=some o→∃ o',h'.get? b=some o')
  (tups:∀ b xs,H b=some (.tup xs)→H' b=some (.tup xs)) (frzs:∀ b o u,H b=some (.frz o u)→H' b=some (.frz o u)) (tbls:∀ b ps,H b=some (.tbl ps)→∃ more,H' b=some (.tbl (ps++more)))
  (ns:∀ m,s.heap.Ns X.env.locals m→h'.Ns X.env.locals m) (hok:HOk X.prog X.w H' h') (hg:AllBare g') :
  Inv X pins σ H' { s with heap:=h',gens:=g',drawn:=d',toks:=t' }:=by
 have neL:∀ b o,X.s₀.heap.get? b=some o→b≠X.env.locals:=fun b o e=>Nat.ne_of_lt (Nat.lt_of_lt_of_le (Heap.lt_size e) I.ok.above)
 have neC:∀ b o,X.s₀.heap.get? b=some o→b∉X.ex→b∉ch:=fun b o e hx hb=>by
  rcases (hch b hb).1 with z | z
  ·exact hx z
  ·exact absurd (Nat.lt_of_lt_of_le (Heap.lt_size e) z) (Nat.lt_irrefl _)
 have cellK:∀ x c,X.env.cells.lookup x=some c→∀ v,s.heap.IsCell c v→h'.IsCell c v:=fun x c e v z9=>by
  obtain ⟨o,ho,hd⟩:=z9
  have nch:c∉ch:=fun z=>(hch c z).2.2.1 x c e rfl
  by_cases hc:c∈X.fs
  ·obtain ⟨sl,q⟩:=slot c o (I.cne x c e) hc nch ho (I.freeC x c e)
   exact ⟨_,q,hd⟩
  ·exact ⟨o,keep c o (I.cne x c e) hc nch ho (I.freeC x c e),hd⟩
 refine ⟨I.ok,I.os,hg,⟨fun b o e n hb hx=>?_,fun b o e n hb hx=>?_,fun b o e n hx=>?_,fun b o e hx=>?_,fun b xs e=>tups b xs (I.base.tups b xs e),fun b o xs e=>frzs b o xs (I.base.frzs b o xs e),fun b ps e=>?_⟩,?_,fun x c e=>?_,?_,fun x c e=>?_,fun p hp=>?_,hok,I.len⟩
 ·exact keep b o (neL b o e) hb (neC b o e hx) (I.base.keep b o e n hb hx) (I.base.free b o e n hx)
 ·obtain ⟨sl,e1⟩:=I.base.slot b o e n hb hx
  obtain ⟨sl',e2⟩:=slot b _ (neL b o e) hb (neC b o e hx) e1 (I.base.free b o e n hx)
  exact ⟨sl',e2⟩
 ·obtain ⟨o',e1⟩:=I.base.there b o e hx
  exact free b o' (neC b o e hx) e1 (I.base.free b o e n hx)
 ·obtain ⟨o',e1⟩:=I.base.there b o e hx
  exact there b o' (neC b o e hx) e1
 ·obtain ⟨m1,e1⟩:=I.base.tbls b ps e
  obtain ⟨m2,e2⟩:=tbls b _ e1
  exact ⟨m1++m2,by rw [e2,Array.append_assoc]⟩
 ·obtain ⟨m,hn,hl⟩:=I.loc
  refine ⟨m,ns m hn,fun i x v e1 e2 e3=>?_⟩
  obtain ⟨u,r,l⟩:=hl i x v e1 e2 e3
  refine ⟨u,r,?_⟩
  rcases l with l | ⟨k,c,e,z⟩
  ·exact .inl l
  ·exact .inr ⟨k,c,e,cellK x c e _ z⟩
 ·obtain ⟨v,z⟩:=I.cell x c e
  exact ⟨v,cellK x c e v z⟩
 ·obtain ⟨m,⟨o,_,_,ho,_⟩,_⟩:=I.loc
  exact free _ o (fun z=>(hch _ z).2.1 rfl) ho I.free
 ·obtain ⟨v,o,ho,hd⟩:=I.cell x c e
  exact free c o (fun z=>(hch c z).2.2.1 x c e rfl) ho (I.freeC x c e)
 ·obtain ⟨e,n,ne,nf,d⟩:=I.pin p hp
  have nch:p.1∉ch:=fun z=>(hch p.1 z).2.2.2 p hp rfl
  exact ⟨keep p.1 p.2 ne nf nch e n,free p.1 p.2 nch e n,ne,nf,d⟩
theorem Inv.un {t':Nat} (I:Inv X pins σ H s) (u:Un X.fs [] H H' s.heap h') (hok:HOk X.prog X.w H' h'):Inv X pins σ H' { s with heap:=h',toks:=t' }:=by
 obtain ⟨m,⟨o,es,ep,ho,r⟩,_⟩:=id I.loc
 obtain ⟨sl,hL⟩:=u.any ho I.free (by simp)
 exact I.step (g':=s.gens) (d':=s.drawn) (ch:=[]) (fun _ z=>nomatch z) (fun b o _ hb _ e n=>u.keep b o e n hb (by simp)) (fun b o _ hb _ e n=>u.slot b o e n hb (by simp)) (fun b o _ e n=>u.free b o e n (by simp)) (fun b o _ e=>u.there b o e (by simp)) u.tups u.frzs u.tbls (fun m' hm=>by
  obtain ⟨o',es',ep',ho',r'⟩:=hm
  rw [ho] at ho'; cases ho'
  exact ⟨_,es',ep',hL,r'⟩) hok I.bare
theorem Inv.call {g':Array GenState} {t':Nat} {d':Drawn} {ch:List Addr} (I:Inv X pins σ H s) (u:Un (frs X.stack) ch H H' s.heap h') (hok:HOk X.prog X.w H' h') (hg:AllBare g')
  (hch:∀ b∈ch,(b∈X.ex∨X.s₀.heap.objs.size≤b)∧b≠X.env.locals∧(∀ x c,X.env.cells.lookup x=some c→c≠b)∧∀ p∈X.pn++pins,p.1≠b) :
  Inv X pins σ H' { s with heap:=h',gens:=g',drawn:=d',toks:=t' }:=by
 obtain ⟨m,⟨o,es,ep,ho,r⟩,_⟩:=id I.loc
 obtain ⟨sl,hL⟩:=u.any ho I.free fun z=>(hch _ z).2.1 rfl
 exact I.step (ch:=ch) hch (fun b o hL hb hc e n=>u.keep b o e n (fun z=>(List.mem_cons.mp (I.Wi b z)).elim hL hb) hc) (fun b o _ _ hc e n=>u.any e n hc) (fun b o hc e n=>u.free b o e n hc) (fun b o hc e=>u.there b o e hc) u.tups u.frzs u.tbls (fun m' hm=>by
  obtain ⟨o',es',ep',ho',r'⟩:=hm
  rw [ho] at ho'; cases ho'
  exact ⟨_,es',ep',hL,r'⟩) hok hg
theorem Inv.turned {t':Nat} {it:Addr} (I:Inv X pins σ H s) (k:∀ b o,b≠it→s.heap.get? b=some o→h'.get? b=some o) (hn:H it=none) (hL:it≠X.env.locals)
  (h1:it∈X.ex∨X.s₀.heap.objs.size≤it) (h2:∀ x c,X.env.cells.lookup x=some c→c≠it) (h3:∀ p∈X.pn++pins,p.1≠it):Inv X pins σ H { s with heap:=h',toks:=t' }:=by
 have nit:∀ b u,H b=some u→b≠it:=fun b u e z=>by rw [z,hn] at e; cases e
 refine I.step (g':=s.gens) (d':=s.drawn) (ch:=[it]) (fun b hb=>?_) (fun b o _ _ hc e _=>k b o (fun z=>hc (by simp [z])) e) (fun b o _ _ hc e _=>⟨o.slots,k b o (fun z=>hc (by simp [z])) e⟩) (fun _ _ _ _ n=>n)
  (fun b o hc e=>⟨o,k b o (fun z=>hc (by simp [z])) e⟩) (fun _ _ e=>e) (fun _ _ _ e=>e) (fun b ps e=>⟨#[],by rw [e]; simp⟩) (fun m hm=>?_) (fun b u e=>?_) I.bare
 ·have e:b=it:=by simpa using hb
  subst e
  exact ⟨h1,hL,h2,h3⟩
 ·obtain ⟨o,es,ep,ho,r⟩:=hm
  exact ⟨o,es,ep,k _ o (Ne.symm hL) ho,r⟩
 ·refine (I.hok b u e).stay (fun c v hc q=>k c v ?_ q) (fun _ q=>q) fun _ _ q=>q
  rcases hc with z | z
  ·rw [z]; exact nit b u e
  ·exact nit c _ z
theorem Inv.tok (I:Inv X pins σ H s) (t:Nat):Inv X pins σ H { s with toks:=t }:=I.un (h':=s.heap) (t':=t) Un.refl I.hok
theorem Inv.kept {t':Nat} (I:Inv X pins σ H s) (k:∀ b u,s.heap.get? b=some u→h'.get? b=some u):Inv X pins σ H { s with heap:=h',toks:=t' }:=I.un (Un.kept k) (I.hok.kept k)
theorem Inv.laid {a:Addr} {o:HO} {t':Nat} (I:Inv X pins σ H s) (k:∀ b u,s.heap.get? b=some u→h'.get? b=some u) (hp:s.heap.objs.size≤a) (new:xu X.prog X.w (upd H a o) h' a o) :
  Inv X pins σ (upd H a o) { s with heap:=h',toks:=t' }:=I.un (Un.laid k hp (I.hok.fresh hp)) (I.hok.laid k hp new)
theorem Inv.write {x e:Addr} {o:HO} {t':Nat} (I:Inv X pins σ H s) (mu:Mut (H x)) (he:e=x∨H e=some (.own x)) (k:∀ b u,b≠e→s.heap.get? b=some u→h'.get? b=some u) (heo:∃ u,h'.get? e=some u)
  (new:xu X.prog X.w (upd H x o) h' x o):Inv X pins σ (upd H x o) { s with heap:=h',toks:=t' }:=I.un (Un.write mu he k heo) (I.hok.write mu he k heo new)
theorem Inv.Zv {pins':List (Addr × Obj)} (I:Inv X pins σ H s) (h:∀ p∈pins',s.heap.get? p.1=some p.2∧H p.1=none∧p.1≠X.env.locals∧p.1∉X.fs∧∀ v,p.2.data≠.cell v):Inv X pins' σ H s :=
 ⟨I.ok,I.os,I.bare,I.base,I.loc,I.cell,I.free,I.freeC,fun p hp=>(List.mem_append.mp hp).elim (fun z=>I.pin p (List.mem_append_left _ z)) (h p),I.hok,I.len⟩
theorem V6 {N:List Str} (hN:N.Nodup) {i j:Nat} {x:Str} (a:N[i]? = some x) (b:N[j]? = some x):i=j:=by
 obtain ⟨h1,e1⟩:=List.getElem?_eq_some_iff.mp a
 obtain ⟨h2,e2⟩:=List.getElem?_eq_some_iff.mp b
 exact (List.getElem_inj hN).mp (e1.trans e2.symm)
theorem a1k {M:Model} {A:Around} {E:Value→Shared→Prop} {i:Nat} {x:Str} {v:V} {u:Value} {Q:Unit→Shared→Prop} (I:Inv X pins σ H s) (hN:X.N.Nodup) (hi:X.N[i]? = some x) (hx:Loc X.env.scope x) (r:RelV v u)
  (h:∀ s',Inv X pins (σ.set i (some v)) H s'→(∃ a,Heap.SameBut a s.heap s'.heap∧(a=X.env.locals∨X.env.cells.lookup x=some a))→Q () s') (hf:X.fn x=true∨X.env.scope.names.lookup x=some .local:=by first | exact .inl rfl | exact .inr rfl | assumption):wpAny M A (storeName X.env x u) Q E s:=by
 obtain ⟨m,hn,hl⟩:=id I.loc
 have hcls:(X.env.scope.kind == .class||(X.env.scope.kind == .module&&X.env.locals != X.env.globals))=false:=by rw [I.ok.kind]; rfl
 have hiσ:i<σ.length:=by rw [I.len]; exact (List.getElem?_eq_some_iff.mp hi).1
 have cne:=I.cne
 have tracked:∀ {a:Addr} {h':Heap},(∃ o,s.heap.get? a=some o∧H a=none)→Heap.SameBut a s.heap h'→HOk X.prog X.w H h':=fun {a h'} ha hs b ob e=>by
  obtain ⟨_,_,hfree⟩:=ha
  refine (I.hok b ob e).stay (fun c w' hc q=>(hs.2 c ?_).trans q) (fun _ q=>q) fun _ _ q=>q
  rintro rfl
  rcases hc with rfl | hc
  ·rw [hfree] at e; cases e
  ·rw [hfree] at hc; cases hc
 rcases hx with hk | hk
 ·refine wpAny_storeName_local hk hn (fun h' hn' hs=>?_) hcls
  obtain ⟨oL,_,_,hoL,_⟩:=id hn
  refine h _ ⟨I.ok,I.os,I.bare,⟨fun b o e n hb hx=>?_,fun b o e n hb hx=>?_,I.base.free,fun b o e hx=>?_,I.base.tups,I.base.frzs,I.base.tbls⟩,⟨_,hn',fun j y v' e1 e2 e3=>?_⟩,fun y c e=>?_,I.free,I.freeC,fun p hp=>?_,tracked ⟨oL,hoL,I.free⟩ hs,by simpa using I.len⟩ ⟨_,hs,.inl rfl⟩
  ·exact (hs.2 b (Nat.ne_of_lt (Nat.lt_of_lt_of_le (Heap.lt_size e) I.ok.above))).trans (I.base.keep b o e n hb hx)
  ·obtain ⟨sl,e1⟩:=I.base.slot b o e n hb hx
   exact ⟨sl,(hs.2 b (Nat.ne_of_lt (Nat.lt_of_lt_of_le (Heap.lt_size e) I.ok.above))).trans e1⟩
  ·obtain ⟨o',e1⟩:=I.base.there b o e hx
   exact ⟨o',(hs.2 b (Nat.ne_of_lt (Nat.lt_of_lt_of_le (Heap.lt_size e) I.ok.above))).trans e1⟩
  ·by_cases hj:j=i
   ·subst hj
    rw [hi] at e1; cases e1
    rw [List.getElem?_set_self hiσ] at e2
    cases e2
    exact ⟨u,r,.inl ⟨hk,by simp⟩⟩
   ·rw [List.getElem?_set_ne (Ne.symm hj)] at e2
    obtain ⟨u',r',q⟩:=hl j y v' e1 e2 e3
    refine ⟨u',r',?_⟩
    rcases q with ⟨k,e⟩ | ⟨k,c,e,z⟩
    ·refine .inl ⟨k,?_⟩
     have:y≠x:=fun e=>hj (V6 hN e1 (e ▸ hi))
     simp [this,e]
    ·exact .inr ⟨k,c,e,z.sameBut hs (cne y c e)⟩
  ·obtain ⟨w',z⟩:=I.cell y c e
   exact ⟨w',z.sameBut hs (cne y c e)⟩
  ·obtain ⟨e,n,ne,nf,d⟩:=I.pin p hp
   exact ⟨(hs.2 p.1 ne).trans e,n,ne,nf,d⟩
 ·have hfn:X.fn x=true:=by
   rcases hf with z | z
   ·exact z
   ·rw [z] at hk; cases hk
  obtain ⟨c,hc⟩:=I.ok.has x (.inl hk)
  obtain ⟨w',z⟩:=I.cell x c hc
  refine wpAny_storeName_cell I.ok.kind hk hc z (fun h' hc' hs=>?_)
  obtain ⟨oc,hoc,hocd⟩:=id z
  refine h { s with heap:=h' } ⟨I.ok,I.os,I.bare,⟨fun b o e n hb hx=>?_,fun b o e n hb hx=>?_,I.base.free,fun b o e hx=>?_,I.base.tups,I.base.frzs,I.base.tbls⟩,⟨m,hn.sameBut hs (Ne.symm (cne x c hc)),fun j y v' e1 e2 e3=>?_⟩,fun y c' e=>?_,I.free,I.freeC,fun p hp=>?_,tracked ⟨oc,hoc,I.freeC x c hc⟩ hs,by simpa using I.len⟩ ⟨c,hs,.inr hc⟩
  ·exact (hs.2 b (Nat.ne_of_lt (Nat.lt_of_lt_of_le (Heap.lt_size e) (I.ok.cab x c hfn hc)))).trans (I.base.keep b o e n hb hx)
  ·obtain ⟨sl,e1⟩:=I.base.slot b o e n hb hx
   exact ⟨sl,(hs.2 b (Nat.ne_of_lt (Nat.lt_of_lt_of_le (Heap.lt_size e) (I.ok.cab x c hfn hc)))).trans e1⟩
  ·obtain ⟨o',e1⟩:=I.base.there b o e hx
   exact ⟨o',(hs.2 b (Nat.ne_of_lt (Nat.lt_of_lt_of_le (Heap.lt_size e) (I.ok.cab x c hfn hc)))).trans e1⟩
  ·by_cases hj:j=i
   ·subst hj
    rw [hi] at e1; cases e1
    rw [List.getElem?_set_self hiσ] at e2
    cases e2
    exact ⟨u,r,.inr ⟨.inl hk,c,hc,hc'⟩⟩
   ·rw [List.getElem?_set_ne (Ne.symm hj)] at e2
    obtain ⟨u',r',q⟩:=hl j y v' e1 e2 e3
    refine ⟨u',r',?_⟩
    rcases q with q | ⟨k,c',e,z'⟩
    ·exact .inl q
    ·refine .inr ⟨k,c',e,z'.sameBut hs ?_⟩
     rintro rfl
     exact hj (V6 hN e1 (I.ok.inj _ _ _ e hc ▸ hi))
  ·by_cases hcc:c'=c
   ·subst hcc; exact ⟨_,hc'⟩
   ·obtain ⟨w2,z2⟩:=I.cell y c' e
    exact ⟨w2,z2.sameBut hs hcc⟩
  ·obtain ⟨e,n,ne,nf,d⟩:=I.pin p hp
   refine ⟨(hs.2 p.1 ?_).trans e,n,ne,nf,d⟩
   intro q
   rw [q,hoc] at e
   have q':oc=p.2:=Option.some.inj e
   exact d w' (by rw [← q']; exact hocd)
theorem Vy {M:Model} {A:Around} {E:Value→Shared→Prop} {i:Nat} {x:Str} {v:V} {u:Value} {Q:Unit→Shared→Prop} (I:Inv X pins σ H s) (hN:X.N.Nodup) (hi:X.N[i]? = some x) (hx:Loc X.env.scope x) (r:RelV v u)
  (h:∀ s',Inv X pins (σ.set i (some v)) H s'→Q () s') (hf:X.fn x=true∨X.env.scope.names.lookup x=some .local:=by first | exact .inl rfl | exact .inr rfl | assumption):wpAny M A (storeName X.env x u) Q E s :=
 a1k I hN hi hx r (fun s' I' _=>h s' I') hf
end
abbrev XK:=Value→Option Addr→Hp→Prop
abbrev St:=List (Option V)
abbrev VK:=V→Hp→Prop
abbrev TE:=St→Hp→VK→Prop
abbrev TT:=St→Hp→(Bool→Hp→Prop)→Prop
abbrev TA:=St→Hp→(List V→Hp→Prop)→Prop
structure Ends where
 nx:St→Hp→Prop
 rt:VK
 bk:St→Hp→Prop:=fun _ _=>False
 ct:St→Hp→Prop:=fun _ _=>False
abbrev TS:=Ends→St→Hp→Prop
inductive EP (X:Cx) (pins:List (Addr × Obj)) (σ:St) (Q:VK) (u:Value) (s':Shared):Prop
 | mk (v:V) (H':Hp) (I:Inv X pins σ H' s') (r:RelV v u) (q:Q v H')
def TP (X:Cx) (pins:List (Addr × Obj)) (σ:St) (Q:Bool→Hp→Prop) (b:Bool) (s':Shared):Prop:=∃ H',Inv X pins σ H' s'∧Q b H'
inductive AP (X:Cx) (pins:List (Addr × Obj)) (σ:St) (Q:List V→Hp→Prop) (us:List Value) (s':Shared):Prop
 | mk (vs:List V) (H':Hp) (I:Inv X pins σ H' s') (r:Vals vs us) (q:Q vs H')
def SP (X:Cx) (pins:List (Addr × Obj)) (D:Ends) (f:Flow) (s':Shared):Prop :=
 match f with
 | .next=>∃ σ' H',Inv X pins σ' H' s'∧D.nx σ' H'
 | .brk=>∃ σ' H',Inv X pins σ' H' s'∧D.bk σ' H'
 | .cont=>∃ σ' H',Inv X pins σ' H' s'∧D.ct σ' H'
 | .ret u=>∃ v σ' H',Inv X pins σ' H' s'∧RelV v u∧D.rt v H'
def PE (X:Cx) (e:Expr) (t:TE):Prop :=
 ∀ (pins:List (Addr × Obj)) (s:Shared) (σ:St) (H:Hp) (Q:VK),Inv X pins σ H s→t σ H Q→wpAny (model X.prog X.w) X.A (eval e X.env) (EP X pins σ Q) X.xe s
def PT (X:Cx) (e:Expr) (t:TT):Prop :=
 ∀ (pins:List (Addr × Obj)) (s:Shared) (σ:St) (H:Hp) (Q:Bool→Hp→Prop),Inv X pins σ H s→t σ H Q→wpAny (model X.prog X.w) X.A (isTrue e X.env (eval e X.env)) (TP X pins σ Q) X.xe s
def PW (X:Cx) (e:Expr) (t:TT):Prop :=
 ∀ (whole:Sem Value) (pins:List (Addr × Obj)) (s:Shared) (σ:St) (H:Hp) (Q:Bool→Hp→Prop),Inv X pins σ H s→t σ H Q→wpAny (model X.prog X.w) X.A (isTrue e X.env whole) (TP X pins σ Q) X.xe s
theorem PW.pt {X:Cx} {e:Expr} {t:TT} (h:PW X e t):PT X e t:=h _
def PA (X:Cx) (es:List Expr) (t:TA):Prop :=
 ∀ (pos:Pos) (pins:List (Addr × Obj)) (s:Shared) (σ:St) (H:Hp) (Q:List V→Hp→Prop),Inv X pins σ H s→t σ H Q→wpAny (model X.prog X.w) X.A (spliced (backTo pos (starEach es X.env))) (AP X pins σ Q) X.xe s
def PS (X:Cx) (st:Stmt) (t:TS):Prop :=
 ∀ (pins:List (Addr × Obj)) (s:Shared) (σ:St) (H:Hp) (D:Ends),Inv X pins σ H s→t D σ H→wpAny (model X.prog X.w) X.A (exec st X.env) (SP X pins D) X.xe s
def PSs (X:Cx) (st:List Stmt) (t:TS):Prop :=
 ∀ (pins:List (Addr × Obj)) (s:Shared) (σ:St) (H:Hp) (D:Ends),Inv X pins σ H s→t D σ H→wpAny (model X.prog X.w) X.A (execs st X.env) (SP X pins D) X.xe s
theorem thn {α:Type} {t:Sem α} {Q Q':α→Shared→Prop} {M:Model} {A:Around} {E:Value→Shared→Prop} {s:Shared} (h:wpAny M A t Q E s) (hQ:∀ a s,Q a s→Q' a s):wpAny M A t Q' E s:=wpAny_mono h hQ fun _ _ x=>x
end L2
namespace L2
open PySem PySem.Spec PyProof.Rows
section
variable {X:Cx}
def a2r (i:Nat):TE:=fun σ H Q=>∃ v,σ[i]? = some (some v)∧Q v H
def tC (v:V):TE:=fun _ H Q=>Q v H
theorem abb {i:Nat} {x:Str} {pos:Pos} (hN:X.N[i]? = some x) (hv:Vis X.env.scope x) (hd:(x==("__debug__" : Str))=false:=by decide) (hcd:(x==("__classdict__" : Str))=false:=by decide):PE X (.Name x pos) (a2r i):=by
 intro pins s σ H Q I h
 obtain ⟨v,e,h⟩:=h
 obtain ⟨m,hn,hl⟩:=I.loc
 obtain ⟨u,r,l⟩:=hl i x v hN e hv
 have fin:EP X pins σ Q u s:=⟨v,H,I,r,h⟩
 rcases l with ⟨hk,hm⟩ | ⟨hk,c,hc,hcell⟩
 ·exact wpAny_Name (wpAny_loadName_local I.ok.kind hk hn hm fin) hd
 ·rcases hk with hk | hk
  ·exact wpAny_Name (wpAny_loadName_cell I.ok.kind hk hc hcell fin) hd
  ·exact wpAny_Name (wpAny_loadName_free I.ok.kind hk hc hcell fin hcd) hd
theorem a79 {i j pos}:PE X (.Constant (.int i) j pos) (tC (.int i)):=fun _ _ _ H _ I h=>wpAny_Constant_int ⟨.int i,H,I.tok _,⟨_,rfl⟩,h⟩
theorem af5 {b j pos}:PE X (.Constant (.bool b) j pos) (tC (.bl b)):=fun _ _ _ H _ I h=>Constant_bool ⟨.bl b,H,I,rfl,h⟩
theorem abw {j pos}:PE X (.Constant .none j pos) (tC .non):=fun _ _ _ H _ I h=>Constant_none ⟨.non,H,I,rfl,h⟩
theorem abj {x j pos}:PE X (.Constant (.str x) j pos) (tC (.str x)):=fun _ _ _ H _ I h=>Calls.Constant_str ⟨.str x,H,I.tok _,⟨_,rfl⟩,h⟩
def Gl (X:Cx) (x:Str):Prop:=X.env.kindOf x=some .globalImplicit
theorem a2h {E:Value→Shared→Prop} {pins:List (Addr × Obj)} {s:Shared} {σ:St} {H:Hp} {x:Str} {u:Value} {pos:Pos} {Q:Value→Shared→Prop} (I:Inv X pins σ H s) (hg:Gl X x) (hm:X.mg x=some u) (h:Q u s)
  (hd:(x==("__debug__" : Str))=false:=by decide):wpAny (model X.prog X.w) X.A (eval (.Name x pos) X.env) Q E s :=
 Calls.Name_function_global I.ok.kind hg (Calls.loadGlobal_global (by rw [I.ok.glob]; exact I.mod.glob.keeps I.bk) hm h) hd
theorem Ku {E:Value→Shared→Prop} {pins:List (Addr × Obj)} {s:Shared} {σ:St} {H:Hp} {x:Str} {u:Value} {pos:Pos} {Q:Value→Shared→Prop} (I:Inv X pins σ H s) (hg:Gl X x) (hm:X.mg x=none) (hv:bootBuiltins x=some u) (h:Q u s)
  (hn:x ≠ "__name__" := by decide) (hd:(x==("__debug__" : Str))=false:=by decide):wpAny (model X.prog X.w) X.A (eval (.Name x pos) X.env) Q E s:=by
 obtain ⟨mb,h1,h2⟩:=I.mod.blt
 exact Calls.Name_function_global I.ok.kind hg (Calls.loadGlobal_builtin (by rw [I.ok.glob]; exact I.mod.glob.keeps I.bk) hm (by rw [I.ok.blt]; exact h1.keeps I.bk) ((h2 x hn).trans hv) h) hd
theorem a95 {x:Str} {v:V} {u:Value} {pos:Pos} (hg:Gl X x) (hm:X.mg x=some u) (r:RelV v u) (hd:(x==("__debug__" : Str))=false:=by decide):PE X (.Name x pos) (tC v) :=
 fun _ _ _ H _ I h=>a2h I hg hm ⟨v,H,I,r,h⟩ hd
theorem a8f {x:Str} {v:V} {u:Value} {pos:Pos} (hg:Gl X x) (hm:X.mg x=none) (hv:bootBuiltins x=some u) (r:RelV v u) (hn:x ≠ "__name__" := by decide) (hd:(x==("__debug__" : Str))=false:=by decide):PE X (.Name x pos) (tC v) :=
 fun _ _ _ H _ I h=>Ku I hg hm hv ⟨v,H,I,r,h⟩ hn hd
variable {a b:Expr} {ta tb:TE} {pos:Pos}
def tB (t:TE):TT:=fun σ H Q=>t σ H fun x H1=>∃ c,x=.bl c∧Q c H1
theorem ac3 {e:Expr} {t:TE} (h:PE X e t) (he:∀ whole,isTrue e X.env whole=(do let v ← whole; standAt e.pos; holding [v] (truthy v)):=by intro _; rfl):PT X e (tB t):=by
 intro pins s σ H Q I hw
 refine isTrue_plain (thn (h pins s σ H _ I hw) fun v s1 z0=>?_) (he _)
 obtain ⟨x,H1,I1,r1,q1⟩:=z0
 obtain ⟨d,rfl,q⟩:=q1
 cases r1
 exact wpAny_truthy_bool ⟨H1,I1,q⟩
variable {tA tB':TT} {rest:List Expr}
def agl (t u:TT):TT:=fun σ H Q=>t σ H fun c H1=>if c=true then u σ H1 Q else Q false H1
def tOr (t u:TT):TT:=fun σ H Q=>t σ H fun c H1=>if c=true then Q true H1 else u σ H1 Q
def ahb (t:TT):TT:=fun σ H Q=>t σ H fun c H1=>Q (!c) H1
theorem pw_and1 (ha:PT X a tA):PW X (.BoolOp .And [a] pos) tA:=by
 intro wh pins s σ H Q I h
 refine isTrue_and (thn (ha pins s σ H Q I h) fun c s1 e=>?_)
 cases c with
 | true=>exact isTrue_and_nil e
 | false=>exact e
theorem pw_or1 (ha:PT X a tA):PW X (.BoolOp .Or [a] pos) tA:=by
 intro wh pins s σ H Q I h
 refine isTrue_or (thn (ha pins s σ H Q I h) fun c s1 e=>?_)
 cases c with
 | false=>exact isTrue_or_nil e
 | true=>exact e
theorem pw_and (ha:PT X a tA) (hb:PW X (.BoolOp .And (b::rest) pos) tB'):PW X (.BoolOp .And (a::b::rest) pos) (agl tA tB'):=by
 intro wh pins s σ H Q I h
 refine isTrue_and (thn (ha pins s σ H _ I h) fun c s1 z0=>?_)
 obtain ⟨H1,I1,q1⟩:=z0
 cases c with
 | true=>exact hb wh pins s1 σ H1 Q I1 q1
 | false=>exact ⟨H1,I1,q1⟩
theorem pw_or (ha:PT X a tA) (hb:PW X (.BoolOp .Or (b::rest) pos) tB'):PW X (.BoolOp .Or (a::b::rest) pos) (tOr tA tB'):=by
 intro wh pins s σ H Q I h
 refine isTrue_or (thn (ha pins s σ H _ I h) fun c s1 z0=>?_)
 obtain ⟨H1,I1,q1⟩:=z0
 cases c with
 | true=>exact ⟨H1,I1,q1⟩
 | false=>exact hb wh pins s1 σ H1 Q I1 q1
theorem aas (ha:PT X a tA):PT X (.UnaryOp .Not a pos) (ahb tA):=by
 intro pins s σ H Q I h
 exact isTrue_not (ha pins s σ H (fun c H1=>Q (!c) H1) I h)
def aed (ta tb:TE):TE:=fun σ H Q=>ta σ H fun x H1=>∃ c,x=.bl c∧if c=true then tb σ H1 Q else Q (.bl false) H1
def ah3 (ta tb:TE):TE:=fun σ H Q=>ta σ H fun x H1=>∃ c,x=.bl c∧if c=true then Q (.bl true) H1 else tb σ H1 Q
def aex (ta:TE):TE:=fun σ H Q=>ta σ H fun x H1=>∃ c,x=.bl c∧Q (.bl (!c)) H1
theorem ab0 {op} {t:TE} (h:PE X a t):PE X (.BoolOp op [a] pos) t:=fun pins s σ H Q I hw=>BoolOp_one (h pins s σ H Q I hw)
theorem aaf (ha:PE X a ta) (hb:PE X (.BoolOp .And (b::rest) pos) tb):PE X (.BoolOp .And (a::b::rest) pos) (aed ta tb):=by
 intro pins s σ H Q I h
 refine BoolOp_and (thn (ha pins s σ H _ I h) fun v s1 z0=>?_)
 obtain ⟨x,H1,I1,r1,q1⟩:=z0
 obtain ⟨c,rfl,q1⟩:=q1
 cases r1
 refine wpAny_truthy_bool ?_
 cases c with
 | true=>exact hb pins s1 σ H1 Q I1 q1
 | false=>exact ⟨.bl false,H1,I1,rfl,q1⟩
theorem af8 (ha:PE X a ta) (hb:PE X (.BoolOp .Or (b::rest) pos) tb):PE X (.BoolOp .Or (a::b::rest) pos) (ah3 ta tb):=by
 intro pins s σ H Q I h
 refine BoolOp_or (thn (ha pins s σ H _ I h) fun v s1 z0=>?_)
 obtain ⟨x,H1,I1,r1,q1⟩:=z0
 obtain ⟨c,rfl,q1⟩:=q1
 cases r1
 refine wpAny_truthy_bool ?_
 cases c with
 | false=>exact hb pins s1 σ H1 Q I1 q1
 | true=>exact ⟨.bl true,H1,I1,rfl,q1⟩
theorem acf (ha:PE X a ta):PE X (.UnaryOp .Not a pos) (aex ta):=by
 intro pins s σ H Q I h
 refine UnaryOp_ (thn (ha pins s σ H _ I h) fun v s1 z0=>?_)
 obtain ⟨x,H1,I1,r1,q1⟩:=z0
 obtain ⟨c,rfl,q1⟩:=q1
 cases r1
 exact not_of (wpAny_truthy_bool ⟨.bl (!c),H1,I1,rfl,q1⟩)
def tIf (t:TT) (ta tb:TE):TE:=fun σ H Q=>t σ H fun c H1=>if c=true then ta σ H1 Q else tb σ H1 Q
theorem a4e {c:Expr} (hc:PT X c tA) (ha:PE X a ta) (hb:PE X b tb):PE X (.IfExp c a b pos) (tIf tA ta tb):=by
 intro pins s σ H Q I h
 refine wpAny_IfExp (thn (hc pins s σ H _ I h) fun d s1 z0=>?_)
 obtain ⟨H1,I1,q1⟩:=z0
 cases d with
 | true=>exact ha pins s1 σ H1 Q I1 q1
 | false=>exact hb pins s1 σ H1 Q I1 q1
end
end L2
namespace L2
open PySem PySem.Spec PyProof.Rows
def SqL (K:PySem.W.Frag) (H:Hp) (a:Addr) (xs:List V):Prop :=
 Rd H a (.lst xs) ∨
  ∃ (o:Obj) (its:Array Value) (n:Nat),K.lookup a=some o∧o.cls=.type "list" ∧ o.dict=none∧o.data=.seq its n∧its.size≤sizeLine∧Vals xs its.toList
def SqT (K:PySem.W.Frag) (H:Hp) (a:Addr) (xs:List V):Prop :=
 Rd H a (.tup xs) ∨
  ∃ (o:Obj) (its:Array Value) (n:Nat),K.lookup a=some o∧o.cls=.type "tuple" ∧ o.dict=none∧o.data=.seq its n∧its.size≤sizeLine∧Vals xs its.toList
def ahi:Value→Option V
 | .none=>some .non
 | .bool b=>some (.bl b)
 | .int i _=>some (.int i)
 | .str x _=>some (.str x)
 | .bytes b _=>some (.byt b)
 | .float b _=>some (.flt b)
 | .ref a=>some (.ref a)
 | .type n=>some (.ty n)
 | _=>none
theorem RelV.abs {x:V} {u:Value} (r:RelV x u):ahi u=some x:=by
 cases x with
 | non=>cases r; rfl
 | bl _=>cases r; rfl
 | int _=>obtain ⟨t,rfl⟩:=r; rfl
 | str _=>obtain ⟨t,rfl⟩:=r; rfl
 | byt _=>obtain ⟨t,rfl⟩:=r; rfl
 | flt _=>obtain ⟨t,rfl⟩:=r; rfl
 | ref _=>cases r; rfl
 | ty _=>cases r; rfl
theorem RelV.inj {x y:V} {u:Value} (r:RelV x u) (q:RelV y u):x=y:=Option.some.inj (r.abs.symm.trans q.abs)
theorem Vals.inj {xs ys:List V} {us:List Value} (h:Vals xs us):Vals ys us→xs=ys:=by
 induction h generalizing ys with
 | nil=>intro k; cases k; rfl
 | cons r t ih=>intro k; cases k with | cons r' t'=>rw [r.inj r',ih t']
section
variable {X:Cx} {pins:List (Addr × Obj)} {σ:St} {H:Hp} {s:Shared} {a:Addr} {xs ys:List V}
theorem SqL.of {K:PySem.W.Frag} (h:H a=some (.lst xs)):SqL K H a xs:=.inl (.inl h)
theorem SqT.of {K:PySem.W.Frag} (h:H a=some (.tup xs)):SqT K H a xs:=.inl (.inl h)
theorem Inv.list (I:Inv X pins σ H s) (h:SqL X.K H a xs):∃ its:List Value,Vals xs its∧PlainL s.heap a its.toArray∧xs.length≤sizeLine:=by
 rcases h with h | ⟨o,its,n,hk,hc,hd,hs,hz,r⟩
 ·obtain ⟨z,its,n,r,e⟩:=h.ok I.hok
  exact ⟨its,r,⟨_,n,e,rfl,rfl,rfl⟩,z⟩
 ·refine ⟨its.toList,r,⟨o,n,I.kIn a o hk,hc,hd,by simpa using hs⟩,?_⟩
  have e:=r.length
  simp only [Array.length_toList] at e
  omega
theorem Inv.tuple (I:Inv X pins σ H s) (h:SqT X.K H a xs):∃ its:List Value,Vals xs its∧IsTup s.heap a its.toArray∧xs.length≤sizeLine:=by
 rcases h with h | ⟨o,its,n,hk,hc,hdn,hs,hz,r⟩
 ·obtain ⟨z,its,r,p⟩:=h.ok I.hok
  exact ⟨its,r,p.is,z⟩
 ·refine ⟨its.toList,r,⟨o,I.kIn a o hk,hc,n,by simpa using hs⟩,?_⟩
  have e:=r.length
  simp only [Array.length_toList] at e
  omega
theorem Inv.Wm (I:Inv X pins σ H s) (h:SqL X.K H a xs) (h':SqL X.K H a ys):xs=ys:=by
 obtain ⟨its,r,⟨o,n,e,_,_,d⟩,_⟩:=I.list h
 obtain ⟨its',r',⟨o',n',e',_,_,d'⟩,_⟩:=I.list h'
 rw [e] at e'; cases e'
 rw [d] at d'
 injection d' with d1 _
 have:its=its':=by simpa using congrArg Array.toList d1
 subst this
 exact r.inj r'
theorem Inv.Om (I:Inv X pins σ H s) (h:SqT X.K H a xs) (h':SqT X.K H a ys):xs=ys:=by
 obtain ⟨its,r,⟨o,e,_,n,d⟩,_⟩:=I.tuple h
 obtain ⟨its',r',⟨o',e',_,n',d'⟩,_⟩:=I.tuple h'
 rw [e] at e'; cases e'
 rw [d] at d'
 injection d' with d1 _
 have:its=its':=by simpa using congrArg Array.toList d1
 subst this
 exact r.inj r'
end
abbrev Cx.wish (X:Cx) (E:Value→Shared→Prop):Cx:={ X with xe:=E }
abbrev Cx.nox (X:Cx):Cx:=X.wish fun _ _=>False
theorem Cx.Ok.wish {X:Cx} (ok:X.Ok) (E:Value→Shared→Prop):(X.wish E).Ok :=
 ⟨ok.mod,ok.kind,ok.glob,ok.blt,ok.above,ok.inj,ok.has,ok.cab,ok.hd,ok.frames,ok.stk,ok.exf,ok.bs,ok.bsz,ok.noex,ok.exfs,ok.Y0,ok.frf⟩
theorem Cx.Ok.Em {X:Cx} {E:Value→Shared→Prop} (ok:(X.wish E).Ok):X.Ok :=
 ⟨ok.mod,ok.kind,ok.glob,ok.blt,ok.above,ok.inj,ok.has,ok.cab,ok.hd,ok.frames,ok.stk,ok.exf,ok.bs,ok.bsz,ok.noex,ok.exfs,ok.Y0,ok.frf⟩
section
variable {X:Cx} {pins:List (Addr × Obj)} {σ:St} {H:Hp} {s:Shared} {E:Value→Shared→Prop}
theorem Inv.wish (I:Inv X pins σ H s) (E:Value→Shared→Prop):Inv (X.wish E) pins σ H s:=⟨I.ok.wish E,I.os,I.bare,I.base,I.loc,I.cell,I.free,I.freeC,I.pin,I.hok,I.len⟩
theorem Inv.Em (I:Inv (X.wish E) pins σ H s):Inv X pins σ H s:=⟨I.ok.Em,I.os,I.bare,I.base,I.loc,I.cell,I.free,I.freeC,I.pin,I.hok,I.len⟩
theorem SP.Em {D:Ends} {f:Flow} {s':Shared} (h:SP (X.wish E) pins D f s'):SP X pins D f s':=by
 cases f with
 | next=>obtain ⟨σ',H',I,q⟩:=h; exact ⟨σ',H',I.Em,q⟩
 | brk=>obtain ⟨σ',H',I,q⟩:=h; exact ⟨σ',H',I.Em,q⟩
 | cont=>obtain ⟨σ',H',I,q⟩:=h; exact ⟨σ',H',I.Em,q⟩
 | ret u=>obtain ⟨v,σ',H',I,r,q⟩:=h; exact ⟨v,σ',H',I.Em,r,q⟩
theorem PE.nox {e:Expr} {t:TE} (h:PE X.nox e t):PE X e t:=fun pins s σ H Q I hw =>
 wpAny_mono (h pins s σ H Q (I.wish _) hw) (fun _ _ z7=>by obtain ⟨v,H',I',r,q⟩:=z7; exact ⟨v,H',I'.Em,r,q⟩) fun _ _ z=>False.elim z
theorem PT.nox {e:Expr} {t:TT} (h:PT X.nox e t):PT X e t:=fun pins s σ H Q I hw =>
 wpAny_mono (h pins s σ H Q (I.wish _) hw) (fun _ _ z7=>by obtain ⟨H',I',q⟩:=z7; exact ⟨H',I'.Em,q⟩) fun _ _ z=>False.elim z
theorem PSs.nox {st:List Stmt} {t:TS} (h:PSs X.nox st t):PSs X st t:=fun pins s σ H D I hw =>
 wpAny_mono (h pins s σ H D (I.wish _) hw) (fun _ _ q=>q.Em) fun _ _ z=>False.elim z
end
section
variable {X:Cx} {st:Stmt} {rest:List Stmt} {t u:TS} {e:Expr} {te:TE} {pos:Pos}
def aeo:TS:=fun D σ H=>D.nx σ H
def ags (t u:TS):TS:=fun D σ H=>t { D with nx:=u D } σ H
theorem a7w:PSs X [] aeo:=fun _ _ σ H _ I h=>wpAny_execs_nil ⟨σ,H,I,h⟩
theorem a2v (h1:PS X st t) (h2:PSs X rest u):PSs X (st::rest) (ags t u):=by
 intro pins s σ H D I h
 refine wpAny_execs_cons (thn (h1 pins s σ H { D with nx:=u D } I h) fun f s1 q=>?_)
 cases f with
 | next =>
  obtain ⟨σ',H',I',q⟩:=q
  exact h2 pins s1 σ' H' D I' q
 | ret v=>exact q
 | brk=>exact q
 | cont=>exact q
theorem a7u (h1:PS X st t):PSs X [st] t:=by
 intro pins s σ H D I h
 refine wpAny_execs_cons (thn (h1 pins s σ H D I h) fun f s1 q=>?_)
 cases f with
 | next=>exact wpAny_execs_nil q
 | ret v=>exact q
 | brk=>exact q
 | cont=>exact q
theorem Inv.quiet {pins:List (Addr × Obj)} {σ:St} {H:Hp} {s:Shared} (I:Inv X pins σ H s):interactive X.env=false:=by simp [interactive,I.ok.kind]
def a8y (te:TE):TS:=fun D σ H=>te σ H fun _ H1=>D.nx σ H1
theorem xq (he:PE X e te) (hs:swapsWith e none pos.line X.env=pure false:=by rfl):PS X (.Expr e pos) (a8y te):=by
 intro pins s σ H D I h
 exact wpAny_Expr_any (thn (he pins s σ H _ I h) fun v s1 z7=>by obtain ⟨x,H1,I1,r1,q1⟩:=z7; exact ⟨σ,H1,I1,q1⟩) I.quiet hs
def agy (te:TE):TS:=fun D σ H=>te σ H D.rt
theorem aat (he:PE X e te):PS X (.Return (some e) pos) (agy te):=by
 intro pins s σ H D I h
 exact wpAny_Return_some (thn (he pins s σ H _ I h) fun v s1 z7=>by obtain ⟨x,H1,I1,r1,q1⟩:=z7; exact ⟨x,σ,H1,I1,r1,q1⟩)
def ahd (c:TT) (t u:TS):TS:=fun D σ H=>c σ H fun b H1=>if b=true then t D σ H1 else u D σ H1
theorem afo {c:Expr} {a b:List Stmt} {tc:TT} (hc:PT X c tc) (ha:PSs X a t) (hb:PSs X b u):PS X (.If c a b pos) (ahd tc t u):=by
 intro pins s σ H D I h
 refine wpAny_If (thn (hc pins s σ H _ I h) fun d s1 z0=>?_)
 obtain ⟨H1,I1,q1⟩:=z0
 cases d with
 | true=>exact ha pins s1 σ H1 D I1 q1
 | false=>exact hb pins s1 σ H1 D I1 q1
end
abbrev TG:=V→St→Hp→(St→Hp→Prop)→Prop
abbrev TGs:=List V→St→Hp→(St→Hp→Prop)→Prop
def PG (X:Cx) (target:Expr) (t:TG):Prop :=
 ∀ (pins:List (Addr × Obj)) (s:Shared) (σ:St) (H:Hp) (v:V) (u:Value) (Q:St→Hp→Prop),Inv X pins σ H s→RelV v u→t v σ H Q →
  wpAny (model X.prog X.w) X.A (assign target X.env u) (fun _ s'=>∃ σ' H',Inv X pins σ' H' s'∧Q σ' H') X.xe s
def PGs (X:Cx) (ts:List Expr) (t:TGs):Prop :=
 ∀ (pins:List (Addr × Obj)) (s:Shared) (σ:St) (H:Hp) (vs:List V) (us:List Value) (Q:St→Hp→Prop),Inv X pins σ H s→Vals vs us→t vs σ H Q →
  wpAny (model X.prog X.w) X.A (assignInOrder ((assignEach ts X.env).map (·.2)) us) (fun _ s'=>∃ σ' H',Inv X pins σ' H' s'∧Q σ' H') X.xe s
section
variable {X:Cx} {pos:Pos}
def Jj (i:Nat):TG:=fun v σ H Q=>Q (σ.set i (some v)) H
theorem gn {i:Nat} {x:Str} (hN:X.N.Nodup) (hi:X.N[i]? = some x) (hx:Loc X.env.scope x) (hf:X.fn x=true∨X.env.scope.names.lookup x=some .local:=by first | exact .inl rfl | exact .inr rfl | assumption):PG X (.Name x pos) (Jj i):=by
 intro pins s σ H v u Q I r h
 exact wpAny_assign_Name (Vy I hN hi hx r (fun s' I'=>⟨_,H,I',h⟩) hf)
def ag7:TGs:=fun vs σ H Q=>vs=[]∧Q σ H
def abp (t:TG) (u:TGs):TGs:=fun vs σ H Q=>∃ v r,vs=v::r∧t v σ H fun σ' H'=>u r σ' H' Q
theorem vq:PGs X [] ag7:=by
 intro pins s σ H vs us Q I r h
 obtain ⟨e,h⟩:=h
 subst e
 cases r
 exact assignInOrder_nil ⟨σ,H,I,h⟩
theorem j9 {e:Expr} {es:List Expr} {t:TG} {u:TGs} (h1:PG X e t) (h2:PGs X es u)
  (hs:(assignEach (e::es) X.env).map (·.2)=assign e X.env::(assignEach es X.env).map (·.2):=by rfl):PGs X (e::es) (abp t u):=by
 intro pins s σ H vs us Q I r h
 obtain ⟨v,vr,e1,h⟩:=h
 subst e1
 cases r with
 | cons r rr =>
  rw [hs]
  refine assignInOrder_cons (thn (h1 pins s σ H _ _ _ I r h) fun _ s1 z0=>?_)
  obtain ⟨σ1,H1,I1,q1⟩:=z0
  exact h2 pins s1 σ1 H1 _ _ Q I1 rr q1
def agc (K:PySem.W.Frag) (n:Nat) (t:TGs):TG:=fun v σ H Q=>∃ a xs,v=.ref a∧SqT K H a xs∧xs.length=n∧t xs σ H Q
theorem Aj {es:List Expr} {k:Nat} {t:TGs} {n:Nat} (hc:X.calm=true) (h:PGs X es t)
  (hn:(assignEach es X.env).length=n:=by rfl) (hst:(assignEach es X.env).findIdx? (·.1)=none:=by rfl):PG X (.Tuple es k pos) (agc X.K n t):=by
 intro pins s σ H v u Q I r hw
 obtain ⟨a,xs,e1,hq,hl,hw⟩:=hw
 subst e1
 cases r
 obtain ⟨its,rv,ht,hz⟩:=I.tuple hq
 refine assign_Tuple_tuple (I.ok.hd hc) ht (by simp [hn,← hl,rv.length]) hst fun h' hx=>?_
 have I1:Inv X pins σ H { s with heap:=h' }:=I.kept (t':=s.toks) fun b o e=>hx b o (Nat.ne_of_lt (Heap.lt_size e)) e
 exact h pins _ σ H xs _ Q I1 (by simpa using rv) hw
def a68 (te:TE) (g:TG):TS:=fun D σ H=>te σ H fun x H1=>g x σ H1 D.nx
theorem Q0 {tg e:Expr} {te:TE} {g:TG} (he:PE X e te) (hg:PG X tg g) (hs:swapsWithSole [tg] e pos.line X.env=pure false:=by rfl) (hw:swappedStores [tg] e X.env=pure none:=by rfl)
  (h1:(assignEach [tg] X.env).map (·.2)=[assign tg X.env]:=by rfl):PS X (.Assign [tg] e pos) (a68 te g):=by
 intro pins s σ H D I h
 refine wpAny_Assign_stores (thn (he pins s σ H _ I h) fun v s1 z0=>?_) hs hw
 obtain ⟨x,H1,I1,r1,q1⟩:=z0
 rw [h1]
 exact thn (hg pins s1 σ H1 x v _ I1 r1 q1) fun _ s2 q=>q
theorem jg {i:Nat} {x:Str} {e:Expr} {te:TE} {pos':Pos} (hN:X.N.Nodup) (hi:X.N[i]? = some x) (hx:Loc X.env.scope x) (he:PE X e te) (hs:swapsWith e (some (.Name x pos')) pos.line X.env=pure false:=by rfl) (hf:X.fn x=true∨X.env.scope.names.lookup x=some .local:=by first | exact .inl rfl | exact .inr rfl | assumption) :
  PS X (.Assign [.Name x pos'] e pos) (a68 te (Jj i)):=by
 intro pins s σ H D I h
 refine wpAny_Assign_Name (thn (he pins s σ H _ I h) fun v s1 z0=>?_) hs
 obtain ⟨y,H1,I1,r1,q1⟩:=z0
 exact Vy I1 hN hi hx r1 (fun s2 I2=>⟨_,H1,I2,q1⟩) hf
end
section
variable {X:Cx} {pos:Pos}
def aav (c:TT) (tb:TS):TS:=fun D σ H=>∃ W:Nat→St→Hp→Prop,(∃ m,W m σ H)∧∀ m σ H,W m σ H →
 c σ H fun b H1=>if b=true then ∃ N:St→Hp→Prop,(∀ σ' H',N σ' H'→∃ m',m'<m∧W m' σ' H')∧tb { D with nx:=N,ct:=N,bk:=D.nx } σ H1 else D.nx σ H1
theorem a5j {c:Expr} {body:List Stmt} {tc:TT} {tb:TS} (hp:PassesOwn (model X.prog X.w) X.A X.env X.xe) (hc:PT X c tc) (hb:PSs X body tb):PS X (.While c body [] pos) (aav tc tb):=by
 intro pins s σ H D I h
 obtain ⟨W,⟨m0,w0⟩,turn⟩:=h
 refine wpAny_While (codeAny_whileLoop (fun n s'=>∃ σ' H',Inv X pins σ' H' s'∧W n σ' H') ?_ m0 ⟨σ,H,I,w0⟩)
 rintro n s1 ⟨σ1,H1,I1,w1⟩
 refine wpAny_passesOwn hp (thn (hc pins s1 σ1 H1 _ I1 (turn n σ1 H1 w1)) fun b s2 z0=>?_)
 obtain ⟨H2,I2,q2⟩:=z0
 cases b with
 | true =>
  obtain ⟨N,hN,q2⟩:=q2
  rw [if_pos rfl]
  refine wpAny_passesOwn hp (thn (hb pins s2 σ1 H2 _ I2 q2) fun f s3 q3=>?_)
  cases f with
  | next =>
   obtain ⟨σ3,H3,I3,n3⟩:=q3
   obtain ⟨m',hm,w3⟩:=hN σ3 H3 n3
   exact ⟨m',hm,σ3,H3,I3,w3⟩
  | cont =>
   obtain ⟨σ3,H3,I3,n3⟩:=q3
   obtain ⟨m',hm,w3⟩:=hN σ3 H3 n3
   exact ⟨m',hm,σ3,H3,I3,w3⟩
  | brk=>exact q3
  | ret v=>exact q3
 | false =>
  rw [if_neg Bool.false_ne_true]
  exact wpAny_execs_nil ⟨σ1,H2,I2,q2⟩
end
structure It where
 go:Nat→Hp→Prop
 yld:Nat→Hp→V→Hp→Prop
 stop:Nat→Hp→Prop
def Rc (X:Cx) (pins:List (Addr × Obj)) (H:Hp) (b:Addr):Prop :=
 H b=none∧b≠X.env.locals∧b∉X.fs∧(b∈X.ex∨X.s₀.heap.objs.size≤b)∧(∀ x c,X.env.cells.lookup x=some c→c≠b)∧∀ p∈X.pn++pins,p.1≠b
theorem Inv.a6i {X:Cx} {pins:List (Addr × Obj)} {σ:St} {H H':Hp} {s:Shared} {b:Addr} (I:Inv X pins σ H s) (hb:s.heap.objs.size≤b) (hn:H' b=none):Rc X pins H' b:=by
 refine ⟨hn,Nat.ne_of_gt (Nat.lt_of_lt_of_le I.lt hb),I.ahf hb,.inr (Nat.le_trans I.sz hb),fun x c e z=>?_,fun p hp z=>?_⟩
 ·obtain ⟨v,q⟩:=I.cell x c e
  exact absurd (Nat.lt_of_lt_of_le q.lt (by rw [z]; exact hb)) (Nat.lt_irrefl _)
 ·exact absurd (Nat.lt_of_lt_of_le (Heap.lt_size (I.pin p hp).1) (by rw [z]; exact hb)) (Nat.lt_irrefl _)
structure Turn (P:Program) (w:World) (K:PySem.W.Frag) (tg:Expr) (J:It) (fp:List Addr) (it:Addr) (tn:Nat→Heap→Prop):Prop where
 mem:it∈fp
 obj:∀ i h,tn i h→∀ b∈fp,∃ o,h.get? b=some o∧∀ v,o.data≠.cell v
 keep:∀ i h h',tn i h→(∀ b∈fp,∀ o,h.get? b=some o→h'.get? b=some o)→tn i h'
 item:∀ (X:Cx),X.prog=P→X.w=w→X.K=K→X.calm=true→∀ (i:Nat) (pins:List (Addr × Obj)) (s:Shared) (σ:St) (H:Hp) (E:Value→Shared→Prop),Inv X pins σ H s→(∀ b∈fp,Rc X pins H b)→tn i s.heap→J.go i H →
  wpAny (model P w) X.A (pyNext (.ref it)) (fun r s1=>∃ u,r=some u ∧
   wpAny (model P w) X.A (letOwnedTupleGo tg (.ref it) u) (fun _ s2=>∃ x H',Inv X pins σ H' s2∧RelV x u∧J.yld i H x H'∧tn (i+1) s2.heap∧∀ b∈fp,H' b=none) E s1) E s
 done:∀ (X:Cx),X.prog=P→X.w=w→X.K=K→X.calm=true→∀ (i:Nat) (pins:List (Addr × Obj)) (s:Shared) (σ:St) (H:Hp) (E:Value→Shared→Prop),Inv X pins σ H s→(∀ b∈fp,Rc X pins H b)→tn i s.heap→J.stop i H →
  wpAny (model P w) X.A (pyNext (.ref it)) (fun r s1=>r=none∧Inv X pins σ H s1) E s
 self:∀ (A:Around) (i:Nat) (s:Shared) (Q:Value→Shared→Prop) (E:Value→Shared→Prop),tn i s.heap→Q (.ref it) s→wpAny (model P w) A (pyIter (.ref it)) Q E s
abbrev TI:=St→Hp→(It→Hp→Prop)→Prop
def PIE (X:Cx) (pins:List (Addr × Obj)) (σ:St) (tg:Expr) (R:It→Hp→Prop) (itv:Value) (s2:Shared):Prop :=
 ∃ (it:Addr) (fp:List Addr) (tn:Nat→Heap→Prop) (J:It) (H':Hp),itv=.ref it∧Inv X pins σ H' s2∧Turn X.prog X.w X.K tg J fp it tn∧tn 0 s2.heap∧(∀ b∈fp,Rc X pins H' b)∧R J H'
def PI (X:Cx) (tg iter:Expr) (wi:TI):Prop :=
 ∀ (pins:List (Addr × Obj)) (s:Shared) (σ:St) (H:Hp) (R:It→Hp→Prop),Inv X pins σ H s→wi σ H R →
  wpAny (model X.prog X.w) X.A (eval iter X.env) (fun v s1=>wpAny (model X.prog X.w) X.A (pyIter v) (PIE X pins σ tg R) X.xe s1) X.xe s
theorem Yl {M:Model} {A:Around} {E:Value→Shared→Prop} {s:Shared} {tg:Expr} {it:Addr} {u:Value} {o:Obj} {n:String} {vs:Array Value} {Q:Unit→Shared→Prop} (ho:s.heap.get? it=some o) (hc:o.cls=.type n) (hd:o.data=.fields vs)
  (hn:["enumerate","zip","dict_itemiterator","dict_reverseitemiterator","odict_iterator","itertools.zip_longest","itertools.pairwise"].contains n=false) (hQ:Q () s):wpAny M A (letOwnedTupleGo tg (.ref it) u) Q E s:=by
 unfold letOwnedTupleGo
 cases tg <;> first
  | exact wpAny_pure hQ
  | (cases u <;> first
    | exact wpAny_pure hQ
    | (refine wpAny_bind (wpAny_load ho ?_)
       rw [hc,hd]
       show wpAny M A (if (["enumerate","zip","dict_itemiterator","dict_reverseitemiterator","odict_iterator","itertools.zip_longest","itertools.pairwise"].contains n&&vs[0]? == some (rawInt _))=true then _ else _) Q E s
       rw [if_neg (by intro h; rw [hn,Bool.false_and] at h; cases h)]
       exact wpAny_pure hQ))
def Itl (K:PySem.W.Frag) (a:Addr):It :=
 ⟨fun i H=>∃ xs x,SqL K H a xs∧xs[i]? = some x,fun i H x H'=>H'=H∧∀ xs,SqL K H a xs→xs[i]? = some x,fun i H=>∃ xs,SqL K H a xs∧xs.length≤i⟩
def Itt (K:PySem.W.Frag) (a:Addr):It :=
 ⟨fun i H=>∃ xs x,SqT K H a xs∧xs[i]? = some x,fun i H x H'=>H'=H∧∀ xs,SqT K H a xs→xs[i]? = some x,fun i H=>∃ xs,SqT K H a xs∧xs.length≤i⟩
def Itr (lo:Int) (n:Nat):It:=⟨fun i _=>i<n,fun i H x H'=>H'=H∧x=.int (lo+i),fun i _=>n≤i⟩
theorem a0e {P:Program} {w:World} {K:PySem.W.Frag} {tg:Expr} (a it:Addr):Turn P w K tg (Itl K a) [it] it (fun i h=>h.IsListIter it a i) where
 mem:=by simp
 obj:=fun i h st b hb=>by
  have e:b=it:=by simpa using hb
  subst e
  obtain ⟨o,e,c,d⟩:=st
  exact ⟨o,e,fun v z=>by rw [d] at z; cases z⟩
 keep:=fun i h h' st k=>st.at fun o e=>k it (by simp) o e
 item:=by
  intro X hP hw hK hc i pins s σ H E I hf st hg
  subst hP hw hK
  obtain ⟨xs,x,hq,hx⟩:=hg
  obtain ⟨its,rv,p,hz⟩:=I.list hq
  obtain ⟨u,hu,ru⟩:=rv.get hx
  obtain ⟨f0,f1,f2,f3,f4,f5⟩:=hf it (by simp)
  refine wpAny_pyNext_list_item st p.isList (x:=u) (by simpa using hu) fun h' st' sb=>?_
  have I1:Inv X pins σ H { s with heap:=h' }:=I.turned (t':=s.toks) (fun b o hb e=>(sb.2 b hb).trans e) f0 f1 f3 f4 f5
  obtain ⟨o,e,c,d⟩:=id st'
  exact ⟨u,rfl,Yl (s:={ s with heap:=h' }) e c d (by decide) ⟨x,H,I1,ru,⟨rfl,fun ys hy=>by rw [I.Wm hy hq]; exact hx⟩,st',fun b hb=>(hf b hb).1⟩⟩
 done:=by
  intro X hP hw hK hc i pins s σ H E I hf st hg
  subst hP hw hK
  obtain ⟨xs,hq,hx⟩:=hg
  obtain ⟨its,rv,p,hz⟩:=I.list hq
  obtain ⟨f0,f1,f2,f3,f4,f5⟩:=hf it (by simp)
  have hl:=rv.length
  exact wpAny_pyNext_list_end (I.ok.hd hc) st p.isList (by simp; omega) fun h' eb=>⟨rfl,I.turned (t':=s.toks) (fun b o hb e=>eb b o hb e) f0 f1 f3 f4 f5⟩
 self:=fun _ _ _ _ _ st h=>wpAny_pyIter_listiter st h
theorem Xn {P:Program} {w:World} {K:PySem.W.Frag} {tg:Expr} (a it:Addr):Turn P w K tg (Itt K a) [it] it (fun i h=>h.IsTupleIter it a i) where
 mem:=by simp
 obj:=fun i h st b hb=>by
  have e:b=it:=by simpa using hb
  subst e
  obtain ⟨o,e,c,d⟩:=st
  exact ⟨o,e,fun v z=>by rw [d] at z; cases z⟩
 keep:=fun i h h' st k=>st.at fun o e=>k it (by simp) o e
 item:=by
  intro X hP hw hK hc i pins s σ H E I hf st hg
  subst hP hw hK
  obtain ⟨xs,x,hq,hx⟩:=hg
  obtain ⟨its,rv,p,hz⟩:=I.tuple hq
  obtain ⟨u,hu,ru⟩:=rv.get hx
  obtain ⟨f0,f1,f2,f3,f4,f5⟩:=hf it (by simp)
  refine wpAny_pyNext_tuple_item st (show s.heap.IsTuple a its.toArray from p) (x:=u) (by simpa using hu) fun h' st' sb=>?_
  have I1:Inv X pins σ H { s with heap:=h' }:=I.turned (t':=s.toks) (fun b o hb e=>(sb.2 b hb).trans e) f0 f1 f3 f4 f5
  obtain ⟨o,e,c,d⟩:=id st'
  exact ⟨u,rfl,Yl (s:={ s with heap:=h' }) e c d (by decide) ⟨x,H,I1,ru,⟨rfl,fun ys hy=>by rw [I.Om hy hq]; exact hx⟩,st',fun b hb=>(hf b hb).1⟩⟩
 done:=by
  intro X hP hw hK hc i pins s σ H E I hf st hg
  subst hP hw hK
  obtain ⟨xs,hq,hx⟩:=hg
  obtain ⟨its,rv,p,hz⟩:=I.tuple hq
  obtain ⟨f0,f1,f2,f3,f4,f5⟩:=hf it (by simp)
  have hl:=rv.length
  exact wpAny_pyNext_tuple_end (I.ok.hd hc) st (show s.heap.IsTuple a its.toArray from p) (by simp; omega) fun h' eb=>⟨rfl,I.turned (t':=s.toks) (fun b o hb e=>eb b o hb e) f0 f1 f3 f4 f5⟩
 self:=fun _ _ _ _ _ st h=>wpAny_pyIter_tupleiter st h
theorem Ma {P:Program} {w:World} {K:PySem.W.Frag} {tg:Expr} (it:Addr) (lo:Int) (n:Nat):Turn P w K tg (Itr lo n) [it] it (fun i h=>IsRangeIter h it (lo+(i:Nat) * 1) ((n:Int) - (i:Nat)) 1) where
 mem:=by simp
 obj:=fun i h st b hb=>by
  have e:b=it:=by simpa using hb
  subst e
  exact ⟨_,st,fun v z=>by
   have z':Data.fields _=Data.cell v:=z
   cases z'⟩
 keep:=fun i h h' st k=>k it (by simp) _ st
 item:=by
  intro X hP hw hK hc i pins s σ H E I hf st hg
  subst hP hw hK
  obtain ⟨f0,f1,f2,f3,f4,f5⟩:=hf it (by simp)
  have W:=Walks.range (prog:=X.prog) (w:=X.w) (I.ok.hd hc) it lo 1 n
  refine W.item i s _ _ hg st fun v h' tk hv st' kk=>?_
  obtain ⟨t,rfl⟩:=hv
  have I1:Inv X pins σ H { s with heap:=h',toks:=tk }:=I.turned (fun b o hb e=>kk b o (by simpa using hb) e) f0 f1 f3 f4 f5
  refine ⟨_,rfl,Yl (s:={ s with heap:=h',toks:=tk }) (n := "range_iterator") st' rfl rfl (by decide) ⟨.int (lo+i),H,I1,⟨t,?_⟩,⟨rfl,rfl⟩,st',fun b hb=>(hf b hb).1⟩⟩
  rw [Int.mul_one]
 done:=by
  intro X hP hw hK hc i pins s σ H E I hf st hg
  subst hP hw hK
  obtain ⟨f0,f1,f2,f3,f4,f5⟩:=hf it (by simp)
  exact wpAny_pyNext_range_end (I.ok.hd hc) st (by have:n≤i:=hg; omega) fun h' eb=>⟨rfl,I.turned (t':=s.toks) (fun b o hb e=>eb b o hb e) f0 f1 f3 f4 f5⟩
 self:=fun _ _ _ _ _ st h=>wpAny_pyIter_rangeiter st h
end L2
namespace L2
open PySem PySem.Spec PyProof.Rows
section
variable {X:Cx} {tg:Expr}
theorem a2w {pins:List (Addr × Obj)} {σ:St} {H:Hp} {s:Shared} {R:It→Hp→Prop} {E:Value→Shared→Prop} {lo hi:Int} {t u v:Tok} {tk:Nat} (I:Inv X pins σ H s) (h1:-(2 ^ 62)≤lo) (h2:lo<2 ^ 62) (h3:-(2 ^ 62)≤hi) (h4:hi<2 ^ 62)
  (q:R (Itr lo (hi - lo).toNat) H):wpAny (model X.prog X.w) X.A (pyIter (.ref s.heap.objs.size)) (PIE X pins σ tg R) E { s with heap:=s.heap.push { cls:=.type "range",data:=.fields #[.int lo t,.int hi u,.int 1 v] },toks:=tk }:=by
 refine wpAny_pyIter_range (IsRange.new ..) (small_one h1 h2 h3 h4) ?_
 have I1:Inv X pins σ H { s with heap:=s.heap.push { cls:=.type "range",data:=.fields #[.int lo t,.int hi u,.int 1 v] },toks:=tk }:=I.kept fun b o e=>Heap.get?_push_of_some _ e
 refine ⟨(s.heap.push { cls:=.type "range",data:=.fields #[.int lo t,.int hi u,.int 1 v] }).objs.size,[(s.heap.push { cls:=.type "range",data:=.fields #[.int lo t,.int hi u,.int 1 v] }).objs.size],_,_,H,rfl,
  I1.kept (t':=tk) fun b o e=>Heap.get?_push_of_some _ e,Ma _ lo (hi - lo).toNat,?_,fun b hb=>?_,q⟩
 ·have e1:lo+((0:Nat):Int) * 1=lo:=by simp
  have e2:(((hi - lo).toNat:Nat):Int) - ((0:Nat):Int)=Builtin.Range.rangeSize lo hi 1:=by rw [rangeSize_one]; split <;> omega
  show IsRangeIter _ _ (lo+((0:Nat):Int) * 1) ((((hi - lo).toNat:Nat):Int) - ((0:Nat):Int)) 1
  rw [e1,e2]
  exact Heap.get?_push_size _ rfl
 ·have e:b=(s.heap.push { cls:=.type "range",data:=.fields #[.int lo t,.int hi u,.int 1 v] }).objs.size:=by simpa using hb
  subst e
  exact I1.a6i (Nat.le_refl _) (I1.hok.fresh (Nat.le_refl _))
def aea (ta:TA):TI:=fun σ H R=>ta σ H fun vs H1=>∃ j:Int,vs=[.int j]∧-(2 ^ 62)≤j∧j<2 ^ 62∧R (Itr 0 j.toNat) H1
theorem a2g {a:Expr} {ta:TA} {p pos:Pos} (hg:Gl X "range") (hm:X.mg "range" = none) (ha:PA X [a] ta) (hs:starEach [a] X.env=[(false,eval a X.env)]:=by rfl):PI X tg (.Call (.Name "range" p) [a] [] pos) (aea ta):=by
 intro pins s σ H R I h
 refine Call_ (Ku I hg hm boot_range (PyProof.Rows.callWith_type1 (thn (ha pos pins s σ H _ I h) fun us s1 z0=>?_) hs rfl))
 obtain ⟨vs,H1,I1,r1,q1⟩:=z0
 obtain ⟨j,e,q1,q2,q⟩:=q1
 subst e
 cases r1 with
 | cons r rr =>
  cases rr
  obtain ⟨t,rfl⟩:=r
  exact call_range_1 (a2w I1 (by omega) (by omega) q1 q2 (by simpa using q))
def ah7 (wi:TI) (g:TG) (tb:TS):TS:=fun D σ H=>wi σ H fun J H1=>∃ W:Nat→Nat→St→Hp→Prop,(∃ m,W 0 m σ H1)∧∀ i m σ H,W i m σ H →
 (J.stop i H∧D.nx σ H)∨(J.go i H∧∃ N:St→Hp→Prop,(∀ σ' H',N σ' H'→∃ m',m'<m∧W (i+1) m' σ' H')∧∀ x H',J.yld i H x H'→g x σ H' fun σ2 H2=>tb { D with nx:=N,ct:=N,bk:=D.nx } σ2 H2)
def Qx (fp:List Addr) (h:Heap):List (Addr × Obj):=fp.filterMap fun b=>(h.get? b).map fun o=>(b,o)
theorem Bs {fp:List Addr} {h:Heap} {b:Addr} {o:Obj} (hb:b∈fp) (e:h.get? b=some o):(b,o)∈Qx fp h:=List.mem_filterMap.mpr ⟨b,hb,by rw [e]; rfl⟩
theorem a00 {fp:List Addr} {h:Heap} {p:Addr × Obj} (hp:p∈Qx fp h):p.1∈fp∧h.get? p.1=some p.2:=by
 obtain ⟨b,hb,e⟩:=List.mem_filterMap.mp hp
 cases q:h.get? b with
 | none=>rw [q] at e; cases e
 | some o =>
  rw [q] at e
  have e':(b,o)=p:=Option.some.inj e
  subst e'
  exact ⟨hb,q⟩
theorem Inv.pinned {pins:List (Addr × Obj)} {σ:St} {H:Hp} {s:Shared} {fp:List Addr} (I:Inv X pins σ H s) (hf:∀ b∈fp,Rc X pins H b) (ho:∀ b∈fp,∃ o,s.heap.get? b=some o∧∀ v,o.data≠.cell v):Inv X (pins++Qx fp s.heap) σ H s :=
 I.Zv fun p hp=>(List.mem_append.mp hp).elim (fun z=>I.pin p (List.mem_append_right _ z)) fun z=>by
  obtain ⟨hb,e⟩:=a00 z
  obtain ⟨f0,f1,f2,_⟩:=hf p.1 hb
  obtain ⟨o,e',d⟩:=ho p.1 hb
  rw [e] at e'; cases e'
  exact ⟨e,f0,f1,f2,d⟩
theorem Inv.Gn {pins pl:List (Addr × Obj)} {σ:St} {H:Hp} {s:Shared} (I:Inv X (pins++pl) σ H s):Inv X pins σ H s:=I.Zv fun p hp=>I.pin p (List.mem_append_right _ (List.mem_append_left _ hp))
theorem abo {iter:Expr} {body:List Stmt} {wi:TI} {g:TG} {tb:TS} {pos:Pos} (hp:PassesOwn (model X.prog X.w) X.A X.env X.xe) (hc:X.calm=true) (hi:PI X tg iter wi) (hg:PG X tg g) (hb:PSs X body tb)
  (hs:∀ x,foldedSetIterable iter X.env x=pure x:=by intro _; rfl):PS X (.For tg iter body [] pos) (ah7 wi g tb):=by
 intro pins s σ H D I h
 refine wpAny_For (thn (hi pins s σ H _ I h) fun v s1 h1=>thn h1 fun itv s2 h2=>?_) hs
 obtain ⟨it,fp,tn,J,H2,e,I2,T,st2,f2,W,⟨m0,w0⟩,turn⟩:=h2
 subst e
 have stat:∀ {H':Hp},(∀ b∈fp,H' b=none)→∀ b∈fp,Rc X pins H' b:=fun hn b hb=>⟨hn b hb,(f2 b hb).2⟩
 refine codeAny_forLoop_any (fun n s'=>∃ i σ' H',Inv X pins σ' H' s'∧tn i s'.heap∧(∀ b∈fp,H' b=none)∧W i n σ' H') ?_ m0 ⟨0,σ,H2,I2,st2,fun b hb=>(f2 b hb).1,w0⟩
 rintro n s3 ⟨i,σ3,H3,I3,st3,fr3,w3⟩
 rcases turn i n σ3 H3 w3 with ⟨stop,qn⟩ | ⟨go,N,hN,step⟩
 ·refine wpAny_passesOwn hp (thn (T.done X rfl rfl rfl hc i pins s3 σ3 H3 X.xe I3 (stat fr3) st3 stop) fun r s4 z0=>?_)
  obtain ⟨hr,I4⟩:=z0
  subst hr
  exact wpAny_execs_nil ⟨σ3,H3,I4,qn⟩
 ·refine wpAny_passesOwn hp (thn (T.item X rfl rfl rfl hc i pins s3 σ3 H3 X.xe I3 (stat fr3) st3 go) fun r s4 z0=>?_)
  obtain ⟨u,hr,h4⟩:=z0
  subst hr
  refine wpAny_passesOwn hp (thn h4 fun _ s5 z0=>?_)
  obtain ⟨x,H5,I5,r5,y5,st5,fr5⟩:=z0
  have I5':=I5.pinned (stat fr5) (T.obj _ _ st5)
  refine wpAny_passesOwn hp (thn (hg _ s5 σ3 H5 x u _ I5' r5 (step x H5 y5)) fun _ s6 z0=>?_)
  obtain ⟨σ6,H6,I6,q6⟩:=z0
  refine wpAny_passesOwn hp (thn (hb _ s6 σ6 H6 _ I6 q6) fun f s7 q7=>?_)
  have again:∀ {σ7:St} {H7:Hp},Inv X (pins++Qx fp s5.heap) σ7 H7 s7→N σ7 H7→∃ m,m<n∧∃ i σ' H',Inv X pins σ' H' s7∧tn i s7.heap∧(∀ b∈fp,H' b=none)∧W i m σ' H':=fun {σ7 H7} I7 n7=>by
   obtain ⟨m',hm,w7⟩:=hN σ7 H7 n7
   refine ⟨m',hm,i+1,σ7,H7,I7.Gn,T.keep _ _ _ st5 fun b hb o e=>(I7.pin (b,o) (List.mem_append_right _ (List.mem_append_right _ (Bs hb e)))).1,fun b hb=>?_,w7⟩
   obtain ⟨o,e,d⟩:=T.obj _ _ st5 b hb
   exact (I7.pin (b,o) (List.mem_append_right _ (List.mem_append_right _ (Bs hb e)))).2.1
  cases f with
  | next=>obtain ⟨σ7,H7,I7,n7⟩:=q7; exact again I7 n7
  | cont=>obtain ⟨σ7,H7,I7,n7⟩:=q7; exact again I7 n7
  | brk=>obtain ⟨σ7,H7,I7,q7⟩:=q7; exact ⟨σ7,H7,I7.Gn,q7⟩
  | ret v=>obtain ⟨x7,σ7,H7,I7,r7,q7⟩:=q7; exact ⟨x7,σ7,H7,I7.Gn,r7,q7⟩
end
end L2
namespace L2
open PySem PySem.Spec PyProof.Rows
abbrev R2:=V→V→Hp→VK→Prop
def OpR (X:Cx) (f:Value→Value→Sem Value) (r:R2):Prop :=
 ∀ (pins:List (Addr × Obj)) (s:Shared) (σ:St) (H:Hp) (x y:V) (v u:Value) (Q:VK),Inv X pins σ H s→RelV x v→RelV y u→r x y H Q →
  wpAny (model X.prog X.w) X.A (f v u) (EP X pins σ Q) X.xe s
def UnR (X:Cx) (f:Value→Sem Value) (r:V→Hp→VK→Prop):Prop :=
 ∀ (pins:List (Addr × Obj)) (s:Shared) (σ:St) (H:Hp) (x:V) (v:Value) (Q:VK),Inv X pins σ H s→RelV x v→r x H Q →
  wpAny (model X.prog X.w) X.A (f v) (EP X pins σ Q) X.xe s
def Df (X:Cx) (f:Value) (r:List V→Hp→VK→Prop):Prop :=
 ∀ (pins:List (Addr × Obj)) (s:Shared) (σ:St) (H:Hp) (xs:List V) (us:List Value) (Q:VK),Inv X pins σ H s→Vals xs us→r xs H Q →
  wpAny (model X.prog X.w) X.A (call f us) (EP X pins σ Q) X.xe s
def tOp (r:R2) (ta tb:TE):TE:=fun σ H Q=>ta σ H fun x H1=>tb σ H1 fun y H2=>r x y H2 Q
def tUn (r:V→Hp→VK→Prop) (ta:TE):TE:=fun σ H Q=>ta σ H fun x H1=>r x H1 Q
def rI (C:Int→Int→Prop) (g:Int→Int→V):R2:=fun x y H Q=>∃ i j,x=.int i∧y=.int j∧C i j∧Q (g i j) H
def rI0 (g:Int→Int→V):R2:=fun x y H Q=>∃ i j,x=.int i∧y=.int j∧Q (g i j) H
def rU (g:Int→V):V→Hp→VK→Prop:=fun x H Q=>∃ i,x=.int i∧Q (g i) H
section
variable {X:Cx} {a b c:Expr} {ta tb tc:TE} {pos:Pos}
theorem afl (ha:PE X a ta) (hb:PE X b tb) {pins:List (Addr × Obj)} {s:Shared} {σ:St} {H:Hp} {R:V→V→Hp→Prop} (I:Inv X pins σ H s)
  (h:ta σ H fun x H1=>tb σ H1 fun y H2=>R x y H2) {Q:Value→Shared→Prop} {f:Value→Value→Sem Value}
  (hf:∀ v u s2 x y H2,Inv X pins σ H2 s2→RelV x v→RelV y u→R x y H2→wpAny (model X.prog X.w) X.A (f v u) Q X.xe s2) :
  wpAny (model X.prog X.w) X.A (eval a X.env) (fun v s₁=>wpAny (model X.prog X.w) X.A (eval b X.env) (fun u s₂=>wpAny (model X.prog X.w) X.A (f v u) Q X.xe s₂) X.xe s₁) X.xe s:=by
 refine thn (ha pins s σ H _ I h) fun v s1 z0=>?_
 obtain ⟨x,H1,I1,r1,q1⟩:=z0
 refine thn (hb pins s1 σ H1 _ I1 q1) fun u s2 z0=>?_
 obtain ⟨y,H2,I2,r2,q2⟩:=z0
 exact hf v u s2 x y H2 I2 r1 r2 q2
theorem aac {op:Operator} {r:R2} (ho:OpR X (binaryOp op) r) (ha:PE X a ta) (hb:PE X b tb):PE X (.BinOp a op b pos) (tOp r ta tb):=by
 intro pins s σ H Q I h
 exact wpAny_BinOp (afl ha hb I h fun v u s2 x y H2 I2 rx ry q=>ho pins s2 σ H2 x y v u Q I2 rx ry q)
theorem ac7 {op:UnaryOp} {r:V→Hp→VK→Prop} (ho:UnR X (unaryOp op) r) (ha:PE X a ta):PE X (.UnaryOp op a pos) (tUn r ta):=by
 intro pins s σ H Q I h
 exact UnaryOp_ (thn (ha pins s σ H _ I h) fun v s1 z7=>by obtain ⟨x,H1,I1,r1,q1⟩:=z7; exact ho pins s1 σ H1 x v Q I1 r1 q1)
theorem opI {f:Value→Value→Sem Value} {C:Int→Int→Prop} {g:Int→Int→Int}
  (rule:∀ (i j:Int) (t u:Tok) (s:Shared) (Q:Value→Shared→Prop) (E:Value→Shared→Prop),C i j→Q (.int (g i j) s.toks) { s with toks:=s.toks+1 }→wpAny (model X.prog X.w) X.A (f (.int i t) (.int j u)) Q E s) :
  OpR X f (rI C fun i j=>.int (g i j)):=by
 intro pins s σ H x y v u Q I rx ry h
 obtain ⟨i,j,rfl,rfl,hc,q⟩:=h
 obtain ⟨t,rfl⟩:=rx
 obtain ⟨t',rfl⟩:=ry
 exact rule i j t t' s _ _ hc ⟨.int (g i j),H,I.tok _,⟨_,rfl⟩,q⟩
theorem ag9 {f:Value→Value→Sem Value} {g:Int→Int→Int}
  (rule:∀ (i j:Int) (t u:Tok) (s:Shared) (Q:Value→Shared→Prop) (E:Value→Shared→Prop),Q (.int (g i j) s.toks) { s with toks:=s.toks+1 }→wpAny (model X.prog X.w) X.A (f (.int i t) (.int j u)) Q E s) :
  OpR X f (rI0 fun i j=>.int (g i j)):=by
 intro pins s σ H x y v u Q I rx ry h
 obtain ⟨i,j,rfl,rfl,q⟩:=h
 obtain ⟨t,rfl⟩:=rx
 obtain ⟨t',rfl⟩:=ry
 exact rule i j t t' s _ _ ⟨.int (g i j),H,I.tok _,⟨_,rfl⟩,q⟩
theorem ag0 {f:Value→Value→Sem Value} {g:Int→Int→Bool}
  (rule:∀ (i j:Int) (t u:Tok) (s:Shared) (Q:Value→Shared→Prop) (E:Value→Shared→Prop),Q (.bool (g i j)) s→wpAny (model X.prog X.w) X.A (f (.int i t) (.int j u)) Q E s) :
  OpR X f (rI0 fun i j=>.bl (g i j)):=by
 intro pins s σ H x y v u Q I rx ry h
 obtain ⟨i,j,rfl,rfl,q⟩:=h
 obtain ⟨t,rfl⟩:=rx
 obtain ⟨t',rfl⟩:=ry
 exact rule i j t t' s _ _ ⟨.bl (g i j),H,I,rfl,q⟩
def agu (i j:Int):Prop:=0≤j∧j≤1000000∧i.natAbs<2 ^ 64
def afb (i j:Int):Prop:=(-(2 ^ 64)<i∧i<2 ^ 64)∨(-(2 ^ 64)<j∧j<2 ^ 64)
theorem afb.ok {i j:Int} (h:afb i j):IntMulOk i j:=by
 rcases h with ⟨h1,h2⟩ | ⟨h1,h2⟩
 ·exact .of_left (intBits_le_64 h1 h2)
 ·exact .of_right (intBits_le_64 h1 h2)
theorem abl:OpR X (binaryOp .Add) (rI0 fun i j=>.int (i+j)):=ag9 fun _ _ _ _ _ _ _ q=>add_int q
theorem aak:OpR X (binaryOp .Sub) (rI0 fun i j=>.int (i - j)):=ag9 fun _ _ _ _ _ _ _ q=>sub_int q
theorem aai:OpR X (binaryOp .Mult) (rI afb fun i j=>.int (i * j)):=opI fun _ _ _ _ _ _ _ hc q=>mul_int q hc.ok
theorem aao:OpR X (binaryOp .Mod) (rI (fun _ j=>0<j) fun i j=>.int (i%j)):=opI fun i j _ _ _ _ _ hc q=>by
 have h1:(0:Int)<j:=hc
 exact mod_int' (by omega) (by rw [Int.fmod_eq_emod_of_nonneg i (by omega)]; exact q)
theorem ac8:OpR X (binaryOp .Pow) (rI agu fun i j=>.int (i ^ j.toNat)):=opI fun _ _ _ _ _ _ _ hc q=>pow_int_small hc.1 hc.2.1 hc.2.2 q
theorem unI {f:Value→Sem Value} {g:Int→Int}
  (rule:∀ (i:Int) (t:Tok) (s:Shared) (Q:Value→Shared→Prop) (E:Value→Shared→Prop),Q (.int (g i) s.toks) { s with toks:=s.toks+1 }→wpAny (model X.prog X.w) X.A (f (.int i t)) Q E s) :
  UnR X f (rU fun i=>.int (g i)):=by
 intro pins s σ H x v Q I rx h
 obtain ⟨i,rfl,q⟩:=h
 obtain ⟨t,rfl⟩:=rx
 exact rule i t s _ _ ⟨.int (g i),H,I.tok _,⟨_,rfl⟩,q⟩
theorem a6f:UnR X (unaryOp .USub) (rU fun i=>.int (-i)):=unI fun _ _ _ _ _ q=>neg_int q
end
section
variable {X:Cx} {a b c:Expr} {ta tb tc:TE} {pos:Pos}
theorem aay {pins:List (Addr × Obj)} {σ:St} {H:Hp} {s:Shared} {Q:VK} {k k':Bool} (I:Inv X pins σ H s) (q:Q (.bl k) H) (e:k=k'):EP X pins σ Q (.bool k') s:=by
 subst e
 exact ⟨.bl k,H,I,rfl,q⟩
theorem afi:OpR X (compareOp .Lt) (rI0 fun i j=>.bl (decide (i<j))):=ag0 fun _ _ _ _ _ _ _ q=>lt_int q
theorem ae1:OpR X (compareOp .LtE) (rI0 fun i j=>.bl (decide (i≤j))):=ag0 fun _ _ _ _ _ _ _ q=>le_int q
theorem aep:OpR X (compareOp .Gt) (rI0 fun i j=>.bl (decide (j<i))):=ag0 fun _ _ _ _ _ _ _ q=>gt_int q
theorem aad:OpR X (compareOp .Is) (fun x y H Q=>y=.non∧Q (.bl (decide (x=.non))) H):=by
 intro pins s σ H x y v u Q I rx ry h
 obtain ⟨rfl,q⟩:=h
 cases ry
 refine is_none_gen (aay I q ?_)
 cases x <;> first
  | (cases rx; rfl)
  | (obtain ⟨t,rfl⟩:=rx; rfl)
theorem OpR.or {f:Value→Value→Sem Value} {r r':R2} (h:OpR X f r) (h':OpR X f r'):OpR X f (fun x y H Q=>r x y H Q∨r' x y H Q):=by
 intro pins s σ H x y v u Q I rx ry q
 rcases q with q | q
 ·exact h pins s σ H x y v u Q I rx ry q
 ·exact h' pins s σ H x y v u Q I rx ry q
theorem j7 (b:Expr) {op:CmpOp} (h:op≠.In:=by decide) (h2:op≠.NotIn:=by decide):behindInMarks op b=false:=by
 have e1:(op==CmpOp.In)=false:=by cases op <;> first | rfl | exact absurd rfl h
 have e2:(op==CmpOp.NotIn)=false:=by cases op <;> first | rfl | exact absurd rfl h2
 cases b <;> simp [behindInMarks,e1,e2]
theorem a9f {op:CmpOp} {r:R2} (ho:OpR X (compareOp op) r) (ha:PE X a ta) (hb:PE X b tb) (hm:behindInMarks op b=false):PE X (.Compare a [op] [b] pos) (tOp r ta tb):=by
 intro pins s σ H Q I h
 exact wpAny_Compare1 (afl ha hb I h fun v u s2 x y H2 I2 rx ry q=>ho pins s2 σ H2 x y v u Q I2 rx ry q) hm
def abg (t:TE):TT:=fun σ H Q=>t σ H fun x H'=>∃ k,x=.bl k∧Q k H'
theorem a84 {op:CmpOp} {r:R2} (ho:OpR X (compareOp op) r) (ha:PE X a ta) (hb:PE X b tb) (hm:behindInMarks op b=false):PT X (.Compare a [op] [b] pos) (abg (tOp r ta tb)):=by
 intro pins s σ H Q I h
 refine wpAny_isTrue_Compare1 (thn (ha pins s σ H _ I h) fun v s1 ⟨x,H1,I1,r1,q1⟩=>thn (hb pins s1 σ H1 _ I1 q1) fun u s2 ⟨y,H2,I2,r2,q2⟩ =>
  thn (ho pins s2 σ H2 x y v u _ I2 r1 r2 q2) fun c s3 ⟨z,H3,I3,r3,k,e,q3⟩=>?_) hm
 subst e
 cases r3
 exact wpAny_truthy_bool ⟨H3,I3,q3⟩
theorem Px:(sizeLine:Nat)<2 ^ 63:=by rw [sizeLine_eq]; decide
theorem X3:OpR X (binaryOp .Add) (fun x y H Q=>∃ i j,x=.str i∧y=.str j∧i.length+j.length≤sizeLine∧Q (.str (i++j)) H):=by
 intro pins s σ H x y v u Q I rx ry h
 obtain ⟨i,j,rfl,rfl,hz,q⟩:=h
 obtain ⟨t,rfl⟩:=rx
 obtain ⟨t',rfl⟩:=ry
 exact add_str (fun t' tk=>⟨.str (i++j),H,I.tok _,⟨_,rfl⟩,q⟩) hz
theorem vals1 {x:V} {us:List Value} (r:Vals [x] us):∃ u,us=[u]∧RelV x u:=by
 cases r with
 | cons r1 r2=>cases r2; exact ⟨_,rfl,r1⟩
theorem a3t:Df X (.builtin "abs") (fun xs H Q=>∃ i,xs=[.int i]∧Q (.int (if i<0 then -i else i)) H):=by
 intro pins s σ H xs us Q I r h
 obtain ⟨i,rfl,q⟩:=h
 obtain ⟨u,rfl,t,rfl⟩:=vals1 r
 exact call_abs_int fun u tk=>⟨.int (if i<0 then -i else i),H,I.tok _,⟨_,rfl⟩,q⟩
theorem Qe:Df X (.type "int") (fun xs H Q=>(∃ i,xs=[.int i]∧Q (.int i) H)∨∃ k,xs=[.bl k]∧Q (.int (if k then 1 else 0)) H):=by
 intro pins s σ H xs us Q I r h
 rcases h with ⟨i,rfl,q⟩ | ⟨k,rfl,q⟩
 ·obtain ⟨u,rfl,t,rfl⟩:=vals1 r
  exact call_int_int ⟨.int i,H,I,⟨_,rfl⟩,q⟩
 ·obtain ⟨u,rfl,r1⟩:=vals1 r
  cases r1
  exact call_int_bool ⟨.int (if k then 1 else 0),H,I.tok _,⟨_,rfl⟩,q⟩
end
end L2
namespace L2
open PySem PySem.Spec PyProof.Rows
structure afw (h:Heap) (x dx C:Addr) (mA:Str→Option Value):Prop where
 obj:h.get? x=some (PySem.W.instObj C dx)
 ns:h.Ns1 dx mA
 ne:dx≠x
theorem a1f {h:Heap} {dx:Addr} {mA:Str→Option Value} (n:h.Ns1 dx mA):∃ od,h.get? dx=some od∧∀ name,PySem.W.lookIn name od=some (mA name):=by
 obtain ⟨o,es,ep,ho,hd,hk,_,hm⟩:=n
 refine ⟨o,ho,fun name=>?_⟩
 have e:=hm name
 unfold nsFind findBy at e
 rw [← Array.find?_toList] at e
 unfold PySem.W.lookIn
 rw [hd]
 dsimp only
 split
 ·rename_i y q
  rw [q] at e
  exact congrArg some e
 ·rename_i q
  rw [q] at e
  have a:es.toList.any (·.refKey)=false:=by
   rw [List.any_eq_false]
   intro y hy
   obtain ⟨z,t,hkey⟩:=hk y (Array.mem_toList_iff.mp hy)
   simp [DictEntry.refKey,hkey]
  have a':¬ es.toList.any (·.refKey)=true:=by rw [a]; exact Bool.false_ne_true
  rw [if_neg a']
  exact congrArg some e
theorem afw.look {h:Heap} {x dx C:Addr} {mA:Str→Option Value} (I:afw h x dx C mA):∃ od,PySem.W.InstAt h x (PySem.W.instObj C dx) C (some od)∧∀ name,PySem.W.lookIn name od=some (mA name) :=
 let ⟨od,ho,hl⟩:=a1f I.ns
 ⟨od,⟨I.obj,rfl,rfl,ho⟩,hl⟩
section
variable {prog:Program} {w:World} {A:Around} {E:Value→Shared→Prop} {s:Shared} {K:PySem.W.Frag} {x dx C f:Addr} {mA:Str→Option Value} {name:Str} {v:Value}
end
theorem Rm.some_of {v:V} {o:Option Value} (r:Rm (some v) o):∃ u,o=some u∧RelV v u:=by
 cases o with
 | none=>exact (show False from r).elim
 | some u=>exact ⟨u,rfl,r⟩
theorem Rm.none_of {o:Option Value} (r:Rm none o):o=none:=by
 cases o with
 | none=>rfl
 | some u=>exact (show False from r).elim
section
variable {P:Program} {w:World} {H H':Hp} {h h':Heap} {a C dx:Addr} {fs fs':List (Str × V)}
theorem a8q (hok:HOk P w H h) (e:H a=some (.ins C dx fs)):∃ mA,afw h a dx C mA∧(∀ f,Rm (fs.lookup f) (mA f))∧PySem.Within mA (fs.map (·.1))∧fs.length≤1000∧H dx=some (.own a):=by
 obtain ⟨d,z,ne,ob,mA,n,r,q⟩:=(show xu P w H h a (.ins C dx fs) from hok a _ e)
 exact ⟨mA,⟨ob,n,ne⟩,r,q,z,d⟩
end
structure Cls (K:PySem.W.Frag) (C:Addr):Prop where
 pg:PySem.W.plainGet K C Str.empty=true
 hd:PySem.W.hasDictIn K C=true
 po:PySem.W.plainOver K C=true
 sa:PySem.W.findIn K (.ref C) "__setattr__" = some (some (.builtin "object.__setattr__"))
theorem Cls.get {K:PySem.W.Frag} {C:Addr} (c:Cls K C) (f:Str):PySem.W.plainGet K C f=true:=c.pg
structure Con (K:PySem.W.Frag) (C:Addr) (f:Str) (v:V) (u:Value):Prop where
 at_:PySem.W.findIn K (.ref C) f=some (some u)
 rel:RelV v u
 get:PySem.W.specialIn K u "__get__" = some none
 cp:PySem.W.copiedNames.contains f=false
structure Meth (K:PySem.W.Frag) (C:Addr) (m:Str) (f:Addr):Prop where
 at_:PySem.W.findIn K (.ref C) m=some (some (.ref f))
 fn:PySem.W.isFn K (.ref f)=true
 kp:PySem.W.keepIn K (.ref f)=true
section
variable {X:Cx} {pins:List (Addr × Obj)} {σ:St} {H:Hp} {s:Shared} {a C dx:Addr} {fs:List (Str × V)} {f:Str} {v:V} {A:Around} {E:Value→Shared→Prop}
end
section
variable {X:Cx} {o e value:Expr} {f:Str} {pos pos' tpos:Pos} {ta tv:TE}
end
section
variable {X:Cx} {pins:List (Addr × Obj)} {σ:St} {H:Hp} {s:Shared} {A:Around} {E:Value→Shared→Prop} {Q:Value→Shared→Prop} {c:Value} {b:Bool}
inductive Y4 (K:PySem.W.Frag) (H:Hp):V→Value→Prop where
 | non:Y4 K H .non (.type "NoneType")
 | bl (x:Bool):Y4 K H (.bl x) (.type "bool")
 | int (i:Int):Y4 K H (.int i) (.type "int")
 | str (x:Str):Y4 K H (.str x) (.type "str")
 | flt (x:UInt64):Y4 K H (.flt x) (.type "float")
 | lst {a:Addr} {xs:List V} (e:H a=some (.lst xs)):Y4 K H (.ref a) (.type "list")
 | frz {a:Addr} {o:Obj} {xs:List V} (e:H a=some (.frz o (.lst xs))):Y4 K H (.ref a) (.type "list")
 | tup {a:Addr} {xs:List V} (e:H a=some (.tup xs)):Y4 K H (.ref a) (.type "tuple")
 | dK {a:Addr} {kvs:List (Key × V)} (e:H a=some (.dK kvs)):Y4 K H (.ref a) (.type "dict")
 | dT {a:Addr} {kvs:List (List Key × V)} (e:H a=some (.dT kvs)):Y4 K H (.ref a) (.type "dict")
 | ins {a C dx:Addr} {fs:List (Str × V)} (e:H a=some (.ins C dx fs)) (cl:Cls K C) (ha:PySem.W.findIn K (.ref C) "__class__" = some (some (.builtin "object.__class__")))
   (hn:PySem.W.specialIn K (.builtin "object.__class__") "__get__" = some (some (.builtin "getset_descriptor.__get__"))) (htk:PySem.W.takesIn K (.builtin "object.__class__")=some true)
   (hm:PySem.W.mroIn K C (.type "object")=some true):Y4 K H (.ref a) (.ref C)
theorem Ga {x:V} {u t:Value} (I:Inv X pins σ H s) (rx:RelV x u) (ty:Y4 X.K H x t) (e:PySem.W.kitOne X.K t c=some b) (h:∀ tk,Q (.bool b) { s with toks:=tk }) :
  wpAny (model X.prog X.w) A (call (.builtin "isinstance") [u,c]) Q E s:=by
 cases ty with
 | non=>cases (show u=Value.none from rx); exact PySem.W.kia_one PySem.W.kitx_none I.kIn True.intro e (fun z=>nomatch z) h
 | bl y=>cases (show u=Value.bool y from rx); exact PySem.W.kia_one PySem.W.kitx_bool I.kIn True.intro e (fun z=>nomatch z) h
 | int i=>obtain ⟨t,q⟩:=(show ∃ t,u=Value.int i t from rx); cases q; exact PySem.W.kia_one PySem.W.kitx_int I.kIn True.intro e (fun z=>nomatch z) h
 | str y=>obtain ⟨t,q⟩:=(show ∃ t,u=Value.str y t from rx); cases q; exact PySem.W.kia_one PySem.W.kitx_str I.kIn True.intro e (fun z=>nomatch z) h
 | flt y=>obtain ⟨t,q⟩:=(show ∃ t,u=Value.float y t from rx); cases q; exact PySem.W.kia_one PySem.W.kitx_float I.kIn True.intro e (fun z=>nomatch z) h
 | @lst a xs ea =>
  cases (show u=Value.ref a from rx)
  obtain ⟨_,_,n,_,h1⟩:=(show xu X.prog X.w H s.heap a (.lst xs) from I.hok a _ ea)
  exact PySem.W.kia_one PySem.W.kitx_list I.kIn ⟨_,h1,rfl⟩ e (fun z=>nomatch z) h
 | @frz a ob xs ea =>
  cases (show u=Value.ref a from rx)
  obtain ⟨_,_,_,n,_,h1⟩:=(show xu X.prog X.w H s.heap a (.frz ob (.lst xs)) from I.hok a _ ea)
  exact PySem.W.kia_one PySem.W.kitx_list I.kIn ⟨_,h1,rfl⟩ e (fun z=>nomatch z) h
 | @tup a xs ea =>
  cases (show u=Value.ref a from rx)
  obtain ⟨_,_,_,p⟩:=(show xu X.prog X.w H s.heap a (.tup xs) from I.hok a _ ea)
  obtain ⟨o,h1,h2,_⟩:=p
  exact PySem.W.kia_one PySem.W.kitx_tuple I.kIn ⟨o,h1,h2⟩ e (fun z=>nomatch z) h
 | @dK a kvs ea =>
  cases (show u=Value.ref a from rx)
  obtain ⟨_,_,vs,_,p⟩:=(show xu X.prog X.w H s.heap a (.dK kvs) from I.hok a _ ea)
  obtain ⟨o,es,ep,h1,h2,_⟩:=p
  exact PySem.W.kia_one PySem.W.kitx_dict I.kIn ⟨o,h1,h2.1⟩ e (fun z=>nomatch z) h
 | @dT a kvs ea =>
  cases (show u=Value.ref a from rx)
  obtain ⟨_,_,xs,_,o,es,ep,h1,h2,_⟩:=(show xu X.prog X.w H s.heap a (.dT kvs) from I.hok a _ ea)
  exact PySem.W.kia_one PySem.W.kitx_dict I.kIn ⟨o,h1,h2.1⟩ e (fun z=>nomatch z) h
 | @ins a C dx fs ea cl ha hn htk hm =>
  cases (show u=Value.ref a from rx)
  obtain ⟨mA,O,_⟩:=a8q I.hok ea
  obtain ⟨od,J,_⟩:=O.look
  exact PySem.W.kia_one (PySem.W.kitx_own (cl.get _) cl.hd ha hn htk hm) I.kIn J e (fun z=>nomatch z) h
end
end L2
namespace L2
open PySem PySem.Spec PyProof.Rows
structure Lq (k:Nat) (A:Around):Prop where
 hd:A.handled=none
 dp:A.depth+3 * k+5<recursionLimit
 un:A.units+16 * k+200<cLine
theorem Lq.mono {j k:Nat} {A:Around} (r:Lq k A) (h:j≤k):Lq j A:=⟨r.hd,by have:=r.dp; omega,by have:=r.un; omega⟩
theorem Lq.deeper {k:Nat} {A:Around} (r:Lq (k+1) A) (env:Env):Lq k (A.deeper env) :=
 ⟨r.hd,by have:=r.dp; show A.depth+1+3 * k+5<_; omega,by have:=r.un; show A.units+3+16 * k+200<_; omega⟩
theorem Lq.depth {k:Nat} {A:Around} (r:Lq k A):A.depth<recursionLimit:=by have:=r.dp; omega
theorem Lq.units {k:Nat} {A:Around} (r:Lq k A):A.units+64<cLine:=by have:=r.un; omega
def a82:TA:=fun _ H Q=>Q [] H
def Ju (ta:TE) (tr:TA):TA:=fun σ H Q=>ta σ H fun x H1=>tr σ H1 fun xs H2=>Q (x::xs) H2
section
variable {X:Cx} {e:Expr} {es:List Expr} {te:TE} {t:TA} {pos:Pos}
theorem ux:PA X [] a82:=fun _ _ _ _ H Q I h=>Calls.spliced_nil ⟨[],H,I,.nil,h⟩
theorem nu (ha:PE X e te) (hr:PA X es t) (hs:starEach (e::es) X.env=(false,eval e X.env)::starEach es X.env:=by rfl):PA X (e::es) (Ju te t):=by
 intro pos pins s σ H Q I h
 rw [hs]
 show wpAny _ _ (spliced ((false,eval e X.env)::backTo pos (starEach es X.env))) _ _ s
 refine Calls.spliced_cons (thn (ha pins s σ H _ I h) fun u s1 z0=>?_)
 obtain ⟨x,H1,I1,r1,q1⟩:=z0
 exact thn (hr pos pins s1 σ H1 _ I1 q1) fun us s2 ⟨xs,H2,I2,r2,q2⟩=>⟨x::xs,H2,I2,.cons r1 r2,q2⟩
def agz (t:TA):TE:=fun σ H Q=>t σ H fun xs H1=>xs.length≤sizeLine∧∀ p,H1 p=none→Q (.ref p) (upd H1 p (.tup xs))
def agp (t:TA):TE:=fun σ H Q=>t σ H fun xs H1=>xs.length≤sizeLine∧∀ p,H1 p=none→Q (.ref p) (upd H1 p (.lst xs))
theorem aaq {x1} (h:PA X es t):PE X (.Tuple es x1 pos) (agz t):=by
 intro pins s σ H Q I hq
 refine wpAny_Tuple_spliced (thn (h pos pins s σ H _ I hq) fun us s1 ⟨xs,H1,I1,r,z,q⟩=>⟨by rw [← r.length]; exact z,?_⟩)
 have hf:H1 s1.heap.objs.size=none:=I1.hok.fresh (Nat.le_refl _)
 refine ⟨.ref s1.heap.objs.size,upd H1 s1.heap.objs.size (.tup xs),I1.laid (t':=s1.toks) (fun b u e=>Heap.get?_push_of_some _ e) (Nat.le_refl _) ?_,rfl,q _ hf⟩
 exact ⟨z,us,r,⟨_,Heap.get?_push_size _ rfl,rfl,rfl,_,rfl⟩⟩
theorem a78 (h:PA X es t):PE X (.List es pos) (agp t):=by
 intro pins s σ H Q I hq
 refine wpAny_List_spliced (thn (h pos pins s σ H _ I hq) fun us s1 ⟨xs,H1,I1,r,z,q⟩=>⟨by rw [← r.length]; exact z,?_⟩)
 have hf:H1 s1.heap.objs.size=none:=I1.hok.fresh (Nat.le_refl _)
 refine ⟨.ref s1.heap.objs.size,upd H1 s1.heap.objs.size (.lst xs),I1.laid (t':=s1.toks) (fun b u e=>Heap.get?_push_of_some _ e) (Nat.le_refl _) ?_,rfl,q _ hf⟩
 exact ⟨z,us,0,r,Heap.get?_push_size _ rfl⟩
end
abbrev Sp:=List V→Hp→VK→XK→Prop
abbrev CXT:=List Env→Hp→Shared→XK→Value→Shared→Prop
structure adh (P:Program) (w:World) (K:PySem.W.Frag) (mg:Str→Option Value) (base:Heap) (A:Around) (outer:List Env) (s:Shared) (H:Hp):Prop where
 frames:A.frames=some outer
 mod:Mod K mg base
 bs:∀ b o,base.get? b=some o→s.heap.get? b=some o∧H b=none
 bsz:base.objs.size≤s.heap.objs.size
 Y0:s.heap.FunFrames base outer
 frf:∀ b∈frs outer,H b=none
 hok:HOk P w H s.heap
 bare:AllBare s.gens
def CE (outer:List Env) (P:Program) (w:World) (H:Hp) (s:Shared) (Q:VK) (u:Value) (s':Shared):Prop :=
 ∃ v H',s'.os=s.os∧AllBare s'.gens∧Un (frs outer) [] H H' s.heap s'.heap∧HOk P w H' s'.heap∧RelV v u∧Q v H'
def CR (CX:CXT) (outer:List Env) (P:Program) (w:World) (H:Hp) (s:Shared) (Q:VK) (E:XK) (r:Result) (s':Shared):Prop :=
 match r with
 | .ok (.ret u)=>CE outer P w H s Q u s'
 | .ok _=>False
 | .error e=>CX outer H s E e s'
structure Nj (P:Program) (w:World) (K:PySem.W.Frag) (mg:Str→Option Value) (base:Heap) (CX:CXT) (k:Nat) (f:Addr) (fd:FuncData) (ps:List Str) (sp:Sp):Prop where
 len:∀ vs H Q E,sp vs H Q E→vs.length=ps.length
 run:∀ (A:Around) (outer:List Env) (s:Shared) (H:Hp) (args:Args) (us:List Value) (vs:List V) (Q:VK) (E:XK),Lq k A→adh P w K mg base A outer s H→BindsTo s fd args (ps.zip us)→Vals vs us→sp vs H Q E →
  codeAny (model P w) A (.call (.ref f) args) (CR CX outer P w H s Q E) s
theorem Nj.mono {P:Program} {w:World} {K:PySem.W.Frag} {mg:Str→Option Value} {base:Heap} {CX:CXT} {j k:Nat} {f:Addr} {fd:FuncData} {ps:List Str} {sp:Sp} (F:Nj P w K mg base CX j f fd ps sp) (h:j≤k) :
  Nj P w K mg base CX k f fd ps sp:=⟨F.len,fun A outer s H args us vs Q E hr=>F.run A outer s H args us vs Q E (hr.mono h)⟩
theorem Nj.imp {P:Program} {w:World} {K:PySem.W.Frag} {mg:Str→Option Value} {base:Heap} {CX:CXT} {k:Nat} {f:Addr} {fd:FuncData} {ps:List Str} {sp sp':Sp} (F:Nj P w K mg base CX k f fd ps sp)
  (h:∀ vs H Q E,sp' vs H Q E→sp vs H Q E):Nj P w K mg base CX k f fd ps sp' :=
 ⟨fun vs H Q E q=>F.len vs H Q E (h _ _ _ _ q),fun A outer s H args us vs Q E hr he hb hv hs=>F.run A outer s H args us vs Q E hr he hb hv (h _ _ _ _ hs)⟩
section
variable {X:Cx} {pins:List (Addr × Obj)} {σ:St} {H:Hp} {s s':Shared}
theorem Inv.env0 (I:Inv X pins σ H s):adh X.prog X.w X.K X.mg X.base X.A X.stack s H :=
 ⟨I.ok.frames,I.ok.mod,I.bs,Nat.le_trans I.ok.bsz I.sz,I.stack,I.Y8,I.hok,I.bare⟩
theorem Inv.after {Q:VK} {u:Value} (I:Inv X pins σ H s) (h:CE X.stack X.prog X.w H s Q u s'):EP X pins σ Q u s':=by
 obtain ⟨v,H',os,bare,un,hok,r,q⟩:=h
 obtain ⟨hh,g,d,t,os'⟩:=s'
 obtain rfl:os'=s.os:=os
 exact ⟨v,H',I.call (h':=hh) (g':=g) (d':=d) (t':=t) (ch:=[]) un hok bare (fun b z=>absurd z (by simp)),r,q⟩
end
def aeg (sp:Sp) (dvs:List V) (E:XK) (t:TA):TE:=fun σ H Q=>t σ H fun vs H1=>sp (vs++dvs) H1 Q E
def Binds (K:PySem.W.Frag) (fd:FuncData) (ps:List Str) (ds:List Value):Prop :=
 ∀ (s:Shared) (us:List Value),K.In s.heap→(us++ds).length=ps.length→BindsTo s fd ⟨us,[]⟩ (ps.zip (us++ds))
theorem Binds.all {K:PySem.W.Frag} {fd:FuncData} {ps:List Str} (h:∀ us:List Value,us.length=ps.length→bindArgs fd ⟨us,[]⟩=pure (ps.zip us)):Binds K fd ps []:=fun s us _ hl=>by
 rw [List.append_nil] at hl ⊢
 exact .of_eq (h us hl)
def Passes (CX:CXT) (X:Cx) (E:XK):Prop:=∀ (pins:List (Addr × Obj)) (σ:St) (H:Hp) (s:Shared) (e:Value) (s':Shared),Inv X pins σ H s→CX X.stack H s E e s'→X.xe e s'
section
variable {X:Cx} {CX:CXT} {k:Nat} {f C:Addr} {fd:FuncData} {ps:List Str} {sp:Sp} {dvs:List V} {ds:List Value} {E:XK} {x m:Str} {p pos apos:Pos} {e o:Expr} {es:List Expr} {ta:TE} {t:TA}
theorem ad7 {pins:List (Addr × Obj)} {σ:St} {H:Hp} {s:Shared} {Q:VK} {us:List Value} {vs:List V} (F:Nj X.prog X.w X.K X.mg X.base CX k f fd ps sp) (hr:Lq k X.A) (hb:Binds X.K fd ps ds) (hd:Vals dvs ds) (hx:Passes CX X E)
  (I:Inv X pins σ H s) (r:Vals vs us) (h:sp (vs++dvs) H Q E):wpAny (model X.prog X.w) X.A (call (.ref f) us) (EP X pins σ Q) X.xe s:=by
 have r2:Vals (vs++dvs) (us++ds):=r.append hd
 have hl:(us++ds).length=ps.length:=by rw [← r2.length]; exact F.len _ _ _ _ h
 refine wpAny_call (codeAny_mono (F.run X.A X.stack s H ⟨us,[]⟩ (us++ds) (vs++dvs) Q E hr I.env0 (hb s us I.kIn hl) r2 h) fun r s' hq=>?_)
 cases r with
 | error e=>exact hx pins σ H s e s' I hq
 | ok fl =>
  cases fl with
  | ret u=>exact I.after hq
  | next=>exact False.elim hq
  | brk=>exact False.elim hq
  | cont=>exact False.elim hq
theorem a7x (F:Nj X.prog X.w X.K X.mg X.base CX k f fd ps sp) (hr:Lq k X.A) (hg:Gl X x) (hm:X.mg x=some (.ref f)) (hk:PySem.W.keepIn X.K (.ref f)=true) (hb:Binds X.K fd ps ds) (hd:Vals dvs ds) (hx:Passes CX X E)
  (ha:PA X (e::es) t) (hdb:(x==("__debug__" : Str))=false:=by decide) (he:starEach (e::es) X.env=(false,eval e X.env)::starEach es X.env:=by rfl) (hpl:(backTo pos (starEach es X.env)).any (·.1)=false:=by rfl) :
  PE X (.Call (.Name x p) (e::es) [] pos) (aeg sp dvs E t):=by
 intro pins s σ H Q I h
 refine wpAny_Call_Name_kw (a2h I hg hm ?_ hdb)
 refine PySem.W.callWith_K (h₀:=X.base) I.ok.mod.kin hk (thn (ha pos pins s σ H _ I h) fun us s1 ⟨vs,H1,I1,r,q⟩=>⟨I1.kIn,?_⟩) he hpl
 exact ad7 F hr hb hd hx I1 r q
structure Mk (K:PySem.W.Frag) (C f:Addr):Prop where
 makes:PySem.W.makesIn K C=true
 init:PySem.W.findIn K (.ref C) "__init__" = some (some (.ref f))
 fn:PySem.W.isFn K (.ref f)=true
 kp:PySem.W.keepIn K (.ref C)=true
end
section
variable {X:Cx} {CX:CXT} {k:Nat} {f C:Addr} {fd:FuncData} {ps ks:List Str} {sp:Sp} {E:XK} {x m:Str} {p pos apos kpos:Pos} {e o:Expr} {es:List Expr} {kws:List Keyword} {te ta:TE} {t tk:TA} {nm:Option Str}
structure agh (K:PySem.W.Frag) (fd:FuncData) (ps ks:List Str) (g:List Value→List Value→List Value) (gV:List V→List V→List V):Prop where
 to:∀ (s:Shared) (us ws:List Value),K.In s.heap→(g us ws).length=ps.length→BindsTo s fd ⟨us,ks.zip ws⟩ (ps.zip (g us ws))
 rel:∀ {vs:List V} {us:List Value} {zs:List V} {ws:List Value},Vals vs us→Vals zs ws→Vals (gV vs zs) (g us ws)
variable {g:List Value→List Value→List Value} {gV:List V→List V→List V}
end
structure ji (N P:List Str) (sc:Scope):Prop where
 kind:sc.kind=.function
 co:sc.isCoroutine=false
 gen:sc.isGenerator=false
 nd:N.Nodup
 pre:N.take P.length=P
 par:∀ x∈P,sc.names.lookup x=some .local∨sc.names.lookup x=some .cell
 nofree:∀ y∈sc.names,y.2≠.free
theorem Qd {kindOf:Str→Option NameKind} {x:Str}:∀ {binds:List (Str × Value)} {m:Str→Option Value},(∀ v,(x,v)∉binds)→bindL kindOf binds m x=m x
 | [],_,_=>rfl
 | (n,v)::r,m,h=>by
  unfold bindL
  rw [Qd fun w hw=>h w (List.mem_cons_of_mem _ hw)]
  split
  ·have:x≠n:=by rintro rfl; exact h v List.mem_cons_self
   simp [this]
  ·rfl
theorem Rf {kindOf:Str→Option NameKind} {x:Str}:∀ {binds:List (Str × Value)} {m:Str→Option Value},(∀ v,(x,v)∉binds)→bindC kindOf binds m x=m x
 | [],_,_=>rfl
 | (n,v)::r,m,h=>by
  unfold bindC
  rw [Rf fun w hw=>h w (List.mem_cons_of_mem _ hw)]
  split
  ·rfl
  ·have:x≠n:=by rintro rfl; exact h v List.mem_cons_self
   simp [this]
theorem Oz {kindOf:Str→Option NameKind} {x:Str} {v:Value}:∀ {P:List Str} {vs:List Value} {i:Nat} {m:Str→Option Value},P.Nodup→P[i]? = some x→vs[i]? = some v→kindOf x=some .local →
  bindL kindOf (P.zip vs) m x=some v
 | [],_,_,_,_,h,_,_=>by simp at h
 | _::_,[],_,_,_,_,h,_=>by simp at h
 | p::P,w::vs,0,m,nd,h1,h2,hk=>by
  simp at h1 h2; subst h1; subst h2
  show bindL kindOf ((p,w)::P.zip vs) m p=_
  unfold bindL
  rw [Qd fun v hv=>(List.nodup_cons.mp nd).1 (List.of_mem_zip hv).1,if_pos hk]
  simp
 | p::P,w::vs,i+1,m,nd,h1,h2,hk=>by
  show bindL kindOf ((p,w)::P.zip vs) m x=_
  unfold bindL
  exact Oz (i:=i) (List.nodup_cons.mp nd).2 (by simpa using h1) (by simpa using h2) hk
theorem Rb {kindOf:Str→Option NameKind} {x:Str} {v:Value}:∀ {P:List Str} {vs:List Value} {i:Nat} {m:Str→Option Value},P.Nodup→P[i]? = some x→vs[i]? = some v→kindOf x≠some .local →
  bindC kindOf (P.zip vs) m x=some v
 | [],_,_,_,_,h,_,_=>by simp at h
 | _::_,[],_,_,_,_,h,_=>by simp at h
 | p::P,w::vs,0,m,nd,h1,h2,hk=>by
  simp at h1 h2; subst h1; subst h2
  show bindC kindOf ((p,w)::P.zip vs) m p=_
  unfold bindC
  rw [Rf fun v hv=>(List.nodup_cons.mp nd).1 (List.of_mem_zip hv).1,if_neg hk]
  simp
 | p::P,w::vs,i+1,m,nd,h1,h2,hk=>by
  show bindC kindOf ((p,w)::P.zip vs) m x=_
  unfold bindC
  exact Rb (i:=i) (List.nodup_cons.mp nd).2 (by simpa using h1) (by simpa using h2) hk
def start (N:List Str) (vs:List V):St:=vs.map some++List.replicate (N.length - vs.length) none
def a8m (CX:CXT) (P:Program) (w:World) (K:PySem.W.Frag) (mg:Str→Option Value) (base:Heap) (N:List Str) (qual:Str) (scope:Scope) (f:Addr) (cd:Value) (A:Around) (outer:List Env) (s:Shared) (H:Hp) (E:XK):Cx where
 prog:=P
 w:=w
 K:=K
 mg:=mg
 base:=base
 A:=A.deeper (envOfC qual scope s.heap.objs.size f cd)
 N:=N
 s₀:=s
 H₀:=H
 env:=envOfC qual scope s.heap.objs.size f cd
 outer:=outer
 stack:=envOfC qual scope s.heap.objs.size f cd::outer
 ex:=[]
 calm:=true
 fn:=fun _=>true
 pn:=[]
 xe:=fun e s'=>wpAny (model P w) (A.deeper (envOfC qual scope s.heap.objs.size f cd)) (leaving (envOfC qual scope s.heap.objs.size f cd) e) (fun _ s''=>CX outer H s E e s'') (fun e' s''=>CX outer H s E e' s'') s'
theorem V9 {sc:Scope} {n:Nat} {x:Str} (h:sc.names.lookup x=some .cell):∃ c,(cellsFrom n sc.names []).lookup x=some c:=by
 have q:=PySem.W.cellsFrom_some sc.names n [] (.inl h)
 exact Option.isSome_iff_exists.mp q
theorem a02 {CX:CXT} {P:Program} {w:World} {K:PySem.W.Frag} {mg:Str→Option Value} {base:Heap} {N ps:List Str} {qual:Str} {scope:Scope} {f:Addr} {cd:Value} {A:Around} {outer:List Env} {s s1:Shared} {H:Hp} {E:XK} {us:List Value} {vs:List V}
  (S:ji N ps scope) (hd:A.handled=none) (e0:adh P w K mg base A outer s H) (hl:vs.length=ps.length) (r:Vals vs us)
  (x:InCallC s s.heap.objs.size (bindL (envOfC qual scope s.heap.objs.size f cd).kindOf (ps.zip us) fun _=>none) (cellsFrom (s.heap.objs.size+1) scope.names []) (bindC (envOfC qual scope s.heap.objs.size f cd).kindOf (ps.zip us) fun _=>none) s1) :
  Inv (a8m CX P w K mg base N qual scope f cd A outer s H E) [] (start N vs) H s1:=by
 have hpl:ps.length≤N.length:=by have:=congrArg List.length S.pre; rw [List.length_take] at this; omega
 obtain ⟨h1,tk,rfl,hk⟩:=x.done
 have noA:∀ b:Addr,b∉(a8m CX P w K mg base N qual scope f cd A outer s H E).ex:=fun b z=>absurd (show b∈([]:List Addr) from z) (by simp)
 refine ⟨⟨e0.mod,S.kind,rfl,rfl,Nat.le_refl _,fun y z c h1 h2=>?_,fun y hy=>?_,fun y c _ h=>?_,fun _=>hd,Around.frames_deeper e0.frames,.inr ⟨rfl,rfl⟩,fun b z=>absurd z (noA b),e0.bs,e0.bsz,fun b _ _=>noA b,fun b z=>absurd z (noA b),e0.Y0,e0.frf⟩,
  rfl,e0.bare,Un.kept hk,⟨_,x.toInCall.ns,fun i y v h1 h2 h3=>?_⟩,fun y c h=>⟨_,x.cell y c h⟩,e0.hok.fresh (Nat.le_refl _),fun y c h=>?_,fun p hp=>absurd (show p∈([]:List (Addr × Obj)) from hp) (by simp),e0.hok.kept hk,?_⟩
 ·exact name_of_addr x.apart (PySem.mem_of_lookup h1) (PySem.mem_of_lookup h2)
 ·have hy:scope.names.lookup y=some .cell∨scope.names.lookup y=some .free:=hy
  rcases hy with hy | hy
  ·exact V9 hy
  ·exact absurd rfl (S.nofree _ (PySem.mem_of_lookup hy))
 ·exact Nat.le_of_lt (x.above y c (PySem.mem_of_lookup h))
 ·have hi:i<vs.length:=by
   unfold start at h2
   by_cases hi:i<vs.length
   ·exact hi
   ·rw [List.getElem?_append_right (by simpa using hi)] at h2
    rw [List.getElem?_replicate] at h2
    split at h2 <;> cases h2
  have ha:vs[i]? = some v:=by
   unfold start at h2
   rw [List.getElem?_append_left (by simpa using hi),List.getElem?_map] at h2
   cases e:vs[i]? with
   | none=>rw [e] at h2; cases h2
   | some a=>rw [e] at h2; cases h2; rfl
  obtain ⟨u,hu,rv⟩:=r.get ha
  have hp:ps[i]? = some y:=by
   rw [← S.pre,List.getElem?_take_of_lt (by omega)]; exact h1
  have ndP:ps.Nodup:=by rw [← S.pre]; exact S.nd.sublist (List.take_sublist _ _)
  refine ⟨u,rv,?_⟩
  rcases S.par y (List.mem_of_getElem? hp) with k | k
  ·exact .inl ⟨k,Oz ndP hp hu k⟩
  ·obtain ⟨c,e⟩:=V9 (n:=s.heap.objs.size+1) k
   refine .inr ⟨.inl k,c,e,?_⟩
   have q:=x.cell y c e
   rw [Rb ndP hp hu (by show scope.names.lookup y≠_; rw [k]; decide)] at q
   exact q
 ·exact e0.hok.fresh (Nat.le_of_lt (x.above y c (PySem.mem_of_lookup h)))
 ·unfold start
  show _=N.length
  rw [List.length_append,List.length_map,List.length_replicate]
  omega
theorem ae2 {CX:CXT} {P:Program} {w:World} {K:PySem.W.Frag} {mg:Str→Option Value} {base:Heap} {k:Nat} {f:Addr} {name qual:Str} {params:Arguments} {body:List Stmt} {scope:Scope} {dV kV doc pm cdv ct oc:Value} {an od:Option Addr}
  {osl:Array (Option Value)} {N ps:List Str} {sp:Sp} (lk:K.lookup f=some ⟨oc,od,.func (PySem.W.fnOf name qual params body scope dV kV doc pm an cdv ct),osl⟩) (hcd:PySem.W.codeIn K cdv qual=true) (S:ji N ps scope)
  (len:∀ vs H Q E,sp vs H Q E→vs.length=ps.length)
  (hbody:∀ (A:Around) (outer:List Env) (s:Shared) (H:Hp) (vs:List V) (Q:VK) (E:XK),Lq k (A.deeper (envOfC qual scope s.heap.objs.size f cdv))→sp vs H Q E →
   ∃ t,PSs (a8m CX P w K mg base N qual scope f cdv A outer s H E) body t∧t { nx:=fun _ H'=>Q .non H',rt:=Q } (start N vs) H) :
  Nj P w K mg base CX (k+1) f (PySem.W.fnOf name qual params body scope dV kV doc pm an cdv ct) ps sp:=by
 refine ⟨len,fun A outer s H args us vs Q E hr e0 hb r hsp=>?_⟩
 have hl:=len _ _ _ _ hsp
 have KX:K.In s.heap:=e0.mod.kin.keeps fun b o e=>(e0.bs b o e).1
 have lim:s.heap.NoLimit:=e0.mod.nolimit.keeps fun b o e=>(e0.bs b o e).1
 have hkind:∀ y∈ps.zip us,scope.names.lookup y.1=some .local∨(scope.names.lookup y.1=some .cell∧((cellsFrom (s.heap.objs.size+1) scope.names []).lookup y.1).isSome=true):=fun ⟨n,v⟩ hy=>by
  rcases S.par n (List.of_mem_zip hy).1 with q | q
  ·exact .inl q
  ·exact .inr ⟨q,PySem.W.cellsFrom_some _ _ _ (.inl q)⟩
 refine codeAny_call_function hr.depth (KX _ _ lk) rfl S.co S.gen rfl (PySem.W.codeRec_of KX hcd) (hb _ _ _ _ ?_)
 refine wpAny_newFunctionEnv_cells S.kind hkind fun env he s1 x=>?_
 subst he
 refine ⟨lim.keeps x.toInCall.keep,codeAny_func ?_⟩
 obtain ⟨t,ht,hq⟩:=hbody A outer s H vs Q E (hr.deeper _) hsp
 have I:Inv (a8m CX P w K mg base N qual scope f cdv A outer s H E) [] (start N vs) H s1:=a02 S hr.hd e0 hl r x
 refine wpAny_mono (ht [] s1 (start N vs) H _ I hq) (fun fl s' hs=>?_) fun e s' hs=>hs
 have fin:∀ {σ':St} {H':Hp} {v:V} {u:Value},Inv (a8m CX P w K mg base N qual scope f cdv A outer s H E) [] σ' H' s'→RelV v u→Q v H'→CE outer P w H s Q u s' :=
  fun {σ' H' v u} J rv q=>⟨v,H',J.os,J.bare,J.base,J.hok,rv,q⟩
 cases fl with
 | ret u =>
  obtain ⟨v,σ',H',J,rv,q⟩:=hs
  exact fin J rv q
 | next =>
  obtain ⟨σ',H',J,q⟩:=hs
  exact fin (v:=V.non) (u:=Value.none) J rfl q
 | brk =>
  obtain ⟨_,_,_,q⟩:=hs
  exact False.elim q
 | cont =>
  obtain ⟨_,_,_,q⟩:=hs
  exact False.elim q
end L2
namespace L2
open PySem PySem.Spec PyProof.Rows
section
variable {X:Cx} {x:Str} {p pos:Pos} {e:Expr} {es:List Expr} {t:TA} {id T:String} {r:List V→Hp→VK→Prop}
def tCB (r:List V→Hp→VK→Prop) (t:TA):TE:=fun σ H Q=>t σ H fun vs H1=>r vs H1 Q
theorem jr (hc:Df X (.builtin id) r) (hg:Gl X x) (hm:X.mg x=none) (hv:bootBuiltins x=some (.builtin id)) (ha:PA X (e::es) t) (hn:x ≠ "__name__" := by decide) (hdb:(x==("__debug__" : Str))=false:=by decide)
  (he:starEach (e::es) X.env=(false,eval e X.env)::starEach es X.env:=by rfl) (hpl:(backTo pos (starEach es X.env)).any (·.1)=false:=by rfl):PE X (.Call (.Name x p) (e::es) [] pos) (tCB r t):=by
 intro pins s σ H Q I h
 refine wpAny_Call_Name_kw (Ku I hg hm hv ?_ hn hdb)
 exact PyProof.Rows.callWith_builtin1 (thn (ha pos pins s σ H _ I h) fun us s1 z7=>by obtain ⟨vs,H1,I1,r1,q1⟩:=z7; exact hc pins s1 σ H1 vs us Q I1 r1 q1) he hpl
theorem mq (hc:Df X (.type T) r) (hg:Gl X x) (hm:X.mg x=none) (hv:bootBuiltins x=some (.type T)) (ha:PA X (e::es) t) (hn:x ≠ "__name__" := by decide) (hdb:(x==("__debug__" : Str))=false:=by decide)
  (he:starEach (e::es) X.env=(false,eval e X.env)::starEach es X.env:=by rfl) (hpl:(backTo pos (starEach es X.env)).any (·.1)=false:=by rfl):PE X (.Call (.Name x p) (e::es) [] pos) (tCB r t):=by
 intro pins s σ H Q I h
 refine wpAny_Call_Name_kw (Ku I hg hm hv ?_ hn hdb)
 exact PyProof.Rows.callWith_type1 (thn (ha pos pins s σ H _ I h) fun us s1 z7=>by obtain ⟨vs,H1,I1,r1,q1⟩:=z7; exact hc pins s1 σ H1 vs us Q I1 r1 q1) he hpl
end
end L2
end
section
namespace HT
open PySem PyProof.Rows
section
open PySem.SeqAt
open PySem.AutoSeq1 (wpAny_loadPart')
open PySem.MeetsSeq PySem.MeetsSeq2 PySem.MeetsSeq3
end
section
variable {prog:Program} {w:World} {A:Around} {E:Value→Shared→Prop} {s:Shared}
theorem a91 {t b:Addr} {vs ws:List Value} {Q:Value→Shared→Prop} (ht:IsTup s.heap t vs.toArray) (hb:IsTup s.heap b ws.toArray) (hv:vs≠[])
  (h1:ws=[]→Q (.ref t) s) (h2:ws≠[]→Q (.ref s.heap.objs.size) { s with heap:=s.heap.push { cls:=.type "tuple",data:=.seq (vs++ws).toArray } })
  (hsz:vs.length+ws.length≤sizeLine):wpAny (model prog w) A (binaryOp .Add (.ref t) (.ref b)) Q E s:=by
 obtain ⟨⟨cls,dd,data,sl⟩,ho,hc,n,hd⟩:=id ht
 obtain ⟨⟨cls2,dd2,data2,sl2⟩,ho2,hc2,n2,hd2⟩:=id hb
 simp only at hc hd hc2 hd2
 subst hc hd hc2 hd2
 have e:vs.toArray++ws.toArray=(vs++ws).toArray:=by simp
 by_cases hw:ws=[]
 ·exact concat_meets ⟨_,ho,rfl⟩ ⟨_,ho2,rfl⟩ noFill_tuple_add seq_tuple_add PySem.F.slot_tuple_add PySem.F.entry_tuple_add (PySem.F.args_tuple_add_2 _ _)
   (tuple_addW1 t b vs.toArray ws.toArray n n2 dd dd2 sl sl2 (by simpa using hv) (by simp [hw])) ⟨ho,ho2,h1 hw⟩
 ·refine concat_meets ⟨_,ho,rfl⟩ ⟨_,ho2,rfl⟩ noFill_tuple_add seq_tuple_add PySem.F.slot_tuple_add PySem.F.entry_tuple_add (PySem.F.args_tuple_add_2 _ _)
   (tuple_addW2 t b vs.toArray ws.toArray n n2 dd dd2 sl sl2 (by simpa using hv) (by simpa using hw) (by rw [List.size_toArray,List.size_toArray]; exact hsz)) ⟨ho,ho2,?_⟩
  rw [e]
  exact h2 hw
def sIx (n d:Nat):Option Int→Nat
 | none=>d
 | some v=>if v<0 then (v+(n:Int)).toNat else min v.toNat n
theorem abf (n d:Nat) (hd:d≤n) (o:Option Int):sIx n d o≤n:=by
 cases o with
 | none=>exact hd
 | some v =>
  show (if v<0 then (v+(n:Int)).toNat else min v.toNat n)≤n
  by_cases hv:v<0
  ·rw [if_pos hv]; omega
  ·rw [if_neg hv]; exact Nat.min_le_right _ _
theorem Yt (v:Int) (n d:Nat):(if v<0 then max (v+(n:Int)) 0 else min v (n:Int))=((sIx n d (some v):Nat):Int):=by
 show (if v<0 then max (v+(n:Int)) 0 else min v (n:Int))=(((if v<0 then (v+(n:Int)).toNat else min v.toNat n):Nat):Int)
 by_cases hv:v<0
 ·simp only [if_pos hv]; omega
 ·simp only [if_neg hv]; omega
theorem X4 (lo hi:Option Int) (n:Nat):Builtin.Slice.sliceAdjust lo hi 1 (n:Int)=(((sIx n 0 lo:Nat):Int),((sIx n n hi:Nat):Int)):=by
 have h1:¬ ((1:Int)<0):=by omega
 unfold Builtin.Slice.sliceAdjust
 simp only [h1,if_false]
 refine Prod.ext ?_ ?_
 ·cases lo with
  | none=>rfl
  | some v=>exact Yt v n 0
 ·cases hi with
  | none=>rfl
  | some v=>exact Yt v n n
theorem Xf (i j:Nat):Builtin.Slice.slicePlaces (i:Int) (j:Int) 1=j - i:=by
 unfold Builtin.Slice.slicePlaces
 have h1:(1:Int) > 0:=by omega
 simp only [h1,if_true,Int.ediv_one]
 split <;> omega
theorem Bu {v:Value} {o:Option Int} {Q:Option Int→Shared→Prop} (p:IsPart v o) (h:Q o s):wpAny (model prog w) A (Builtin.Slice.slicePartIndex v) Q E s:=by
 cases p with
 | none=>exact slicePart_none h
 | int i t=>exact slicePart_int h
theorem J1 {sl:Addr} {vl vu:Value} {lo hi:Option Int} {n:Nat} {Q:Int × Int × Nat→Shared→Prop} (hs:s.heap.IsSliceOf sl vl vu .none) (pl:IsPart vl lo) (pu:IsPart vu hi)
  (h:Q (((sIx n 0 lo:Nat):Int),1,sIx n n hi - sIx n 0 lo) s):wpAny (model prog w) A (Builtin.Slice.sliceApplied (.ref sl) (pure (n:Int))) Q E s:=by
 obtain ⟨os,hos,hcs,hds⟩:=id hs
 unfold Builtin.Slice.sliceApplied Builtin.Slice.sliceFields
 refine wpAny_bind (wpAny_bind (wpAny_field hos hds (x:=vl) rfl (wpAny_bind (wpAny_field hos hds (x:=vu) rfl (wpAny_bind (wpAny_field hos hds (x:=.none) rfl (wpAny_pure ?_)))))))
 refine wpAny_bind (slicePart_none ?_)
 show wpAny _ _ (if ((1:Int)==0)=true then _ else _) _ _ s
 rw [if_neg (by decide)]
 refine wpAny_bind (Bu pl (wpAny_bind (Bu pu (wpAny_bind (wpAny_pure ?_)))))
 show wpAny _ _ (match Builtin.Slice.sliceAdjust lo hi 1 (n:Int) with | (lo,hi)=>pure (lo,(1:Int),Builtin.Slice.slicePlaces lo hi 1)) _ _ s
 rw [X4 lo hi n]
 show wpAny _ _ (pure (((sIx n 0 lo:Nat):Int),(1:Int),Builtin.Slice.slicePlaces ((sIx n 0 lo:Nat):Int) ((sIx n n hi:Nat):Int) 1)) _ _ s
 rw [Xf]
 exact wpAny_pure h
theorem a4p (xs:Array Value) (i k:Nat):((List.range k).filterMap fun (m:Nat)=>xs[((i:Int)+(m:Int) * 1).toNat]?).toArray=((xs.toList.drop i).take k).toArray:=by
 have e:(fun (m:Nat)=>xs[((i:Int)+(m:Int) * 1).toNat]?)=fun m=>xs[i+m]?:=by
  funext m
  have:((i:Int)+(m:Int) * 1).toNat=i+m:=by omega
  rw [this]
 rw [e]
 have:=pick_run xs i k
 rw [List.filterMap_map] at this
 have e2:((fun x=>xs[x]?) ∘ fun x=>i+x)=fun m=>xs[i+m]?:=rfl
 rw [e2] at this
 rw [this]
theorem Ht {t sl:Addr} {items:Array Value} {vl vu:Value} {lo hi:Option Int} {Q:Value→Shared→Prop} (ht:IsTup s.heap t items) (hs:s.heap.IsSliceOf sl vl vu .none) (pl:IsPart vl lo) (pu:IsPart vu hi)
  (hw:¬ (sIx items.size 0 lo=0∧sIx items.size items.size hi=items.size))
  (h:Q (.ref s.heap.objs.size) { s with heap:=s.heap.push { cls:=.type "tuple",data:=.seq ((items.toList.drop (sIx items.size 0 lo)).take (sIx items.size items.size hi - sIx items.size 0 lo)).toArray } })
  (hsz:items.size≤sizeLine):wpAny (model prog w) A (getItem (.ref t) (.ref sl)) Q E s:=by
 have htake:sizeOk (.seq ((items.toList.drop (sIx items.size 0 lo)).take (sIx items.size items.size hi - sIx items.size 0 lo)).toArray):=by
  show ((items.toList.drop (sIx items.size 0 lo)).take (sIx items.size items.size hi - sIx items.size 0 lo)).toArray.size≤sizeLine
  rw [List.size_toArray,List.length_take,List.length_drop,Array.length_toList]
  omega
 have hj:sIx items.size items.size hi≤items.size:=abf _ _ (Nat.le_refl _) hi
 obtain ⟨os,hos,hcs,hds⟩:=id hs
 have hTs:s.TypeIs (.ref sl) "slice" := ⟨os,hos,hcs⟩
 unfold getItem
 try with_reducible refine wpAny_holding ?_
 first | refine wpAny_bind (wpAny_pure ?_) | skip
 refine wpAny_bind (wpAny_sequenceKey ht.typeIs (by decide) ?_)
 refine wpAny_bind (wpAny_callSpecial?_slot (name:=Str.ofString "__getitem__") ht.typeIs PyProof.Rows.slot_tuple_getitem
  (wpAny_call_entry PyProof.Rows.slot_tuple_getitem ht.typeIs entry_tuple_getitem ?_ (args_tuple_getitem _ _)))
 show wpAny _ _ (Builtin.Tuple.tupleItemsOf (.ref t) >>= _) _ _ s
 refine wpAny_bind (tupleItemsOf_ ht ?_)
 refine wpAny_bind (wpAny_typeOf hTs ?_)
 rw [if_pos (by decide)]
 refine wpAny_bind (J1 hs pl pu ?_)
 have hno:¬ ((((sIx items.size 0 lo:Nat):Int)==0&&(1:Int)==1&&(sIx items.size items.size hi - sIx items.size 0 lo)==items.size)=true):=by
  intro q
  rw [Bool.and_eq_true,Bool.and_eq_true] at q
  have q1:((sIx items.size 0 lo:Nat):Int)=0:=eq_of_beq q.1.1
  have q2:sIx items.size items.size hi - sIx items.size 0 lo=items.size:=eq_of_beq q.2
  exact hw ⟨by omega,by omega⟩
 show wpAny _ _ (if (((sIx items.size 0 lo:Nat):Int)==0&&(1:Int)==1&&(sIx items.size items.size hi - sIx items.size 0 lo)==items.size)=true then _ else _) _ _ s
 rw [if_neg hno,a4p]
 first
  | exact wpAny_bind (m:=Builtin.Tuple.tupleExact _) (wpAny_newObj_type (wpAny_pure ⟨_,rfl,wpAny_pure h⟩) htake)
  | exact wpAny_bind (m:=Builtin.Tuple.tupleExact _) (wpAny_newObj_type (wpAny_bind (wpAny_pure (wpAny_pure ⟨_,rfl,wpAny_pure h⟩))) htake)
  | exact wpAny_bind (wpAny_bind (m:=Builtin.Tuple.tupleExact _) (wpAny_newObj_type (wpAny_pure (wpAny_pure ⟨_,rfl,wpAny_pure h⟩)) htake))
  | exact wpAny_bind (wpAny_bind (m:=Builtin.Tuple.tupleExact _) (wpAny_newObj_type (wpAny_pure ⟨_,rfl,wpAny_pure h⟩) htake))
end
end HT
namespace L2
open PySem PySem.Spec PyProof.Rows
abbrev TO:=St→Hp→(Option Int→Hp→Prop)→Prop
def PO (X:Cx) (e:Option Expr) (t:TO):Prop :=
 ∀ (pins:List (Addr × Obj)) (s:Shared) (σ:St) (H:Hp) (Q:Option Int→Hp→Prop),Inv X pins σ H s→t σ H Q →
  wpAny (model X.prog X.w) X.A (evalPart e X.env) (fun u s'=>∃ o H',Inv X pins σ H' s'∧IsPart u o∧Q o H') X.xe s
def a9j:TO:=fun _ H Q=>Q none H
def aei (t:TE):TO:=fun σ H Q=>t σ H fun x H1=>∃ i,x=.int i∧Q (some i) H1
section
variable {X:Cx} {e:Expr} {te:TE} {lo hi:Option Expr} {tl th:TO} {pos p2:Pos}
theorem a8a:PO X none a9j:=by
 intro pins s σ H Q I h
 rw [evalPart_none]
 exact wpAny_pure ⟨none,H,I,.none,h⟩
theorem a90 (h:PE X e te):PO X (some e) (aei te):=by
 intro pins s σ H Q I hw
 rw [evalPart_some]
 refine thn (h pins s σ H _ I hw) fun u s1 z0=>?_
 obtain ⟨x,H1,I1,r1,q1⟩:=z0
 obtain ⟨i,rfl,q⟩:=q1
 obtain ⟨t,rfl⟩:=r1
 exact ⟨some i,H1,I1,.int i t,q⟩
def SlR (X:Cx) (r:V→Option Int→Option Int→Hp→VK→Prop):Prop :=
 ∀ (pins:List (Addr × Obj)) (s:Shared) (σ:St) (H:Hp) (x:V) (v vl vu:Value) (lo hi:Option Int) (sl:Addr) (Q:VK),Inv X pins σ H s→RelV x v→s.heap.IsSliceOf sl vl vu .none→IsPart vl lo→IsPart vu hi→r x lo hi H Q →
  ∃ T id,typeLookup (.type T) "__getitem__" = pure (some (.builtin id))∧s.TypeIs v T∧wpAny (model X.prog X.w) X.A (getItem v (.ref sl)) (EP X pins σ Q) X.xe s
theorem SlR.or {r r':V→Option Int→Option Int→Hp→VK→Prop} (h:SlR X r) (h':SlR X r'):SlR X (fun x lo hi H Q=>r x lo hi H Q∨r' x lo hi H Q):=by
 intro pins s σ H x v vl vu lo hi sl Q I rx hs pl pu q
 rcases q with q | q
 ·exact h pins s σ H x v vl vu lo hi sl Q I rx hs pl pu q
 ·exact h' pins s σ H x v vl vu lo hi sl Q I rx hs pl pu q
def tSl (r:V→Option Int→Option Int→Hp→VK→Prop) (te:TE) (tl th:TO):TE:=fun σ H Q=>te σ H fun x H1=>tl σ H1 fun l H2=>th σ H2 fun u H3=>r x l u H3 Q
theorem a4j {r:V→Option Int→Option Int→Hp→VK→Prop} (hr:SlR X r) (he:PE X e te) (hl:PO X lo tl) (hu:PO X hi th):PE X (.Subscript e (.Slice lo hi none p2) pos) (tSl r te tl th):=by
 intro pins s σ H Q I h
 refine Subscript_ (thn (he pins s σ H _ I h) fun v s1 z0=>?_)
 obtain ⟨x,H1,I1,r1,q1⟩:=z0
 refine wpAny_Slice (thn (hl pins s1 σ H1 _ I1 q1) fun vl s2 ⟨l,H2,I2,pl,q2⟩=>thn (hu pins s2 σ H2 _ I2 q2) fun vu s3 ⟨u,H3,I3,pu,q3⟩=>?_)
 rw [evalPart_none]
 refine wpAny_pure ?_
 have I4:Inv X pins σ H3 { s3 with heap:=s3.heap.push { cls:=.type "slice",data:=.fields #[vl,vu,.none] } }:=I3.kept (t':=s3.toks) fun b ob q=>Heap.get?_push_of_some _ q
 obtain ⟨T,id,hT,ht,hg⟩:=hr pins { s3 with heap:=s3.heap.push { cls:=.type "slice",data:=.fields #[vl,vu,.none] } } σ H3 x v vl vu l u s3.heap.objs.size Q I4 r1 (Heap.IsSliceOf.new ..) pl pu q3
 show wpAny (model X.prog X.w) X.A (subscriptTail e (.Slice lo hi none p2) v (.ref s3.heap.objs.size)) (EP X pins σ Q) X.xe { s3 with heap:=s3.heap.push { cls:=.type "slice",data:=.fields #[vl,vu,.none] } }
 exact tail_any (ops:=[.ref s3.heap.objs.size,v]) ht hT hg (by with_unfolding_all rfl)
def a2q (xs:List V) (lo hi:Option Int):List V:=(xs.drop (HT.sIx xs.length 0 lo)).take (HT.sIx xs.length xs.length hi - HT.sIx xs.length 0 lo)
theorem Jl (xs:List V) (lo hi:Option Int):(a2q xs lo hi).length≤xs.length:=by
 unfold a2q
 rw [List.length_take,List.length_drop]
 omega
def ah5 (K:PySem.W.Frag):V→Option Int→Option Int→Hp→VK→Prop:=fun x lo hi H Q=>∃ a xs,x=.ref a∧SqT K H a xs ∧
 ¬ (HT.sIx xs.length 0 lo=0∧HT.sIx xs.length xs.length hi=xs.length)∧∀ p,H p=none→Q (.ref p) (upd H p (.tup (a2q xs lo hi)))
theorem ab2:SlR X (ah5 X.K):=by
 intro pins s σ H x v vl vu lo hi sl Q I rx hs pl pu h
 obtain ⟨a,xs,rfl,hx,hw,q⟩:=h
 cases rx
 obtain ⟨its,r,ht,hz⟩:=I.tuple hx
 have hlen:its.toArray.size=xs.length:=by rw [List.size_toArray]; exact r.length.symm
 refine ⟨"tuple",_,PyProof.Rows.slot_tuple_getitem.lookup,ht.typeIs,?_⟩
 refine HT.Ht ht hs pl pu (by rw [hlen]; exact hw) ?_ (by rw [hlen]; exact hz)
 rw [hlen]
 refine ⟨.ref s.heap.objs.size,_,I.laid (t':=s.toks) (o:=.tup (a2q xs lo hi)) (fun b ob q=>Heap.get?_push_of_some _ q) (Nat.le_refl _) ?_,rfl,q _ (I.hok.fresh (Nat.le_refl _))⟩
 exact ⟨Nat.le_trans (Jl xs lo hi) hz,_,(r.drop (HT.sIx xs.length 0 lo)).take (HT.sIx xs.length xs.length hi - HT.sIx xs.length 0 lo),a2x.new _ _⟩
def aej (K:PySem.W.Frag):R2:=fun x y H Q=>∃ a b xs ys,x=.ref a∧y=.ref b∧SqT K H a xs∧SqT K H b ys∧xs≠[]∧xs.length+ys.length≤sizeLine ∧
 (ys=[]→Q (.ref a) H)∧(ys≠[]→∀ p,H p=none→Q (.ref p) (upd H p (.tup (xs++ys))))
theorem Vals.Ut {xs:List V} {us:List Value} (r:Vals xs us):us=[]↔xs=[]:=by
 cases r with
 | nil=>simp
 | cons _ _=>simp
theorem a83:OpR X (binaryOp .Add) (aej X.K):=by
 intro pins s σ H x y v u Q I rx ry h
 obtain ⟨a,b,xs,ys,rfl,rfl,ha,hb,hx,hz,q1,q2⟩:=h
 cases rx
 cases ry
 obtain ⟨its,r1,p1,_⟩:=I.tuple ha
 obtain ⟨its2,r2,p2,_⟩:=I.tuple hb
 refine HT.a91 p1 p2 (fun z=>hx (r1.Ut.mp z)) (fun z=>⟨.ref a,H,I,rfl,q1 (r2.Ut.mp z)⟩) (fun z=>?_) (by rw [← r1.length,← r2.length]; exact hz)
 refine ⟨.ref s.heap.objs.size,_,I.laid (t':=s.toks) (o:=.tup (xs++ys)) (fun b ob q=>Heap.get?_push_of_some _ q) (Nat.le_refl _) ?_,rfl,q2 (fun w=>z (r2.Ut.mpr w)) _ (I.hok.fresh (Nat.le_refl _))⟩
 exact ⟨by rw [List.length_append]; exact hz,_,r1.append r2,a2x.new _ _⟩
end
end L2
namespace L2
open PySem PySem.Spec PyProof.Rows
def ixN (n:Nat) (i:Int):Option Nat:=if 0≤i then (if i<n then some i.toNat else none) else if -(n:Int)≤i then some (i+n).toNat else none
def atI {α:Type} (xs:List α) (i:Int):Option α:=(ixN xs.length i).bind fun j=>xs[j]?
theorem a7y {n:Nat} {i:Int} {j:Nat} (h:ixN n i=some j):seqIndex? i n=some j∧j<n∧-(n:Int)≤i∧i<n:=by
 unfold ixN at h
 by_cases h0:0≤i
 ·rw [if_pos h0] at h
  by_cases h1:i<n
  ·rw [if_pos h1] at h
   have e:i.toNat=j:=Option.some.inj h
   exact ⟨by rw [seqIndex_of h0 h1,e],by omega,by omega,h1⟩
  ·rw [if_neg h1] at h; cases h
 ·rw [if_neg h0] at h
  by_cases h1:-(n:Int)≤i
  ·rw [if_pos h1] at h
   have e:(i+n).toNat=j:=Option.some.inj h
   exact ⟨by rw [seqIndex_neg (by omega) h1,e],by omega,h1,by omega⟩
  ·rw [if_neg h1] at h; cases h
theorem Ss {α:Type} {xs:List α} {i:Int} {v:α} (h:atI xs i=some v):∃ j,seqIndex? i xs.length=some j∧xs[j]? = some v∧j<xs.length∧-(xs.length:Int)≤i∧i<xs.length:=by
 unfold atI at h
 cases e:ixN xs.length i with
 | none=>rw [e] at h; cases h
 | some j =>
  rw [e] at h
  obtain ⟨h1,h2,h3,h4⟩:=a7y e
  exact ⟨j,h1,h,h2,h3,h4⟩
def a0o (b:Expr):Prop:=∀ o i,subscripted b false o i=operate [o,i] (getItem o i)
def IxR (X:Cx) (r:R2):Prop :=
 ∀ (value slice:Expr) (pins:List (Addr × Obj)) (s:Shared) (σ:St) (H:Hp) (x y:V) (v u:Value) (Q:VK),Inv X pins σ H s→RelV x v→RelV y u→r x y H Q →
  subscripted slice false v u=operate [v,u] (getItem v u)→wpAny (model X.prog X.w) X.A (subscriptTail value slice v u) (EP X pins σ Q) X.xe s
def MtR (X:Cx) (id:String) (r:V→List V→Hp→VK→Prop):Prop :=
 ∀ (pins:List (Addr × Obj)) (s:Shared) (σ:St) (H:Hp) (x:V) (xs:List V) (v:Value) (us:List Value) (Q:VK),Inv X pins σ H s→RelV x v→Vals xs us→r x xs H Q →
  wpAny (model X.prog X.w) X.A (call (.builtin id) (v::us)) (EP X pins σ Q) X.xe s
section
variable {X:Cx} {a b:Expr} {ta tb:TE} {pos:Pos}
theorem IxR.or {r r':R2} (h:IxR X r) (h':IxR X r'):IxR X (fun x y H Q=>r x y H Q∨r' x y H Q):=by
 intro value slice pins s σ H x y v u Q I rx ry q hs
 rcases q with q | q
 ·exact h value slice pins s σ H x y v u Q I rx ry q hs
 ·exact h' value slice pins s σ H x y v u Q I rx ry q hs
theorem MtR.or {id:String} {r r':V→List V→Hp→VK→Prop} (h:MtR X id r) (h':MtR X id r'):MtR X id (fun x xs H Q=>r x xs H Q∨r' x xs H Q):=by
 intro pins s σ H x xs v us Q I rx rs q
 rcases q with q | q
 ·exact h pins s σ H x xs v us Q I rx rs q
 ·exact h' pins s σ H x xs v us Q I rx rs q
theorem aer {r:R2} (hr:IxR X r) (ha:PE X a ta) (hb:PE X b tb) (hs:a0o b):PE X (.Subscript a b pos) (tOp r ta tb):=by
 intro pins s σ H Q I h
 exact Subscript_ (afl ha hb I h fun v u s2 x y H2 I2 rx ry q=>hr a b pins s2 σ H2 x y v u Q I2 rx ry q (hs _ _))
def ah2 (K:PySem.W.Frag):R2:=fun x y H Q=>∃ p xs i v,x=.ref p∧y=.int i∧SqL K H p xs∧atI xs i=some v∧Q v H
def agn (K:PySem.W.Frag):R2:=fun x y H Q=>∃ p xs i v,x=.ref p∧y=.int i∧SqT K H p xs∧atI xs i=some v∧Q v H
def ago:R2:=fun x y H Q=>∃ z i c,x=.str z∧y=.int i∧z.length≤sizeLine∧atI z.cps.toList i=some c∧Q (.str ⟨#[c]⟩) H
theorem a8c:IxR X (ah2 X.K):=by
 intro value slice pins s σ H x y v u Q I rx ry h hs
 obtain ⟨p,xs,i,z,rfl,rfl,hq,he,q⟩:=h
 cases rx
 obtain ⟨t,rfl⟩:=ry
 obtain ⟨its,r,pl,hz⟩:=I.list hq
 obtain ⟨j,h1,h2,h3,h4,h5⟩:=Ss he
 obtain ⟨w,ew,rw'⟩:=r.get h2
 have hl:=r.length
 have hn:=Px
 have fin:EP X pins σ Q w s:=⟨z,H,I,rw',q⟩
 by_cases h0:0≤i
 ·have hj:i.toNat=j:=by
   rw [seqIndex_of h0 h5] at h1
   exact Option.some.inj h1
  exact item_listR pl.isList h0 (by omega) (by rw [hj]; simpa using ew) fin hs
 ·have hj:(i+(its.toArray.size:Int)).toNat=j:=by
   rw [seqIndex_neg (by omega) h4] at h1
   rw [List.size_toArray,← hl]
   exact Option.some.inj h1
  exact subscriptTail_builtinR (x:=w) pl.isList.typeIs slot_list_getitem.lookup
   (wpAny_getItem_list_neg (Q:=fun r s'=>r=w∧EP X pins σ Q r s') pl.isList (by omega) (by rw [List.size_toArray] <;> omega) (by omega) (by rw [hj]; simpa using ew) ⟨rfl,fin⟩) hs
theorem abt:IxR X (agn X.K):=by
 intro value slice pins s σ H x y v u Q I rx ry h hs
 obtain ⟨p,xs,i,z,rfl,rfl,hq,he,q⟩:=h
 cases rx
 obtain ⟨t,rfl⟩:=ry
 obtain ⟨its,r,pl,hz⟩:=I.tuple hq
 obtain ⟨j,h1,h2,h3,h4,h5⟩:=Ss he
 obtain ⟨w,ew,rw'⟩:=r.get h2
 have hl:=r.length
 have hn:=Px
 have fin:EP X pins σ Q w s:=⟨z,H,I,rw',q⟩
 exact subscriptTail_builtinR (x:=w) pl.typeIs slot_tuple_getitem.lookup
  (getItem_tuple (j:=j) (Q:=fun r s'=>r=w∧EP X pins σ Q r s') pl (by omega) (by omega) (by rw [List.size_toArray,← hl]; exact h1) (by simpa using ew) ⟨rfl,fin⟩) hs
theorem abk:IxR X ago:=by
 intro value slice pins s σ H x y v u Q I rx ry h hs
 obtain ⟨z,i,c,rfl,rfl,hz,he,q⟩:=h
 obtain ⟨t,rfl⟩:=rx
 obtain ⟨t',rfl⟩:=ry
 obtain ⟨j,h1,h2,h3,h4,h5⟩:=Ss he
 have hl:z.cps.toList.length=z.length:=by simp [Str.length]
 rw [hl] at h1 h4 h5
 have hn:=Px
 exact tail_any (typeIs_str s z t) slot_str_getitem.lookup (getItem_str (c:=c) (by
  have e1:decide (i < -(2 ^ 63:Int))=false:=decide_eq_false (by omega)
  have e2:decide (i ≥ 2 ^ 63)=false:=decide_eq_false (by omega)
  rw [e1,e2,Bool.or_false]) (by rw [h1]; simpa using h2) ⟨.str ⟨#[c]⟩,H,I.tok _,⟨_,rfl⟩,q⟩) hs
theorem Inv.lst {pins:List (Addr × Obj)} {σ:St} {H:Hp} {s:Shared} {p:Addr} {xs:List V} (I:Inv X pins σ H s) (h:H p=some (.lst xs)) :
  ∃ (its:List Value) (n:Nat),Vals xs its∧s.heap.get? p=some { cls:=.type "list",data:=.seq its.toArray n }∧xs.length≤sizeLine:=by
 obtain ⟨z,its,n,r,e⟩:=I.hok p _ h
 exact ⟨its,n,r,e,z⟩
theorem Qh (lo hi:Option Int) (n:Nat):(sliceBounds lo hi none n).1=((HT.sIx n 0 lo:Nat):Int)∧(sliceBounds lo hi none n).2.1=((HT.sIx n n hi:Nat):Int)∧(sliceBounds lo hi none n).2.2=1:=by
 refine ⟨?_,?_,rfl⟩
 ·cases lo with
  | none=>simp [sliceBounds,HT.sIx]
  | some i =>
   simp only [sliceBounds,HT.sIx,Option.getD_none,show (1:Int) > 0 by decide,if_true]
   by_cases h:i<0
   ·simp only [h,if_true] <;> omega
   ·simp only [h,if_false] <;> omega
 ·cases hi with
  | none=>simp [sliceBounds,HT.sIx]
  | some i =>
   simp only [sliceBounds,HT.sIx,Option.getD_none,show (1:Int) > 0 by decide,if_true]
   by_cases h:i<0
   ·simp only [h,if_true] <;> omega
   ·simp only [h,if_false] <;> omega
theorem N5 (its:List Value) (lo hi:Option Int):slicePick its.toArray lo hi none=((its.drop (HT.sIx its.length 0 lo)).take (HT.sIx its.length its.length hi - HT.sIx its.length 0 lo)).toArray:=by
 obtain ⟨h1,h2,h3⟩:=Qh lo hi its.toArray.size
 unfold slicePick
 rw [h1,h2,h3]
 simp only [sliceRange_one,pick_run,List.size_toArray] <;> rfl
def agv (K:PySem.W.Frag):V→Option Int→Option Int→Hp→VK→Prop:=fun x lo hi H Q=>∃ a xs,x=.ref a∧SqL K H a xs∧∀ p,H p=none→Q (.ref p) (upd H p (.lst (a2q xs lo hi)))
theorem a7p:SlR X (agv X.K):=by
 intro pins s σ H x v vl vu lo hi sl Q I rx hs pl pu h
 obtain ⟨a,xs,rfl,hx,q⟩:=h
 cases rx
 obtain ⟨its,r,ht,hz⟩:=I.list hx
 have hlen:=r.length
 refine ⟨"list",_,slot_list_getitem.lookup,ht.isList.typeIs,?_⟩
 refine wpAny_getItem_list_slice ht.isList hs pl pu .none (by simp) ?_ (by rw [List.size_toArray] <;> omega)
 rw [N5,← hlen]
 refine ⟨.ref s.heap.objs.size,_,I.laid (t':=s.toks) (o:=.lst (a2q xs lo hi)) (fun b ob q=>Heap.get?_push_of_some _ q) (Nat.le_refl _) ?_,rfl,q _ (I.hok.fresh (Nat.le_refl _))⟩
 exact ⟨Nat.le_trans (Jl xs lo hi) hz,_,0,(r.drop (HT.sIx xs.length 0 lo)).take (HT.sIx xs.length xs.length hi - HT.sIx xs.length 0 lo),Heap.get?_push_size _ rfl⟩
theorem Dj:Df X (.builtin "len") (fun xs H Q=>∃ p ys,xs=[.ref p]∧(SqL X.K H p ys∨SqT X.K H p ys)∧Q (.int ys.length) H):=by
 intro pins s σ H xs us Q I r h
 obtain ⟨p,ys,rfl,hq,q⟩:=h
 obtain ⟨u,rfl,rx⟩:=vals1 r
 cases rx
 have hn:=Px
 rcases hq with hq | hq
 ·obtain ⟨its,r',pl,hz⟩:=I.list hq
  have hlen:=r'.length
  exact Calls.call_len_list pl.isList (by simp only [List.size_toArray] <;> omega) ⟨.int ys.length,H,I.tok _,⟨s.toks+1,by rw [List.size_toArray,hlen]⟩,q⟩
 ·obtain ⟨its,r',pl,hz⟩:=I.tuple hq
  have hlen:=r'.length
  exact len_tuple pl (by simp only [List.size_toArray] <;> omega) ⟨.int ys.length,H,I.tok _,⟨s.toks+1,by rw [List.size_toArray,hlen]⟩,q⟩
theorem Pu:Df X (.builtin "len") (fun xs H Q=>∃ z,xs=[.str z]∧z.length≤sizeLine∧Q (.int z.length) H):=by
 intro pins s σ H xs us Q I r h
 obtain ⟨z,rfl,hz,q⟩:=h
 obtain ⟨u,rfl,t,rfl⟩:=vals1 r
 have hn:=Px
 exact len_str (by omega) ⟨.int z.length,H,I.tok _,⟨_,rfl⟩,q⟩
theorem Df.or {f:Value} {r r':List V→Hp→VK→Prop} (h:Df X f r) (h':Df X f r'):Df X f (fun xs H Q=>r xs H Q∨r' xs H Q):=by
 intro pins s σ H xs us Q I rs q
 rcases q with q | q
 ·exact h pins s σ H xs us Q I rs q
 ·exact h' pins s σ H xs us Q I rs q
theorem Dw:Df X (.type "list") (fun xs H Q=>∃ p ys,xs=[.ref p]∧(SqL X.K H p ys∨SqT X.K H p ys)∧∀ l,H l=none→Q (.ref l) (upd H l (.lst ys))):=by
 intro pins s σ H xs us Q I r h
 obtain ⟨p,ys,rfl,hq,q⟩:=h
 obtain ⟨u,rfl,rx⟩:=vals1 r
 cases rx
 have fin:∀ (its:List Value),Vals ys its→ys.length≤sizeLine→∀ (h':Heap) (c':Nat),(∀ b o',s.heap.get? b=some o'→h'.get? b=some o') →
   h'.get? s.heap.objs.size=some { cls:=.type "list",dict:=none,data:=.seq its.toArray c',slots:=#[] }→EP X pins σ Q (.ref s.heap.objs.size) { s with heap:=h' }:=fun its r' hz h' c' kp e =>
  ⟨.ref s.heap.objs.size,_,I.laid (t':=s.toks) kp (Nat.le_refl _) (show xu X.prog X.w _ h' _ (.lst ys) from ⟨hz,its,c',r',e⟩),rfl,q _ (I.hok.fresh (Nat.le_refl _))⟩
 rcases hq with hq | hq
 ·obtain ⟨its,r',pl,hz⟩:=I.list hq
  have hlen:=r'.length
  obtain ⟨o,ho,hc,n,hd⟩:=pl.isList
  exact call_list_seq p (.inl rfl) ho hc hd (fun h' c' kp e=>fin its r' hz h' c' kp e) (by simp only [List.size_toArray] <;> omega)
 ·obtain ⟨its,r',pl,hz⟩:=I.tuple hq
  have hlen:=r'.length
  obtain ⟨o,ho,hc,n,hd⟩:=pl
  exact call_list_seq p (.inr rfl) ho hc hd (fun h' c' kp e=>fin its r' hz h' c' kp e) (by simp only [List.size_toArray] <;> omega)
theorem Gv:Df X (.type "tuple") (fun xs H Q=>∃ p ys,xs=[.ref p]∧((SqL X.K H p ys∧∀ l,H l=none→Q (.ref l) (upd H l (.tup ys)))∨(SqT X.K H p ys∧Q (.ref p) H))):=by
 intro pins s σ H xs us Q I r h
 obtain ⟨p,ys,rfl,h⟩:=h
 obtain ⟨u,rfl,rx⟩:=vals1 r
 cases rx
 rcases h with ⟨hq,q⟩ | ⟨hq,q⟩
 ·obtain ⟨its,r',pl,hz⟩:=I.list hq
  have hlen:=r'.length
  refine call_tuple_list pl.isList (fun h' kp=>?_) (by simp only [List.size_toArray] <;> omega)
  have I1:Inv X pins σ H { s with heap:=h' }:=I.kept (t':=s.toks) kp
  have I2:Inv X pins σ (upd H h'.objs.size (.tup ys)) { s with heap:=h'.push { cls:=.type "tuple",data:=.seq its.toArray } } :=
   I1.laid (t':=s.toks) (fun b o e=>Heap.get?_push_of_some _ e) (Nat.le_refl _) (show xu X.prog X.w _ _ _ (.tup ys) from ⟨hz,its,r',a2x.new _ _⟩)
  exact ⟨.ref h'.objs.size,_,I2,rfl,q _ (I1.hok.fresh (Nat.le_refl _))⟩
 ·obtain ⟨its,r',pl,hz⟩:=I.tuple hq
  exact call_tuple_same pl ⟨.ref p,H,I,rfl,q⟩
def tyV (K:PySem.W.Frag) (T:String) (x:V) (H:Hp):Prop:=match x with
 | .str _=>T = "str"
 | .int _=>T = "int"
 | .ref p=>(T = "list" ∧ ∃ xs,SqL K H p xs)∨(T = "tuple" ∧ ∃ o,K.lookup p=some o∧o.cls=.type "tuple" ∧ o.dict=none) ∨
   (T = "dict" ∧ ((∃ kvs,H p=some (.dK kvs))∨∃ kvs,H p=some (.dT kvs)))∨(T = "set" ∧ ∃ S n,H p=some (.set S n))
 | _=>False
theorem a6d {pins:List (Addr × Obj)} {σ:St} {H:Hp} {s:Shared} {T:String} {x:V} {v:Value} (I:Inv X pins σ H s) (r:RelV x v) (ty:tyV X.K T x H) :
  s.TypeIs v T∧∀ a,v=.ref a→∃ ob,s.heap.get? a=some ob∧ob.dict=none:=by
 cases x with
 | str z =>
  obtain ⟨t,rfl⟩:=r
  cases (show T = "str" from ty)
  exact ⟨typeIs_str s z t,fun _ e=>nomatch e⟩
 | int i =>
  obtain ⟨t,rfl⟩:=r
  cases (show T = "int" from ty)
  exact ⟨typeIs_int s i t,fun _ e=>nomatch e⟩
 | ref p =>
  cases r
  rcases ty with ⟨rfl,xs,hq⟩ | ⟨rfl,o,hk,hc,hd⟩ | ⟨rfl,hk⟩ | ⟨rfl,S,n,hk⟩
  ·obtain ⟨its,_,pl,_⟩:=I.list hq
   refine ⟨pl.isList.typeIs,fun a e=>?_⟩
   cases e
   obtain ⟨o,n,e,c,hd,_⟩:=pl
   exact ⟨o,e,hd⟩
  ·refine ⟨⟨o,I.kIn p o hk,hc⟩,fun a e=>?_⟩
   cases e
   exact ⟨o,I.kIn _ o hk,hd⟩
  ·have z:∃ o,s.heap.get? p=some o∧o.ExactDict:=by
    rcases hk with ⟨kvs,hk⟩ | ⟨kvs,hk⟩
    ·obtain ⟨_,_,_,_,o,_,_,e,ex,_⟩:=I.hok p _ hk
     exact ⟨o,e,ex⟩
    ·obtain ⟨_,_,_,_,o,_,_,e,ex,_⟩:=I.hok p _ hk
     exact ⟨o,e,ex⟩
   obtain ⟨o,e,ex⟩:=z
   refine ⟨⟨o,e,ex.1⟩,fun a e2=>?_⟩
   cases e2
   exact ⟨o,e,ex.2.1⟩
  ·obtain ⟨o,_,_,_,e,ex,_⟩:=I.hok p _ hk
   refine ⟨⟨o,e,ex.1⟩,fun a e2=>?_⟩
   cases e2
   exact ⟨o,e,ex.2.1⟩
 | _=>exact False.elim ty
def agd (K:PySem.W.Frag) (T:String) (r:V→List V→Hp→VK→Prop) (to:TE):TE:=fun σ H Q=>to σ H fun x H1=>tyV K T x H1∧r x [] H1 Q
def tBM (K:PySem.W.Frag) (T:String) (r:V→List V→Hp→VK→Prop) (to:TE) (t:TA):TE:=fun σ H Q=>to σ H fun x H1=>tyV K T x H1∧t σ H1 fun xs H2=>r x xs H2 Q
variable {o e:Expr} {es:List Expr} {to:TE} {t:TA} {name:Str} {apos cpos:Pos} {T id:String} {r:V→List V→Hp→VK→Prop}
theorem a6a (pa:PlainAttrs T) (slot:Slot T name id) (hty:typeOf (.builtin id)=pure (.type "method_descriptor")) (hm:MtR X id r) (ho:PE X o to)
  (hbase:attributeBase o name X.env (eval o X.env)=eval o X.env:=by rfl) (hline:(apos.endLine==cpos.line)=true:=by rfl):PE X (.Call (.Attribute o name apos) [] [] cpos) (agd X.K T r to):=by
 intro pins s σ H Q I h
 refine wpAny_Call_method0_late hbase hline (thn (ho pins s σ H _ I h) fun v s1 z0=>?_)
 obtain ⟨x,H1,I1,r1,ty,q1⟩:=z0
 obtain ⟨h1,h2⟩:=a6d I1 r1 ty
 exact ⟨T,id,pa,slot,hty,h1,h2,Calls.callWith_builtin rfl (PySem.evalArgs_none (hm pins s1 σ H1 x [] v [] Q I1 r1 .nil q1))⟩
theorem Ft (pa:PlainAttrs T) (slot:Slot T name id) (hty:typeOf (.builtin id)=pure (.type "method_descriptor")) (hm:MtR X id r) (ho:PE X o to) (ha:PA X (e::es) t)
  (hbase:attributeBase o name X.env (eval o X.env)=eval o X.env:=by rfl)
  (hfew:((backTo cpos (starEach (e::es) X.env)).all (fun x=>!x.1)&&(backToKw cpos (keywordEach [] X.env)).all (fun x=>x.1.isSome)
   && decide ((e::es).length+([]:List Keyword).length+(if ([]:List Keyword).isEmpty then 0 else 1)<30))=true:=by rfl)
  (hline:(apos.endLine==cpos.line)=true:=by rfl) (hs:starEach (e::es) X.env=(false,eval e X.env)::starEach es X.env:=by rfl) (hplain:(backTo cpos (starEach es X.env)).any (·.1)=false:=by rfl) :
  PE X (.Call (.Attribute o name apos) (e::es) [] cpos) (tBM X.K T r to t):=by
 intro pins s σ H Q I h
 refine wpAny_Call_method_late hbase hfew hline rfl (thn (ho pins s σ H _ I h) fun v s1 z0=>?_)
 obtain ⟨x,H1,I1,r1,ty,q1⟩:=z0
 obtain ⟨h1,h2⟩:=a6d I1 r1 ty
 refine ⟨T,id,pa,slot,hty,h1,h2,?_⟩
 have hA:=ha cpos pins s1 σ H1 _ I1 q1
 rw [hs] at hA ⊢
 refine Calls.callWith_builtin (by show (false||(backTo cpos (starEach es X.env)).any (·.1))=false; rw [hplain] <;> rfl) (Calls.evalArgs_plain ?_)
 exact thn hA fun us s2 ⟨vs,H2,I2,r2,q2⟩=>hm pins s2 σ H2 x vs v us Q I2 r1 r2 q2
end
end L2
namespace L2
open PySem PySem.Spec PyProof.Rows
def MtM (X:Cx) (id:String) (r:V→List V→Hp→VK→Prop):Prop :=
 ∀ (pins:List (Addr × Obj)) (s:Shared) (σ:St) (H:Hp) (x:V) (xs:List V) (v:Value) (us:List Value) (Q:VK),Inv X pins σ H s→RelV x v→Vals xs us→r x xs H Q →
  wpAny (model X.prog X.w) X.A (call (.builtin id) (v::us)) (EP X pins σ Q) X.xe s
theorem Vals.one {x:V} {us:List Value} (h:Vals [x] us):∃ u,us=[u]∧RelV x u:=by
 cases h with
 | cons r t=>cases t; exact ⟨_,rfl,r⟩
theorem Vals.two {x y:V} {us:List Value} (h:Vals [x,y] us):∃ u v,us=[u,v]∧RelV x u∧RelV y v:=by
 cases h with
 | cons r t=>obtain ⟨v,e,q⟩:=Vals.one t; exact ⟨_,v,congrArg _ e,r,q⟩
theorem Vals.zero:∀ {us:List Value},Vals [] us→us=[]
 | _,.nil=>rfl
theorem Vals.dropLast {xs:List V} {us:List Value} (h:Vals xs us):Vals xs.dropLast us.dropLast:=by
 induction h with
 | nil=>exact .nil
 | cons r t ih =>
  cases t with
  | nil=>exact .nil
  | cons q t'=>exact .cons r ih
theorem Vals.reverse {xs:List V} {us:List Value} (h:Vals xs us):Vals xs.reverse us.reverse:=by
 induction h with
 | nil=>exact .nil
 | cons r t ih=>rw [List.reverse_cons,List.reverse_cons]; exact Vals.append ih (.cons r .nil)
theorem Vals.rep {xs:List V} {us:List Value} (h:Vals xs us):∀ k:Nat,Vals (List.replicate k xs).flatten (List.replicate k us).flatten
 | 0=>.nil
 | k+1=>by
  rw [List.replicate_succ,List.replicate_succ,List.flatten_cons,List.flatten_cons]
  exact Vals.append h (Vals.rep h k)
theorem Wy {α:Type} (l:List α):l.eraseIdx (l.length - 1)=l.dropLast:=by
 induction l with
 | nil=>rfl
 | cons a r ih =>
  cases r with
  | nil=>rfl
  | cons b r =>
   have e:(a::b::r).length - 1=((b::r).length - 1)+1:=by
    have h1:(a::b::r).length=r.length+2:=rfl
    have h2:(b::r).length=r.length+1:=rfl
    omega
   rw [e,List.eraseIdx_cons_succ,ih]
   all_goals rfl
section
variable {X:Cx} {pins:List (Addr × Obj)} {σ:St} {H:Hp} {s:Shared} {l b:Addr} {xs ys zs:List V}
theorem Inv.aes {its its':List Value} {n:Nat} {f:Array Value→Array Value} {t':Nat} (I:Inv X pins σ H s) (hH:H l=some (.lst xs))
  (e:s.heap.get? l=some { cls:=.type "list",data:=.seq its.toArray n }) (hf:f its.toArray=its'.toArray) (hv:Vals ys its') (hz:ys.length≤sizeLine) :
  Inv X pins σ (upd H l (.lst ys)) { s with heap:=s.heap.update l (Obj.mapSeq f),toks:=t' }:=by
 have q:=PySem.IsL.update e f
 rw [hf] at q
 refine I.write (x:=l) (e:=l) (by rw [hH]; exact trivial) (.inl rfl) (fun b' u hb hu=>(Heap.get?_update_other s.heap (Obj.mapSeq f) (Ne.symm hb)).trans hu) ⟨_,q⟩ ?_
 exact ⟨hz,its',_,hv,q⟩
theorem Inv.agw {its:List Value} {t':Nat} (I:Inv X pins σ H s) (hv:Vals ys its) (hz:ys.length≤sizeLine) :
  Inv X pins σ (upd H s.heap.objs.size (.lst ys)) { s with heap:=s.heap.push { cls:=.type "list",data:=.seq its.toArray },toks:=t' } :=
 I.laid (fun _ _ q=>Heap.get?_push_of_some _ q) (Nat.le_refl _) ⟨hz,its,0,hv,Heap.get?_push_size _ rfl⟩
theorem Inv.fresh (I:Inv X pins σ H s):H s.heap.objs.size=none:=I.hok.fresh (Nat.le_refl _)
theorem Inv.ae8 (I:Inv X pins σ H s) (hH:H l=some (.lst xs)):xs.length≤sizeLine∧∃ (its:List Value) (n:Nat),Vals xs its∧xs.length=its.length∧s.heap.get? l=some { cls:=.type "list",data:=.seq its.toArray n }:=by
 obtain ⟨z,its,n,r,e⟩:=I.hok l _ hH
 exact ⟨z,its,n,r,r.length,e⟩
theorem a5d {n:Nat} (h:n≤sizeLine):Builtin.List.listTooLong n=false:=by
 unfold Builtin.List.listTooLong
 exact decide_eq_false (by omega)
end
section
variable {X:Cx}
def a0l:V→List V→Hp→VK→Prop:=fun x vs H Q=>∃ l xs y,x=.ref l∧vs=[y]∧H l=some (.lst xs)∧xs.length<sizeLine∧Q .non (upd H l (.lst (xs++[y])))
theorem uo:MtM X "list.append" a0l:=by
 intro pins s σ H x vs v us Q I rx rv h
 obtain ⟨l,xs,y,rfl,rfl,hH,hz,q⟩:=h
 cases rx
 obtain ⟨u,rfl,ru⟩:=rv.one
 obtain ⟨z,its,n,r,hl,e⟩:=I.ae8 hH
 refine call_meets F.slot_list_append ⟨_,e,rfl⟩ F.entry_list_append (F.args_list_append_2 _ _) (PySem.list_append l its.toArray n u (by rw [List.size_toArray]; omega)) ⟨e,?_⟩
 refine ⟨.non,_,I.aes (its':=its++[u]) hH e (by simp) (r.append (.cons ru .nil)) ?_,rfl,q⟩
 rw [List.length_append,List.length_singleton]
 omega
def agb:V→List V→Hp→VK→Prop:=fun x vs H Q=>∃ l xs y,x=.ref l∧vs=[]∧H l=some (.lst xs)∧xs[xs.length - 1]? = some y∧Q y (upd H l (.lst xs.dropLast))
theorem a6l:MtM X "list.pop" agb:=by
 intro pins s σ H x vs v us Q I rx rv h
 obtain ⟨l,xs,y,rfl,rfl,hH,hy,q⟩:=h
 cases rx
 have hus:=rv.zero
 subst hus
 obtain ⟨z,its,n,r,hl,e⟩:=I.ae8 hH
 obtain ⟨u,hu,ru⟩:=r.get hy
 have hy':its.toArray[its.toArray.size - 1]? = some u:=by
  show its.toArray[its.length - 1]? = some u
  rw [← Array.getElem?_toList,← hl]
  exact hu
 refine call_meets F.slot_list_pop ⟨_,e,rfl⟩ F.entry_list_pop (F.args_list_pop_1 _) (MeetsSeq.list_pop_last l its.toArray n u hy' (by rw [List.size_toArray]; omega)) ⟨e,?_⟩
 refine ⟨y,_,I.aes (its':=its.dropLast) hH e ?_ r.dropLast ?_,ru,q⟩
 ·show its.toArray.eraseIdxIfInBounds (its.toArray.size - 1)=its.dropLast.toArray
  rw [List.size_toArray,List.eraseIdxIfInBounds_toArray,Wy]
 ·rw [List.length_dropLast]
  omega
end
section
variable {prog:Program} {w:World} {A:Around} {E:Value→Shared→Prop} {s:Shared}
end
section
variable {X:Cx}
end
section
variable {κ:Type} [DecidableEq κ]
def Tz (kvs:List (κ × V)) (k:κ):Option V:=(kvs.find? fun kv=>decide (kv.1=k)).map (·.2)
def putK (kvs:List (κ × V)) (k:κ) (v:V):List (κ × V) :=
 if (kvs.any fun kv=>decide (kv.1=k))=true then kvs.map (fun kv=>if kv.1=k then (kv.1,v) else kv) else kvs++[(k,v)]
def aag (kvs:List (κ × V)) (k:κ):List (κ × V):=kvs.filter fun kv=>decide (kv.1≠k)
theorem Ja {p:κ × V} {r:List (κ × V)} {k:κ} (e:p.1=k):Tz (p::r) k=some p.2:=by simp [Tz,List.find?_cons,e]
theorem J9 {p:κ × V} {r:List (κ × V)} {k:κ} (e:¬ p.1=k):Tz (p::r) k=Tz r k:=by simp [Tz,List.find?_cons,e]
theorem Vb (k:κ):∀ kvs:List (κ × V),(kvs.any fun kv=>decide (kv.1=k))=(Tz kvs k).isSome
 | []=>rfl
 | p::r=>by
  rw [List.any_cons]
  by_cases e:p.1=k
  ·simp only [Ja e,decide_eq_true e,Bool.true_or,Option.isSome_some]
  ·rw [J9 e,decide_eq_false e,Bool.false_or]; exact Vb k r
theorem La (kvs:List (κ × V)) (k:κ) (v:V):(putK kvs k v).length≤kvs.length+1:=by
 unfold putK
 split
 ·rw [List.length_map]; omega
 ·rw [List.length_append,List.length_cons,List.length_nil]; omega
theorem Rm.Z2 {o:Option V} {u:Option Value} (r:Rm o u):o.isSome=u.isSome:=by
 cases o with
 | none=>cases u with
  | none=>rfl
  | some _=>exact (show False from r).elim
 | some _=>cases u with
  | none=>exact (show False from r).elim
  | some _=>rfl
theorem Rm.getD {o:Option V} {u:Option Value} {d:V} {d':Value} (r:Rm o u) (rd:RelV d d'):RelV (o.getD d) (u.getD d'):=by
 cases o with
 | none=>cases u with
  | none=>exact rd
  | some _=>exact (show False from r).elim
 | some _=>cases u with
  | none=>exact (show False from r).elim
  | some _=>exact r
theorem KV.val {kvs:List (κ × V)} {vs:List (κ × Value)} (r:KV kvs vs) (k:κ):Rm (Tz kvs k) (valueAt vs k):=by
 unfold KV at r
 induction r with
 | nil=>exact True.intro
 | @cons p q ps qs h t ih =>
  obtain ⟨h1,h2⟩:=h
  by_cases e:p.1=k
  ·have e':q.1=k:=h1.symm.trans e
   have b:valueAt (q::qs) k=some q.2:=by simp [valueAt,List.find?_cons,e']
   rw [Ja e,b]; exact h2
  ·have e':¬ q.1=k:=fun z=>e (h1.trans z)
   have b:valueAt (q::qs) k=valueAt qs k:=by simp [valueAt,List.find?_cons,e']
   rw [J9 e,b]; exact ih
theorem KV.any {kvs:List (κ × V)} {vs:List (κ × Value)} (r:KV kvs vs) (k:κ):(kvs.any fun kv=>decide (kv.1=k))=vs.any fun kv=>decide (kv.1=k):=by
 unfold KV at r
 induction r with
 | nil=>rfl
 | cons h t ih=>rw [List.any_cons,List.any_cons,ih,h.1]
theorem KV.repl {kvs:List (κ × V)} {vs:List (κ × Value)} (r:KV kvs vs) (k:κ) {y:V} {u:Value} (ry:RelV y u) :
  KV (kvs.map fun kv=>if kv.1=k then (kv.1,y) else kv) (vs.map fun kv=>if kv.1=k then (kv.1,u) else kv):=by
 unfold KV at r ⊢
 induction r with
 | nil=>exact .nil
 | @cons p q ps qs h t ih =>
  rw [List.map_cons,List.map_cons]
  refine .cons ?_ ih
  obtain ⟨h1,h2⟩:=h
  by_cases e:p.1=k
  ·rw [if_pos e,if_pos (h1.symm.trans e)]; exact ⟨h1,ry⟩
  ·rw [if_neg e,if_neg (fun z=>e (h1.trans z))]; exact ⟨h1,h2⟩
theorem KV.put {kvs:List (κ × V)} {vs:List (κ × Value)} (r:KV kvs vs) (k:κ) {y:V} {u:Value} (ry:RelV y u):KV (putK kvs k y) (stored vs k u):=by
 unfold putK stored
 rw [r.any k]
 by_cases e:(vs.any fun kv=>decide (kv.1=k))=true
 ·rw [if_pos e,if_pos e]; exact r.repl k ry
 ·rw [if_neg e,if_neg e]; exact Paired.snoc r ⟨rfl,ry⟩
theorem KV.drop {kvs:List (κ × V)} {vs:List (κ × Value)} (r:KV kvs vs) (k:κ):KV (aag kvs k) (without vs k):=by
 unfold KV at r ⊢
 unfold aag without
 induction r with
 | nil=>exact .nil
 | @cons p q ps qs h t ih =>
  obtain ⟨h1,h2⟩:=h
  rw [List.filter_cons,List.filter_cons]
  by_cases e:p.1=k
  ·have a:¬ decide (p.1≠k)=true:=by simp [e]
   have b:¬ decide (q.1≠k)=true:=by simp [h1.symm.trans e]
   rw [if_neg a,if_neg b]; exact ih
  ·have e':¬ q.1=k:=fun z=>e (h1.trans z)
   have a:decide (p.1≠k)=true:=by simp [e]
   have b:decide (q.1≠k)=true:=by simp [e']
   rw [if_pos a,if_pos b]; exact .cons ⟨h1,h2⟩ ih
theorem KV.keys {kvs:List (κ × V)} {vs:List (κ × Value)} (r:KV kvs vs):kvs.map (·.1)=vs.map (·.1):=by
 unfold KV at r
 induction r with
 | nil=>rfl
 | cons h t ih=>rw [List.map_cons,List.map_cons,ih,h.1]
theorem KV.length {kvs:List (κ × V)} {vs:List (κ × Value)} (r:KV kvs vs):kvs.length=vs.length:=Paired.length r
end
theorem a5s {P:Program} {w:World} {k:Key} {u:Value} (r:RelV (kV k) u):(uh P w).is k u=true:=by
 cases k with
 | inl i=>obtain ⟨t,e⟩:=(show ∃ t,u=Value.int i t from r); subst e; exact Ry P w i t
 | inr x=>obtain ⟨t,e⟩:=(show ∃ t,u=Value.str x t from r); subst e; exact T4 P w x t
theorem Ox {P:Program} {w:World}:∀ {ks:List Key} {us:List Value},Vals (ks.map kV) us→ItemsAre (uh P w) ks us
 | [],_,r=>by rw [List.map_nil] at r; cases r; exact .nil
 | k::ks,_,r=>by
  rw [List.map_cons] at r
  cases r with
  | cons h t=>exact .cons (a5s h) (Ox t)
abbrev KT (H:Hp):List (List Key × V)→List (List Key × Addr × Value)→Prop:=Paired fun p q=>p.1=q.1∧H q.2.1=some (.tup (p.1.map kV))∧RelV p.2 q.2.2
theorem KT.val {H:Hp} {kvs:List (List Key × V)} {xs:List (List Key × Addr × Value)} (r:KT H kvs xs) (k:List Key):Rm (Tz kvs k) ((atKey xs k).map (·.2)):=by
 induction r with
 | nil=>exact True.intro
 | @cons p q ps qs h t ih =>
  obtain ⟨h1,_,h2⟩:=h
  by_cases e:p.1=k
  ·have e':q.1=k:=h1.symm.trans e
   have b:atKey (q::qs) k=some q.2:=by simp [atKey,List.find?_cons,e']
   rw [Ja e,b]; exact h2
  ·have e':¬ q.1=k:=fun z=>e (h1.trans z)
   have b:atKey (q::qs) k=atKey qs k:=by simp [atKey,List.find?_cons,e']
   rw [J9 e,b]; exact ih
theorem KT.repl {H:Hp} {kvs:List (List Key × V)} {xs:List (List Key × Addr × Value)} (r:KT H kvs xs) (k:List Key) {y:V} {u:Value} (ry:RelV y u) :
  KT H (kvs.map fun kv=>if kv.1=k then (kv.1,y) else kv) (xs.map (putAt k u)):=by
 induction r with
 | nil=>exact .nil
 | @cons p q ps qs h t ih =>
  rw [List.map_cons,List.map_cons]
  refine .cons ?_ ih
  obtain ⟨h1,h2,h3⟩:=h
  unfold putAt
  by_cases e:p.1=k
  ·rw [if_pos e,if_pos (h1.symm.trans e)]; exact ⟨h1,h2,ry⟩
  ·rw [if_neg e,if_neg (fun z=>e (h1.trans z))]; exact ⟨h1,h2,h3⟩
theorem KT.put {H:Hp} {kvs:List (List Key × V)} {xs:List (List Key × Addr × Value)} (r:KT H kvs xs) (k:List Key) {b:Addr} {y:V} {u:Value} (hb:H b=some (.tup (k.map kV))) (ry:RelV y u) :
  KT H (putK kvs k y) (storedH xs k b u):=by
 have e:(kvs.any fun kv=>decide (kv.1=k))=(atKey xs k).isSome:=by
  rw [Vb,(r.val k).Z2,Option.isSome_map]
 unfold putK storedH
 rw [e]
 by_cases q:(atKey xs k).isSome=true
 ·rw [if_pos q,if_pos q]; exact r.repl k ry
 ·rw [if_neg q,if_neg q]; exact Paired.snoc r ⟨rfl,hb,ry⟩
theorem KT.keeps {H H':Hp} {kvs:List (List Key × V)} {xs:List (List Key × Addr × Value)} (r:KT H kvs xs) (ht:∀ b ys,H b=some (.tup ys)→H' b=some (.tup ys)):KT H' kvs xs :=
 Paired.ag3 r fun _ _ z=>⟨z.1,ht _ _ z.2.1,z.2.2⟩
section
variable {P:Program} {w:World} {H:Hp} {h:Heap} {a:Addr}
theorem ac1 {u:HO} (ok:HOk P w H h) (e:Rd H a u):xu P w H h a u:=e.ok ok
theorem Lg {kvs:List (Key × V)} (ok:HOk P w H h) (e:Rd H a (.dK kvs)):kvs.length≤sizeLine∧(a==sysModules)=false∧∃ vs,KV kvs vs∧h.DictOf (uh P w) a vs :=
 show xu P w H h a (.dK kvs) from ac1 ok e
theorem afa {kvs:List (Key × V)} (ok:HOk P w H h) (e:H a=some (.dK kvs)):kvs.length≤sizeLine∧(a==sysModules)=false∧∃ vs,KV kvs vs∧h.DictOf (uh P w) a vs:=Lg ok (.inl e)
theorem W6 {ks:List Key} (ok:HOk P w H h) (e:H a=some (.tup (ks.map kV))):(tupleKind (uh P w)).is h ks a:=by
 obtain ⟨_,its,r,o,h1,h2,_,n,h3⟩:=(show xu P w H h a (.tup (ks.map kV)) from ok a _ e)
 exact ⟨o,its.toArray,n,h1,h2,h3,by simpa using Ox r⟩
theorem a1v {kvs:List (List Key × V)} (ok:HOk P w H h) (e:Rd H a (.dT kvs)):kvs.length≤sizeLine∧(a==sysModules)=false ∧
  ∃ xs,KT H kvs xs∧h.DictOfH (tupleKind (uh P w)) a xs:=by
 obtain ⟨z,y,xs,r,o,es,ep,h1,h2,h3,h4,h5⟩:=(show xu P w H h a (.dT kvs) from ac1 ok e)
 refine ⟨z,y,xs,r,o,es,ep,h1,h2,h3,h4,fun x hx=>?_,h5⟩
 have all:∀ {l:List (List Key × V)} {m:List (List Key × Addr × Value)},KT H l m→∀ x∈m,(tupleKind (uh P w)).is h x.1 x.2.1:=by
  intro l m q
  induction q with
  | nil=>intro x hx; exact nomatch hx
  | @cons p q ps qs hq t ih =>
   intro x hx
   rcases List.mem_cons.mp hx with e | hx
   ·subst e
    exact W6 ok (by rw [← hq.1]; exact hq.2.1)
   ·exact ih x hx
 exact all r x hx
theorem aeb {kvs:List (List Key × V)} (ok:HOk P w H h) (e:H a=some (.dT kvs)):kvs.length≤sizeLine∧(a==sysModules)=false ∧
  ∃ xs,KT H kvs xs∧h.DictOfH (tupleKind (uh P w)) a xs:=a1v ok (.inl e)
end
def a3k (H:Hp) (a:Addr) (y:V) (r:Option V):Prop :=
 (∃ kvs k,Rd H a (.dK kvs)∧y=kV k∧r=Tz kvs k)∨∃ kvs k b,Rd H a (.dT kvs)∧y=.ref b∧H b=some (.tup (k.map kV))∧r=Tz kvs k
def a9x (H:Hp) (a:Addr) (y v:V) (H':Hp):Prop :=
 (∃ kvs k,H a=some (.dK kvs)∧y=kV k∧kvs.length<sizeLine∧H'=upd H a (.dK (putK kvs k v))) ∨
 ∃ kvs k b,H a=some (.dT kvs)∧y=.ref b∧H b=some (.tup (k.map kV))∧kvs.length<sizeLine∧H'=upd H a (.dT (putK kvs k v))
theorem a3k.k {H:Hp} {a:Addr} {kvs:List (Key × V)} {k:Key} (e:H a=some (.dK kvs)):a3k H a (kV k) (Tz kvs k):=.inl ⟨kvs,k,.inl e,rfl,rfl⟩
theorem a3k.t {H:Hp} {a b:Addr} {kvs:List (List Key × V)} {k:List Key} (e:H a=some (.dT kvs)) (eb:H b=some (.tup (k.map kV))):a3k H a (.ref b) (Tz kvs k):=.inr ⟨kvs,k,b,.inl e,rfl,eb,rfl⟩
theorem a9x.k {H:Hp} {a:Addr} {kvs:List (Key × V)} {k:Key} {v:V} (e:H a=some (.dK kvs)) (hl:kvs.length<sizeLine):a9x H a (kV k) v (upd H a (.dK (putK kvs k v))):=.inl ⟨kvs,k,e,rfl,hl,rfl⟩
theorem a9x.t {H:Hp} {a b:Addr} {kvs:List (List Key × V)} {k:List Key} {v:V} (e:H a=some (.dT kvs)) (eb:H b=some (.tup (k.map kV))) (hl:kvs.length<sizeLine) :
  a9x H a (.ref b) v (upd H a (.dT (putK kvs k v))):=.inr ⟨kvs,k,b,e,rfl,eb,hl,rfl⟩
section
variable {X:Cx} {pins:List (Addr × Obj)} {σ:St} {H:Hp} {s:Shared} {a:Addr} {y v:V} {u r:Value} {o:Option V} {A:Around} {E:Value→Shared→Prop}
theorem Inv.big (I:Inv X pins σ H s):sysModules<s.heap.objs.size:=by
 have h:mainGlobals<s.heap.objs.size:=(I.mod.glob.keeps I.bk).lt
 exact Nat.lt_trans (by decide) h
theorem a07 {Q:Value→Shared→Prop} (hu:A.units+1<cLine) (I:Inv X pins σ H s) (g:a3k H a y (some v)) (ry:RelV y u) (h:∀ w' s',Inv X pins σ H s'→RelV v w'→Q w' s') :
  wpAny (model X.prog X.w) A (getItem (.ref a) u) Q E s:=by
 rcases g with ⟨kvs,k,e,ey,l⟩ | ⟨kvs,k,b,e,ey,eb,l⟩
 ·subst ey
  obtain ⟨z,hd,vs,rel,dd⟩:=Lg I.hok e
  obtain ⟨w',hw,rw'⟩:=Rm.some_of (v:=v) (o:=valueAt vs k) (by rw [l]; exact rel.val k)
  exact wpAny_getItem_of (a5s ry) dd.mapOf hw (h w' _ (I.tok _) rw')
 ·subst ey
  cases (show u=Value.ref b from ry)
  obtain ⟨z,hd,xs,rel,dd⟩:=a1v I.hok e
  obtain ⟨w',hw,rw'⟩:=Rm.some_of (v:=v) (o:=(atKey xs k).map (·.2)) (by rw [l]; exact rel.val k)
  obtain ⟨p,hp,hp2⟩:=Option.map_eq_some_iff.mp hw
  refine wpAny_getItem_heap (tupleKind_room_in1 hu) (W6 I.hok eb) dd hp ?_
  rw [hp2]
  exact h w' _ (I.tok _) rw'
theorem Yp {h':Heap} {t':Nat} {ob:HO} (I:Inv X pins σ H s) (mu:Mut (H a)) (hs:Heap.SameBut a s.heap h') (he:∃ q,h'.get? a=some q) (new:xu X.prog X.w (upd H a ob) h' a ob) :
  Inv X pins σ (upd H a ob) { s with heap:=h',toks:=t' } :=
 I.write (x:=a) (e:=a) mu (.inl rfl) (fun b q hb z=>(hs.2 b hb).trans z) he new
theorem a65 {P:Program} {w:World} {H':Hp} {h':Heap} {kvs:List (Key × V)} {vs:List (Key × Value)} (z:kvs.length≤sizeLine) (hd:(a==sysModules)=false) (rel:KV kvs vs) (dd:h'.DictOf (uh P w) a vs) :
  xu P w H' h' a (.dK kvs):=⟨z,hd,vs,rel,dd⟩
theorem Ze {H':Hp} {Q:Unit→Shared→Prop} (hu:A.units+1<cLine) (I:Inv X pins σ H s) (g:a9x H a y v H') (ry:RelV y u) (rv:RelV v r) (h:∀ s',Inv X pins σ H' s'→Q () s') :
  wpAny (model X.prog X.w) A (setItem (.ref a) u r) Q E s:=by
 rcases g with ⟨kvs,k,e,ey,l,eH⟩ | ⟨kvs,k,b,e,ey,eb,l,eH⟩
 ·subst ey eH
  obtain ⟨z,hd,vs,rel,dd⟩:=afa I.hok e
  have hz:vs.length≤sizeLine:=by rw [← rel.length]; exact z
  have hl:(putK kvs k v).length≤sizeLine:=by have:=La kvs k v; omega
  refine wpAny_setItem_pairs (hsz:=hz) (a5s ry) dd fun h' dd' hs=>h _ ?_
  have he:∃ q,h'.get? a=some q:=let ⟨q,_,_,hq,_⟩:=dd'; ⟨q,hq⟩
  exact Yp I (by rw [e]; exact True.intro) hs he (a65 hl hd (rel.put k rv) dd')
 ·subst ey eH
  cases (show u=Value.ref b from ry)
  obtain ⟨z,hd,xs,rel,dd⟩:=aeb I.hok e
  have hz:xs.length≤sizeLine:=by rw [← Paired.length rel]; exact z
  have hl:(putK kvs k v).length≤sizeLine:=by have:=La kvs k v; omega
  refine wpAny_setItem_heap (hsz:=hz) (tupleKind_room_in1 hu) (W6 I.hok eb) dd fun h' dd' hs=>h _ ?_
  obtain ⟨q,es,ep,hq,h2,h3,h4,_,h5⟩:=dd'
  refine Yp I (by rw [e]; exact True.intro) hs ⟨q,hq⟩ ⟨hl,hd,_,(rel.put k eb rv).keeps fun c ys ec=>?_,q,es,ep,hq,h2,h3,h4,h5⟩
  rw [n8 (ae9 ec e (fun z=>nomatch z))]
  exact ec
end
section
variable {X:Cx} {pins:List (Addr × Obj)} {σ:St} {H:Hp} {s:Shared} {a:Addr} {kvs:List (Key × V)} {k:Key} {u:Value} {A:Around} {E:Value→Shared→Prop}
theorem acg {Q:Value→Shared→Prop} (I:Inv X pins σ H s) (e:Rd H a (.dK kvs)) (h:∀ t s',Inv X pins σ H s'→Q (.int kvs.length t) s'):wpAny (model X.prog X.w) A (call (.builtin "len") [.ref a]) Q E s:=by
 obtain ⟨z,hd,vs,rel,dd⟩:=Lg I.hok e
 refine call_len_dict hd dd (by rw [← rel.length]; rw [sizeLine_eq] at z; omega) ?_
 rw [← rel.length]
 exact h _ _ (I.tok _)
end
theorem Tp {X:Cx} {pins:List (Addr × Obj)} {σ:St} {H:Hp} {s:Shared} {a:Addr} {y:V} {o:Option V} (I:Inv X pins σ H s) (g:a3k H a y o):s.TypeIs (.ref a) "dict" := by
 rcases g with ⟨kvs,k,e,_,_⟩ | ⟨kvs,k,b,e,_,_,_⟩
 ·obtain ⟨_,_,vs,_,dd⟩:=Lg I.hok e
  exact dd.typeIs
 ·obtain ⟨_,_,xs,_,dd⟩:=a1v I.hok e
  exact dd.typeIs
def aef (td ty tv:TE):TS:=fun D σ H=>tv σ H fun v H1=>td σ H1 fun x H2=>ty σ H2 fun y H3=>∃ a H4,x=.ref a∧a9x H3 a y v H4∧D.nx σ H4
section
variable {X:Cx} {o i e value:Expr} {pos pos' tpos:Pos} {td ty tv:TE}
theorem a7v (hu:X.A.units+1<cLine) (ho:PE X o td) (hi:PE X i ty) (hv:PE X value tv) (hs:swapsWith value (some (.Subscript o i pos')) pos.line X.env=pure false) :
  PS X (.Assign [.Subscript o i pos'] value pos) (aef td ty tv):=by
 intro pins s σ H D I h
 refine wpAny_Assign_Subscript (thn (hv pins s σ H _ I h) fun r s1 ⟨v,H1,I1,rv,q1⟩=>thn (ho pins s1 σ H1 _ I1 q1) fun u s2 ⟨x,H2,I2,rx,q2⟩=>thn (hi pins s2 σ H2 _ I2 q2) fun iv s3 ⟨y,H3,I3,ry,a,H4,ex,g,q3⟩=>?_) hs
 subst ex
 obtain rfl:u=Value.ref a:=rx
 exact Ze hu I3 g ry rv fun s4 I4=>⟨σ,H4,I4,q3⟩
end
theorem a3w {P:Program} {w:World} {H:Hp} (h:Heap) (hb:sysModules<h.objs.size):xu P w H (h.push { cls:=.type "dict",data:=.dict #[] }) h.objs.size (.dK []) :=
 ⟨Nat.zero_le _,beq_eq_false_iff_ne.mpr (Ne.symm (Nat.ne_of_lt hb)),[],.nil,Heap.DictOf.new h⟩
def aby:TE:=fun _ H Q=>∀ p,H p=none→Q (.ref p) (upd H p (.dK []))
section
variable {X:Cx} {pos:Pos}
theorem a3s:PE X (.Dict [] [] pos) aby:=fun pins s σ H Q I h =>
 wpAny_Dict_empty ⟨.ref s.heap.objs.size,_,I.laid (a:=s.heap.objs.size) (o:=.dK []) (t':=s.toks) (fun _ _ q=>Heap.get?_push_of_some _ q) (Nat.le_refl _) (a3w s.heap I.big),rfl,h _ (I.hok.fresh (Nat.le_refl _))⟩
end
structure M1 (X:Cx) (o:Expr) (m:Str) (apos:Pos) (e:Expr) (cpos:Pos):Prop where
 base:attributeBase o m X.env (eval o X.env)=eval o X.env
 few:((backTo cpos (starEach [e] X.env)).all (fun x=>!x.1)&&(backToKw cpos (keywordEach [] X.env)).all (fun x=>x.1.isSome)
  && decide (([e]:List Expr).length+([]:List Keyword).length+(if ([]:List Keyword).isEmpty then 0 else 1)<30))=true
 line:(apos.endLine==cpos.line)=true
 trees:backTo cpos (starEach [e] X.env)=[(false,eval e X.env)]
structure M2 (X:Cx) (o:Expr) (m:Str) (apos:Pos) (e f:Expr) (cpos:Pos):Prop where
 base:attributeBase o m X.env (eval o X.env)=eval o X.env
 few:((backTo cpos (starEach [e,f] X.env)).all (fun x=>!x.1)&&(backToKw cpos (keywordEach [] X.env)).all (fun x=>x.1.isSome)
  && decide (([e,f]:List Expr).length+([]:List Keyword).length+(if ([]:List Keyword).isEmpty then 0 else 1)<30))=true
 line:(apos.endLine==cpos.line)=true
 trees:backTo cpos (starEach [e,f] X.env)=[(false,eval e X.env),(false,eval f X.env)]
def IsD (H:Hp) (a:Addr):Prop:=(∃ kvs,Rd H a (.dK kvs))∨∃ kvs,Rd H a (.dT kvs)
theorem abu {X:Cx} {pins:List (Addr × Obj)} {σ:St} {H:Hp} {s:Shared} {a:Addr} (I:Inv X pins σ H s) (d:IsD H a) :
  s.TypeIs (.ref a) "dict" ∧ (∀ b,Value.ref a=.ref b→∃ ob,s.heap.get? b=some ob∧ob.dict=none)∧(a==sysModules)=false:=by
 rcases d with ⟨kvs,e⟩ | ⟨kvs,e⟩
 ·obtain ⟨_,hd,vs,_,dd⟩:=Lg I.hok e
  refine ⟨dd.typeIs,fun b q=>?_,hd⟩
  cases q
  obtain ⟨ob,_,_,h1,h2,_⟩:=dd
  exact ⟨ob,h1,h2.2.1⟩
 ·obtain ⟨_,hd,xs,_,dd⟩:=a1v I.hok e
  refine ⟨dd.typeIs,fun b q=>?_,hd⟩
  cases q
  obtain ⟨ob,_,_,h1,h2,_⟩:=dd
  exact ⟨ob,h1,h2.2.1⟩
section
variable {X:Cx} {pins:List (Addr × Obj)} {σ:St} {H:Hp} {s:Shared} {a:Addr} {y d:V} {u r:Value} {o:Option V} {A:Around} {E:Value→Shared→Prop}
theorem aar {Q:Value→Shared→Prop} (hu:A.units+1<cLine) (I:Inv X pins σ H s) (g:a3k H a y o) (ry:RelV y u) (rd:RelV d r) (h:∀ w' s',Inv X pins σ H s'→RelV (o.getD d) w'→Q w' s') :
  wpAny (model X.prog X.w) A (call (.builtin "dict.get") [.ref a,u,r]) Q E s:=by
 rcases g with ⟨kvs,k,e,ey,l⟩ | ⟨kvs,k,b,e,ey,eb,l⟩
 ·subst ey
  obtain ⟨z,hd,vs,rel,dd⟩:=Lg I.hok e
  refine call_meetsIn PySem.F.slot_dict_get dd.typeIs PySem.F.entry_dict_get (PySem.F.args_dict_get_3 _ _ _) (meets_dict_get_default (uh X.prog X.w) a (a5s ry) hd r) ⟨_,dd.mapOf,h _ _ (I.tok _) ?_⟩
  rw [l]
  exact (rel.val k).getD rd
 ·subst ey
  cases (show u=Value.ref b from ry)
  obtain ⟨z,hd,xs,rel,dd⟩:=a1v I.hok e
  refine call_meetsIn PySem.F.slot_dict_get dd.typeIs PySem.F.entry_dict_get (PySem.F.args_dict_get_3 _ _ _) (meetsH_dict_get_default (tupleKind (uh X.prog X.w)) a b hd r) ⟨tupleKind_room_in1 hu,k,xs,W6 I.hok eb,dd,h _ _ (I.tok _) ?_⟩
  rw [l]
  exact (rel.val k).getD rd
end
def ac2 (td ty tx:TE):TE:=fun σ H Q=>td σ H fun x H1=>∃ a,x=.ref a∧IsD H1 a∧ty σ H1 fun y H2=>tx σ H2 fun z H3=>∃ o,a3k H3 a y o∧Q (o.getD z) H3
section
variable {X:Cx} {o e f:Expr} {apos cpos:Pos} {td ty tx:TE}
theorem a3v (hu:X.A.units+1<cLine) (ho:PE X o td) (he:PE X e ty) (hf:PE X f tx) (m:M2 X o "get" apos e f cpos):PE X (.Call (.Attribute o "get" apos) [e,f] [] cpos) (ac2 td ty tx):=by
 intro pins s σ H Q I h
 refine wpAny_Call_method m.base m.few m.line PySem.F.plainAttrs_dict PySem.F.slot_dict_get PySem.F.type_dict_get (thn (ho pins s σ H _ I h) fun u s1 z0=>?_)
 obtain ⟨x,H1,I1,rx,a,ex,d,q1⟩:=z0
 subst ex
 obtain rfl:u=Value.ref a:=rx
 obtain ⟨t1,t2,_⟩:=abu I1 d
 refine ⟨t1,t2,?_⟩
 rw [m.trees]
 refine Calls.callWith_builtin rfl (Calls.evalArgs_plain (Calls.spliced_cons (thn (he pins s1 σ H1 _ I1 q1) fun iv s2 ⟨y,H2,I2,ry,q2⟩ =>
  Calls.spliced_cons (thn (hf pins s2 σ H2 _ I2 q2) fun fv s3 ⟨z,H3,I3,rz,ov,g,q3⟩=>Calls.spliced_nil ?_))))
 exact aar hu I3 g ry rz fun w' s4 I4 rw'=>⟨_,H3,I4,rw',q3⟩
end
section
variable {X:Cx} {pins:List (Addr × Obj)} {σ:St} {H:Hp} {s:Shared} {a:Addr} {kvs:List (Key × V)} {A:Around} {E:Value→Shared→Prop}
theorem a5m {Q:Value→Shared→Prop} (I:Inv X pins σ H s) (e:Rd H a (.dK kvs)) (h:∀ p s',H p=none→Inv X pins σ (upd H p (.dK kvs)) s'→Q (.ref p) s'):wpAny (model X.prog X.w) A (call (.type "dict") [.ref a]) Q E s:=by
 obtain ⟨z,hd,vs,rel,dd⟩:=Lg I.hok e
 refine kt_call_dict hd dd (by rw [← rel.length]; exact z) fun h' dd' hs=>?_
 refine h _ _ (I.hok.fresh (Nat.le_refl _)) (I.laid (a:=s.heap.objs.size) (o:=.dK kvs) (t':=s.toks) (fun b q hq=>?_) (Nat.le_refl _) (a65 z (beq_eq_false_iff_ne.mpr (Ne.symm (Nat.ne_of_lt I.big))) rel dd'))
 exact (hs.2 b (Nat.ne_of_lt (Heap.lt_size hq))).trans (Heap.get?_push_of_some _ hq)
end
section
variable {X:Cx} {pins:List (Addr × Obj)} {σ:St} {H:Hp} {s:Shared} {a:Addr} {y:V} {u:Value} {A:Around} {E:Value→Shared→Prop}
end
end L2
end
section
namespace Att
open PySem PySem.W PySem.Calls PyProof.Rows
theorem Kv {P:Params} {h:Heap}:∀ (ns:List Int) (vs:List Value),WellAll P h vs (ns.map WData.int)→IntsAre vs ns:=by
 intro ns
 induction ns with
 | nil =>
  intro vs w
  rw [List.map_nil] at w
  cases w
  exact .nil
 | cons n ns ih =>
  intro vs w
  rw [List.map_cons] at w
  cases w with
  | cons a b =>
   cases a
   exact .cons _ _ (ih _ b)
theorem a2f {l:OpenLaw} {n:Nat} (hn:l.most=some n) {P:Params} {h:Heap} {args:List WData} {vals:List Value}
  (hpre:l.row.toRowW.claim.pre args=true) (hwl:WellAll P h vals args) :
  ∃ a vs ns,vals=[Value.ref a]∧args=[WData.list (ns.map WData.int)]∧h.get? a=some { cls:=.type "list",data:=.seq vs.toArray }∧IntsAre vs ns∧ns.length≤n:=by
 have hsh:WShape.hasAll [] args [.list .int]=true:=(pre_splitW hpre).1
 have hc:l.pre.holds [] { args:=args } = true:=(pre_splitW hpre).2
 obtain ⟨d,r,rfl,h1,h2⟩:=hasAllW_cons hsh
 obtain rfl:=hasAllW_nil h2
 obtain ⟨xs,rfl,h3⟩:=hasW_list h1
 obtain ⟨ns,rfl⟩:=items_int h3
 have hlen:ns.length≤n:=by
  unfold OpenLaw.pre at hc
  have h4:(WTm.not (.lt (.lit (.int (n:Int))) (.len (.arg 0)))).holds [] { args:=[.list (ns.map .int)] } = true:=by
   have h4:=(holds_andW hc).1
   rw [hn] at h4
   exact h4
  have h5:=condW_of h4 (w_not (w_lt w_lit (w_len_list (w_arg rfl))))
  rw [List.length_map] at h5
  refine Nat.le_of_not_lt fun q=>?_
  have q':(n:Int)<((ns.length:Nat):Int):=by omega
  first
   | (rw [decide_eq_true q'] at h5; exact absurd h5 (by decide))
   | (simp at h5; omega)
 cases hwl with
 | cons w1 w2 =>
  cases w2
  cases w1 with
  | list ho hall=>exact ⟨_,_,ns,rfl,rfl,ho,Kv ns _ hall,hlen⟩
theorem a0n (l:OpenLaw) (args:List WData):l.row.toRowW.claim.post args (.bool true) args=true :=
 postW_of (r:=l.row.toRowW) (X:=(true==true))
  (show WShape.has [] (.bool true) .bool=true by first | rfl | decide | simp [WShape.has,WShape.arms,WShape.armsAll])
  (show (WTm.eq .res (.lit (.bool true))).value [] { args:=args,res:=some (.bool true),after:=args } = some (.bool (true==true)) from w_eq_bool (w_res rfl) w_lit) rfl
theorem T9 {l:OpenLaw} {n:Nat} {q:Program} {loose:List Str} {XP:(Str→Option Value)→Heap→Prop} {YP:World→Heap→Prop} {d:DefRec}
  (hn:l.most=some n) (hdf:d.params.defaults=[])
  (call:∀ (w:World) (s₀ s₁:Shared) (mg mb:Str→Option Value) (fa:Addr) (o:Obj) (pm cd doc:Value) (a:Addr) (vs:List Value) (ns:List Int),
   Ground q loose [] XP w s₀ mg mb s₁.heap→YP w s₁.heap →
   s₁.heap.get? fa=some o→o.data=.func (docDef d.name d.params d.body d.scope pm cd doc)→s₁.heap.CodeRec cd d.name→mg d.name=some (.ref fa) →
   s₁.heap.get? a=some { cls:=.type "list",data:=.seq vs.toArray }→IntsAre vs ns→ns.length≤n→s₁.gens = #[] →
   codeAny (model l.prog w) callerA (.call (.ref fa) ⟨[.ref a],[]⟩) (fun r s'=>r=.ok (.ret (.bool true))∧OldK s₁.heap s'.heap∧s'.os=s₁.os∧AllBare s'.gens) s₁) :
  WalkO q loose XP YP l.row.toRowW d [] (fun f vs=>PySem.call f vs):=by
 intro w s₀ s₁ mg mb G Y fa o pm cd doc dV kV ho hd hcd hD hmg hg args vals as hpre hlay hrd hwl hlo
 obtain rfl:dV=.none:=Dflts.none hD hdf
 obtain rfl:kV=.none:=Dflts.noKw hD
 obtain ⟨a,vs,ns,rfl,rfl,hobj,hints,hlen⟩:=a2f hn hpre hwl
 refine enter_call (codeAny_mono (call w s₀ s₁ mg mb fa o pm cd doc a vs ns G Y ho (fd_plain hd) hcd hmg hobj hints hlen hg) fun r s' hq=>?_)
 obtain ⟨rfl,h2,h3,h4⟩:=hq
 exact ⟨.inl ⟨.bool true,.bool true,[],rfl,fun _=>rfl,.bool true,a0n l _,fun _=>⟨List.Pairwise.nil,fun _ hm=>(nomatch hm)⟩⟩,h2,h3,h4⟩
section
variable {prog:Program} {w:World} {A:Around} {E:Value→Shared→Prop} {s:Shared} {K:Frag}
end
end Att
namespace L2
open PySem PySem.Spec PyProof.Rows
theorem Oj:∀ {vs:List Value} {ns:List Int},IntsAre vs ns→Vals (ns.map V.int) vs
 | _,_,.nil=>.nil
 | _,_,.cons n t h=>.cons ⟨t,rfl⟩ (Oj h)
def Only (H:Hp):Prop:=∀ b,H b=none∨∃ o xs,H b=some (.frz o (.lst xs))
theorem a4m {P:Program} {w:World} {K:PySem.W.Frag} {mg mb:Str→Option Value} {CX:CXT} {k:Nat} {fa a:Addr} {fd:FuncData} {x:Str} {sp:Sp} {s₁:Shared} {vs:List Value} {ns:List Int}
  (KX:K.In s₁.heap) (hns:s₁.heap.Ns mainGlobals mg) (hb:s₁.heap.Ns builtinsNs mb) (hbb:∀ x:Str,x ≠ "__name__" → mb x=bootBuiltins x) (hlim:s₁.heap.NoLimit) (hg:s₁.gens = #[])
  (ha:s₁.heap.get? a=some { cls:=.type "list",data:=.seq vs.toArray }) (hi:IntsAre vs ns) (hl:ns.length≤sizeLine) (hr:Lq k callerA)
  (F:∀ base:Heap,K.In base→base.Ns mainGlobals mg→Nj P w K mg base CX k fa fd [x] sp) (hbind:∀ (s:Shared) (u:Value),BindsTo s fd ⟨[u],[]⟩ [(x,u)])
  (hsp:∀ H:Hp,Only H→SqL K H a (ns.map V.int)→sp [.ref a] H (fun v _=>v=.bl true) fun _ _ _=>False)
  (hCX:∀ H e s',CX [] H s₁ (fun _ _ _=>False) e s'→False) :
  codeAny (model P w) callerA (.call (.ref fa) ⟨[.ref a],[]⟩) (fun r s'=>r=.ok (.ret (.bool true))∧OldK s₁.heap s'.heap∧s'.os=s₁.os∧AllBare s'.gens) s₁:=by
 have rv:=Oj hi
 have lenV:=hi.length
 have core:∀ H:Hp,Only H→SqL K H a (ns.map V.int)→HOk P w H s₁.heap→(∀ b,H b≠none→b=a)→(H a≠none→K.lookup a=none) →
   codeAny (model P w) callerA (.call (.ref fa) ⟨[.ref a],[]⟩) (fun r s'=>r=.ok (.ret (.bool true))∧OldK s₁.heap s'.heap∧s'.os=s₁.os∧AllBare s'.gens) s₁:=by
  intro H hO hS hok hA hK
  have base_of:∀ {b:Addr} {o:Obj},s₁.heap.get? b=some o→H b=none→(a4i s₁.heap H).get? b=some o:=fun e n=>a4h e n
  have noA:∀ {b:Addr} {o:Obj} {es:Array DictEntry} {ep:Nat},s₁.heap.get? b=some o→o.data=.dict es ep→H b=none:=fun {b o es ep} e d=>by
   cases q:H b with
   | none=>rfl
   | some u =>
    have e':b=a:=hA b (by rw [q]; simp)
    subst e'
    rw [ha] at e; cases e
    have d':Data.seq vs.toArray _=Data.dict es ep:=d
    cases d'
  have nsK:∀ {b:Addr} {m:Str→Option Value},s₁.heap.Ns b m→(a4i s₁.heap H).Ns b m:=fun {b m} ⟨o,es,ep,e,d,r⟩=>⟨o,es,ep,base_of e (noA e d),d,r⟩
  have hKb:K.In (a4i s₁.heap H):=fun b o e=>base_of (KX b o e) (by
   cases q:H b with
   | none=>rfl
   | some u =>
    have e':b=a:=hA b (by rw [q]; simp)
    subst e'
    rw [hK (by rw [q]; simp)] at e; cases e)
  have hM:Mod K mg (a4i s₁.heap H):=⟨hKb,nsK hns,⟨mb,nsK hb,hbb⟩,let ⟨mc,h1,h2⟩:=hlim; ⟨mc,nsK h1,h2⟩⟩
  have e0:adh P w K mg (a4i s₁.heap H) callerA [] s₁ H:=⟨rfl,hM,fun b o e=>a9z e,Nat.le_of_eq (Y6 _ _),trivial,fun b hb=>absurd (show b∈([]:List Addr) from hb) (by simp),hok,.of_eq hg⟩
  refine codeAny_mono ((F _ hKb (nsK hns)).run callerA [] s₁ H ⟨[.ref a],[]⟩ [.ref a] [.ref a] _ _ hr e0 (hbind s₁ (.ref a)) (.cons rfl .nil) (hsp H hO hS)) fun r s' h=>?_
  cases r with
  | error e=>exact (hCX H e s' h).elim
  | ok fl =>
   cases fl with
   | next=>exact False.elim h
   | brk=>exact False.elim h
   | cont=>exact False.elim h
   | ret u =>
    obtain ⟨v,H',os,bare,un,hok',r',q⟩:=h
    have q':v=.bl true:=q
    subst q'
    obtain rfl:u=Value.bool true:=r'
    refine ⟨rfl,OldK.of_keep fun b o e=>?_,os,bare⟩
    cases q:H b with
    | none=>exact un.keep b o e q (by intro z; exact absurd (show b∈([]:List Addr) from z) (by simp)) (by simp)
    | some u =>
     rcases hO b with z | ⟨ob,xs,z⟩
     ·rw [q] at z; cases z
     ·have z2:=un.frzs b ob _ z
      obtain ⟨e1,_⟩:=hok b _ z
      obtain ⟨e2,_⟩:=hok' b _ z2
      rw [e] at e1; cases e1
      exact e2
 cases hk:K.lookup a with
 | some o =>
  have e:=KX a o hk
  rw [ha] at e
  cases e
  refine core (fun _=>none) (fun _=>.inl rfl) (.inr ⟨_,vs.toArray,_,hk,rfl,rfl,rfl,by rw [List.size_toArray,lenV]; exact hl,by simpa using rv⟩) (fun b u z=>by have z':(none:Option HO)=some u:=z; cases z') (fun b z=>absurd rfl z) fun z=>absurd rfl z
 | none =>
  refine core (fun b=>if b=a then some (.frz { cls:=.type "list",data:=.seq vs.toArray } (.lst (ns.map V.int))) else none) (fun b=>?_) (.inl (.inr ⟨{ cls:=.type "list",data:=.seq vs.toArray },if_pos rfl⟩)) (fun b u z=>?_) (fun b z=>?_) fun _=>hk
  ·by_cases hb:b=a
   ·exact .inr ⟨_,_,if_pos hb⟩
   ·exact .inl (if_neg hb)
  ·by_cases hb:b=a
   ·have z':=(if_pos hb).symm.trans z
    cases z'
    subst hb
    exact ⟨ha,by rw [List.length_map]; exact hl,vs,_,rv,ha⟩
   ·have z':=(if_neg hb).symm.trans z
    cases z'
  ·by_cases hb:b=a
   ·exact hb
   ·exact absurd (if_neg hb) z
end L2
namespace L2
open PySem PySem.Spec PyProof.Rows
theorem a9q {l:PySem.W.OpenLaw} {n k:Nat} {q:Program} {loose:List Str} {XP:(Str→Option Value)→Heap→Prop} {YP:World→Heap→Prop} {d:DefRec} {K:Params→PySem.W.Frag} {CX:World→CXT} {sp:World→Sp} {x:Str}
  (hn:l.most=some n) (hn2:n≤sizeLine) (hdf:d.params.defaults=[]) (hr:Lq k callerA)
  (hY:∀ (w:World) (h:Heap),YP w h→(K w.params).In h)
  (F:∀ (w:World) (mg:Str→Option Value) (fa:Addr) (h:Heap),(K w.params).In h→h.Ns mainGlobals mg→mg d.name=some (.ref fa) →
   ∃ fd:FuncData,(∀ (s:Shared) (u:Value),BindsTo s fd ⟨[u],[]⟩ [(x,u)]) ∧
    ∀ base:Heap,(K w.params).In base→base.Ns mainGlobals mg→Nj l.prog w (K w.params) mg base (CX w) k fa fd [x] (sp w))
  (hsp:∀ (w:World) (H:Hp) (a:Addr) (ns:List Int),ns.length≤n→Only H→SqL (K w.params) H a (ns.map V.int)→sp w [.ref a] H (fun v _=>v=.bl true) fun _ _ _=>False)
  (hCX:∀ (w:World) (H:Hp) (s:Shared) (e:Value) (s':Shared),CX w [] H s (fun _ _ _=>False) e s'→False) :
  PySem.W.WalkO q loose XP YP l.row.toRowW d [] (fun f vs=>PySem.call f vs):=by
 refine Att.T9 hn hdf fun w s₀ s₁ mg mb fa o pm cd doc a vs ns G Y ho hd hcd hmg hobj hints hlen hg=>?_
 have KX:=hY w _ Y
 obtain ⟨fd,hb,hF⟩:=F w mg fa _ KX G.T.g hmg
 exact a4m KX G.T.g G.T.b G.T.builtins G.T.nolimit hg hobj hints (Nat.le_trans hlen hn2) hr hF hb (fun H hO hS=>hsp w H a ns hlen hO hS) fun H e s'=>hCX w H s₁ e s'
end L2
namespace L2
open PySem PySem.Spec PyProof.Rows
def Dl (s:Stmt):Arguments:=match s with
 | .FunctionDef _ a _ _ _ _ _ _ _ _=>a
 | _=>{ posonlyargs:=[],args:=[],vararg:=none,kwonlyargs:=[],kw_defaults:=[],kwarg:=none,defaults:=[] }
def Bm (s:Stmt):List Stmt:=match s with
 | .FunctionDef _ _ b _ _ _ _ _ _ _=>b
 | _=>[]
def gq (s:Stmt):Scope:=match s with
 | .FunctionDef _ _ _ _ _ _ sc _ _ _=>sc
 | _=>{ kind:=.function,names:=[],isGenerator:=false,isCoroutine:=false }
abbrev CX0:CXT:=fun _ _ _ _ _ _=>False
abbrev E0:XK:=fun _ _ _=>False
theorem af2 {X:Cx}:Passes CX0 X E0:=fun _ _ _ _ _ _ _ h=>h.elim
structure Fun (K:PySem.W.Frag) (x qual:Str) (st:Stmt) (f:Addr) (fd:FuncData):Prop where
 ex:∃ (oc:Value) (od:Option Addr) (kV doc pm:Value) (an:Option Addr) (cdv ct:Value) (osl:Array (Option Value)),
  fd=PySem.W.fnOf x qual (Dl st) (Bm st) (gq st) .none kV doc pm an cdv ct∧K.lookup f=some ⟨oc,od,.func fd,osl⟩∧PySem.W.codeIn K cdv qual=true
 kp:PySem.W.keepIn K (.ref f)=true
section
variable {P:Program} {w:World} {K:PySem.W.Frag} {mg:Str→Option Value} {base:Heap}
theorem Fun.ok {x qual:Str} {st:Stmt} {f:Addr} {fd:FuncData} {N ps:List Str} {k:Nat} {sp:Sp} (F:Fun K x qual st f fd) (S:ji N ps (gq st)) (len:∀ vs H Q E,sp vs H Q E→vs.length=ps.length)
  (hbody:∀ (cdv:Value) (A:Around) (outer:List Env) (s:Shared) (H:Hp) (vs:List V) (Q:VK) (E:XK),Lq k (A.deeper (envOfC qual (gq st) s.heap.objs.size f cdv))→sp vs H Q E →
   ∃ t,PSs (a8m CX0 P w K mg base N qual (gq st) f cdv A outer s H E).nox (Bm st) t∧t { nx:=fun _ H'=>Q .non H',rt:=Q } (start N vs) H):Nj P w K mg base CX0 (k+1) f fd ps sp:=by
 obtain ⟨oc,od,kV,doc,pm,an,cdv,ct,osl,rfl,lk,hcd⟩:=F.ex
 refine ae2 lk hcd S len fun A outer s H vs Q E hr hsp=>?_
 obtain ⟨t,h,q⟩:=hbody cdv A outer s H vs Q E hr hsp
 exact ⟨t,h.nox,q⟩
theorem Fun.binds {x qual:Str} {st:Stmt} {f:Addr} {fd:FuncData} {ps:List Str} (F:Fun K x qual st f fd)
  (h:∀ (kV doc pm:Value) (an:Option Addr) (cdv ct:Value) (us:List Value),us.length=ps.length→bindArgs (PySem.W.fnOf x qual (Dl st) (Bm st) (gq st) .none kV doc pm an cdv ct) ⟨us,[]⟩=pure (ps.zip us)):Binds K fd ps []:=by
 obtain ⟨oc,od,kV,doc,pm,an,cdv,ct,osl,rfl,lk,hcd⟩:=F.ex
 exact .all (h kV doc pm an cdv ct)
theorem bd1 {fd:FuncData} {ps:List Str} (h:∀ a,bindArgs fd ⟨[a],[]⟩=pure (ps.zip [a])) (us:List Value) (hl:us.length=1):bindArgs fd ⟨us,[]⟩=pure (ps.zip us):=by
 cases us with
 | nil=>exact nomatch hl
 | cons a us =>
 cases us with
 | cons _ _=>simp at hl
 | nil=>exact h a
theorem bd2 {fd:FuncData} {ps:List Str} (h:∀ a b,bindArgs fd ⟨[a,b],[]⟩=pure (ps.zip [a,b])) (us:List Value) (hl:us.length=2):bindArgs fd ⟨us,[]⟩=pure (ps.zip us):=by
 cases us with
 | nil=>exact nomatch hl
 | cons a us =>
 cases us with
 | nil=>exact nomatch hl
 | cons b us =>
 cases us with
 | cons _ _=>simp at hl
 | nil=>exact h a b
theorem bd3 {fd:FuncData} {ps:List Str} (h:∀ a b c,bindArgs fd ⟨[a,b,c],[]⟩=pure (ps.zip [a,b,c])) (us:List Value) (hl:us.length=3):bindArgs fd ⟨us,[]⟩=pure (ps.zip us):=by
 cases us with
 | nil=>exact nomatch hl
 | cons a us =>
 cases us with
 | nil=>exact nomatch hl
 | cons b us =>
 cases us with
 | nil=>exact nomatch hl
 | cons c us =>
 cases us with
 | cons _ _=>simp at hl
 | nil=>exact h a b c
theorem bd4 {fd:FuncData} {ps:List Str} (h:∀ a b c d,bindArgs fd ⟨[a,b,c,d],[]⟩=pure (ps.zip [a,b,c,d])) (us:List Value) (hl:us.length=4):bindArgs fd ⟨us,[]⟩=pure (ps.zip us):=by
 cases us with
 | nil=>exact nomatch hl
 | cons a us =>
 cases us with
 | nil=>exact nomatch hl
 | cons b us =>
 cases us with
 | nil=>exact nomatch hl
 | cons c us =>
 cases us with
 | nil=>exact nomatch hl
 | cons d us =>
 cases us with
 | cons _ _=>simp at hl
 | nil=>exact h a b c d
theorem bd5 {fd:FuncData} {ps:List Str} (h:∀ a b c d e,bindArgs fd ⟨[a,b,c,d,e],[]⟩=pure (ps.zip [a,b,c,d,e])) (us:List Value) (hl:us.length=5):bindArgs fd ⟨us,[]⟩=pure (ps.zip us):=by
 cases us with
 | nil=>exact nomatch hl
 | cons a us =>
 cases us with
 | nil=>exact nomatch hl
 | cons b us =>
 cases us with
 | nil=>exact nomatch hl
 | cons c us =>
 cases us with
 | nil=>exact nomatch hl
 | cons d us =>
 cases us with
 | nil=>exact nomatch hl
 | cons e us =>
 cases us with
 | cons _ _=>simp at hl
 | nil=>exact h a b c d e
theorem a71 {x qual:Str} {st:Stmt} {f:Addr} {oc:Value} {od an:Option Addr} {osl:Array (Option Value)} {kV doc pm cdv ct:Value} (l:K.lookup f=some ⟨oc,od,.func (PySem.W.fnOf x qual (Dl st) (Bm st) (gq st) .none kV doc pm an cdv ct),osl⟩)
  (c:PySem.W.codeIn K cdv qual=true) (k:PySem.W.keepIn K (.ref f)=true):Fun K x qual st f (PySem.W.fnOf x qual (Dl st) (Bm st) (gq st) .none kV doc pm an cdv ct):=⟨⟨oc,od,kV,doc,pm,an,cdv,ct,osl,rfl,l,c⟩,k⟩
end
theorem uw {A:Around} {k:Nat} (hr:Lq k A):A.units+1<cLine:=Nat.lt_of_le_of_lt (Nat.add_le_add_left (by decide:1≤64) _) hr.units
theorem Ko {n:Nat} (h:n≤1000):n<sizeLine:=Nat.lt_of_le_of_lt h (by decide)
section
variable {X:Cx}
theorem pv (i:Nat) {x:Str} {pos:Pos} (hN:X.N[i]? = some x:=by rfl) (hv:Vis X.env.scope x:=by first | exact Or.inl rfl | exact Or.inr (Or.inl rfl) | exact Or.inr (Or.inr rfl)) (hd:(x==("__debug__" : Str))=false:=by decide)
  (hcd:(x==("__classdict__" : Str))=false:=by decide):PE X (.Name x pos) (a2r i):=abb hN hv hd hcd
end
theorem a69 {A B:Prop} (h:B):if false=true then A else B:=by
 rw [if_neg Bool.false_ne_true]
 exact h
theorem a6t {A B:Prop} (h:A):if true=true then A else B:=by
 rw [if_pos rfl]
 exact h
def Same (H H':Hp):Prop:=∀ b o,H b=some o→H' b=some o
theorem Same.refl (H:Hp):Same H H:=fun _ _ h=>h
theorem Same.trans {H H1 H2:Hp} (a:Same H H1) (b:Same H1 H2):Same H H2:=fun c o h=>b c o (a c o h)
theorem Same.free {H H':Hp} (e:Same H H') {l:Addr} (h:H' l=Option.none):H l=Option.none:=by
 cases q:H l with
 | none=>rfl
 | some o =>
  rw [e l o q] at h
  cases h
theorem Same.seq {K:PySem.W.Frag} {H H':Hp} {a:Addr} {xs:List V} (e:Same H H') (h:SqL K H a xs):SqL K H' a xs:=by
 rcases h with (h | ⟨o,h⟩) | h
 ·exact .inl (.inl (e _ _ h))
 ·exact .inl (.inr ⟨o,e _ _ h⟩)
 ·exact .inr h
section
variable {X:Cx}
end
section
variable {κ:Type} [DecidableEq κ]
end
end L2
end
section
namespace C
open PySem
theorem jm {α:Type} {w:α} {P:Prop} (h:none=some w):P:=nomatch h
theorem Fl {α:Type} {c:Prop} [Decidable c] {o:Option α} {w:α} (h:(if c then o else none)=some w):c∧o=some w:=by
 by_cases z:c
 ·rw [if_pos z] at h; exact ⟨z,h⟩
 ·rw [if_neg z] at h; exact jm h
abbrev Key:=Sum Int Str
inductive T where
 | non | bl (b:Bool) | int (i:Int) | str (x:Str)
 | tup (xs:List T) | lst (xs:List T) | dic (kvs:List (Key × T)) | obj (n:Nat)
instance:Inhabited T:=⟨.non⟩
inductive SO where
 | dic (kvs:List (Key × T)) | lst (xs:List T) | dit (kvs:List (List Key × T))
abbrev Slot:=Option (T × Bool)
structure Sta where
 env:List Slot
 sto:List SO
abbrev M (α:Type):=Sta→Option (α × Sta)
def Ww (k:Key):List (Key × T)→Option T
 | []=>none
 | (q,t)::r=>if q=k then some t else Ww k r
def a6m (k:Key) (t:T) (kvs:List (Key × T)):List (Key × T) :=
 if kvs.any fun p=>decide (p.1=k) then kvs.map fun p=>if p.1=k then (p.1,t) else p else kvs++[(k,t)]
def keyOf:T→Option Key
 | .int i=>some (.inl i)
 | .str x=>some (.inr x)
 | _=>none
def Xl:Key→T
 | .inl i=>.int i
 | .inr x=>.str x
mutual
def dat:T→Option PyData
 | .non=>some .none
 | .bl b=>some (.bool b)
 | .int i=>some (.int i)
 | .str x=>if PyData.canLay0 (.str x) then some (.str x) else none
 | .tup xs=>(Eh xs).map .tuple
 | .lst xs=>(Eh xs).map .list
 | .dic _=>none
 | .obj _=>none
def Eh:List T→Option (List PyData)
 | []=>some []
 | x::r=>match dat x with
  | some a=>(Eh r).map (a :: ·)
  | none=>none
end
def eqD (a b:T):Option Bool:=match dat a with
 | some x=>match dat b with
  | some y=>if x.depth≤40 then some (PyData.eqv x y) else none
  | none=>none
 | none=>none
def aa4:List (Key × T)→List (Key × T)→Option Bool
 | [],_=>some true
 | (k,x)::r,ys=>match Ww k ys with
  | none=>some false
  | some y=>match eqD x y with
   | some e=>(aa4 r ys).map (e && ·)
   | none=>none
def eqT:T→T→Option Bool
 | .dic a,.dic b=>if a.length=b.length then aa4 a b else some false
 | x,y=>eqD x y
def au (t:T):M T:=fun s=>some (t,s)
def bx (i:Nat):M T:=fun s=>match s.env[i]? with
 | some (some (t,false))=>some (t,s)
 | some (some (t,true))=>some (t,{ s with env:=s.env.set i (some (t,false)) })
 | _=>none
def dw:M (List T):=fun s=>some ([],s)
def ao (a:M T) (r:M (List T)):M (List T):=fun s=>match a s with
 | some (t,s1)=>match r s1 with
  | some (ts,s2)=>some (t::ts,s2)
  | none=>none
 | none=>none
def ad9:List Str→M (List T)
 | []=>dw
 | x::r=>ao (au (.str x)) (ad9 r)
def gk (f:List T→Option T) (a:M (List T)):M T:=fun s=>match a s with
 | some (ts,s1)=>match f ts with
  | some t=>some (t,s1)
  | none=>none
 | none=>none
def mUn (f:T→Option T) (a:M T):M T:=fun s=>match a s with
 | some (t,s1)=>match f t with
  | some u=>some (u,s1)
  | none=>none
 | none=>none
def mOp (f:T→T→Option T) (a b:M T):M T:=fun s=>match a s with
 | some (t,s1)=>match b s1 with
  | some (u,s2)=>match f t u with
   | some v=>some (v,s2)
   | none=>none
  | none=>none
 | none=>none
abbrev Fn:=List T→List SO→Option (T × List SO)
def iy (F:Fn) (a:M (List T)):M T:=fun s=>match a s with
 | some (ts,s1)=>match F ts s1.sto with
  | some (t,sto)=>some (t,{ s1 with sto:=sto })
  | none=>none
 | none=>none
def gb (a:M T):M Bool:=fun s=>match a s with
 | some (.bl b,s1)=>some (b,s1)
 | _=>none
def J2 (a:M Bool):M Bool:=fun s=>match a s with
 | some (b,s1)=>some (!b,s1)
 | none=>none
def Ba (a b:M Bool):M Bool:=fun s=>match a s with
 | some (true,s1)=>b s1
 | some (false,s1)=>some (false,s1)
 | none=>none
def mOr (a b:M Bool):M Bool:=fun s=>match a s with
 | some (true,s1)=>some (true,s1)
 | some (false,s1)=>b s1
 | none=>none
def Ad (a:M Bool):M T:=fun s=>match a s with
 | some (b,s1)=>some (.bl b,s1)
 | none=>none
def mIf (c:M Bool) (a b:M T):M T:=fun s=>match c s with
 | some (true,s1)=>a s1
 | some (false,s1)=>b s1
 | none=>none
abbrev lim:Nat:=1000000
def zx (i:Int):Bool:=decide (-(2 ^ 64)<i∧i<2 ^ 64)
def vo:T→T→Option T
 | .int i,.int j=>some (.int (i+j))
 | .str x,.str y=>if x.length+y.length<lim then some (.str (x++y)) else none
 | .tup x,.tup y=>if x.length+y.length<lim then some (.tup (x++y)) else none
 | .lst x,.lst y=>if x.length+y.length<lim then some (.lst (x++y)) else none
 | _,_=>none
def Rt:T→T→Option T
 | .int i,.int j=>some (.int (i - j))
 | _,_=>none
def Rq:T→T→Option T
 | .int i,.int j=>if zx i||zx j then some (.int (i * j)) else none
 | .str x,.int j=>if 0≤j∧j≤1000∧x.length≤100 then some (.str ⟨((List.replicate j.toNat x.cps.toList).flatten).toArray⟩) else none
 | _,_=>none
def Al:T→T→Option T
 | .int i,.int j=>if 0<j then some (.int (i%j)) else none
 | _,_=>none
def fdl:Nat:=2 ^ 200
def vh:T→T→Option T
 | .int i,.int j=>if 0<j∧(j<1073741824∨j.natAbs<fdl) then some (.int (i / j)) else none
 | _,_=>none
def abm:T→T→Option T
 | .int i,.int j=>if 0≤j∧j≤1000∧i.natAbs<1000 then some (.int (i ^ j.toNat)) else none
 | _,_=>none
def Jw:T→Option T
 | .int i=>some (.int (-i))
 | _=>none
def ltT:T→T→Option T
 | .int i,.int j=>some (.bl (decide (i<j)))
 | _,_=>none
def leT:T→T→Option T
 | .int i,.int j=>some (.bl (decide (i≤j)))
 | _,_=>none
def gtT:T→T→Option T
 | .int i,.int j=>some (.bl (decide (j<i)))
 | _,_=>none
def eqO (x y:T):Option T:=match eqT x y with
 | some b=>some (.bl b)
 | none=>none
def neO (x y:T):Option T:=match eqT x y with
 | some b=>some (.bl (!b))
 | none=>none
def ixI (n:Nat) (i:Int):Option Nat:=if 0≤i then (if i<n then some i.toNat else none) else if -(n:Int)≤i then some (i+n).toNat else none
def cj:T→T→Option T
 | .tup xs,.int i=>(ixI xs.length i).bind (xs[·]?)
 | .lst xs,.int i=>(ixI xs.length i).bind (xs[·]?)
 | .str x,.int i=>if x.length<lim then (ixI x.cps.toList.length i).bind fun j=>(x.cps.toList[j]?).map fun c=>.str ⟨#[c]⟩ else none
 | .dic kvs,k=>(keyOf k).bind (Ww · kvs)
 | _,_=>none
def Bw:List T→Option T
 | [.tup xs]=>some (.int xs.length)
 | [.lst xs]=>some (.int xs.length)
 | [.str x]=>if x.length<lim then some (.int x.length) else none
 | [.dic kvs]=>some (.int kvs.length)
 | _=>none
def inL (x:T):List T→Option Bool
 | []=>some false
 | y::r=>match eqD y x with
  | some e=>(inL x r).map (e || ·)
  | none=>none
def yg:List T→Option T
 | [.lst xs]=>some (.tup xs)
 | [.tup xs]=>some (.tup xs)
 | _=>none
def Dt:List T→Option T
 | [.lst xs]=>some (.lst xs)
 | [.tup xs]=>some (.lst xs)
 | _=>none
def Xh:List T→Option (List Int)
 | []=>some []
 | .int i::r=>(Xh r).map (i :: ·)
 | _=>none
def ade:List T→Option T
 | [.lst xs]=>(Xh xs).map fun l=>.int l.sum
 | _=>none
def Es:List T→Option (List Bool)
 | []=>some []
 | .bl b::r=>(Es r).map (b :: ·)
 | _=>none
def a05:List T→Option T
 | [.lst xs]=>(Es xs).map fun l=>.bl (l.all id)
 | _=>none
def afh:List T→Option T
 | [.lst xs]=>(Es xs).map fun l=>.bl (l.any id)
 | _=>none
def Ky:List T→Option (List Str)
 | []=>some []
 | .str x::r=>(Ky r).map (x :: ·)
 | _=>none
def Xy (x:Str):List Str→List Str
 | []=>[x]
 | y::r=>if decide (x.cps.toList<y.cps.toList) then x::y::r else y::Xy x r
def Bt (l:List Str):List Str:=l.foldl (fun acc x=>Xy x acc) []
def Nt:List T→Option T
 | [.lst xs]=>if xs.length<64 then (Ky xs).map fun l=>.lst ((Bt l).map .str) else none
 | [.dic kvs]=>if kvs.length<64 then (Ky (kvs.map fun p=>Xl p.1)).map fun l=>.lst ((Bt l).map .str) else none
 | _=>none
def isTup:List T→Option T
 | [.tup _]=>some (.bl true)
 | [.obj _]=>none
 | [_]=>some (.bl false)
 | _=>none
def isInt:List T→Option T
 | [.int _]=>some (.bl true)
 | [.bl _]=>some (.bl true)
 | [.obj _]=>none
 | [_]=>some (.bl false)
 | _=>none
def aa6:List T→Option T
 | [.bl _]=>some (.bl true)
 | [.obj _]=>none
 | [_]=>some (.bl false)
 | _=>none
def isStr:List T→Option T
 | [.str _]=>some (.bl true)
 | [.obj _]=>none
 | [_]=>some (.bl false)
 | _=>none
def a77:T→Option T
 | .lst xs=>some (.lst xs.reverse)
 | .tup xs=>some (.tup xs.reverse)
 | _=>none
def a3l:T→Bool
 | .non=>true
 | _=>false
def a73 (x y:T):Option T:=if a3l y then some (.bl (a3l x)) else none
def aey:List T→Option T
 | [.int i]=>some (.int (if i<0 then -i else i))
 | _=>none
def Ck (i:Nat):M T:=fun s=>match s.env[i]? with
 | some (some (.lst xs,_))=>some (.int xs.length,s)
 | some (some (.dic xs,_))=>some (.int xs.length,s)
 | _=>none
def Pj (i:Nat) (s:Sta):Bool:=match s.env[i]? with
 | some (some (.dic _,_))=>true
 | _=>false
def Ei (i:Nat) (s:Sta):Bool:=match s.env[i]? with
 | some (some (.lst _,_))=>true
 | _=>false
def Hh (i:Nat) (k d:M T):M T:=fun s=>if Pj i s then (match k s with
 | some (kt,s1)=>match d s1 with
  | some (dt,s2)=>match s2.env[i]? with
   | some (some (.dic kvs,_))=>match keyOf kt with
    | some q=>some ((Ww q kvs).getD dt,s2)
    | none=>none
   | _=>none
  | none=>none
 | none=>none) else none
inductive Flow where
 | next | ret (t:T) | brk | cont
abbrev S:=Sta→Option (Flow × Sta)
def Ab:S:=fun s=>some (.next,s)
def jz (a b:S):S:=fun s=>match a s with
 | some (.next,s1)=>b s1
 | r=>r
def rm (e:M T):S:=fun s=>match e s with
 | some (t,s1)=>some (.ret t,s1)
 | none=>none
def sIf (c:M Bool) (a b:S):S:=fun s=>match c s with
 | some (true,s1)=>a s1
 | some (false,s1)=>b s1
 | none=>none
def jo (i:Nat) (t:T) (own:Bool) (s:Sta):Sta:={ s with env:=s.env.set i (some (t,own)) }
def vf (i:Nat) (e:M T):S:=fun s=>match e s with
 | some (t,s1)=>some (.next,jo i t false s1)
 | none=>none
def sNew (i:Nat) (e:M T):S:=fun s=>match e s with
 | some (t,s1)=>some (.next,jo i t true s1)
 | none=>none
def qj (i:Nat) (e:M T):S:=fun s=>if Ei i s then (match e s with
 | some (t,s1)=>match s1.env[i]? with
  | some (some (.lst xs,true))=>if xs.length<lim then some (.next,jo i (.lst (xs++[t])) true s1) else none
  | _=>none
 | none=>none) else none
def Iz:T→Option (List T)
 | .lst xs=>some xs
 | .tup xs=>some xs
 | _=>none
def yu (i:Nat) (e:M T):S:=fun s=>if Ei i s then (match e s with
 | some (t,s1)=>match Iz t,s1.env[i]? with
  | some ys,some (some (.lst xs,true))=>if xs.length+ys.length<lim then some (.next,jo i (.lst (xs++ys)) true s1) else none
  | _,_=>none
 | none=>none) else none
def Ai (i:Nat) (k v:M T):S:=fun s=>match v s with
 | some (t,s1)=>if Pj i s1 then (match k s1 with
  | some (kt,s2)=>match s2.env[i]?,keyOf kt with
   | some (some (.dic kvs,true)),some q=>if kvs.length<lim then some (.next,jo i (.dic (a6m q t kvs)) true s2) else none
   | _,_=>none
  | none=>none) else none
 | none=>none
def a4b (i:Nat):S:=fun s=>match s.env[i]? with
 | some (some (.lst xs,true))=>some (.next,jo i (.lst xs.reverse) true s)
 | _=>none
def sNx (u:S):S:=fun s=>match u s with
 | some (.next,s1)=>some (.next,s1)
 | _=>none
def a86 (i:Nat):S:=fun s=>match s.env[i]? with
 | some (some (t,true))=>some (.ret t,s)
 | _=>none
abbrev G:=T→Sta→Option Sta
def hName (i:Nat):G:=fun t s=>some (jo i t false s)
def Cw (is:List Nat):G:=fun t s=>match t with
 | .tup xs=>if xs.length=is.length then some ((is.zip xs).foldl (fun s p=>jo p.1 p.2 false s) s) else none
 | _=>none
def sGo (g:G) (m:M T):S:=fun s=>match m s with
 | some (t,s1)=>match g t s1 with
  | some s2=>some (.next,s2)
  | none=>none
 | none=>none
def forL (g:G) (b:S):List T→S
 | []=>fun s=>some (.next,s)
 | t::r=>fun s=>match g t s with
  | some s1=>match b s1 with
   | some (.next,s2)=>forL g b r s2
   | some (.cont,s2)=>forL g b r s2
   | some (.brk,s2)=>some (.next,s2)
   | some (.ret v,s2)=>some (.ret v,s2)
   | none=>none
  | none=>none
def Fq (g:G) (it:M (List T)) (b:S):S:=fun s=>match it s with
 | some (ts,s1)=>forL g b ts s1
 | none=>none
def rangeT (n:Nat):List T:=(List.range n).map fun (k:Nat)=>.int (k:Int)
def yh (a:M T):M (List T):=fun s=>match a s with
 | some (.int n,s1)=>if n.natAbs<lim then some (rangeT n.toNat,s1) else none
 | _=>none
def yd (a:M T):M (List T):=fun s=>match a s with
 | some (.lst xs,s1)=>if xs.length<lim then some (xs,s1) else none
 | some (.tup xs,s1)=>if xs.length<lim then some (xs,s1) else none
 | _=>none
def Va (s:Slot):Slot:=match s with
 | some (t,_)=>some (t,false)
 | none=>none
def qt (s:Sta):Sta:={ s with env:=s.env.map Va }
def El (g:G) (c:M Bool) (e:M T):List T→Sta→List T→Option (List T × Sta)
 | [],s,acc=>some (acc,s)
 | t::r,s,acc=>match g t s with
  | some s1=>match c s1 with
   | some (true,s2)=>match e s2 with
    | some (u,s3)=>if acc.length<lim then El g c e r (qt s3) (acc++[u]) else none
    | none=>none
   | some (false,s2)=>El g c e r (qt s2) acc
   | none=>none
  | none=>none
def zy:M Bool:=fun s=>some (true,s)
def qg (is:List Nat) (env:List Slot):List Slot:=is.foldl (fun e i=>match e[i]? with
 | some (some (t,_))=>e.set i (some (t,false))
 | _=>e) env
def pq (nv:Nat) (cap:List Nat) (g:G) (it:M (List T)) (c:M Bool) (e:M T):M T:=fun s=>match it s with
 | some (ts,s1) =>
  let env:=qg cap s1.env
  match El g c e ts ⟨List.replicate nv none++cap.map (fun i=>(env[i]?).getD none),s1.sto⟩ [] with
  | some (us,s2)=>some (.lst us,⟨env,s2.sto⟩)
  | none=>none
 | none=>none
def qp (n:Nat) (b:S):Fn:=fun ts sto=>match b ⟨ts.map (fun t=>some (t,false))++List.replicate (n - ts.length) none,sto⟩ with
 | some (.ret t,s)=>some (t,s.sto)
 | some (.next,s)=>some (.non,s.sto)
 | _=>none
section
variable {s s':Sta} {t v:T} {a b:M T}
theorem Ob {f:T→T→Option T} (h:mOp f a b s=some (v,s')):∃ t s1 u,a s=some (t,s1)∧b s1=some (u,s')∧f t u=some v:=by
 unfold mOp at h
 cases ha:a s with
 | none=>rw [ha] at h; cases h
 | some p =>
  obtain ⟨t,s1⟩:=p; rw [ha] at h; dsimp only at h
  cases hb:b s1 with
  | none=>rw [hb] at h; cases h -- here
  | some p =>
   obtain ⟨u,s2⟩:=p; rw [hb] at h; dsimp only at h
   cases hf:f t u with
   | none=>rw [hf] at h; cases h
   | some w=>rw [hf] at h; cases h; exact ⟨t,s1,u,rfl,hb,hf⟩
theorem Tg {f:T→Option T} (h:mUn f a s=some (v,s')):∃ t,a s=some (t,s')∧f t=some v:=by
 unfold mUn at h
 cases ha:a s with
 | none=>rw [ha] at h; cases h
 | some p =>
  obtain ⟨t,s1⟩:=p; rw [ha] at h; dsimp only at h
  cases hf:f t with
  | none=>rw [hf] at h; cases h
  | some w=>rw [hf] at h; cases h; exact ⟨t,rfl,hf⟩
theorem Bx {f:List T→Option T} {a:M (List T)} (h:gk f a s=some (v,s')):∃ ts,a s=some (ts,s')∧f ts=some v:=by
 unfold gk at h
 cases ha:a s with
 | none=>rw [ha] at h; cases h
 | some p =>
  obtain ⟨t,s1⟩:=p; rw [ha] at h; dsimp only at h
  cases hf:f t with
  | none=>rw [hf] at h; cases h
  | some w=>rw [hf] at h; cases h; exact ⟨t,rfl,hf⟩
theorem Br {r:M (List T)} {ts:List T} (h:ao a r s=some (ts,s')):∃ t s1 us,a s=some (t,s1)∧r s1=some (us,s')∧ts=t::us:=by
 unfold ao at h
 cases ha:a s with
 | none=>rw [ha] at h; cases h
 | some p =>
  obtain ⟨t,s1⟩:=p; rw [ha] at h; dsimp only at h
  cases hb:r s1 with
  | none=>rw [hb] at h; cases h -- here
  | some p=>obtain ⟨u,s2⟩:=p; rw [hb] at h; cases h; exact ⟨t,s1,u,rfl,hb,rfl⟩
theorem a1i {F:Fn} {a:M (List T)} (h:iy F a s=some (v,s')):∃ ts s1 sto,a s=some (ts,s1)∧F ts s1.sto=some (v,sto)∧s' = { s1 with sto:=sto }:=by
 unfold iy at h
 cases ha:a s with
 | none=>rw [ha] at h; cases h
 | some p =>
  obtain ⟨t,s1⟩:=p; rw [ha] at h; dsimp only at h
  cases hf:F t s1.sto with
  | none=>rw [hf] at h; cases h
  | some w=>obtain ⟨w,sto⟩:=w; rw [hf] at h; cases h; exact ⟨t,s1,sto,rfl,hf,rfl⟩
theorem zj {b:Bool} (h:gb a s=some (b,s')):a s=some (.bl b,s'):=by
 unfold gb at h
 cases ha:a s with
 | none=>rw [ha] at h; cases h
 | some p =>
  obtain ⟨t,s1⟩:=p; rw [ha] at h
  cases t <;> first | (cases h; rfl) | (cases h)
theorem Jc {c:M Bool} (h:Ad c s=some (v,s')):∃ b,c s=some (b,s')∧v=.bl b:=by
 unfold Ad at h
 cases ha:c s with
 | none=>rw [ha] at h; cases h
 | some p=>obtain ⟨t,s1⟩:=p; rw [ha] at h; cases h; exact ⟨t,rfl,rfl⟩
theorem Uy {c:M Bool} {b:Bool} (h:J2 c s=some (b,s')):∃ k,c s=some (k,s')∧b=!k:=by
 unfold J2 at h
 cases ha:c s with
 | none=>rw [ha] at h; cases h
 | some p=>obtain ⟨t,s1⟩:=p; rw [ha] at h; cases h; exact ⟨t,rfl,rfl⟩
theorem Vx {c d:M Bool} {b:Bool} (h:Ba c d s=some (b,s')):(∃ s1,c s=some (true,s1)∧d s1=some (b,s'))∨(c s=some (false,s')∧b=false):=by
 unfold Ba at h
 cases ha:c s with
 | none=>rw [ha] at h; cases h
 | some p =>
  obtain ⟨k,s1⟩:=p; rw [ha] at h
  cases k with
  | true=>exact .inl ⟨s1,rfl,h⟩
  | false=>cases h; exact .inr ⟨rfl,rfl⟩
theorem Zy {c d:M Bool} {b:Bool} (h:mOr c d s=some (b,s')):(∃ s1,c s=some (false,s1)∧d s1=some (b,s'))∨(c s=some (true,s')∧b=true):=by
 unfold mOr at h
 cases ha:c s with
 | none=>rw [ha] at h; cases h
 | some p =>
  obtain ⟨k,s1⟩:=p; rw [ha] at h
  cases k with
  | false=>exact .inl ⟨s1,rfl,h⟩
  | true=>cases h; exact .inr ⟨rfl,rfl⟩
theorem a9h {c:M Bool} (h:mIf c a b s=some (v,s')):(∃ s1,c s=some (true,s1)∧a s1=some (v,s'))∨(∃ s1,c s=some (false,s1)∧b s1=some (v,s')):=by
 unfold mIf at h
 cases ha:c s with
 | none=>rw [ha] at h; cases h
 | some p =>
  obtain ⟨k,s1⟩:=p; rw [ha] at h
  cases k with
  | true=>exact .inl ⟨s1,rfl,h⟩
  | false=>exact .inr ⟨s1,rfl,h⟩
theorem a3d {i:Nat} (h:bx i s=some (v,s')):(s.env[i]? = some (some (v,false))∧s'=s)∨(s.env[i]? = some (some (v,true))∧s' = { s with env:=s.env.set i (some (v,false)) }):=by
 unfold bx at h
 split at h
 ·rename_i t e; cases h; exact .inl ⟨e,rfl⟩
 ·rename_i t e; cases h; exact .inr ⟨e,rfl⟩
 ·cases h
end
end C
end
section
namespace L2
open PySem PySem.Spec PyProof.Rows
section
variable {pr:Program} {wd:World} {Ar:Around} {Rs:Result→Shared→Prop} {s:Shared}
theorem Rn {el tgt itr:Expr} {cs:List Expr} {scp:Scope} {ps:Pos} {itv accv:Value} {en:Env} (J:Nat→Shared→Prop)
  (turn:∀ n z,J n z→wpAny (model pr wd) Ar (pyNext itv) (fun nx z1=>match nx with
   | none=>Rs (.ok .next) z1
   | some v=>wpAny (model pr wd) Ar (letOwnedTupleGo tgt itv v) (fun _ z2=>wpAny (model pr wd) Ar (assign tgt en v) (fun _ z3 =>
     wpAny (model pr wd) Ar (forIn cs true fun c go=>if go=true then do let ok ← isTrue c en (eval c en); pure (ForInStep.yield ok) else pure (ForInStep.yield go)) (fun ok z4 =>
      if ok=true then wpAny (model pr wd) Ar (eval el en) (fun x z5 =>
       wpAny (model pr wd) Ar (call (.builtin "list.append") [accv,x]) (fun _ z6=>∃ m,m<n∧J m z6) (fun _ _=>False) z5) (fun _ _=>False) z4
      else ∃ m,m<n∧J m z4) (fun _ _=>False) z3) (fun _ _=>False) z2) (fun _ _=>False) z1) (fun _ _=>False) z)
  (n:Nat) (h:J n s) :
  codeAny (model pr wd) Ar (.compLoop (.ListComp el [⟨tgt,itr,cs,0⟩] scp ps) 0 itv accv en) Rs s:=by
 refine codeAny_loop rfl J (fun k z hz=>?_) n h
 show wpAny _ Ar ((compTurn (.ListComp el [⟨tgt,itr,cs,0⟩] scp ps) 0 itv accv en).onRaise (fun ex=>do noteFrame ex en; theTreesLotGoes ex)) _ _ z
 refine wpAny_noted ?_
 rw [compTurn_list]
 refine wpAny_bind (wpAny_standAt (wpAny_bind (wpAny_mono (turn k z hz) (fun nx z1 g1=>?_) fun _ _ no=>no.elim)))
 cases nx with
 | none=>exact wpAny_pure g1
 | some v =>
  refine wpAny_bind (wpAny_mono g1 (fun _ z2 g2=>?_) fun _ _ no=>no.elim)
  refine wpAny_bind (wpAny_mono g2 (fun _ z3 g3=>wpAny_bind (wpAny_mono g3 (fun ok z4 g4=>?_) fun _ _ no=>no.elim)) fun _ _ no=>no.elim)
  cases ok with
  | false=>exact wpAny_pure (And.intro rfl g4)
  | true =>
   exact wpAny_bind (wpAny_bind (wpAny_mono g4 (fun x z5 g5=>wpAny_bind (wpAny_mono g5 (fun _ z6 g6=>wpAny_pure (wpAny_pure (And.intro rfl g6))) fun _ _ no=>no.elim)) fun _ _ no=>no.elim))
end
def Vk (env:Env):List (Str × NameKind)→List (Str × Addr)→List (Str × Addr)
 | [],cs=>cs
 | (n,k)::r,cs=>Vk env r (if (k==NameKind.free)=true then (match env.cells.lookup n with | some c=>(n,c)::cs | none=>cs) else cs)
def Ci (env:Env) (names:List (Str × NameKind)):Bool:=names.all fun y=>!(y.2==NameKind.free)||(env.cells.lookup y.1).isSome
theorem G7 {scope:Scope} {env:Env} (h:Ci env scope.names=true):closureFor scope env=pure (Vk env scope.names []):=by
 have key:∀ (l:List (Str × NameKind)) (cs:List (Str × Addr)),Ci env l=true →
   (forIn (m:=Sem) l cs fun x r=>(do
    if (x.2==NameKind.free)=true then
     let c ← cellOf env x.1
     pure (ForInStep.yield ((x.1,c)::r))
    else pure (ForInStep.yield r)))=pure (Vk env l cs):=by
  intro l
  induction l with
  | nil=>intro cs _; rfl
  | cons x r ih =>
   intro cs h
   obtain ⟨n,k⟩:=x
   unfold Ci at h
   rw [List.all_cons,Bool.and_eq_true] at h -- here
   obtain ⟨h1,h2⟩:=h
   rw [List.forIn_cons]
   by_cases hk:(k==NameKind.free)=true
   ·have h1':(env.cells.lookup n).isSome=true:=by simpa [hk] using h1
    obtain ⟨c,hc⟩:=Option.isSome_iff_exists.mp h1'
    have e:cellOf env n=pure c:=by unfold cellOf; rw [hc]
    simp only [hk,if_true,e,pure_bind]
    rw [ih _ h2]
    simp only [Vk,hk,if_true,hc]
   ·simp only [hk,if_false,pure_bind,Bool.false_eq_true]
    rw [ih _ h2]
    simp only [Vk,hk,if_false,Bool.false_eq_true]
 have:=key scope.names [] h
 unfold closureFor
 simpa using this
def ows (o:Option Str) (cy:Addr):List (Str × Addr):=match o with | some y=>[(y,cy)] | none=>[]
def ur (X:Cx) (scope:Scope) (N:List Str) (o:Option Str) (cy C:Addr) (s₀:Shared) (H₀:Hp) (ex:List Addr) (pn:List (Addr × Obj)):Cx :=
 { X with N:=N,s₀:=s₀,H₀:=H₀,env:=compEnvC scope (ows o cy++Vk X.env scope.names []) C X.env,outer:=X.stack,ex:=ex,fn:=fun x=>match o with | some y=>x==y | none=>false,pn:=pn,xe:=fun _ _=>False }
abbrev Ge (X:Cx) (scope:Scope) (N:List Str) (C:Addr) (s₀:Shared) (H₀:Hp) (ex:List Addr) (pn:List (Addr × Obj)):Cx:=ur X scope N none 0 C s₀ H₀ ex pn
structure Ia (X:Cx) (scope:Scope) (N:List Str) (o:Option Str):Prop where
 has:Ci X.env scope.names=true
 kind:scope.kind=.function
 own:scope.names.filter (fun z=>z.2 == .cell)=(match o with | some y=>[(y,.cell)] | none=>[])
 names:∀ y∈scope.names,y.2=.local→scope.names.lookup y.1=some .local
 out:∀ y,o=some y→(match X.env.kindOf y with | some .cell=>false | some .free=>false | _=>true)=true
structure Pb (X:Cx) (scope:Scope) (N:List Str):Prop where
 has:Ci X.env scope.names=true
 kind:scope.kind=.function
 nocell:∀ y∈scope.names,y.2≠.cell
 names:∀ y∈scope.names,y.2=.local→scope.names.lookup y.1=some .local
theorem Pb.c {X:Cx} {scope:Scope} {N:List Str} (h:Pb X scope N):Ia X scope N none :=
 ⟨h.has,h.kind,List.filter_eq_nil_iff.mpr fun z hz e=>h.nocell z hz (by simpa using e),h.names,fun y e=>by cases e⟩
def adb (X:Cx) (scope:Scope) (x:Str):Prop :=
 (X.env.kindOf x=some .cell∨X.env.kindOf x=some .free)∧Vis X.env.scope x∧((relabel scope X.env).names.lookup x=some .cell∨(relabel scope X.env).names.lookup x=some .free)
theorem Ip {env:Env}:∀ (l:List (Str × NameKind)) (cs:List (Str × Addr)),(∀ x c,cs.lookup x=some c→env.cells.lookup x=some c) →
  ∀ x c,(Vk env l cs).lookup x=some c→env.cells.lookup x=some c
 | [],cs,h,x,c,e=>h x c e
 | (n,k)::r,cs,h,x,c,e=>by
  rw [Vk] at e
  refine Ip r _ (fun y d q=>?_) x c e
  split at q
  ·split at q
   ·rename_i c' hc'
    rw [List.lookup_cons] at q
    split at q
    ·rename_i hb
     cases q
     have hyn:=eq_of_beq hb
     rw [hyn]; exact hc'
    ·exact h y d q
   ·exact h y d q
  ·exact h y d q
theorem Yg {env:Env}:∀ (l:List (Str × NameKind)) (cs:List (Str × Addr)) (x:Str),(∃ c,cs.lookup x=some c)→∃ c,(Vk env l cs).lookup x=some c
 | [],cs,x,h=>h
 | (n,k)::r,cs,x,h=>by
  rw [Vk]
  refine Yg r _ x ?_
  split
  ·split
   ·rename_i c' hc'
    rw [List.lookup_cons]
    split
    ·exact ⟨_,rfl⟩
    ·exact h
   ·exact h
  ·exact h
theorem a0r {env:Env}:∀ (l:List (Str × NameKind)) (cs:List (Str × Addr)) (x:Str),Ci env l=true→(x,NameKind.free)∈l→∃ c,(Vk env l cs).lookup x=some c
 | [],cs,x,_,h=>by simp at h
 | (n,k)::r,cs,x,hh,h=>by
  unfold Ci at hh
  rw [List.all_cons,Bool.and_eq_true] at hh
  rw [Vk]
  rcases List.mem_cons.mp h with e | h'
  ·injection e with e1 e2
   subst e1; subst e2
   have h1:(env.cells.lookup x).isSome=true:=by simpa using hh.1
   obtain ⟨c,hc⟩:=Option.isSome_iff_exists.mp h1
   refine Yg r _ x ?_
   simp [hc]
  ·exact a0r r _ x hh.2 h'
theorem mem_of_lookup {α:Type}:∀ {l:List (Str × α)} {x:Str} {k:α},l.lookup x=some k→(x,k)∈l
 | [],_,_,h=>by simp at h
 | (n,k')::r,x,k,h=>by
  rw [List.lookup_cons] at h
  split at h
  ·rename_i hb
   cases h
   have hyn:=eq_of_beq hb
   rw [hyn]; exact List.mem_cons_self
  ·exact List.mem_cons_of_mem _ (mem_of_lookup h)
theorem Cg {o:Option Str} {x:Str} {cy c:Addr} {cl:List (Str × Addr)} (h:(ows o cy++cl).lookup x=some c):(o=some x∧c=cy)∨(o≠some x∧cl.lookup x=some c):=by
 cases o with
 | none=>exact .inr ⟨fun z=>(by cases z),h⟩
 | some y =>
  have h:((y,cy)::cl).lookup x=some c:=h
  rw [List.lookup_cons] at h
  split at h
  ·rename_i e
   cases h
   exact .inl ⟨by rw [eq_of_beq e],rfl⟩
  ·rename_i e
   exact .inr ⟨fun z=>(by cases z; simp at e),h⟩
theorem Vq {o:Option Str} {x:Str} {cy:Addr} {cl:List (Str × Addr)} (h:o≠some x):(ows o cy++cl).lookup x=cl.lookup x:=by
 cases o with
 | none=>rfl
 | some y =>
  show ((y,cy)::cl).lookup x=_
  rw [List.lookup_cons,show (x==y)=false by simpa using fun e:x=y=>h (by rw [e])]
theorem aae {o:Option Str} {x:Str} (h:(match o with | some y=>x==y | none=>false)=true):o=some x:=by
 cases o with
 | none=>cases h
 | some y=>rw [eq_of_beq h]
theorem Qz {scope:Scope} {env:Env} {o:Option Str} (own:scope.names.filter (fun z=>z.2 == .cell)=(match o with | some y=>[(y,.cell)] | none=>[])) {x:Str} (h:(relabel scope env).names.lookup x=some .cell∨(relabel scope env).names.lookup x=some .free) (ne:o≠some x):(x,NameKind.free)∈scope.names:=by
 have:∃ k,(x,k)∈(relabel scope env).names∧(k=.cell∨k=.free):=by
  rcases h with h | h
  ·exact ⟨_,mem_of_lookup h,.inl rfl⟩
  ·exact ⟨_,mem_of_lookup h,.inr rfl⟩
 obtain ⟨k,hm,hk⟩:=this
 obtain ⟨⟨n,k'⟩,hm',e⟩:=List.mem_map.mp hm
 dsimp only at e
 split at e
 ·rename_i hc
  cases e
  simp only [Bool.and_eq_true,beq_iff_eq] at hc
  obtain ⟨⟨h1,_⟩,_⟩:=hc
  subst h1; exact hm'
 ·cases e
  rcases hk with rfl | rfl
  ·have:(x,NameKind.cell)∈scope.names.filter (fun z=>z.2 == .cell):=List.mem_filter.mpr ⟨hm',rfl⟩
   rw [own] at this
   cases o with
   | none=>cases this
   | some y =>
    rw [List.mem_singleton] at this
    cases this
    exact absurd rfl ne
  ·exact hm'
theorem forIn_none:∀ (l:List (Str × NameKind)) (cs:List (Str × Addr)),l.filter (fun z=>z.2 == .cell)=[] →
  (forIn (m:=Sem) l cs fun x __s =>
    have cells:=__s;
    match x with
    | (name,kind) =>
     if (kind==NameKind.cell)=true then do
      let __do_lift ← alloc { cls:=Value.type "cell",data:=Data.cell none }
      have cells:List (Str × Addr):=(name,__do_lift)::cells
      pure (ForInStep.yield cells)
     else pure (ForInStep.yield cells))=pure cs
 | [],cs,_=>rfl
 | (n,k)::l,cs,h=>by
  rw [List.filter_cons] at h
  split at h
  ·cases h
  ·rename_i hk
   have hk:¬ (k==NameKind.cell)=true:=hk
   rw [List.forIn_cons]
   dsimp only
   rw [if_neg hk,pure_bind]
   exact forIn_none l cs h
theorem Qu {M:Model} {A:Around} {E:Value→Shared→Prop} {y:Str} {Q:List (Str × Addr)→Shared→Prop}:∀ (l:List (Str × NameKind)) (cs:List (Str × Addr)) (s:Shared),l.filter (fun z=>z.2 == .cell)=[(y,.cell)] →
  Q ((y,s.heap.objs.size)::cs) { s with heap:=s.heap.push { cls:=Value.type "cell",data:=Data.cell none } } →
  wpAny M A (forIn (m:=Sem) l cs fun x __s =>
    have cells:=__s;
    match x with
    | (name,kind) =>
     if (kind==NameKind.cell)=true then do
      let __do_lift ← alloc { cls:=Value.type "cell",data:=Data.cell none }
      have cells:List (Str × Addr):=(name,__do_lift)::cells
      pure (ForInStep.yield cells)
     else pure (ForInStep.yield cells)) Q E s
 | [],cs,s,h,_=>by cases h
 | (n,k)::l,cs,s,h,q=>by
  rw [List.filter_cons] at h
  split at h
  ·rename_i hk
   have hk:(k==NameKind.cell)=true:=hk
   rw [List.cons.injEq] at h
   obtain ⟨h1,h2⟩:=h
   cases h1
   rw [List.forIn_cons]
   dsimp only
   rw [if_pos hk,bind_assoc]
   refine wpAny_bind (wpAny_alloc ?_) -- here
   rw [pure_bind]
   dsimp only
   rw [forIn_none l _ h2]
   exact wpAny_pure q
  ·rename_i hk
   have hk:¬ (k==NameKind.cell)=true:=hk
   rw [List.forIn_cons]
   dsimp only
   rw [if_neg hk,pure_bind]
   exact Qu l cs s h q
theorem Tv {M:Model} {A:Around} {E:Value→Shared→Prop} {Q:List (Str × Addr)→Shared→Prop} (l:List (Str × NameKind)) (cs:List (Str × Addr)) (s:Shared) (h:l.filter (fun z=>z.2 == .cell)=[]) (q:Q cs s) :
  wpAny M A (forIn (m:=Sem) l cs fun x __s =>
    have cells:=__s;
    match x with
    | (name,kind) =>
     if (kind==NameKind.cell)=true then do
      let __do_lift ← alloc { cls:=Value.type "cell",data:=Data.cell none }
      have cells:List (Str × Addr):=(name,__do_lift)::cells
      pure (ForInStep.yield cells)
     else pure (ForInStep.yield cells)) Q E s:=by
 rw [forIn_none l cs h]
 exact wpAny_pure q
theorem Xu {M:Model} {A:Around} {E:Value→Shared→Prop} {s:Shared} {scope:Scope} {g:Addr} {cl:List (Str × Addr)} {qual:Str} {o:Option Str} {out:Env} {Q:Env→Shared→Prop}
  (own:scope.names.filter (fun z=>z.2 == .cell)=(match o with | some y=>[(y,.cell)] | none=>[]))
  (q:∀ h':Heap,h'.Ns s.heap.objs.size (fun _=>none)→(∀ y,o=some y→h'.IsCell (s.heap.objs.size+1) none)→(∀ b o,s.heap.get? b=some o→h'.get? b=some o)→Q (newEnv scope s.heap.objs.size g (ows o (s.heap.objs.size+1)++cl) qual none .none (some out) builtinsNs) { s with heap:=h' }) :
  wpAny M A (newFunctionEnv scope g cl [] qual none .none (some out)) Q E s:=by
 unfold newFunctionEnv
 refine wpAny_bind (wpAny_alloc ?_) -- here
 have sz:(s.heap.push { cls:=Value.type (if (some out).isSome=true then "dict" else "frame"),data:=Data.dict #[] }).objs.size=s.heap.objs.size+1:=Heap.size_push _ _
 have sk:StrKeys #[]:=fun i=>by simp
 cases o with
 | none =>
  refine wpAny_bind (Tv _ _ _ own ?_)
  refine wpAny_bind (wpAny_pure (wpAny_pure (q _ ⟨_,#[],_,Heap.get?_push_size _ rfl,rfl,sk,fun _=>rfl⟩ (fun y e=>by cases e) fun b o e=>Heap.get?_push_of_some _ e)))
 | some y =>
  refine wpAny_bind (Qu _ _ _ own ?_)
  dsimp only
  rw [sz]
  refine wpAny_bind (wpAny_pure (wpAny_pure (q _ ⟨_,#[],_,Heap.get?_push_of_some _ (Heap.get?_push_size _ rfl),rfl,sk,fun _=>rfl⟩ (fun _ _=>⟨_,by rw [← sz]; exact Heap.get?_push_size _ rfl,rfl⟩) fun b o e=>Heap.get?_push_of_some _ (Heap.get?_push_of_some _ e))))
def PTs (X:Cx) (ifs:List Expr) (t:TT):Prop:=∀ (pins:List (Addr × Obj)) (s:Shared) (σ:St) (H:Hp) (Q:Bool→Hp→Prop),Inv X pins σ H s→t σ H Q →
 wpAny (model X.prog X.w) X.A (forIn ifs true fun c r=>if r=true then do let ok ← isTrue c X.env (eval c X.env); pure (ForInStep.yield ok) else pure (ForInStep.yield r)) (TP X pins σ Q) X.xe s
theorem a87 {X:Cx}:PTs X [] (fun _ H Q=>Q true H):=fun pins s σ H Q I h=>wpAny_tests_nil ⟨H,I,h⟩
theorem a7g {X:Cx} {c:Expr} {t:TT} (h:PT X c t):PTs X [c] t:=fun pins s σ H Q I q=>wpAny_tests_one (h pins s σ H Q I q)
def Rz (X:Cx) (scope:Scope) (N:List Str) (g:TG) (tc:TT) (te:TE) (σ:St) (J:It) (H1:Hp) (Q:VK):Prop:=∀ D,H1 D=none→∃ σ0:St,σ0.length=N.length ∧
 (∀ (i:Nat) (v:V) (x:Str),σ0[i]? = some (some v)→N[i]? = some x→Vis (relabel scope X.env) x→∃ k:Nat,X.N[k]? = some x∧σ[k]? = some (some v)∧adb X scope x) ∧
 ∃ W:Nat→Nat→St→Hp→Prop,(∃ m,W 0 m σ0 (upd H1 D (.lst [])))∧∀ i m σ' H',W i m σ' H' →
  (J.stop i H'∧Q (.ref D) H')∨(J.go i H'∧∀ x H2,J.yld i H' x H2→g x σ' H2 fun σ2 H3=>tc σ2 H3 fun b H4=>if b=true then te σ2 H4 fun y H5=>∃ l,H5 D=some (.lst l)∧l.length<sizeLine∧∃ m',m'<m∧W (i+1) m' σ2 (upd H5 D (.lst (l++[y]))) else ∃ m',m'<m∧W (i+1) m' σ2 H4)
def a2i (X:Cx) (scope:Scope) (N:List Str) (wi:TI) (g:TG) (tc:TT) (te:TE):TE:=fun σ H Q=>wi σ H fun J H1=>Rz X scope N g tc te σ J H1 Q
section
variable {X:Cx} {scope:Scope} {N:List Str} {o:Option Str} {cy:Addr}
theorem V3 (sc:Ia X scope N o) {pins:List (Addr × Obj)} {σ:St} {H:Hp} {s:Shared} {fp:List Addr} (I:Inv X pins σ H s) (hf:∀ b∈fp,Rc X pins H b) (hfl:∀ b∈fp,b<s.heap.objs.size) (hcy:s.heap.objs.size<cy) :
  (ur X scope N o cy s.heap.objs.size s H fp (X.pn++pins)).Ok where
 mod:=I.ok.mod
 kind:=sc.kind
 glob:=I.ok.glob
 blt:=I.ok.blt
 above:=Nat.le_refl _
 inj:=fun x z c h1 h2=>by
  have old:∀ {x:Str} {c:Addr},(Vk X.env scope.names []).lookup x=some c→c<s.heap.objs.size:=fun {x c} h=>by
   obtain ⟨v,o,ho,_⟩:=I.cell x c (Ip _ [] (fun _ _ z=>by simp at z) x c h)
   exact Heap.lt_size ho
  rcases Cg h1 with ⟨e1,e2⟩ | ⟨_,q1⟩
  ·rcases Cg h2 with ⟨e3,e4⟩ | ⟨_,q2⟩
   ·rw [e1] at e3; cases e3; rfl
   ·have q:=old q2; rw [e2] at q; exact absurd (Nat.lt_trans q hcy) (Nat.lt_irrefl _)
  ·rcases Cg h2 with ⟨e3,e4⟩ | ⟨_,q2⟩
   ·have q:=old q1; rw [e4] at q; exact absurd (Nat.lt_trans q hcy) (Nat.lt_irrefl _)
   ·exact I.ok.inj x z c (Ip _ [] (fun _ _ z=>by simp at z) x c q1) (Ip _ [] (fun _ _ z=>by simp at z) z c q2)
 has:=fun x h=>by
  by_cases e:o=some x
  ·exact ⟨cy,by subst e; show List.lookup x ((x,cy)::_)=_; rw [List.lookup_cons]; simp⟩
  ·obtain ⟨c,hc⟩:=a0r (env:=X.env) _ [] x sc.has (Qz sc.own h e)
   exact ⟨c,(Vq e).trans hc⟩
 cab:=fun x c h e=>by
  rcases Cg e with ⟨_,e2⟩ | ⟨ne,_⟩
  ·rw [e2]; exact Nat.le_of_lt hcy
  ·exact absurd (aae h) ne
 hd:=I.ok.hd
 frames:=I.ok.frames
 stk:=.inl rfl
 exf:=fun b hb=>⟨Nat.ne_of_lt (hfl b hb),fun x c h=>by
  rcases Cg h with ⟨_,e⟩ | ⟨_,q⟩
  ·intro z; rw [← z,e] at hb; exact absurd (Nat.lt_trans (hfl _ hb) hcy) (Nat.lt_irrefl _)
  ·exact (hf b hb).2.2.2.2.1 x c (Ip _ [] (fun _ _ z=>by simp at z) x c q)⟩
 bs:=I.bs
 bsz:=Nat.le_trans I.ok.bsz I.sz
 noex:=fun b o e hb=>by
  rcases (hf b hb).2.2.2.1 with z | z
  ·exact I.ok.noex b o e z
  ·exact absurd (Nat.lt_of_lt_of_le (Heap.lt_size e) (Nat.le_trans I.ok.bsz z)) (Nat.lt_irrefl _)
 exfs:=fun b hb z=>by
  rcases List.mem_cons.mp (I.Wi b z) with e | e
  ·exact (hf b hb).2.1 e
  ·exact (hf b hb).2.2.1 e
 Y0:=I.stack
 frf:=I.Y8
theorem S9 (sc:Ia X scope N o) {pins:List (Addr × Obj)} {σ σ0:St} {H:Hp} {s:Shared} {fp:List Addr} {h':Heap} {m:Str→Option Value} {tk:Nat} (I:Inv X pins σ H s) (hf:∀ b∈fp,Rc X pins H b) (hfl:∀ b∈fp,b<s.heap.objs.size)
  (hl:σ0.length=N.length) (h0:∀ (i:Nat) (v:V) (x:Str),σ0[i]? = some (some v)→N[i]? = some x→Vis (relabel scope X.env) x→∃ k:Nat,X.N[k]? = some x∧σ[k]? = some (some v)∧adb X scope x)
  (hcy:s.heap.objs.size<cy) (hcell:∀ y,o=some y→h'.IsCell cy none) (hn:h'.Ns s.heap.objs.size m) (hk:∀ b o,s.heap.get? b=some o→h'.get? b=some o) :
  Inv (ur X scope N o cy s.heap.objs.size s H fp (X.pn++pins)) [] σ0 H { s with heap:=h',toks:=tk } where
 ok:=V3 sc I hf hfl hcy
 os:=rfl
 bare:=I.bare
 base:=Un.kept hk
 loc:=⟨m,hn,fun i x v e1 e2 e3=>by
  obtain ⟨k,n2,n3,ck,cv,cr⟩:=h0 i v x e2 e1 e3
  obtain ⟨m0,_,hl0⟩:=I.loc
  obtain ⟨u,r,l⟩:=hl0 k x v n2 n3 cv
  refine ⟨u,r,.inr ⟨cr,?_⟩⟩
  rcases l with ⟨l1,_⟩ | ⟨_,c,hc,z⟩
  ·rcases ck with q | q <;> (rw [l1] at q; cases q)
  ·have ne:o≠some x:=fun e=>by
    have so:=sc.out x e
    rcases ck with q | q <;> (rw [q] at so; cases so)
   obtain ⟨c',hc'⟩:=a0r (env:=X.env) scope.names [] x sc.has (Qz sc.own cr ne)
   have q:=Ip scope.names [] (fun _ _ z=>by simp at z) x c' hc'
   rw [hc] at q; cases q
   obtain ⟨o,ho,hd⟩:=z
   exact ⟨c,(Vq ne).trans hc',o,hk _ _ ho,hd⟩⟩
 cell:=fun x c e=>by
  rcases Cg e with ⟨e1,e2⟩ | ⟨_,q⟩
  ·rw [e2]; exact ⟨_,hcell x e1⟩
  ·obtain ⟨v,o,ho,hd⟩:=I.cell x c (Ip scope.names [] (fun _ _ z=>by simp at z) x c q)
   exact ⟨v,o,hk _ _ ho,hd⟩
 free:=I.hok.fresh (Nat.le_refl _)
 freeC:=fun x c e=>by
  rcases Cg e with ⟨_,e2⟩ | ⟨_,q⟩
  ·rw [e2]; exact I.hok.fresh (Nat.le_of_lt hcy)
  ·exact I.freeC x c (Ip scope.names [] (fun _ _ z=>by simp at z) x c q)
 pin:=fun p hp=>by
  have hp':p∈X.pn++pins:=by simpa [ur] using hp
  obtain ⟨a,b,c,d,e⟩:=I.pin p hp'
  refine ⟨hk _ _ a,b,Nat.ne_of_lt (Heap.lt_size a),fun z=>?_,e⟩
  rcases List.mem_cons.mp (I.Wi p.1 z) with q | q
  ·exact c q
  ·exact d q
 hok:=I.hok.kept hk
 len:=hl
theorem Oq {pins:List (Addr × Obj)} {σ σ':St} {H H':Hp} {s s':Shared} {fp:List Addr} {h':Heap} (I:Inv X pins σ H s) (hf:∀ b∈fp,Rc X pins H b)
  (J:Inv (ur X scope N o cy s.heap.objs.size s H fp (X.pn++pins)) [] σ' H' s') (hs:Heap.SameBut s.heap.objs.size s'.heap h'):Inv X pins σ H' { s' with heap:=h' }:=by
 have kb:∀ b o,b≠s.heap.objs.size→s'.heap.get? b=some o→h'.get? b=some o:=fun b o n e=>hs.extBut b o n e
 have ne:∀ b o,s.heap.get? b=some o→b≠s.heap.objs.size:=fun b o e=>Nat.ne_of_lt (Heap.lt_size e)
 have fr:H' s.heap.objs.size=none:=J.free
 have u0:Un (frs X.stack) fp H H' s.heap s'.heap:=J.base
 have u:Un (frs X.stack) fp H H' s.heap h':=⟨fun b o e n h1 h2=>kb b o (ne b o e) (u0.keep b o e n h1 h2),fun b o e n h1 h2=>by
   obtain ⟨sl,q⟩:=u0.slot b o e n h1 h2
   exact ⟨sl,kb b _ (ne b o e) q⟩,u0.free,fun b o e h=>by
   obtain ⟨o',q⟩:=u0.there b o e h
   exact ⟨o',kb b _ (ne b o e) q⟩,u0.tups,u0.frzs,u0.tbls⟩
 have hok:HOk X.prog X.w H' h':=fun b o e=>by
  refine (J.hok b o e).stay (fun c v hc q=>kb c v ?_ q) (fun _ q=>q) fun _ _ q=>q
  rcases hc with z | z
  ·rw [z]; intro y; rw [y] at e; rw [fr] at e; cases e
  ·intro y; rw [y] at z; rw [fr] at z; cases z
 have hos:s'.os=s.os:=J.os
 obtain ⟨hh,g,d,t,os'⟩:=s'
 obtain rfl:os'=s.os:=hos
 exact Inv.call (X:=X) (s:=s) (H:=H) (h':=h') (g':=g) (d':=d) (t':=t) (ch:=fp) I u hok J.bare fun b hb=>⟨(hf b hb).2.2.2.1,(hf b hb).2.1,(hf b hb).2.2.2.2.1,(hf b hb).2.2.2.2.2⟩
variable {tg iter elt:Expr} {ifs:List Expr} {pos:Pos} {g:TG} {tc:TT} {te:TE}
theorem Je (sc:Ia X scope N o) (calm:X.calm=true)
  (hg:∀ cy C s₀ H₀ ex pn,PG (ur X scope N o cy C s₀ H₀ ex pn) tg g) (hc:∀ cy C s₀ H₀ ex pn,PTs (ur X scope N o cy C s₀ H₀ ex pn) ifs tc) (he:∀ cy C s₀ H₀ ex pn,PE (ur X scope N o cy C s₀ H₀ ex pn) elt te)
  {pins:List (Addr × Obj)} {σ:St} {H1:Hp} {s₂:Shared} {it:Addr} {fp:List Addr} {tn:Nat→Heap→Prop} {J:It} {Q:VK} {E:Value→Shared→Prop} {RR:Value→Addr→Result→Shared→Prop}
  (I:Inv X pins σ H1 s₂) (T:Turn X.prog X.w X.K tg J fp it tn) (st2:tn 0 s₂.heap) (f2:∀ b∈fp,Rc X pins H1 b) (q:Rz X scope N g tc te σ J H1 Q)
  (hRR:∀ D s₃ H3 σ' H' s',Inv X pins σ H3 s₃→(∀ b∈fp,Rc X pins H3 b)→Inv (ur X scope N o (s₃.heap.objs.size+1) s₃.heap.objs.size s₃ H3 fp (X.pn++pins)) [] σ' H' s'→Q (.ref D) H'→RR (.ref D) s₃.heap.objs.size (.ok .next) s') :
  wpAny (model X.prog X.w) X.A (newList []) (fun acc s₃=>wpAny (model X.prog X.w) X.A (newFunctionEnv scope X.env.globals (Vk X.env scope.names []) [] X.env.qual none .none (some X.env)) (fun cenv s₄ =>
   codeAny (model X.prog X.w) X.A (.compStart (.ListComp elt [⟨tg,iter,ifs,0⟩] scope pos) 0 (.ref it) acc { cenv with scope:=relabel scope X.env }) (RR acc cenv.locals) s₄) E s₃) E s₂:=by
 refine wpAny_newObj_type (Xu sc.own (fun h₁ hns₁ hcl₁ hsb₁=>?_))
 dsimp only at hns₁ hcl₁ hsb₁ ⊢
 have I3:Inv X pins σ (upd H1 s₂.heap.objs.size (.lst [])) { s₂ with heap:=s₂.heap.push { cls:=.type "list",dict:=none,data:=.seq ([]:List Value).toArray } } :=
  I.laid (t':=s₂.toks) (fun b ob q=>Heap.get?_push_of_some _ q) (Nat.le_refl _) ⟨Nat.zero_le _,[],_,.nil,Heap.get?_push_size _ rfl⟩
 generalize hs3:({ s₂ with heap:=s₂.heap.push { cls:=.type "list",dict:=none,data:=.seq ([]:List Value).toArray } }:Shared)=s₃ at I3
 have hheap:s₂.heap.push { cls:=.type "list",dict:=none,data:=.seq ([]:List Value).toArray } = s₃.heap:=by rw [← hs3]
 have hstate:∀ (h:Heap) (t:Nat),({ s₂ with heap:=h,toks:=t }:Shared) = { s₃ with heap:=h,toks:=t }:=fun h t=>by rw [← hs3]
 rw [hheap] at hns₁ hcl₁ hsb₁ ⊢
 have lt2:∀ b∈fp,b<s₂.heap.objs.size:=fun b hb=>by
  obtain ⟨o,ho,_⟩:=T.obj _ _ st2 b hb
  exact Heap.lt_size ho
 have sz3:s₃.heap.objs.size=s₂.heap.objs.size+1:=by rw [← hheap,Heap.size_push]
 have k23:∀ b o,s₂.heap.get? b=some o→s₃.heap.get? b=some o:=fun b o e=>by rw [← hheap]; exact Heap.get?_push_of_some _ e
 have f3:∀ b∈fp,Rc X pins (upd H1 s₂.heap.objs.size (.lst [])) b:=fun b hb=>⟨by rw [n8 (Nat.ne_of_lt (lt2 b hb))]; exact (f2 b hb).1,(f2 b hb).2⟩
 have lt3:∀ b∈fp,b<s₃.heap.objs.size:=fun b hb=>by rw [sz3]; exact Nat.lt_succ_of_lt (lt2 b hb)
 obtain ⟨σ0,hl,h0,W,⟨m0,w0⟩,turn⟩:=q s₂.heap.objs.size (I.hok.fresh (Nat.le_refl _))
 have k34:∀ b o,s₃.heap.get? b=some o→h₁.get? b=some o:=hsb₁
 rw [hstate]
 have J0:=S9 (tk:=s₂.toks) sc I3 f3 lt3 hl h0 (Nat.lt_succ_self _) hcl₁ hns₁ k34
 have st4:tn 0 h₁:=T.keep _ _ _ st2 fun b _ o e=>k34 b o (k23 b o e)
 have key:∀ s₄:Shared,s₄ = { s₃ with heap:=h₁,toks:=s₂.toks }→codeAny (model X.prog X.w) X.A (.compLoop (.ListComp elt [⟨tg,iter,ifs,0⟩] scope pos) 0 (.ref it) (.ref s₂.heap.objs.size)
   (ur X scope N o (s₃.heap.objs.size+1) s₃.heap.objs.size s₃ (upd H1 s₂.heap.objs.size (.lst [])) fp (X.pn++pins)).env) (RR (.ref s₂.heap.objs.size) s₃.heap.objs.size) s₄:=by
  rintro s₄ rfl
  generalize hX:ur X scope N o (s₃.heap.objs.size+1) s₃.heap.objs.size s₃ (upd H1 s₂.heap.objs.size (.lst [])) fp (X.pn++pins)=X' at J0
  have hP:X'.prog=X.prog:=by rw [← hX]; rfl
  have hW:X'.w=X.w:=by rw [← hX]; rfl
  have hA:X'.A=X.A:=by rw [← hX]; rfl
  have hxe:X'.xe=fun _ _=>False:=by rw [← hX]; rfl
  have hK:X'.K=X.K:=by rw [← hX]; rfl
  have hcal:X'.calm=true:=by rw [← hX]; exact calm
  have stat:∀ {H':Hp},(∀ b∈fp,H' b=none)→∀ b∈fp,Rc X' [] H' b:=fun hn b hb=>by
   have z:=V3 sc I3 f3 lt3 (Nat.lt_succ_self _)
   rw [hX] at z
   refine ⟨hn b hb,(z.exf b (by rw [← hX]; exact hb)).1,z.exfs b (by rw [← hX]; exact hb),.inl (by rw [← hX]; exact hb),(z.exf b (by rw [← hX]; exact hb)).2,fun p hp=>?_⟩
   have hp':p∈X.pn++pins:=by rw [← hX] at hp; simpa [ur] using hp
   exact (f3 b hb).2.2.2.2.2 p hp'
  have hg':PG X' tg g:=by rw [← hX]; exact hg _ _ _ _ _ _
  have hc':PTs X' ifs tc:=by rw [← hX]; exact hc _ _ _ _ _ _
  have he':PE X' elt te:=by rw [← hX]; exact he _ _ _ _ _ _
  have fin:∀ σ' H' s',Inv X' [] σ' H' s'→Q (.ref s₂.heap.objs.size) H'→RR (.ref s₂.heap.objs.size) s₃.heap.objs.size (.ok .next) s':=fun σ' H' s' I' q'=>hRR _ s₃ _ σ' H' s' I3 f3 (by rw [hX]; exact I') q'
  have T':Turn X'.prog X'.w X'.K tg J fp it tn:=by rw [hP,hW,hK]; exact T
  rw [← hP,← hW,← hA]
  refine Rn (J:=fun n s'=>∃ i σ' H',Inv X' [] σ' H' s'∧tn i s'.heap∧(∀ b∈fp,H' b=none)∧W i n σ' H') ?_ m0 ⟨0,σ0,_,J0,st4,fun b hb=>(f3 b hb).1,w0⟩
  rintro n s5 ⟨i,σ5,H5,I5,st5,fr5,w5⟩
  rcases turn i n σ5 H5 w5 with ⟨stop,qn⟩ | ⟨go,step⟩
  ·refine thn (T'.done X' rfl rfl rfl hcal i [] s5 σ5 H5 _ I5 (stat fr5) st5 stop) fun r s6 z0=>?_
   obtain ⟨hr,I6⟩:=z0
   subst hr
   exact fin _ _ _ I6 qn
  ·refine thn (T'.item X' rfl rfl rfl hcal i [] s5 σ5 H5 _ I5 (stat fr5) st5 go) fun r s6 z0=>?_
   obtain ⟨u,hr,h6⟩:=z0
   subst hr
   refine thn h6 fun _ s7 z0=>?_
   obtain ⟨x,H7,I7,r7,y7,st7,fr7⟩:=z0
   have I7':=I7.pinned (stat fr7) (T'.obj _ _ st7)
   have a1:=hg' _ s7 σ5 H7 x u _ I7' r7 (step x H7 y7)
   rw [hxe] at a1
   refine thn a1 fun _ s8 z0=>?_
   obtain ⟨σ8,H8,I8,q8⟩:=z0
   have a2:=hc' _ s8 σ8 H8 _ I8 q8
   rw [hxe] at a2
   refine thn a2 fun ok s9 z0=>?_
   obtain ⟨H9,I9,q9⟩:=z0
   have again:∀ {σ7:St} {H7:Hp} {s':Shared} {m':Nat},Inv X' ([]++Qx fp s7.heap) σ7 H7 s'→m'<n→W (i+1) m' σ7 H7→∃ m,m<n∧∃ i σ' H',Inv X' [] σ' H' s'∧tn i s'.heap∧(∀ b∈fp,H' b=none)∧W i m σ' H':=fun {σ7 H7 s' m'} I7 hm w7=>by
    refine ⟨m',hm,i+1,σ7,H7,I7.Gn,T'.keep _ _ _ st7 fun b hb o e=>(I7.pin (b,o) (List.mem_append_right _ (List.mem_append_right _ (Bs hb e)))).1,fun b hb=>?_,w7⟩
    obtain ⟨o,e,d⟩:=T'.obj _ _ st7 b hb
    exact (I7.pin (b,o) (List.mem_append_right _ (List.mem_append_right _ (Bs hb e)))).2.1
   cases ok with
   | false =>
    rw [if_neg Bool.false_ne_true] at q9 ⊢
    obtain ⟨m',hm,w9⟩:=q9
    exact again I9 hm w9
   | true =>
    rw [if_pos rfl] at q9 ⊢
    have a3:=he' _ s9 σ8 H9 _ I9 q9
    rw [hxe] at a3
    refine thn a3 fun xv s10 z0=>?_
    obtain ⟨y,H10,I10,r10,l,hl10,hz10,m',hm,w10⟩:=z0
    have a4:=uo (X:=X') _ s10 σ8 H10 (.ref s₂.heap.objs.size) [y] (.ref s₂.heap.objs.size) [xv] (fun _ H'=>H'=upd H10 s₂.heap.objs.size (.lst (l++[y]))) I10 rfl (.cons r10 .nil) ⟨_,l,y,rfl,rfl,hl10,hz10,rfl⟩
    rw [hxe] at a4
    refine thn a4 fun _ s11 z0=>?_
    obtain ⟨v,H11,I11,_,e11⟩:=z0
    subst e11
    exact again I11 hm w10
 exact codeAny_compStart_list (key _ rfl) (T.self _ 0 _ _ _ st4 (key _ rfl))
theorem a3o {wi:TI} (sc:Ia X scope N o) (calm:X.calm=true) (hi:PI X tg iter wi)
  (hg:∀ cy C s₀ H₀ ex pn,PG (ur X scope N o cy C s₀ H₀ ex pn) tg g) (hc:∀ cy C s₀ H₀ ex pn,PTs (ur X scope N o cy C s₀ H₀ ex pn) ifs tc) (he:∀ cy C s₀ H₀ ex pn,PE (ur X scope N o cy C s₀ H₀ ex pn) elt te)
  (hs:∀ x,foldedSetIterable iter X.env x=pure x:=by intro _; rfl):PE X (.ListComp elt [⟨tg,iter,ifs,0⟩] scope pos) (a2i X scope N wi g tc te):=by
 intro pins s σ H Q I h
 rw [eval_ListComp]
 refine wpAny_comprehension_free (use:=none) rfl hs (G7 sc.has) sc.kind sc.names ?_
 refine wpAny_mono (hi pins s σ H _ I h) (fun x s₁ h₁=>wpAny_mono h₁ (fun itv s₂ h₂=>?_) fun _ _ e=>e) fun _ _ e=>e
 obtain ⟨it,fp,tn,J,H1,rfl,I2,T,st2,f2,q⟩:=h₂
 refine Je (RR:=fun acc C=>compPost (model X.prog X.w) X.A X.xe none (EP X pins σ Q) acc C) sc calm hg hc he I2 T st2 f2 q ?_
 intro D s₃ H3 σ' H' s' I3 f3 I' qn
 obtain ⟨m,hn,_⟩:=I'.loc
 exact ⟨m,hn,fun h' hs'=>⟨.ref D,H',Oq I3 f3 I' hs',rfl,qn⟩⟩
theorem Wc {wi:TI} {y:Str} {py spos:Pos} {i:Nat} (sc:Ia X scope N o) (calm:X.calm=true) (hi:PI X tg iter wi)
  (hg:∀ cy C s₀ H₀ ex pn,PG (ur X scope N o cy C s₀ H₀ ex pn) tg g) (hc:∀ cy C s₀ H₀ ex pn,PTs (ur X scope N o cy C s₀ H₀ ex pn) ifs tc) (he:∀ cy C s₀ H₀ ex pn,PE (ur X scope N o cy C s₀ H₀ ex pn) elt te)
  (hgN:PG X (.Name y py) (Jj i)) (hsw:swapsWith (.ListComp elt [⟨tg,iter,ifs,0⟩] scope pos) (some (.Name y py)) spos.line X.env=pure true)
  (hs:∀ x,foldedSetIterable iter X.env x=pure x:=by intro _; rfl):PS X (.Assign [.Name y py] (.ListComp elt [⟨tg,iter,ifs,0⟩] scope pos) spos) (a68 (a2i X scope N wi g tc te) (Jj i)):=by
 intro pins s σ H D I h
 rw [exec_Assign_Name_used _ _ _ _ hsw] -- here
 refine wpAny_bind (wpAny_standAt (wpAny_bind ?_)) -- here
 show wpAny _ X.A (do let _ ← comprehension (.ListComp elt [⟨tg,iter,ifs,0⟩] scope pos) scope X.env _ (newList []) false (eval iter X.env) (some (assign (.Name y py) X.env))) _ _ s
 refine wpAny_bind (wpAny_mono (wpAny_comprehension_free (use:=some (assign (.Name y py) X.env)) (Q:=fun _ s'=>SP X pins D .next s') rfl hs (G7 sc.has) sc.kind sc.names ?_) (fun _ s' hq=>wpAny_pure (wpAny_pure hq)) fun _ _ e=>e)
 refine wpAny_mono (hi pins s σ H _ I h) (fun x s₁ h₁=>wpAny_mono h₁ (fun itv s₂ h₂=>?_) fun _ _ e=>e) fun _ _ e=>e
 obtain ⟨it,fp,tn,J,H1,rfl,I2,T,st2,f2,q⟩:=h₂
 refine Je (RR:=fun acc C=>compPost (model X.prog X.w) X.A X.xe (some (assign (.Name y py) X.env)) (fun _ s'=>SP X pins D .next s') acc C) sc calm hg hc he I2 T st2 f2 q ?_
 intro D' s₃ H3 σ' H' s' I3 f3 I' qn
 obtain ⟨m,hn,_⟩:=I'.loc
 obtain ⟨oC,es,ep,hoC,hdC,hrest⟩:=id hn
 have IX:Inv X pins σ H' s':=Oq I3 f3 I' (.refl ..)
 have fC:Rc X pins H' s₃.heap.objs.size:=I3.a6i (Nat.le_refl _) I'.free
 have IXp:=IX.pinned (fp:=[s₃.heap.objs.size]) (fun b hb=>by rw [List.mem_singleton.mp hb]; exact fC) (fun b hb=>by
  rw [List.mem_singleton.mp hb]
  exact ⟨oC,hoC,fun v z=>by rw [hdC] at z; cases z⟩)
 show wpAny _ X.A (assign (.Name y py) X.env (.ref D')) _ _ _
 refine thn (hgN _ s' σ H' (.ref D') (.ref D') _ IXp rfl qn) fun _ s'' z0=>?_
 obtain ⟨σ'',H'',I'',q''⟩:=z0
 have pC:=I''.pin (s₃.heap.objs.size,oC) (List.mem_append_right _ (List.mem_append_right _ (Bs (by simp) hoC)))
 refine ⟨m,⟨oC,es,ep,pC.1,hdC,hrest⟩,fun h' hs'=>⟨σ'',H'',?_,q''⟩⟩
 exact I''.Gn.turned (h':=h') (t':=s''.toks) (it:=s₃.heap.objs.size) (fun b o ne e=>hs'.extBut b o ne e) pC.2.1 fC.2.1 fC.2.2.2.1 fC.2.2.2.2.1 fC.2.2.2.2.2
theorem a8l {wi:TI} (sc:Pb X scope N) (calm:X.calm=true) (hi:PI X tg iter wi)
  (hg:∀ C s₀ H₀ ex pn,PG (Ge X scope N C s₀ H₀ ex pn) tg g) (hc:∀ C s₀ H₀ ex pn,PTs (Ge X scope N C s₀ H₀ ex pn) ifs tc) (he:∀ C s₀ H₀ ex pn,PE (Ge X scope N C s₀ H₀ ex pn) elt te)
  (hs:∀ x,foldedSetIterable iter X.env x=pure x:=by intro _; rfl):PE X (.ListComp elt [⟨tg,iter,ifs,0⟩] scope pos) (a2i X scope N wi g tc te) :=
 a3o sc.c calm hi (fun _=>hg) (fun _=>hc) (fun _=>he) hs
theorem Ng {wi:TI} {y:Str} {py spos:Pos} {i:Nat} (sc:Pb X scope N) (calm:X.calm=true) (hi:PI X tg iter wi)
  (hg:∀ C s₀ H₀ ex pn,PG (Ge X scope N C s₀ H₀ ex pn) tg g) (hc:∀ C s₀ H₀ ex pn,PTs (Ge X scope N C s₀ H₀ ex pn) ifs tc) (he:∀ C s₀ H₀ ex pn,PE (Ge X scope N C s₀ H₀ ex pn) elt te)
  (hgN:PG X (.Name y py) (Jj i)) (hsw:swapsWith (.ListComp elt [⟨tg,iter,ifs,0⟩] scope pos) (some (.Name y py)) spos.line X.env=pure true)
  (hs:∀ x,foldedSetIterable iter X.env x=pure x:=by intro _; rfl):PS X (.Assign [.Name y py] (.ListComp elt [⟨tg,iter,ifs,0⟩] scope pos) spos) (a68 (a2i X scope N wi g tc te) (Jj i)) :=
 Wc sc.c calm hi (fun _=>hg) (fun _=>hc) (fun _=>he) hgN hsw hs
end
end L2
end
section
namespace C
open PySem PySem.Spec PyProof.Rows L2
mutual
inductive Rep (K:PySem.W.Frag) (S:Hp) (as:List Addr):V→T→Prop where
 | non:Rep K S as .non .non
 | bl (b:Bool):Rep K S as (.bl b) (.bl b)
 | int (i:Int):Rep K S as (.int i) (.int i)
 | str (x:Str):Rep K S as (.str x) (.str x)
 | tup {a:Addr} {vs:List V} {ts:List T}:SqT K S a vs→ug K S as vs ts→Rep K S as (.ref a) (.tup ts)
 | lst {a:Addr} {vs:List V} {ts:List T}:SqL K S a vs→ug K S as vs ts→Rep K S as (.ref a) (.lst ts)
 | dic {a:Addr} {kvs:List (L2.Key × V)} {ts:List (L2.Key × T)}:Rd S a (.dK kvs)→Ed K S as kvs ts→Rep K S as (.ref a) (.dic ts)
 | obj {n:Nat} {a:Addr}:as[n]? = some a→Rep K S as (.ref a) (.obj n)
inductive ug (K:PySem.W.Frag) (S:Hp) (as:List Addr):List V→List T→Prop where
 | nil:ug K S as [] []
 | cons {v:V} {t:T} {vs:List V} {ts:List T}:Rep K S as v t→ug K S as vs ts→ug K S as (v::vs) (t::ts)
inductive Ed (K:PySem.W.Frag) (S:Hp) (as:List Addr):List (L2.Key × V)→List (L2.Key × T)→Prop where
 | nil:Ed K S as [] []
 | cons {k:L2.Key} {v:V} {t:T} {vs:List (L2.Key × V)} {ts:List (L2.Key × T)}:Rep K S as v t→Ed K S as vs ts→Ed K S as ((k,v)::vs) ((k,t)::ts)
end
theorem yp {S S':Hp} {a:Addr} {u:HO} (e:Same S S') (h:Rd S a u):Rd S' a u:=by
 rcases h with h | ⟨o,h⟩
 ·exact .inl (e _ _ h)
 ·exact .inr ⟨o,e _ _ h⟩
theorem ou {K:PySem.W.Frag} {S S':Hp} {a:Addr} {xs:List V} (e:Same S S') (h:SqT K S a xs):SqT K S' a xs:=by
 rcases h with h | h
 ·exact .inl (yp e h)
 ·exact .inr h
theorem jl {K:PySem.W.Frag} {S S':Hp} {a:Addr} {xs:List V} (e:Same S S') (h:SqL K S a xs):SqL K S' a xs:=by
 rcases h with h | h
 ·exact .inl (yp e h)
 ·exact .inr h
section
variable {K:PySem.W.Frag} {S S':Hp} {as as':List Addr}
theorem a8x {α:Type} {l r:List α} {n:Nat} {a:α} (h:l[n]? = some a):(l++r)[n]? = some a:=by
 have:=(List.getElem?_eq_some_iff.mp h).1
 rw [List.getElem?_append_left this]; exact h
theorem U6 {n:Nat} {a:Addr} (x:∃ l,as'=as++l) (h:as[n]? = some a):as'[n]? = some a:=by obtain ⟨l,rfl⟩:=x; exact a8x h
theorem Rep.mono (e:Same S S') (x:∃ l,as'=as++l) {v:V} {t:T} (h:Rep K S as v t):Rep K S' as' v t :=
 Rep.rec (motive_1:=fun v t _=>Rep K S' as' v t) (motive_2:=fun v t _=>ug K S' as' v t) (motive_3:=fun v t _=>Ed K S' as' v t) .non .bl .int .str (fun h _ i=>.tup (ou e h) i) (fun h _ i=>.lst (jl e h) i) (fun h _ i=>.dic (yp e h) i) (fun h=>.obj (U6 x h)) .nil (fun _ _ a b=>.cons a b) .nil (fun _ _ a b=>.cons a b) h
theorem ug.mono (e:Same S S') (x:∃ l,as'=as++l) {v:List V} {t:List T} (h:ug K S as v t):ug K S' as' v t :=
 ug.rec (motive_1:=fun v t _=>Rep K S' as' v t) (motive_2:=fun v t _=>ug K S' as' v t) (motive_3:=fun v t _=>Ed K S' as' v t) .non .bl .int .str (fun h _ i=>.tup (ou e h) i) (fun h _ i=>.lst (jl e h) i) (fun h _ i=>.dic (yp e h) i) (fun h=>.obj (U6 x h)) .nil (fun _ _ a b=>.cons a b) .nil (fun _ _ a b=>.cons a b) h
theorem Ed.mono (e:Same S S') (x:∃ l,as'=as++l) {v:List (L2.Key × V)} {t:List (L2.Key × T)} (h:Ed K S as v t):Ed K S' as' v t :=
 Ed.rec (motive_1:=fun v t _=>Rep K S' as' v t) (motive_2:=fun v t _=>ug K S' as' v t) (motive_3:=fun v t _=>Ed K S' as' v t) .non .bl .int .str (fun h _ i=>.tup (ou e h) i) (fun h _ i=>.lst (jl e h) i) (fun h _ i=>.dic (yp e h) i) (fun h=>.obj (U6 x h)) .nil (fun _ _ a b=>.cons a b) .nil (fun _ _ a b=>.cons a b) h
inductive a5h (K:PySem.W.Frag) (S:Hp) (as:List Addr):List (List L2.Key × V)→List (List L2.Key × T)→Prop where
 | nil:a5h K S as [] []
 | cons {k:List L2.Key} {v:V} {t:T} {vs:List (List L2.Key × V)} {ts:List (List L2.Key × T)}:Rep K S as v t→a5h K S as vs ts→a5h K S as ((k,v)::vs) ((k,t)::ts)
theorem a5h.mono (e:Same S S') (x:∃ l,as'=as++l) {v:List (List L2.Key × V)} {t:List (List L2.Key × T)} (h:a5h K S as v t):a5h K S' as' v t:=by
 induction h with
 | nil=>exact .nil
 | cons h _ ih=>exact .cons (h.mono e x) ih
theorem a5h.length {vs:List (List L2.Key × V)} {ts:List (List L2.Key × T)} (h:a5h K S as vs ts):vs.length=ts.length:=by
 induction h with
 | nil=>rfl
 | cons _ _ ih=>exact congrArg (· + 1) ih
theorem ug.length {vs:List V} {ts:List T} (h:ug K S as vs ts):vs.length=ts.length :=
 ug.rec (motive_1:=fun _ _ _=>True) (motive_2:=fun v t _=>v.length=t.length) (motive_3:=fun _ _ _=>True) trivial (fun _=>trivial) (fun _=>trivial) (fun _=>trivial) (fun _ _ _=>trivial) (fun _ _ _=>trivial) (fun _ _ _=>trivial) (fun _=>trivial) rfl (fun _ _ _ i=>congrArg (· + 1) i) trivial (fun _ _ _ _=>trivial) h
theorem Ed.length {vs:List (L2.Key × V)} {ts:List (L2.Key × T)} (h:Ed K S as vs ts):vs.length=ts.length :=
 Ed.rec (motive_1:=fun _ _ _=>True) (motive_2:=fun _ _ _=>True) (motive_3:=fun v t _=>v.length=t.length) trivial (fun _=>trivial) (fun _=>trivial) (fun _=>trivial) (fun _ _ _=>trivial) (fun _ _ _=>trivial) (fun _ _ _=>trivial) (fun _=>trivial) trivial (fun _ _ _ _=>trivial) rfl (fun _ _ _ i=>congrArg (· + 1) i) h
theorem ug.get:∀ {vs:List V} {ts:List T} {i:Nat} {t:T},ug K S as vs ts→ts[i]? = some t→∃ v,vs[i]? = some v∧Rep K S as v t
 | _,_,_,_,.nil,e=>by simp at e
 | _,_,0,_,.cons r _,e=>by simp at e; subst e; exact ⟨_,rfl,r⟩
 | _,_,i+1,t,.cons _ r,e=>by
  obtain ⟨v,h1,h2⟩:=ug.get (i:=i) (t:=t) r (by simpa using e)
  exact ⟨v,by simpa using h1,h2⟩
theorem ug.append {vs:List V} {ts:List T} {ws:List V} {us:List T} (h:ug K S as vs ts) (q:ug K S as ws us):ug K S as (vs++ws) (ts++us) :=
 ug.rec (motive_1:=fun _ _ _=>True) (motive_2:=fun v t _=>ug K S as (v++ws) (t++us)) (motive_3:=fun _ _ _=>True) trivial (fun _=>trivial) (fun _=>trivial) (fun _=>trivial) (fun _ _ _=>trivial) (fun _ _ _=>trivial) (fun _ _ _=>trivial) (fun _=>trivial) q (fun h _ _ i=>.cons h i) trivial (fun _ _ _ _=>trivial) h
theorem ug.reverse:∀ {vs:List V} {ts:List T},ug K S as vs ts→ug K S as vs.reverse ts.reverse
 | _,_,.nil=>.nil
 | _,_,.cons h r=>by rw [List.reverse_cons,List.reverse_cons]; exact ug.append (ug.reverse r) (.cons h .nil)
theorem ug.drop:∀ (n:Nat) {vs:List V} {ts:List T},ug K S as vs ts→ug K S as (vs.drop n) (ts.drop n)
 | 0,_,_,r=>r
 | _+1,_,_,.nil=>.nil
 | n+1,_,_,.cons _ r=>ug.drop n r
theorem Ed.get (k:L2.Key):∀ {vs:List (L2.Key × V)} {ts:List (L2.Key × T)},Ed K S as vs ts→(∃ v t,Tz vs k=some v∧Ww k ts=some t∧Rep K S as v t)∨(Tz vs k=none∧Ww k ts=none)
 | _,_,.nil=>.inr ⟨rfl,rfl⟩
 | _,_,.cons (k:=q) (v:=v) (t:=t) (vs:=vs) (ts:=ts) h r=>by
  by_cases e:q=k
  ·exact .inl ⟨v,t,Ja (p:=(q,v)) e,by rw [Ww,if_pos e],h⟩
  ·rw [J9 (p:=(q,v)) e,Ww,if_neg e]
   exact Ed.get k r
end
structure Bas where
 S:Hp
 as:List Addr
 H:Hp
structure adq (B:Bas) (S:Hp) (as:List Addr) (H:Hp):Prop where
 same:Same B.S S
 more:∃ l,as=B.as++l
 keep:∀ p o,B.H p=some o→B.S p=none→p∉B.as→H p=some o∧S p=none∧p∉as
structure Ext (S H S' H':Hp):Prop where
 s:Same S S'
 h:Same H H'
 sub:Same S' H'
 new:∀ p,S' p≠none→S p≠none∨H p=none
theorem Ext.refl {S H:Hp} (h:Same S H):Ext S H S H:=⟨Same.refl _,Same.refl _,h,fun _ q=>.inl q⟩
theorem Same.upd {H:Hp} {p:Addr} (h:H p=none) (o:HO):Same H (upd H p o):=fun b u q=>by rw [n8 (sy q h)]; exact q
theorem Ext.laid {S H:Hp} (h:Same S H) {p:Addr} (n:H p=none) (o:HO):Ext S H (upd S p o) (upd H p o) where
 s:=Same.upd (h.free n) o
 h:=Same.upd n o
 sub:=fun b u q=>by
  by_cases e:b=p
  ·subst e; rw [j8] at q ⊢; exact q
  ·rw [n8 e] at q ⊢; exact h _ _ q
 new:=fun b q=>by
  by_cases e:b=p
  ·subst e; exact .inr n
  ·rw [n8 e] at q; exact .inl q
theorem Ext.trans {S H S1 H1 S2 H2:Hp} (a:Ext S H S1 H1) (b:Ext S1 H1 S2 H2):Ext S H S2 H2 where
 s:=a.s.trans b.s
 h:=a.h.trans b.h
 sub:=b.sub
 new:=fun p q=>by
  rcases b.new p q with z | z
  ·exact a.new p z
  ·exact .inr (a.h.free z)
def Own (K:PySem.W.Frag) (S:Hp) (as:List Addr) (H:Hp) (p:Addr):T→Prop
 | .lst ts=>∃ vs,H p=some (.lst vs)∧ug K S as vs ts
 | .dic ts=>∃ kvs,H p=some (.dK kvs)∧Ed K S as kvs ts
 | _=>False
structure Xa (K:PySem.W.Frag) (B:Bas) (S:Hp) (as:List Addr) (H:Hp) (p:Addr) (t:T):Prop where
 own:Own K S as H p t
 out:S p=none
 nas:p∉as
 new:B.H p=none
def aa3 (K:PySem.W.Frag) (S:Hp) (as:List Addr) (H:Hp) (a:Addr):SO→Prop
 | .dic ts=>∃ kvs,H a=some (.dK kvs)∧Ed K S as kvs ts
 | .lst ts=>∃ vs,H a=some (.lst vs)∧ug K S as vs ts
 | .dit ts=>∃ kvs,H a=some (.dT kvs)∧a5h K S as kvs ts
structure Iv (K:PySem.W.Frag) (S:Hp) (as:List Addr) (H:Hp) (sto:List SO):Prop where
 len:as.length=sto.length
 nd:as.Nodup
 at':∀ (n:Nat) so,sto[n]? = some so→∃ a,as[n]? = some a∧S a=none∧aa3 K S as H a so
structure Rel (K:PySem.W.Frag) (B:Bas) (st:Sta) (σ:L2.St) (H:Hp) (ps:List (V × T)) (S:Hp) (as:List Addr):Prop where
 sub:Same S H
 grow:adq B S as H
 slots:∀ (i:Nat) t f,st.env[i]? = some (some (t,f))→∃ v,σ[i]? = some (some v)∧(f=false→Rep K S as v t)∧(f=true→∃ p,v=.ref p∧Xa K B S as H p t)
 apart:∀ (i j:Nat) t u p,st.env[i]? = some (some (t,true))→st.env[j]? = some (some (u,true))→σ[i]? = some (some (.ref p))→σ[j]? = some (some (.ref p))→i=j
 sto:Iv K S as H st.sto
 pend:∀ p∈ps,Rep K S as p.1 p.2
 len:σ.length=st.env.length
section
variable {K:PySem.W.Frag} {B:Bas} {st:Sta} {σ:L2.St} {H H' S S':Hp} {ps:List (V × T)} {as:List Addr}
theorem nol {as:List Addr}:∃ l:List Addr,as=as++l:=⟨[],(List.append_nil _).symm⟩
theorem Own.mono {p:Addr} {t:T} (hs:Same S S') (hh:H p=H' p) (o:Own K S as H p t):Own K S' as H' p t:=by
 cases t with
 | lst ts=>obtain ⟨vs,h,r⟩:=o; exact ⟨vs,hh ▸ h,r.mono hs nol⟩
 | dic ts=>obtain ⟨vs,h,r⟩:=o; exact ⟨vs,hh ▸ h,r.mono hs nol⟩
 | _=>exact o.elim
theorem Own.there {p:Addr} {t:T} (o:Own K S as H p t):∃ ob,H p=some ob:=by
 cases t with
 | lst ts=>obtain ⟨vs,h,r⟩:=o; exact ⟨_,h⟩
 | dic ts=>obtain ⟨vs,h,r⟩:=o; exact ⟨_,h⟩
 | _=>exact o.elim
theorem aa3.mono {a:Addr} {so:SO} (hs:Same S S') (hh:H a=H' a) (o:aa3 K S as H a so):aa3 K S' as H' a so:=by
 cases so with
 | dic ts=>obtain ⟨vs,h,r⟩:=o; exact ⟨vs,hh ▸ h,r.mono hs nol⟩
 | lst ts=>obtain ⟨vs,h,r⟩:=o; exact ⟨vs,hh ▸ h,r.mono hs nol⟩
 | dit ts=>obtain ⟨vs,h,r⟩:=o; exact ⟨vs,hh ▸ h,r.mono hs nol⟩
theorem aa3.there {a:Addr} {so:SO} (o:aa3 K S as H a so):∃ ob,H a=some ob:=by
 cases so with
 | dic ts=>obtain ⟨vs,h,r⟩:=o; exact ⟨_,h⟩
 | lst ts=>obtain ⟨vs,h,r⟩:=o; exact ⟨_,h⟩
 | dit ts=>obtain ⟨vs,h,r⟩:=o; exact ⟨_,h⟩
theorem Ext.outs (x:Ext S H S' H') {p:Addr} {o:HO} (h:H p=some o) (n:S p=none):S' p=none:=by
 cases q:S' p with
 | none=>rfl
 | some u =>
  rcases x.new p (by rw [q]; exact Option.some_ne_none _) with z | z
  ·exact absurd n z
  ·rw [h] at z; cases z
theorem Iv.ext {sto:List SO} (r:Iv K S as H sto) (x:Ext S H S' H'):Iv K S' as H' sto where
 len:=r.len
 nd:=r.nd
 at':=fun n so e=>by
  obtain ⟨a,h1,h2,h3⟩:=r.at' n so e
  obtain ⟨ob,ho⟩:=h3.there
  exact ⟨a,h1,x.outs ho h2,h3.mono x.s (by rw [ho,x.h _ _ ho])⟩
theorem Rel.ext (r:Rel K B st σ H ps S as) (x:Ext S H S' H'):Rel K B st σ H' ps S' as where
 sub:=x.sub
 grow:=⟨r.grow.same.trans x.s,r.grow.more,fun p o h1 h2 h3=>by
  obtain ⟨a,b,c⟩:=r.grow.keep p o h1 h2 h3
  exact ⟨x.h _ _ a,x.outs a b,c⟩⟩
 slots:=fun i t f e=>by
  obtain ⟨v,h1,h2,h3⟩:=r.slots i t f e
  refine ⟨v,h1,fun q=>(h2 q).mono x.s nol,fun q=>?_⟩
  obtain ⟨p,e,o⟩:=h3 q
  obtain ⟨ob,ho⟩:=o.own.there
  exact ⟨p,e,o.own.mono x.s (by rw [ho,x.h _ _ ho]),x.outs ho o.out,o.nas,o.new⟩
 apart:=r.apart
 sto:=r.sto.ext x
 pend:=fun p hp=>(r.pend p hp).mono x.s nol
 len:=r.len
theorem Rel.push (r:Rel K B st σ H ps S as) {v:V} {t:T} (h:Rep K S as v t):Rel K B st σ H ((v,t)::ps) S as :=
 ⟨r.sub,r.grow,r.slots,r.apart,r.sto,fun p hp=>by
  rcases List.mem_cons.mp hp with rfl | z
  ·exact h
  ·exact r.pend p z,r.len⟩
theorem Rel.drop {p:V × T} (r:Rel K B st σ H (p::ps) S as):Rel K B st σ H ps S as :=
 ⟨r.sub,r.grow,r.slots,r.apart,r.sto,fun q hq=>r.pend q (List.mem_cons_of_mem _ hq),r.len⟩
theorem Rel.top {v:V} {t:T} (r:Rel K B st σ H ((v,t)::ps) S as):Rep K S as v t:=r.pend (v,t) List.mem_cons_self
theorem Rel.top2 {v:V} {t:T} {q:V × T} (r:Rel K B st σ H (q::(v,t)::ps) S as):Rep K S as v t:=r.pend (v,t) (List.mem_cons_of_mem _ List.mem_cons_self)
end
inductive tOf (K:PySem.W.Frag) (B:Bas) (m:M T) (σ:L2.St) (H:Hp) (Q:VK):Prop
 | mk (st:Sta) (ps:List (V × T)) (S:Hp) (as:List Addr) (R:Rel K B st σ H ps S as) (t:T) (st':Sta) (e:m st=some (t,st')) (q:∀ v H' S' as',Rel K B st' σ H' ((v,t)::ps) S' as'→Q v H')
inductive cOf (K:PySem.W.Frag) (B:Bas) (m:M Bool) (σ:L2.St) (H:Hp) (Q:Bool→Hp→Prop):Prop
 | mk (st:Sta) (ps:List (V × T)) (S:Hp) (as:List Addr) (R:Rel K B st σ H ps S as) (b:Bool) (st':Sta) (e:m st=some (b,st')) (q:∀ H' S' as',Rel K B st' σ H' ps S' as'→Q b H')
inductive aOf (K:PySem.W.Frag) (B:Bas) (m:M (List T)) (σ:L2.St) (H:Hp) (Q:List V→Hp→Prop):Prop
 | mk (st:Sta) (ps:List (V × T)) (S:Hp) (as:List Addr) (R:Rel K B st σ H ps S as) (ts:List T) (st':Sta) (e:m st=some (ts,st')) (q:∀ vs H' S' as',Rel K B st' σ H' ps S' as'→ug K S' as' vs ts→Q vs H')
theorem _root_.L2.PE.imp {X:Cx} {e:Expr} {t t':TE} (h:PE X e t) (i:∀ σ H Q,t' σ H Q→t σ H Q):PE X e t':=fun pins s σ H Q I q=>h pins s σ H Q I (i σ H Q q)
theorem _root_.L2.PT.imp {X:Cx} {e:Expr} {t t':TT} (h:PT X e t) (i:∀ σ H Q,t' σ H Q→t σ H Q):PT X e t':=fun pins s σ H Q I q=>h pins s σ H Q I (i σ H Q q)
theorem _root_.L2.PA.imp {X:Cx} {e:List Expr} {t t':TA} (h:PA X e t) (i:∀ σ H Q,t' σ H Q→t σ H Q):PA X e t':=fun pos pins s σ H Q I q=>h pos pins s σ H Q I (i σ H Q q)
theorem _root_.L2.PS.imp {X:Cx} {e:Stmt} {t t':TS} (h:PS X e t) (i:∀ D σ H,t' D σ H→t D σ H):PS X e t':=fun pins s σ H D I q=>h pins s σ H D I (i D σ H q)
theorem _root_.L2.PSs.imp {X:Cx} {e:List Stmt} {t t':TS} (h:PSs X e t) (i:∀ D σ H,t' D σ H→t D σ H):PSs X e t':=fun pins s σ H D I q=>h pins s σ H D I (i D σ H q)
def r2 (K:PySem.W.Frag) (f:T→T→Option T):R2:=fun x y H Q=>∃ S as t u w,Same S H∧Rep K S as x t∧Rep K S as y u∧f t u=some w∧∀ v H' S',Ext S H S' H'→Rep K S' as v w→Q v H'
def r1 (K:PySem.W.Frag) (f:T→Option T):V→Hp→VK→Prop:=fun x H Q=>∃ S as t w,Same S H∧Rep K S as x t∧f t=some w∧∀ v H' S',Ext S H S' H'→Rep K S' as v w→Q v H'
def rL (K:PySem.W.Frag) (f:List T→Option T):List V→Hp→VK→Prop:=fun xs H Q=>∃ S as ts w,Same S H∧ug K S as xs ts∧f ts=some w∧∀ v H' S',Ext S H S' H'→Rep K S' as v w→Q v H'
abbrev OpT (X:Cx) (f:Value→Value→Sem Value) (g:T→T→Option T):Prop:=OpR X f (r2 X.K g)
abbrev UnT (X:Cx) (f:Value→Sem Value) (g:T→Option T):Prop:=UnR X f (r1 X.K g)
abbrev Lx (X:Cx) (f:Value) (g:List T→Option T):Prop:=Df X f (rL X.K g)
section
variable {X:Cx} {B:Bas} {a b c:Expr} {m m1 m2:M T} {pos:Pos}
theorem Gh {v:V} {t:T} {e:Expr} (h:PE X e (tC v)) (r:∀ S as,Rep X.K S as v t):PE X e (tOf X.K B (au t)):=h.imp fun σ H Q z9=>by
 obtain ⟨st,ps,S,as,R,t',st',e,q⟩:=z9
 cases e
 exact q v H S as (R.push (r S as))
theorem bw {i:Int} {j:Nat}:PE X (.Constant (.int i) j pos) (tOf X.K B (au (.int i))):=Gh a79 fun _ _=>.int i
theorem Cq {i:Bool} {j:Nat}:PE X (.Constant (.bool i) j pos) (tOf X.K B (au (.bl i))):=Gh af5 fun _ _=>.bl i
theorem jc {i:Str} {j:Nat}:PE X (.Constant (.str i) j pos) (tOf X.K B (au (.str i))):=Gh abj fun _ _=>.str i
theorem Er {j:Nat}:PE X (.Constant .none j pos) (tOf X.K B (au .non)):=Gh abw fun _ _=>.non
theorem j6 {op:Operator} {f:T→T→Option T} (ho:OpT X (binaryOp op) f) (ha:PE X a (tOf X.K B m1)) (hb:PE X b (tOf X.K B m2)):PE X (.BinOp a op b pos) (tOf X.K B (mOp f m1 m2)) :=
 (aac ho ha hb).imp fun σ H Q z9=>by
  obtain ⟨st,ps,S,as,R,t,st',e,q⟩:=z9
  obtain ⟨t1,s1,t2,e1,e2,e3⟩:=Ob e
  refine ⟨st,ps,S,as,R,t1,s1,e1,fun v H1 S1 as1 R1=>⟨s1,_,S1,as1,R1,t2,st',e2,fun u H2 S2 as2 R2=>?_⟩⟩
  exact ⟨S2,as2,t1,t2,t,R2.sub,R2.top2,R2.top,e3,fun w H3 S3 x r=>q w H3 S3 as2 ((R2.drop.drop.ext x).push r)⟩
end
section
variable {K:PySem.W.Frag} {B:Bas} {st:Sta} {σ:L2.St} {H H' S S':Hp} {ps:List (V × T)} {as:List Addr}
theorem Rel.freeze (r:Rel K B st σ H ps S as) {i:Nat} {t:T} (e:st.env[i]? = some (some (t,true))) :
  ∃ v S',σ[i]? = some (some v)∧Rel K B { st with env:=st.env.set i (some (t,false)) } σ H ((v,t)::ps) S' as:=by
 obtain ⟨v,h1,_,h3⟩:=r.slots i t true e
 obtain ⟨p,rfl,o⟩:=h3 rfl
 obtain ⟨ob,ho⟩:=o.own.there
 have hi:i<st.env.length:=(List.getElem?_eq_some_iff.mp e).1
 have sS:Same S (upd S p ob):=Same.upd o.out ob
 have rep:Rep K (upd S p ob) as (.ref p) t:=by
  have w:=o.own
  cases t with
  | lst ts=>obtain ⟨vs,h,q⟩:=w; rw [ho] at h; cases h; exact .lst (SqL.of j8) (q.mono sS nol)
  | dic ts=>obtain ⟨vs,h,q⟩:=w; rw [ho] at h; cases h; exact .dic (.inl j8) (q.mono sS nol)
  | _=>exact w.elim
 have outs:∀ q,S q=none→q≠p→upd S p ob q=none:=fun q h n=>by rw [n8 n]; exact h
 refine ⟨.ref p,upd S p ob,h1,?_⟩
 refine Rel.push (v:=.ref p) (t:=t) ⟨?_,?_,?_,?_,?_,?_,?_⟩ rep
 ·intro b u q
  by_cases z:b=p
  ·subst z; rw [j8] at q; cases q; exact ho
  ·rw [n8 z] at q; exact r.sub _ _ q
 ·refine ⟨r.grow.same.trans sS,r.grow.more,fun q w a b c=>?_⟩
  obtain ⟨x,y,z⟩:=r.grow.keep q w a b c
  refine ⟨x,outs q y fun n=>?_,z⟩
  subst n; rw [o.new] at a; cases a
 ·intro j u f ej
  by_cases hij:i=j
  ·subst hij
   rw [List.getElem?_set_self hi] at ej
   cases ej
   exact ⟨.ref p,h1,fun _=>rep,fun z=>by cases z⟩
  ·rw [List.getElem?_set_ne hij] at ej
   obtain ⟨v',a1,a2,a3⟩:=r.slots j u f ej
   refine ⟨v',a1,fun z=>(a2 z).mono sS nol,fun z=>?_⟩
   subst z
   obtain ⟨p',rfl,o'⟩:=a3 rfl
   refine ⟨p',rfl,o'.own.mono sS rfl,outs p' o'.out fun n=>?_,o'.nas,o'.new⟩
   subst n
   exact hij (r.apart i j t u p' e ej h1 a1)
 ·intro j k u w q ej ek
  have hj:st.env[j]? = some (some (u,true)):=by
   by_cases hij:i=j
   ·subst hij; rw [List.getElem?_set_self hi] at ej; cases ej
   ·rwa [List.getElem?_set_ne hij] at ej
  have hk:st.env[k]? = some (some (w,true)):=by
   by_cases hij:i=k
   ·subst hij; rw [List.getElem?_set_self hi] at ek; cases ek
   ·rwa [List.getElem?_set_ne hij] at ek
  exact r.apart j k u w q hj hk
 ·refine ⟨r.sto.len,r.sto.nd,fun n so en=>?_⟩
  obtain ⟨a,a1,a2,a3⟩:=r.sto.at' n so en
  refine ⟨a,a1,outs a a2 fun z=>?_,a3.mono sS rfl⟩
  subst z
  exact o.nas (List.mem_of_getElem? a1)
 ·exact fun q hq=>(r.pend q hq).mono sS nol
 ·show σ.length=(st.env.set i _).length
  rw [List.length_set]; exact r.len
end
section
variable {X:Cx} {B:Bas} {a b c:Expr} {m m1 m2:M T} {pos:Pos}
theorem ak (i:Nat) {e:Expr} (h:PE X e (a2r i)):PE X e (tOf X.K B (bx i)):=h.imp fun σ H Q z9=>by
 obtain ⟨st,ps,S,as,R,t,st',e,q⟩:=z9
 rcases a3d e with ⟨e1,rfl⟩ | ⟨e1,rfl⟩
 ·obtain ⟨v,h1,h2,_⟩:=R.slots i t false e1
  exact ⟨v,h1,q v H S as (R.push (h2 rfl))⟩
 ·obtain ⟨v,S',h1,R'⟩:=R.freeze e1
  exact ⟨v,h1,q v H S' as R'⟩
theorem bh:PA X [] (aOf X.K B dw):=ux.imp fun σ H Q z9=>by
 obtain ⟨st,ps,S,as,R,ts,st',e,q⟩:=z9
 cases e
 exact q [] H S as R .nil
theorem aj {es:List Expr} {ms:M (List T)} (ha:PE X a (tOf X.K B m)) (hr:PA X es (aOf X.K B ms)) (hs:starEach (a::es) X.env=(false,eval a X.env)::starEach es X.env:=by rfl):PA X (a::es) (aOf X.K B (ao m ms)) :=
 (nu ha hr hs).imp fun σ H Q z9=>by
  obtain ⟨st,ps,S,as,R,ts,st',e,q⟩:=z9
  obtain ⟨t,s1,us,e1,e2,rfl⟩:=Br e
  refine ⟨st,ps,S,as,R,t,s1,e1,fun v H1 S1 as1 R1=>⟨s1,_,S1,as1,R1,us,st',e2,fun vs H2 S2 as2 R2 rs=>?_⟩⟩
  exact q (v::vs) H2 S2 as2 R2.drop (.cons R2.top rs)
theorem fj {es:List Expr} {ms:M (List T)} {k:Nat} (h:PA X es (aOf X.K B ms)) (hm:∀ st ts st',ms st=some (ts,st')→ts.length≤1000):PE X (.Tuple es k pos) (tOf X.K B (gk (fun l=>some (.tup l)) ms)) :=
 (aaq h).imp fun σ H Q z9=>by
  obtain ⟨st,ps,S,as,R,t,st',e,q⟩:=z9
  obtain ⟨ts,e1,e2⟩:=Bx e
  cases e2
  refine ⟨st,ps,S,as,R,ts,st',e1,fun vs H1 S1 as1 R1 rs=>⟨?_,fun p hp=>?_⟩⟩
  ·rw [rs.length]; exact Nat.le_of_lt (Ko (hm _ _ _ e1))
  ·have x:=Ext.laid R1.sub hp (.tup vs)
   exact q _ _ _ _ ((R1.ext x).push (.tup (SqT.of j8) (rs.mono x.s nol)))
theorem qx {es:List Expr} {ms:M (List T)} (h:PA X es (aOf X.K B ms)) (hm:∀ st ts st',ms st=some (ts,st')→ts.length≤1000):PE X (.List es pos) (tOf X.K B (gk (fun l=>some (.lst l)) ms)) :=
 (a78 h).imp fun σ H Q z9=>by
  obtain ⟨st,ps,S,as,R,t,st',e,q⟩:=z9
  obtain ⟨ts,e1,e2⟩:=Bx e
  cases e2
  refine ⟨st,ps,S,as,R,ts,st',e1,fun vs H1 S1 as1 R1 rs=>⟨?_,fun p hp=>?_⟩⟩
  ·rw [rs.length]; exact Nat.le_of_lt (Ko (hm _ _ _ e1))
  ·have x:=Ext.laid R1.sub hp (.lst vs)
   exact q _ _ _ _ ((R1.ext x).push (.lst (SqL.of j8) (rs.mono x.s nol)))
theorem cg:∀ st ts st',dw st=some (ts,st')→ts.length≤0:=fun st ts st' e=>by cases e; exact Nat.le_refl _
theorem aq {r:M (List T)} {n:Nat} (h:∀ st ts st',r st=some (ts,st')→ts.length≤n):∀ st ts st',ao m r st=some (ts,st')→ts.length≤n+1:=fun st ts st' e=>by
 obtain ⟨t,s1,us,e1,e2,rfl⟩:=Br e
 exact Nat.succ_le_succ (h _ _ _ e2)
theorem iu {ms:M (List T)} {f:List T→Option T} {e:Expr} (h:PE X e (tCB (rL X.K f) (aOf X.K B ms))):PE X e (tOf X.K B (gk f ms)) :=
 h.imp fun σ H Q z9=>by
  obtain ⟨st,ps,S,as,R,t,st',e,q⟩:=z9
  obtain ⟨ts,e1,e2⟩:=Bx e
  refine ⟨st,ps,S,as,R,ts,st',e1,fun vs H1 S1 as1 R1 rs=>⟨S1,as1,ts,t,R1.sub,rs,e2,fun v H2 S2 x r=>?_⟩⟩
  exact q v H2 S2 as1 ((R1.ext x).push r)
theorem Vd {f:T→T→Option T} {e:Expr} (h:PE X e (tOp (r2 X.K f) (tOf X.K B m1) (tOf X.K B m2))):PE X e (tOf X.K B (mOp f m1 m2)) :=
 h.imp fun σ H Q z9=>by
  obtain ⟨st,ps,S,as,R,t,st',e,q⟩:=z9
  obtain ⟨t1,s1,t2,e1,e2,e3⟩:=Ob e
  refine ⟨st,ps,S,as,R,t1,s1,e1,fun v H1 S1 as1 R1=>⟨s1,_,S1,as1,R1,t2,st',e2,fun u H2 S2 as2 R2=>?_⟩⟩
  exact ⟨S2,as2,t1,t2,t,R2.sub,R2.top2,R2.top,e3,fun w H3 S3 x r=>q w H3 S3 as2 ((R2.drop.drop.ext x).push r)⟩
theorem a4r {f:T→Option T} {e:Expr} (h:PE X e (tUn (r1 X.K f) (tOf X.K B m))):PE X e (tOf X.K B (mUn f m)) :=
 h.imp fun σ H Q z9=>by
  obtain ⟨st,ps,S,as,R,t,st',e,q⟩:=z9
  obtain ⟨t1,e1,e3⟩:=Tg e
  refine ⟨st,ps,S,as,R,t1,st',e1,fun v H1 S1 as1 R1=>⟨S1,as1,t1,t,R1.sub,R1.top,e3,fun w H3 S3 x r=>q w H3 S3 as1 ((R1.drop.ext x).push r)⟩⟩
theorem v8 {op:CmpOp} {f:T→T→Option T} (ho:OpT X (compareOp op) f) (ha:PE X a (tOf X.K B m1)) (hb:PE X b (tOf X.K B m2)) (hm:behindInMarks op b=false):PE X (.Compare a [op] [b] pos) (tOf X.K B (mOp f m1 m2)):=Vd (a9f ho ha hb hm)
theorem Fv {op:UnaryOp} {f:T→Option T} (ho:UnT X (unaryOp op) f) (ha:PE X a (tOf X.K B m)):PE X (.UnaryOp op a pos) (tOf X.K B (mUn f m)):=a4r (ac7 ho ha)
theorem Mr {e:Expr} (h:PT X e (abg (tOf X.K B m))):PT X e (cOf X.K B (gb m)):=h.imp fun σ H Q z9=>by
 obtain ⟨st,ps,S,as,R,t,st',e,q⟩:=z9
 refine ⟨st,ps,S,as,R,.bl t,st',zj e,fun v H1 S1 as1 R1=>?_⟩
 cases R1.top
 exact ⟨t,rfl,q H1 S1 as1 R1.drop⟩
theorem m8 {op:CmpOp} {f:T→T→Option T} (ho:OpT X (compareOp op) f) (ha:PE X a (tOf X.K B m1)) (hb:PE X b (tOf X.K B m2)) (hm:behindInMarks op b=false):PT X (.Compare a [op] [b] pos) (cOf X.K B (gb (mOp f m1 m2))) :=
 Mr ((a84 ho ha hb hm).imp fun σ H Q z9=>by
  obtain ⟨st,ps,S,as,R,t,st',e,q⟩:=z9
  obtain ⟨t1,s1,t2,e1,e2,e3⟩:=Ob e
  refine ⟨st,ps,S,as,R,t1,s1,e1,fun v H1 S1 as1 R1=>⟨s1,_,S1,as1,R1,t2,st',e2,fun u H2 S2 as2 R2=>?_⟩⟩
  exact ⟨S2,as2,t1,t2,t,R2.sub,R2.top2,R2.top,e3,fun w H3 S3 x r=>q w H3 S3 as2 ((R2.drop.drop.ext x).push r)⟩)
theorem u9 {e:Expr} (h:PE X e (tOf X.K B m)) (he:∀ whole,isTrue e X.env whole=(do let v ← whole; standAt e.pos; holding [v] (truthy v)):=by intro _; rfl):PT X e (cOf X.K B (gb m)) :=
 Mr ((ac3 h he).imp fun σ H Q h=>h)
theorem Ak {c1:M Bool} (ha:PT X a (cOf X.K B c1)):PT X (.UnaryOp .Not a pos) (cOf X.K B (J2 c1)):=(aas ha).imp fun σ H Q z9=>by
 obtain ⟨st,ps,S,as,R,t,st',e,q⟩:=z9
 obtain ⟨k,e1,rfl⟩:=Uy e
 exact ⟨st,ps,S,as,R,k,st',e1,q⟩
theorem Dh {c1:M Bool} (ha:PT X a (cOf X.K B c1)):PW X (.BoolOp .And [a] pos) (cOf X.K B c1):=pw_and1 ha
theorem M9 {c1:M Bool} (ha:PT X a (cOf X.K B c1)):PW X (.BoolOp .Or [a] pos) (cOf X.K B c1):=pw_or1 ha
theorem abr {e:Expr} {t t':TT} (h:PW X e t) (i:∀ σ H Q,t' σ H Q→t σ H Q):PW X e t':=fun whole pins s σ H Q I q=>h whole pins s σ H Q I (i σ H Q q)
theorem Ew {c1 c2:M Bool} {rest:List Expr} (ha:PT X a (cOf X.K B c1)) (hb:PW X (.BoolOp .And (b::rest) pos) (cOf X.K B c2)):PW X (.BoolOp .And (a::b::rest) pos) (cOf X.K B (Ba c1 c2)) :=
 abr (pw_and ha hb) fun σ H Q z9=>by
  obtain ⟨st,ps,S,as,R,t,st',e,q⟩:=z9
  rcases Vx e with ⟨s1,e1,e2⟩ | ⟨e1,rfl⟩
  ·exact ⟨st,ps,S,as,R,true,s1,e1,fun H1 S1 as1 R1=>a6t (⟨s1,ps,S1,as1,R1,t,st',e2,q⟩)⟩
  ·exact ⟨st,ps,S,as,R,false,st',e1,fun H1 S1 as1 R1=>a69 (q H1 S1 as1 R1)⟩
theorem Xo {c1 c2:M Bool} {rest:List Expr} (ha:PT X a (cOf X.K B c1)) (hb:PW X (.BoolOp .Or (b::rest) pos) (cOf X.K B c2)):PW X (.BoolOp .Or (a::b::rest) pos) (cOf X.K B (mOr c1 c2)) :=
 abr (pw_or ha hb) fun σ H Q z9=>by
  obtain ⟨st,ps,S,as,R,t,st',e,q⟩:=z9
  rcases Zy e with ⟨s1,e1,e2⟩ | ⟨e1,rfl⟩
  ·exact ⟨st,ps,S,as,R,false,s1,e1,fun H1 S1 as1 R1=>a69 (⟨s1,ps,S1,as1,R1,t,st',e2,q⟩)⟩
  ·exact ⟨st,ps,S,as,R,true,st',e1,fun H1 S1 as1 R1=>a6t (q H1 S1 as1 R1)⟩
theorem Vp {c1:M Bool} (hc:PT X c (cOf X.K B c1)) (ha:PE X a (tOf X.K B m1)) (hb:PE X b (tOf X.K B m2)):PE X (.IfExp c a b pos) (tOf X.K B (mIf c1 m1 m2)) :=
 (a4e hc ha hb).imp fun σ H Q z9=>by
  obtain ⟨st,ps,S,as,R,t,st',e,q⟩:=z9
  rcases a9h e with ⟨s1,e1,e2⟩ | ⟨s1,e1,e2⟩
  ·exact ⟨st,ps,S,as,R,true,s1,e1,fun H1 S1 as1 R1=>a6t (⟨s1,ps,S1,as1,R1,t,st',e2,q⟩)⟩
  ·exact ⟨st,ps,S,as,R,false,s1,e1,fun H1 S1 as1 R1=>a69 (⟨s1,ps,S1,as1,R1,t,st',e2,q⟩)⟩
theorem aam (ha:PE X a (tOf X.K B m)):PE X (.UnaryOp .Not a pos) (tOf X.K B (Ad (J2 (gb m)))):=(acf ha).imp fun σ H Q z9=>by
 obtain ⟨st,ps,S,as,R,t,st',e,q⟩:=z9
 obtain ⟨b,e1,rfl⟩:=Jc e
 obtain ⟨k,e2,rfl⟩:=Uy e1
 refine ⟨st,ps,S,as,R,.bl k,st',zj e2,fun v H1 S1 as1 R1=>?_⟩
 cases R1.top
 exact ⟨k,rfl,q _ H1 S1 as1 (R1.drop.push (.bl _))⟩
theorem Du {op:BoolOp} (ha:PE X a (tOf X.K B m)):PE X (.BoolOp op [a] pos) (tOf X.K B m):=ab0 ha
theorem Bo {rest:List Expr} (ha:PE X a (tOf X.K B m1)) (hb:PE X (.BoolOp .And (b::rest) pos) (tOf X.K B m2)):PE X (.BoolOp .And (a::b::rest) pos) (tOf X.K B (Ad (Ba (gb m1) (gb m2)))) :=
 (aaf ha hb).imp fun σ H Q z9=>by
  obtain ⟨st,ps,S,as,R,t,st',e,q⟩:=z9
  obtain ⟨b,e1,rfl⟩:=Jc e
  rcases Vx e1 with ⟨s1,e2,e3⟩ | ⟨e2,rfl⟩
  ·refine ⟨st,ps,S,as,R,.bl true,s1,zj e2,fun v H1 S1 as1 R1=>?_⟩
   cases R1.top
   exact ⟨true,rfl,a6t (⟨s1,ps,S1,as1,R1.drop,.bl b,st',zj e3,q⟩)⟩
  ·refine ⟨st,ps,S,as,R,.bl false,st',zj e2,fun v H1 S1 as1 R1=>?_⟩
   cases R1.top
   exact ⟨false,rfl,a69 (q _ H1 S1 as1 (R1.drop.push (.bl _)))⟩
theorem aek {rest:List Expr} (ha:PE X a (tOf X.K B m1)) (hb:PE X (.BoolOp .Or (b::rest) pos) (tOf X.K B m2)):PE X (.BoolOp .Or (a::b::rest) pos) (tOf X.K B (Ad (mOr (gb m1) (gb m2)))) :=
 (af8 ha hb).imp fun σ H Q z9=>by
  obtain ⟨st,ps,S,as,R,t,st',e,q⟩:=z9
  obtain ⟨b,e1,rfl⟩:=Jc e
  rcases Zy e1 with ⟨s1,e2,e3⟩ | ⟨e2,rfl⟩
  ·refine ⟨st,ps,S,as,R,.bl false,s1,zj e2,fun v H1 S1 as1 R1=>?_⟩
   cases R1.top
   exact ⟨false,rfl,a69 (⟨s1,ps,S1,as1,R1.drop,.bl b,st',zj e3,q⟩)⟩
  ·refine ⟨st,ps,S,as,R,.bl true,st',zj e2,fun v H1 S1 as1 R1=>?_⟩
   cases R1.top
   exact ⟨true,rfl,a6t (q _ H1 S1 as1 (R1.drop.push (.bl _)))⟩
end
theorem a5i {a b:S} {s s':Sta} {fl:Flow} (h:jz a b s=some (fl,s')):(∃ s1,a s=some (.next,s1)∧b s1=some (fl,s'))∨(a s=some (fl,s')∧fl≠.next):=by
 unfold jz at h
 split at h
 ·rename_i s1 e; exact .inl ⟨s1,e,h⟩
 ·rename_i r hr; exact .inr ⟨h,fun z=>by subst z; exact hr _ h⟩
theorem a2u {e:M T} {s s':Sta} {fl:Flow} (h:rm e s=some (fl,s')):∃ t,e s=some (t,s')∧fl=.ret t:=by
 unfold rm at h
 split at h
 ·rename_i t s1 e; cases h; exact ⟨t,e,rfl⟩
 ·cases h
theorem a7l {c:M Bool} {a b:S} {s s':Sta} {fl:Flow} (h:sIf c a b s=some (fl,s')):(∃ s1,c s=some (true,s1)∧a s1=some (fl,s'))∨(∃ s1,c s=some (false,s1)∧b s1=some (fl,s')):=by
 unfold sIf at h
 split at h
 ·rename_i s1 e; exact .inl ⟨s1,e,h⟩
 ·rename_i s1 e; exact .inr ⟨s1,e,h⟩
 ·cases h
theorem a4t {i:Nat} {e:M T} {s s':Sta} {fl:Flow} (h:vf i e s=some (fl,s')):∃ t s1,e s=some (t,s1)∧fl=.next∧s'=jo i t false s1:=by
 unfold vf at h
 split at h
 ·rename_i t s1 e; cases h; exact ⟨t,s1,e,rfl,rfl⟩
 ·cases h
theorem a4k {i:Nat} {e:M T} {s s':Sta} {fl:Flow} (h:sNew i e s=some (fl,s')):∃ t s1,e s=some (t,s1)∧fl=.next∧s'=jo i t true s1:=by
 unfold sNew at h
 split at h
 ·rename_i t s1 e; cases h; exact ⟨t,s1,e,rfl,rfl⟩
 ·cases h
theorem a3z {g:G} {it:M (List T)} {b:S} {s s':Sta} {fl:Flow} (h:Fq g it b s=some (fl,s')):∃ ts s1,it s=some (ts,s1)∧forL g b ts s1=some (fl,s'):=by
 unfold Fq at h
 split at h
 ·rename_i ts s1 e; exact ⟨ts,s1,e,h⟩
 ·cases h
theorem Tj {i:Nat} {e:M T} {s s':Sta} {fl:Flow} (h:qj i e s=some (fl,s')) :
  Ei i s=true∧∃ t s1 xs,e s=some (t,s1)∧s1.env[i]? = some (some (.lst xs,true))∧xs.length<lim∧fl=.next∧s'=jo i (.lst (xs++[t])) true s1:=by
 unfold qj at h
 split at h
 ·rename_i hd
  refine ⟨hd,?_⟩
  split at h
  ·rename_i t s1 e
   split at h
   ·rename_i xs ex
    split at h
    ·rename_i hl; cases h; exact ⟨t,s1,xs,e,ex,hl,rfl,rfl⟩
    ·cases h
   ·cases h
  ·cases h
 ·cases h
theorem Ua {i:Nat} {e:M T} {s s':Sta} {fl:Flow} (h:yu i e s=some (fl,s')) :
  Ei i s=true∧∃ t s1 xs ys,e s=some (t,s1)∧Iz t=some ys∧s1.env[i]? = some (some (.lst xs,true))∧xs.length+ys.length<lim∧fl=.next∧s'=jo i (.lst (xs++ys)) true s1:=by
 unfold yu at h
 split at h
 ·rename_i hd
  refine ⟨hd,?_⟩
  split at h
  ·rename_i t s1 e
   split at h
   ·rename_i ys xs ey ex
    split at h
    ·rename_i hl; cases h; exact ⟨t,s1,_,_,e,ey,ex,hl,rfl,rfl⟩
    ·cases h
   ·cases h
  ·cases h
 ·cases h
theorem Uc {i:Nat} {k v:M T} {s s':Sta} {fl:Flow} (h:Ai i k v s=some (fl,s')) :
  ∃ t s1 kt s2 kvs q,v s=some (t,s1)∧Pj i s1=true∧k s1=some (kt,s2)∧s2.env[i]? = some (some (.dic kvs,true))∧keyOf kt=some q∧kvs.length<lim∧fl=.next∧s'=jo i (.dic (a6m q t kvs)) true s2:=by
 unfold Ai at h
 split at h
 ·rename_i t s1 e
  split at h
  ·rename_i hd
   split at h
   ·rename_i kt s2 ek
    split at h
    ·rename_i kvs q ex eq
     split at h
     ·rename_i hl; cases h; exact ⟨t,s1,kt,s2,_,_,e,hd,ek,ex,eq,hl,rfl,rfl⟩
     ·cases h
    ·cases h
   ·cases h
  ·cases h
 ·cases h
section
variable {K:PySem.W.Frag} {B:Bas} {st:Sta} {σ:L2.St} {H H' S S':Hp} {ps ps2:List (V × T)} {as as':List Addr}
theorem Rel.pick (r:Rel K B st σ H ps S as) (h:∀ p∈ps2,p∈ps):Rel K B st σ H ps2 S as :=
 ⟨r.sub,r.grow,r.slots,r.apart,r.sto,fun p hp=>r.pend p (h p hp),r.len⟩
theorem O6 {α:Type} {l:List α} {i:Nat} {x:α} (h:l.length≤i):l.set i x=l:=List.set_eq_of_length_le h
theorem Rel.put (r:Rel K B st σ H ps S as) {i:Nat} {v:V} {t:T} (h:Rep K S as v t):Rel K B (jo i t false st) (σ.set i (some v)) H ps S as:=by
 by_cases hi:i<st.env.length
 ·have hs:i<σ.length:=by rw [r.len]; exact hi
  refine ⟨r.sub,r.grow,fun j u f e=>?_,fun j k u w p ej ek sj sk=>?_,r.sto,r.pend,by show _=(st.env.set i _).length; rw [List.length_set,List.length_set]; exact r.len⟩
  ·have e:(st.env.set i (some (t,false)))[j]? = some (some (u,f)):=e
   by_cases hij:i=j
   ·subst hij
    rw [List.getElem?_set_self hi] at e; cases e
    exact ⟨v,List.getElem?_set_self hs,fun _=>h,fun z=>by cases z⟩
   ·rw [List.getElem?_set_ne hij] at e ⊢
    exact r.slots j u f e
  ·have ej:(st.env.set i (some (t,false)))[j]? = some (some (u,true)):=ej
   have ek:(st.env.set i (some (t,false)))[k]? = some (some (w,true)):=ek
   have hij:i≠j:=fun z=>by subst z; rw [List.getElem?_set_self hi] at ej; cases ej
   have hik:i≠k:=fun z=>by subst z; rw [List.getElem?_set_self hi] at ek; cases ek
   rw [List.getElem?_set_ne hij] at ej sj
   rw [List.getElem?_set_ne hik] at ek sk
   exact r.apart j k u w p ej ek sj sk
 ·have e1:jo i t false st=st:=by unfold jo; rw [O6 (Nat.le_of_not_lt hi)]
  have e2:σ.set i (some v)=σ:=O6 (by rw [r.len]; exact Nat.le_of_not_lt hi)
  rw [e1,e2]; exact r
def Ly (st:Sta) (σ:L2.St) (p:Addr):Prop:=∀ (j:Nat) u,st.env[j]? = some (some (u,true))→σ[j]? = some (some (.ref p))→False
theorem Rel.acs (r:Rel K B st σ H ps S as) {i:Nat} {p:Addr} {t:T} (h:Xa K B S as H p t) (hn:Ly st σ p):Rel K B (jo i t true st) (σ.set i (some (.ref p))) H ps S as:=by
 by_cases hi:i<st.env.length
 ·have hs:i<σ.length:=by rw [r.len]; exact hi
  refine ⟨r.sub,r.grow,fun j u f e=>?_,fun j k u w q ej ek sj sk=>?_,r.sto,r.pend,by show _=(st.env.set i _).length; rw [List.length_set,List.length_set]; exact r.len⟩
  ·have e:(st.env.set i (some (t,true)))[j]? = some (some (u,f)):=e
   by_cases hij:i=j
   ·subst hij
    rw [List.getElem?_set_self hi] at e; cases e
    exact ⟨.ref p,List.getElem?_set_self hs,(fun z=>by cases z),fun _=>⟨p,rfl,h⟩⟩
   ·rw [List.getElem?_set_ne hij] at e ⊢
    exact r.slots j u f e
  ·have ej:(st.env.set i (some (t,true)))[j]? = some (some (u,true)):=ej
   have ek:(st.env.set i (some (t,true)))[k]? = some (some (w,true)):=ek
   by_cases hij:i=j
   ·by_cases hik:i=k
    ·rw [← hij,← hik]
    ·subst hij
     rw [List.getElem?_set_self hs] at sj; cases sj
     rw [List.getElem?_set_ne hik] at ek sk
     exact (hn k w ek sk).elim
   ·rw [List.getElem?_set_ne hij] at ej sj
    by_cases hik:i=k
    ·subst hik
     rw [List.getElem?_set_self hs] at sk; cases sk
     exact (hn j u ej sj).elim
    ·rw [List.getElem?_set_ne hik] at ek sk
     exact r.apart j k u w q ej ek sj sk
 ·have e1:jo i t true st=st:=by unfold jo; rw [O6 (Nat.le_of_not_lt hi)]
  have e2:σ.set i (some (.ref p))=σ:=O6 (by rw [r.len]; exact Nat.le_of_not_lt hi)
  rw [e1,e2]; exact r
theorem Rel.turn (r:Rel K B st σ H ps S as) {i:Nat} {t t':T} {p:Addr} {ob:HO} (e:st.env[i]? = some (some (t,true))) (hp:σ[i]? = some (some (.ref p))) (h:Own K S as (upd H p ob) p t') :
  Rel K B (jo i t' true st) σ (upd H p ob) ps S as:=by
 obtain ⟨v,h1,_,h3⟩:=r.slots i t true e
 rw [hp] at h1; cases h1
 obtain ⟨p',ep,o⟩:=h3 rfl
 cases ep
 have hi:i<st.env.length:=(List.getElem?_eq_some_iff.mp e).1
 have other:∀ q,q≠p→H q=upd H p ob q:=fun q n=>(n8 n).symm
 refine ⟨fun b u q=>?_,⟨r.grow.same,r.grow.more,fun q w a b c=>?_⟩,fun j u f ej=>?_,fun j k u w q ej ek sj sk=>?_,⟨r.sto.len,r.sto.nd,fun n so en=>?_⟩,r.pend,by show _=(st.env.set i _).length; rw [List.length_set]; exact r.len⟩
 ·have n:b≠p:=fun z=>by subst z; rw [o.out] at q; cases q
  rw [n8 n]; exact r.sub _ _ q
 ·obtain ⟨x,y,z⟩:=r.grow.keep q w a b c
  have n:q≠p:=fun z=>by subst z; rw [o.new] at a; cases a
  exact ⟨by rw [n8 n]; exact x,y,z⟩
 ·have ej:(st.env.set i (some (t',true)))[j]? = some (some (u,f)):=ej
  by_cases hij:i=j
  ·subst hij
   rw [List.getElem?_set_self hi] at ej; cases ej
   exact ⟨.ref p,hp,(fun z=>by cases z),fun _=>⟨p,rfl,h,o.out,o.nas,o.new⟩⟩
  ·rw [List.getElem?_set_ne hij] at ej
   obtain ⟨v',a1,a2,a3⟩:=r.slots j u f ej
   refine ⟨v',a1,a2,fun z=>?_⟩
   subst z
   obtain ⟨p',rfl,o'⟩:=a3 rfl
   have n:p'≠p:=fun z=>by subst z; exact hij (r.apart i j t u p' e ej hp a1)
   exact ⟨p',rfl,o'.own.mono (Same.refl _) (other p' n),o'.out,o'.nas,o'.new⟩
 ·have back:∀ (j:Nat) u,(st.env.set i (some (t',true)))[j]? = some (some (u,true))→∃ u',st.env[j]? = some (some (u',true)):=fun j u ej=>by
   by_cases hij:i=j
   ·subst hij; exact ⟨t,e⟩
   ·rw [List.getElem?_set_ne hij] at ej; exact ⟨u,ej⟩
  obtain ⟨u',ej'⟩:=back j u ej
  obtain ⟨w',ek'⟩:=back k w ek
  exact r.apart j k u' w' q ej' ek' sj sk
 ·obtain ⟨a,a1,a2,a3⟩:=r.sto.at' n so en
  have n:a≠p:=fun z=>by subst z; exact o.nas (List.mem_of_getElem? a1)
  exact ⟨a,a1,a2,a3.mono (Same.refl _) (other a n)⟩
end
def Fin (K:PySem.W.Frag) (B:Bas) (D:Ends) (ps:List (V × T)):Flow→Sta→Prop
 | .next,st'=>∀ σ' H' S' as',Rel K B st' σ' H' ps S' as'→D.nx σ' H'
 | .ret t,st'=>∀ v σ' H' S' as',Rel K B st' σ' H' ((v,t)::ps) S' as'→D.rt v H'
 | .brk,st'=>∀ σ' H' S' as',Rel K B st' σ' H' ps S' as'→D.bk σ' H'
 | .cont,st'=>∀ σ' H' S' as',Rel K B st' σ' H' ps S' as'→D.ct σ' H'
inductive sOf (K:PySem.W.Frag) (B:Bas) (s:S) (D:Ends) (σ:L2.St) (H:Hp):Prop
 | mk (st:Sta) (ps:List (V × T)) (S0:Hp) (as:List Addr) (R:Rel K B st σ H ps S0 as) (fl:Flow) (st':Sta) (e:s st=some (fl,st')) (q:Fin K B D ps fl st')
inductive gOf (K:PySem.W.Frag) (B:Bas) (g:G) (v:V) (σ:L2.St) (H:Hp) (Q:L2.St→Hp→Prop):Prop
 | mk (st:Sta) (ps:List (V × T)) (S:Hp) (as:List Addr) (t:T) (R:Rel K B st σ H ((v,t)::ps) S as) (st':Sta) (e:g t st=some st') (q:∀ σ' H' S' as',Rel K B st' σ' H' ps S' as'→Q σ' H')
inductive fOf (K:PySem.W.Frag) (B:Bas) (m:M T) (σ:L2.St) (H:Hp) (Q:VK):Prop
 | mk (st:Sta) (ps:List (V × T)) (S:Hp) (as:List Addr) (R:Rel K B st σ H ps S as) (t:T) (st':Sta) (e:m st=some (t,st')) (q:∀ p H' S' as',Rel K B st' σ H' ps S' as'→Xa K B S' as' H' p t→Ly st' σ p→Q (.ref p) H')
section
variable {X:Cx} {B:Bas} {a b c e:Expr} {m m1 m2:M T} {pos:Pos} {u v:S}
theorem m7:PSs X [] (sOf X.K B Ab):=a7w.imp fun D σ H z9=>by
 obtain ⟨st,ps,S,as,R,fl,st',e,q⟩:=z9
 cases e; exact q σ H S as R
theorem cu {st:Stmt} {rest:List Stmt} (h1:PS X st (sOf X.K B u)) (h2:PSs X rest (sOf X.K B v)):PSs X (st::rest) (sOf X.K B (jz u v)):=(a2v h1 h2).imp fun D σ H z9=>by
 obtain ⟨st,ps,S,as,R,fl,st',e,q⟩:=z9
 rcases a5i e with ⟨s1,e1,e2⟩ | ⟨e1,hn⟩
 ·exact ⟨st,ps,S,as,R,.next,s1,e1,fun σ' H' S' as' R'=>⟨s1,ps,S',as',R',fl,st',e2,q⟩⟩
 ·refine ⟨st,ps,S,as,R,fl,st',e1,?_⟩
  cases fl with
  | next=>exact absurd rfl hn
  | ret t=>exact q
  | brk=>exact q
  | cont=>exact q
theorem dz {st:Stmt} (h1:PS X st (sOf X.K B u)):PSs X [st] (sOf X.K B u):=a7u h1
theorem iw (he:PE X e (tOf X.K B m)):PS X (.Return (some e) pos) (sOf X.K B (rm m)):=(aat he).imp fun D σ H z9=>by
 obtain ⟨st,ps,S,as,R,fl,st',e,q⟩:=z9
 obtain ⟨t,e1,rfl⟩:=a2u e
 exact ⟨st,ps,S,as,R,t,st',e1,fun v H' S' as' R'=>q v σ H' S' as' R'⟩
theorem qw {c1:M Bool} {sa sb:List Stmt} (hc:PT X c (cOf X.K B c1)) (ha:PSs X sa (sOf X.K B u)) (hb:PSs X sb (sOf X.K B v)):PS X (.If c sa sb pos) (sOf X.K B (sIf c1 u v)):=(afo hc ha hb).imp fun D σ H z9=>by
 obtain ⟨st,ps,S,as,R,fl,st',e,q⟩:=z9
 rcases a7l e with ⟨s1,e1,e2⟩ | ⟨s1,e1,e2⟩
 ·exact ⟨st,ps,S,as,R,true,s1,e1,fun H1 S1 as1 R1=>a6t ⟨s1,ps,S1,as1,R1,fl,st',e2,q⟩⟩
 ·exact ⟨st,ps,S,as,R,false,s1,e1,fun H1 S1 as1 R1=>a69 ⟨s1,ps,S1,as1,R1,fl,st',e2,q⟩⟩
theorem qm (i:Nat) {tg:Expr} (h:PG X tg (Jj i)):PG X tg (gOf X.K B (hName i)):=fun pins s σ H x u Q I r z9=>h pins s σ H x u Q I r (by
 obtain ⟨st,ps,S,as,t,R,st',e,q⟩:=z9
 cases e
 exact q _ H S as (R.drop.put R.top))
theorem jy (i:Nat) {te:TE} {s:Stmt} (h:PS X s (a68 te (Jj i))) (hm:∀ σ H Q,tOf X.K B m σ H Q→te σ H Q):PS X s (sOf X.K B (vf i m)):=h.imp fun D σ H z9=>by
 obtain ⟨st,ps,S,as,R,fl,st',e,q⟩:=z9
 obtain ⟨t,s1,e1,rfl,rfl⟩:=a4t e
 exact hm σ H _ ⟨st,ps,S,as,R,t,s1,e1,fun v H' S' as' R'=>q _ H' S' as' (R'.drop.put R'.top)⟩
theorem Av (i:Nat) {te:TE} {s:Stmt} (h:PS X s (a68 te (Jj i))) (hm:∀ σ H Q,fOf X.K B m σ H Q→te σ H Q):PS X s (sOf X.K B (sNew i m)):=h.imp fun D σ H z9=>by
 obtain ⟨st,ps,S,as,R,fl,st',e,q⟩:=z9
 obtain ⟨t,s1,e1,rfl,rfl⟩:=a4k e
 exact hm σ H _ ⟨st,ps,S,as,R,t,s1,e1,fun p H' S' as' R' o n=>q _ H' S' as' (R'.acs o n)⟩
end
section
variable {K:PySem.W.Frag} {B:Bas} {st:Sta} {σ:L2.St} {H H' S S':Hp} {ps ps2:List (V × T)} {as as':List Addr}
theorem Own.more {p:Addr} {t:T} (hs:Same S S') (x:∃ l,as'=as++l) (hh:H p=H' p) (o:Own K S as H p t):Own K S' as' H' p t:=by
 cases t with
 | lst ts=>obtain ⟨vs,h,r⟩:=o; exact ⟨vs,hh ▸ h,r.mono hs x⟩
 | dic ts=>obtain ⟨vs,h,r⟩:=o; exact ⟨vs,hh ▸ h,r.mono hs x⟩
 | _=>exact o.elim
theorem Rel.call {sto':List SO} (r:Rel K B st σ H ps S as) (g:adq ⟨S,as,H⟩ S' as' H') (sub:Same S' H') (so:Iv K S' as' H' sto'):Rel K B { st with sto:=sto' } σ H' ps S' as' where
 sub:=sub
 grow:=by
  refine ⟨r.grow.same.trans g.same,?_,fun p o a b c=>?_⟩
  ·obtain ⟨l,e⟩:=r.grow.more
   obtain ⟨l',e'⟩:=g.more
   exact ⟨l++l',by rw [e',e,List.append_assoc]⟩
  ·obtain ⟨x,y,z⟩:=r.grow.keep p o a b c
   exact g.keep p o x y z
 slots:=fun i t f e=>by
  obtain ⟨v,h1,h2,h3⟩:=r.slots i t f e
  refine ⟨v,h1,fun q=>(h2 q).mono g.same g.more,fun q=>?_⟩
  obtain ⟨p,rfl,o⟩:=h3 q
  obtain ⟨ob,ho⟩:=o.own.there
  obtain ⟨x,y,z⟩:=g.keep p ob ho o.out o.nas
  exact ⟨p,rfl,o.own.more g.same g.more (by rw [ho,x]),y,z,o.new⟩
 apart:=r.apart
 sto:=so
 pend:=fun p hp=>(r.pend p hp).mono g.same g.more
 len:=r.len
end
def spF (K:PySem.W.Frag) (ar:Nat) (F:Fn):Sp:=fun vs H Q _=>∃ S as sto ts t sto',Same S H∧Iv K S as H sto∧ug K S as vs ts∧ts.length=ar∧F ts sto=some (t,sto') ∧
 ∀ v H' S' as',adq ⟨S,as,H⟩ S' as' H'→Same S' H'→Iv K S' as' H' sto'→Rep K S' as' v t→Q v H'
section
variable {X:Cx} {B:Bas} {a b c e:Expr} {m m1 m2:M T} {pos p:Pos} {u v:S} {es:List Expr} {ms:M (List T)} {k:Nat} {f:Addr} {fd:FuncData} {pn:List Str} {F:Fn} {x:Str}
theorem a9v (G:Nj X.prog X.w X.K X.mg X.base CX0 k f fd pn (spF X.K pn.length F)) (hr:Lq k X.A) (hg:Gl X x) (hm:X.mg x=some (.ref f)) (hk:PySem.W.keepIn X.K (.ref f)=true) (hb:Binds X.K fd pn [])
  (ha:PA X (e::es) (aOf X.K B ms)) (hl:∀ st ts st',ms st=some (ts,st')→ts.length=pn.length) (hdb:(x==("__debug__" : Str))=false:=by decide)
  (he:starEach (e::es) X.env=(false,eval e X.env)::starEach es X.env:=by rfl) (hpl:(backTo pos (starEach es X.env)).any (·.1)=false:=by rfl) :
  PE X (.Call (.Name x p) (e::es) [] pos) (tOf X.K B (iy F ms)) :=
 (a7x G hr hg hm hk hb .nil af2 ha hdb he hpl).imp fun σ H Q z9=>by
  obtain ⟨st,ps,S,as,R,t,st',e,q⟩:=z9
  obtain ⟨ts,s1,sto,e1,e2,rfl⟩:=a1i e
  refine ⟨st,ps,S,as,R,ts,s1,e1,fun vs H1 S1 as1 R1 rs=>?_⟩
  show spF X.K pn.length F (vs++[]) H1 Q E0
  rw [List.append_nil]
  exact ⟨S1,as1,s1.sto,ts,t,sto,R1.sub,R1.sto,rs,hl _ _ _ e1,e2,fun v H2 S2 as2 g sub so r=>q v H2 S2 as2 ((R1.call g sub so).push r)⟩
theorem eq_nil:∀ st ts st',dw st=some (ts,st')→ts.length=0:=fun st ts st' e=>by cases e; rfl
theorem bf {r:M (List T)} {n:Nat} (h:∀ st ts st',r st=some (ts,st')→ts.length=n):∀ st ts st',ao m r st=some (ts,st')→ts.length=n+1:=fun st ts st' e=>by
 obtain ⟨t,s1,us,e1,e2,rfl⟩:=Br e
 exact congrArg (· + 1) (h _ _ _ e2)
end
section
variable {P:Program} {w:World} {K:PySem.W.Frag} {mg:Str→Option Value} {base:Heap}
theorem a2k {N:List Str} {vs:List V} {i:Nat} {v:V} (h:vs[i]? = some v):(L2.start N vs)[i]? = some (some v):=by
 unfold L2.start
 have hi:=(List.getElem?_eq_some_iff.mp h).1
 rw [List.getElem?_append_left (by rw [List.length_map]; exact hi),List.getElem?_map,h]; rfl
theorem a1o {S H:Hp} {as:List Addr} {sto:List SO} {vs:List V} {ts:List T} {N:List Str} (h1:Same S H) (h2:Iv K S as H sto) (h3:ug K S as vs ts) (hN:ts.length≤N.length) :
  Rel K ⟨S,as,H⟩ ⟨ts.map (fun t=>some (t,false))++List.replicate (N.length - ts.length) none,sto⟩ (L2.start N vs) H [] S as:=by
 have key:∀ (i:Nat) t fl,(ts.map (fun t=>some (t,false))++List.replicate (N.length - ts.length) (none:Slot))[i]? = some (some (t,fl))→fl=false∧ts[i]? = some t:=fun i t fl e=>by
  by_cases hi:i<ts.length
  ·rw [List.getElem?_append_left (by rw [List.length_map]; exact hi),List.getElem?_map] at e
   cases z:ts[i]? with
   | none=>rw [z] at e; cases e
   | some t'=>rw [z] at e; cases e; exact ⟨rfl,rfl⟩
  ·rw [List.getElem?_append_right (by rw [List.length_map]; exact Nat.le_of_not_lt hi)] at e
   have:=List.eq_of_mem_replicate (List.mem_of_getElem? e)
   cases this
 refine ⟨h1,⟨Same.refl _,nol,fun p o a b c=>⟨a,b,c⟩⟩,fun i t fl e=>?_,fun i j t u p ei ej=>?_,h2,(fun p hp=>by cases hp),?_⟩
 ·obtain ⟨rfl,e'⟩:=key i t fl e
  obtain ⟨v,hv,r⟩:=h3.get e'
  exact ⟨v,a2k hv,fun _=>r,fun z=>by cases z⟩
 ·obtain ⟨z,_⟩:=key i t true ei; cases z
 ·unfold L2.start
  rw [List.length_append,List.length_append,List.length_map,List.length_map,List.length_replicate,List.length_replicate,h3.length]
theorem jw {x qual:Str} {st:Stmt} {f:Addr} {fd:FuncData} {N ps:List Str} {k:Nat} {b:S} (F:Fun K x qual st f fd) (Sc:ji N ps (gq st)) (hN:ps.length≤N.length)
  (hb:∀ (cdv:Value) (A:Around) (outer:List Env) (s:Shared) (H:Hp) (E:XK) (B:Bas),Lq k (A.deeper (envOfC qual (gq st) s.heap.objs.size f cdv)) →
   PSs (a8m CX0 P w K mg base N qual (gq st) f cdv A outer s H E).nox (Bm st) (sOf K B b)):Nj P w K mg base CX0 (k+1) f fd ps (spF K ps.length (qp N.length b)):=by
 refine F.ok Sc (fun vs H Q E h=>?_) fun cdv A outer s H vs Q E hr h=>?_
 ·obtain ⟨S,as,sto,ts,t,sto',h1,h2,h3,h4,_⟩:=h
  rw [h3.length,h4]
 ·obtain ⟨S,as,sto,ts,t,sto',h1,h2,h3,h4,h5,q⟩:=h
  refine ⟨_,hb cdv A outer s H E ⟨S,as,H⟩ hr,?_⟩
  have lv:vs.length=ps.length:=by rw [h3.length,h4]
  have R:Rel K ⟨S,as,H⟩ ⟨ts.map (fun t=>some (t,false))++List.replicate (N.length - ts.length) none,sto⟩ (L2.start N vs) H [] S as:=a1o h1 h2 h3 (by rw [h4]; exact hN)
  unfold qp at h5
  split at h5
  ·rename_i t' s' e
   cases h5
   exact ⟨_,[],S,as,R,.ret t,s',e,fun v σ' H' S' as' R'=>q v H' S' as' R'.grow R'.sub R'.sto R'.top⟩
  ·rename_i s' e
   cases h5
   exact ⟨_,[],S,as,R,.next,s',e,fun σ' H' S' as' R'=>q .non H' S' as' R'.grow R'.sub R'.sto .non⟩
  ·cases h5
end
theorem a3h {g:G} {b:S} {t:T} {r:List T} {s s':Sta} {fl:Flow} (h:forL g b (t::r) s=some (fl,s')):∃ s1 fb s2,g t s=some s1∧b s1=some (fb,s2) ∧
  (match fb with | .next=>forL g b r s2=some (fl,s') | .cont=>forL g b r s2=some (fl,s') | .brk=>fl=.next∧s'=s2 | .ret v=>fl=.ret v∧s'=s2):=by
 rw [forL] at h
 dsimp only at h
 split at h
 ·rename_i s1 e1
  split at h
  ·rename_i s2 e2; exact ⟨s1,.next,s2,e1,e2,h⟩
  ·rename_i s2 e2; exact ⟨s1,.cont,s2,e1,e2,h⟩
  ·rename_i s2 e2; cases h; exact ⟨s1,.brk,_,e1,e2,rfl,rfl⟩
  ·rename_i v s2 e2; cases h; exact ⟨s1,.ret v,_,e1,e2,rfl,rfl⟩
  ·cases h
 ·cases h
structure Nm (K:PySem.W.Frag) (S:Hp) (as:List Addr) (H:Hp) (J:It) (ts:List T):Prop where
 go:∀ (i:Nat) t,ts[i]? = some t→J.go i H∧∀ x H',J.yld i H x H'→∃ S',Ext S H S' H'∧Rep K S' as x t
 stop:∀ i,ts.length≤i→J.stop i H
inductive iOf (K:PySem.W.Frag) (B:Bas) (m:M (List T)) (σ:L2.St) (H:Hp) (R:It→Hp→Prop):Prop
 | mk (st:Sta) (ps:List (V × T)) (S:Hp) (as:List Addr) (R0:Rel K B st σ H ps S as) (ts:List T) (st':Sta) (e:m st=some (ts,st')) (z:ts.length≤sizeLine) (q:∀ J H' S' as' ps',Rel K B st' σ H' (ps'++ps) S' as'→(∀ S as H,(∀ p∈ps',Rep K S as p.1 p.2)→Same S H→Nm K S as H J ts)→R J H')
section
variable {X:Cx} {tg l:Expr} {tl:TE}
def iSq (K:PySem.W.Frag) (tl:TE):TI:=fun σ H R=>tl σ H fun x H1=>∃ a,x=.ref a∧(((∃ xs,SqL K H1 a xs)∧R (Itl K a) H1)∨((∃ xs,SqT K H1 a xs)∧R (Itt K a) H1))
theorem aec (hl:PE X l tl):PI X tg l (iSq X.K tl):=by
 intro pins s σ H R I h
 refine thn (hl pins s σ H _ I h) fun v s1 z0=>?_
 obtain ⟨x,H1,I1,r1,q1⟩:=z0
 obtain ⟨a,e,q⟩:=q1
 subst e
 cases r1
 rcases q with ⟨⟨xs,hq⟩,q⟩ | ⟨⟨xs,hq⟩,q⟩
 ·obtain ⟨its,rv,p,hz⟩:=I1.list hq
  refine wpAny_pyIter_list p.isList ?_
  refine ⟨s1.heap.objs.size,[s1.heap.objs.size],_,_,H1,rfl,I1.kept (t':=s1.toks) fun b o e=>Heap.get?_push_of_some _ e,a0e a _,⟨_,Heap.get?_push_size _ rfl,rfl,rfl⟩,fun b hb=>?_,q⟩
  have e:b=s1.heap.objs.size:=by simpa using hb
  subst e
  exact I1.a6i (Nat.le_refl _) (I1.hok.fresh (Nat.le_refl _))
 ·obtain ⟨its,rv,p,hz⟩:=I1.tuple hq
  refine wpAny_pyIter_tuple (show s1.heap.IsTuple a its.toArray from p) ?_
  refine ⟨s1.heap.objs.size,[s1.heap.objs.size],_,_,H1,rfl,I1.kept (t':=s1.toks) fun b o e=>Heap.get?_push_of_some _ e,Xn a _,⟨_,Heap.get?_push_size _ rfl,rfl,rfl⟩,fun b hb=>?_,q⟩
  have e:b=s1.heap.objs.size:=by simpa using hb
  subst e
  exact I1.a6i (Nat.le_refl _) (I1.hok.fresh (Nat.le_refl _))
end
section
variable {X:Cx} {B:Bas} {a b c e tg iter:Expr} {m m1 m2:M T} {pos p:Pos} {u v:S} {g:G} {it:M (List T)} {body:List Stmt}
theorem itL {K:PySem.W.Frag} {S:Hp} {as:List Addr} {H:Hp} {p:Addr} {vs:List V} {ts:List T} (sub:Same S H) (h:SqL K H p vs) (r:ug K S as vs ts):Nm K S as H (Itl K p) ts where
 go:=fun i t e=>by
  obtain ⟨v,hv,rv⟩:=r.get e
  exact ⟨⟨vs,v,h,hv⟩,fun x H' y=>⟨S,by rw [y.1]; exact Ext.refl sub,by have:=y.2 vs h; rw [hv] at this; cases this; exact rv⟩⟩
 stop:=fun i hi=>⟨vs,h,by rw [r.length]; exact hi⟩
theorem itT {K:PySem.W.Frag} {S:Hp} {as:List Addr} {H:Hp} {p:Addr} {vs:List V} {ts:List T} (sub:Same S H) (h:SqT K H p vs) (r:ug K S as vs ts):Nm K S as H (Itt K p) ts where
 go:=fun i t e=>by
  obtain ⟨v,hv,rv⟩:=r.get e
  exact ⟨⟨vs,v,h,hv⟩,fun x H' y=>⟨S,by rw [y.1]; exact Ext.refl sub,by have:=y.2 vs h; rw [hv] at this; cases this; exact rv⟩⟩
 stop:=fun i hi=>⟨vs,h,by rw [r.length]; exact hi⟩
theorem um:lim≤sizeLine:=by rw [sizeLine_eq]; decide
theorem uc (h:PE X iter (tOf X.K B m)):PI X tg iter (iOf X.K B (yd m)):=by
 intro pins s σ H R I hw
 refine aec h pins s σ H R I ?_
 obtain ⟨st,ps,S,as,Rl,ts,st',e,hz,q⟩:=hw
 unfold yd at e
 split at e
 ·rename_i xs s1 e1
  split at e
  ·rename_i hl
   cases e
   refine ⟨st,ps,S,as,Rl,_,_,e1,fun v H1 S1 as1 R1=>?_⟩
   have top:=R1.top
   cases top with
   | @lst a vs _ hs hr =>
    refine ⟨a,rfl,.inl ⟨⟨vs,jl R1.sub hs⟩,q _ H1 S1 as1 [(.ref a,.lst _)] R1 fun S2 as2 H2 hp hh=>?_⟩⟩
    have:=hp _ List.mem_cons_self
    cases this with
    | @lst _ vs2 _ hs2 hr2=>exact itL hh (jl hh hs2) hr2
  ·cases e
 ·rename_i xs s1 e1
  split at e
  ·rename_i hl
   cases e
   refine ⟨st,ps,S,as,Rl,_,_,e1,fun v H1 S1 as1 R1=>?_⟩
   have top:=R1.top
   cases top with
   | @tup a vs _ hs hr =>
    refine ⟨a,rfl,.inr ⟨⟨vs,ou R1.sub hs⟩,q _ H1 S1 as1 [(.ref a,.tup _)] R1 fun S2 as2 H2 hp hh=>?_⟩⟩
    have:=hp _ List.mem_cons_self
    cases this with
    | @tup _ vs2 _ hs2 hr2=>exact itT hh (ou hh hs2) hr2
  ·cases e
 ·cases e
theorem Mu {a:M T} {ts:List T} {s s':Sta} (h:yh a s=some (ts,s')):∃ n:Int,a s=some (.int n,s')∧(-1000000<n∧n<1000000)∧ts=rangeT n.toNat:=by
 unfold yh at h
 split at h
 ·rename_i n s1 e
  split at h
  ·rename_i hl; cases h; exact ⟨n,e,by have:n.natAbs<1000000:=hl; (clear e hl; omega),rfl⟩
  ·cases h
 ·cases h
theorem X5 {n i:Nat} {t:T} (h:(rangeT n)[i]? = some t):i<n∧t=.int (i:Int):=by
 unfold rangeT at h
 rw [List.getElem?_map] at h
 cases z:(List.range n)[i]? with
 | none=>rw [z] at h; cases h
 | some k =>
  rw [z] at h; cases h
  obtain ⟨hi,e⟩:=List.getElem?_eq_some_iff.mp z
  rw [List.getElem_range] at e; subst e
  rw [List.length_range] at hi
  exact ⟨hi,rfl⟩
theorem Gm (hg:Gl X "range") (hm:X.mg "range" = none) (h:PE X a (tOf X.K B m)) (hs:starEach [a] X.env=[(false,eval a X.env)]:=by rfl):PI X tg (.Call (.Name "range" p) [a] [] pos) (iOf X.K B (yh m)):=by
 intro pins s σ H R I hw
 refine a2g (ta:=Ju (tOf X.K B m) a82) hg hm (nu h ux hs) hs pins s σ H R I ?_
 obtain ⟨st,ps,S,as,Rl,ts,st',e,hz,q⟩:=hw
 obtain ⟨n,e1,hl,rfl⟩:=Mu e
 refine ⟨st,ps,S,as,Rl,_,_,e1,fun v H1 S1 as1 R1=>?_⟩
 cases R1.top
 refine ⟨n,rfl,by (clear R1 q hz e e1 Rl I hs h hm hg; omega),by (clear R1 q hz e e1 Rl I hs h hm hg; omega),q _ H1 S1 as1 [] R1.drop fun S2 as2 H2 _ hh=>⟨fun i t e=>?_,fun i hi=>?_⟩⟩
 ·obtain ⟨hi,rfl⟩:=X5 e
  refine ⟨hi,fun x H' y=>⟨S2,by rw [y.1]; exact Ext.refl hh,?_⟩⟩
  have:=y.2; subst this
  rw [Int.zero_add]; exact .int _
 ·show n.toNat≤i
  unfold rangeT at hi
  rwa [List.length_map,List.length_range] at hi
theorem xr (hp:PassesOwn (model X.prog X.w) X.A X.env X.xe) (hc:X.calm=true) (hi:PI X tg iter (iOf X.K B it)) (hg:PG X tg (gOf X.K B g)) (hb:PSs X body (sOf X.K B u)) (hsz:∀ st ts st',it st=some (ts,st')→ts.length≤sizeLine)
  (hs:∀ x,foldedSetIterable iter X.env x=pure x:=by intro _; rfl):PS X (.For tg iter body [] pos) (sOf X.K B (Fq g it u)):=(abo hp hc hi hg hb hs).imp fun D σ H z9=>by
 obtain ⟨st,ps,S,as,R,fl,st',e,q⟩:=z9
 obtain ⟨ts,s1,e1,e2⟩:=a3z e
 refine ⟨st,ps,S,as,R,ts,s1,e1,hsz _ _ _ e1,fun J H1 S1 as1 ps' R1 facts=>?_⟩
 refine ⟨fun i m σ H=>m=ts.length - i∧i≤ts.length∧∃ sti Si asi,Rel X.K B sti σ H (ps'++ps) Si asi∧forL g u (ts.drop i) sti=some (fl,st'),⟨ts.length,by simp,Nat.zero_le _,s1,S1,as1,R1,by simpa using e2⟩,?_⟩
 rintro i m σ2 H2 ⟨rfl,hi,sti,Si,asi,Ri,ei⟩
 have F:=facts Si asi H2 (fun p hp=>Ri.pend p (List.mem_append_left _ hp)) Ri.sub
 have sub:∀ p∈ps,p∈ps'++ps:=fun p hp=>List.mem_append_right _ hp
 by_cases hlt:i<ts.length
 ·rw [List.drop_eq_getElem_cons hlt] at ei
  obtain ⟨s2,fb,s3,eg,eb,er⟩:=a3h ei
  have ht:ts[i]? = some ts[i]:=List.getElem?_eq_getElem hlt
  refine .inr ⟨(F.go i _ ht).1,fun σ' H'=>∃ sti Si asi,Rel X.K B sti σ' H' (ps'++ps) Si asi∧forL g u (ts.drop (i+1)) sti=some (fl,st'),fun σ' H' h=>⟨ts.length - (i+1),by (clear h ht er eb eg ei sub F Ri hi facts R1 e2 e1 q e R hs hsz hb hg hc hp; omega),rfl,hlt,h⟩,fun x H' y=>?_⟩
  obtain ⟨S',ex,rx⟩:=(F.go i _ ht).2 x H' y
  refine ⟨sti,ps'++ps,S',asi,_,(Ri.ext ex).push rx,s2,eg,fun σ3 H3 S3 as3 R3=>⟨s2,ps'++ps,S3,as3,R3,fb,s3,eb,?_⟩⟩
  cases fb with
  | next=>exact fun σ' H' S' as' R'=>⟨s3,S',as',R',er⟩
  | cont=>exact fun σ' H' S' as' R'=>⟨s3,S',as',R',er⟩
  | brk =>
   obtain ⟨rfl,rfl⟩:=er
   exact fun σ' H' S' as' R'=>q σ' H' S' as' (R'.pick sub)
  | ret v =>
   obtain ⟨rfl,rfl⟩:=er
   exact fun v σ' H' S' as' R'=>q v σ' H' S' as' (R'.pick fun p hp=>by
    rcases List.mem_cons.mp hp with rfl | z
    ·exact List.mem_cons_self
    ·exact List.mem_cons_of_mem _ (sub p z))
 ·have hie:i=ts.length:=by (clear sub F ei Ri facts R1 e2 e1 q e R hs hsz hb hg hc hp; omega)
  subst hie
  rw [List.drop_length] at ei
  cases ei
  exact .inl ⟨F.stop _ (Nat.le_refl _),q σ2 H2 Si asi (Ri.pick sub)⟩
end
section
variable {K:PySem.W.Frag} {B:Bas} {st:Sta} {σ:L2.St} {H H' S S':Hp} {ps ps2:List (V × T)} {as as':List Addr}
theorem Rel.a0i (r:Rel K B st σ H ps S as) {i:Nat} {t:T} (e:st.env[i]? = some (some (t,true))):∃ S',Rel K B { st with env:=st.env.set i (some (t,false)) } σ H ps S' as:=by
 obtain ⟨v,S',_,R⟩:=r.freeze e
 exact ⟨S',R.drop⟩
theorem Rel.qg:∀ (cap:List Nat) {st:Sta} {S:Hp},Rel K B st σ H ps S as→∃ S',Rel K B { st with env:=qg cap st.env } σ H ps S' as
 | [],st,S,r=>⟨S,r⟩
 | i::l,st,S,r=>by
  unfold C.qg
  rw [List.foldl_cons]
  split
  ·rename_i t f e
   cases f with
   | true =>
    obtain ⟨S1,R1⟩:=r.a0i e
    exact Rel.qg l R1
   | false =>
    have e2:st.env.set i (some (t,false))=st.env:=by
     apply List.ext_getElem?
     intro j
     by_cases hij:i=j
     ·subst hij
      rw [List.getElem?_set_self (List.getElem?_eq_some_iff.mp e).1,e]
     ·rw [List.getElem?_set_ne hij]
    rw [e2]
    exact Rel.qg l r
  ·exact Rel.qg l r
def Ek (env:List Slot):Nat→List Slot
 | 0=>env
 | n+1=>match (Ek env n)[n]? with
  | some (some (t,_))=>(Ek env n).set n (some (t,false))
  | _=>Ek env n
theorem K6 (env:List Slot):∀ n,(Ek env n).length=env.length
 | 0=>rfl
 | n+1=>by
  rw [Ek]
  split
  ·rw [List.length_set]; exact K6 env n
  ·exact K6 env n
theorem Jf (env:List Slot):∀ (n j:Nat),(Ek env n)[j]? = if j<n then (env[j]?).map Va else env[j]?
 | 0,j=>by rw [if_neg (Nat.not_lt_zero _)]; rfl
 | n+1,j=>by
  have ihn:=Jf env n n
  rw [if_neg (Nat.lt_irrefl _)] at ihn
  have ihj:=Jf env n j
  rw [Ek,ihn]
  by_cases hj:j=n
  ·subst hj
   rw [if_pos (Nat.lt_succ_self _)]
   cases z:env[j]? with
   | none=>simp only [z,Option.map_none]; rw [ihn,z]
   | some s =>
    have hl:j<(Ek env j).length:=by rw [K6]; exact (List.getElem?_eq_some_iff.mp z).1
    cases s with
    | none=>simp only [Option.map_some]; rw [ihn,z]; rfl
    | some p=>obtain ⟨t,f⟩:=p; simp only [Option.map_some]; rw [List.getElem?_set_self hl]; rfl
  ·have e1:(if j<n+1 then (env[j]?).map Va else env[j]?)=(if j<n then (env[j]?).map Va else env[j]?):=by
    by_cases hlt:j<n
    ·rw [if_pos hlt,if_pos (Nat.lt_succ_of_lt hlt)]
    ·rw [if_neg hlt,if_neg (by (clear ihj ihn; omega))]
   rw [e1,← ihj]
   split
   ·rw [List.getElem?_set_ne (Ne.symm hj)]
   ·rfl
theorem Z5 (env:List Slot):Ek env env.length=env.map Va:=by
 apply List.ext_getElem?
 intro j
 rw [Jf,List.getElem?_map]
 by_cases hj:j<env.length
 ·rw [if_pos hj]
 ·rw [if_neg hj,List.getElem?_eq_none (Nat.le_of_not_lt hj)]; rfl
theorem Rel.Ek (r:Rel K B st σ H ps S as):∀ n,∃ S',Rel K B { st with env:=C.Ek st.env n } σ H ps S' as
 | 0=>⟨S,r⟩
 | n+1=>by
  obtain ⟨S1,R1⟩:=Rel.Ek r n
  rw [C.Ek]
  split
  ·rename_i t f e
   cases f with
   | true=>exact R1.a0i e
   | false =>
    have e2:(C.Ek st.env n).set n (some (t,false))=C.Ek st.env n:=by
     apply List.ext_getElem?
     intro j
     by_cases hij:n=j
     ·subst hij
      rw [List.getElem?_set_self (List.getElem?_eq_some_iff.mp e).1,e]
     ·rw [List.getElem?_set_ne hij]
    rw [e2]
    exact ⟨S1,R1⟩
  ·exact ⟨S1,R1⟩
theorem Rel.qt (r:Rel K B st σ H ps S as):∃ S',Rel K B (qt st) σ H ps S' as:=by
 obtain ⟨S',R⟩:=r.Ek st.env.length
 rw [Z5] at R
 exact ⟨S',R⟩
def a5t (st:Sta):Prop:=∀ (i:Nat) t,st.env[i]?≠some (some (t,true))
theorem Bh (st:Sta):a5t (C.qt st):=fun i t e=>by
 unfold C.qt at e
 rw [List.getElem?_map] at e
 cases z:st.env[i]? with
 | none=>rw [z] at e; cases e
 | some s =>
  rw [z] at e
  cases s with
  | none=>cases e
  | some p=>obtain ⟨t,f⟩:=p; cases e
theorem Rel.rebase (r:Rel K B st σ H ps S as) (n:a5t st):Rel K ⟨S,as,H⟩ st σ H ps S as :=
 ⟨r.sub,⟨Same.refl _,nol,fun p o a b c=>⟨a,b,c⟩⟩,fun i t f e=>by
  obtain ⟨v,h1,h2,_⟩:=r.slots i t f e
  exact ⟨v,h1,h2,fun z=>by subst z; exact absurd e (n i t)⟩,r.apart,r.sto,r.pend,r.len⟩
end
theorem Zb {g:G} {c:M Bool} {e:M T} {t:T} {r acc us:List T} {s s':Sta} (h:El g c e (t::r) s acc=some (us,s')):∃ s1 b s2,g t s=some s1∧c s1=some (b,s2) ∧
  ((b=true∧∃ u s3,e s2=some (u,s3)∧acc.length<lim∧El g c e r (qt s3) (acc++[u])=some (us,s'))∨(b=false∧El g c e r (qt s2) acc=some (us,s'))):=by
 rw [El] at h
 split at h
 ·rename_i s1 e1
  split at h
  ·rename_i s2 e2
   split at h
   ·rename_i u s3 e3
    split at h
    ·rename_i hl; exact ⟨s1,true,s2,e1,e2,.inl ⟨rfl,u,s3,e3,hl,h⟩⟩
    ·cases h
   ·cases h
  ·rename_i s2 e2; exact ⟨s1,false,s2,e1,e2,.inr ⟨rfl,h⟩⟩
  ·cases h
 ·cases h
theorem Zn {nv:Nat} {cap:List Nat} {g:G} {it:M (List T)} {c:M Bool} {e:M T} {s s':Sta} {v:T} (h:pq nv cap g it c e s=some (v,s')):∃ ts s1 us s2,it s=some (ts,s1) ∧
  El g c e ts ⟨List.replicate nv none++cap.map (fun i=>((qg cap s1.env)[i]?).getD none),s1.sto⟩ []=some (us,s2)∧v=.lst us∧s'=⟨qg cap s1.env,s2.sto⟩:=by
 unfold pq at h
 split at h
 ·rename_i ts s1 e1
  dsimp only at h
  split at h
  ·rename_i us s2 e2; cases h; exact ⟨ts,s1,us,s2,e1,e2,rfl,rfl⟩
  ·cases h
 ·cases h
section
variable {K:PySem.W.Frag} {B:Bas} {st:Sta} {σ:L2.St} {H H' S S':Hp} {ps ps2:List (V × T)} {as as':List Addr} {D:Addr} {ob:HO}
theorem Iv.mem {sto:List SO} (r:Iv K S as H sto) {a:Addr} (h:a∈as):∃ o,H a=some o:=by
 obtain ⟨n,hn⟩:=List.getElem?_of_mem h
 have hl:=(List.getElem?_eq_some_iff.mp hn).1
 rw [r.len] at hl
 obtain ⟨a',h1,h2,h3⟩:=r.at' n _ (List.getElem?_eq_getElem hl)
 rw [hn] at h1; cases h1
 exact h3.there
theorem Rel.fresh (r:Rel K B st σ H ps S as) (h:H D=none):B.H D=none∧S D=none∧D∉as∧Ly st σ D:=by
 have sD:S D=none:=r.sub.free h
 have nD:D∉as:=fun z=>by obtain ⟨o,e⟩:=r.sto.mem z; rw [h] at e; cases e
 refine ⟨?_,sD,nD,fun j u e1 e2=>?_⟩
 ·cases q:B.H D with
  | none=>rfl
  | some o =>
   have b1:B.S D=none:=by
    cases z:B.S D with
    | none=>rfl
    | some u=>have:=r.grow.same _ _ z; rw [sD] at this; cases this
   have b2:D∉B.as:=fun z=>by obtain ⟨l,e⟩:=r.grow.more; exact nD (by rw [e]; exact List.mem_append_left _ z)
   have:=(r.grow.keep D o q b1 b2).1
   rw [h] at this; cases this
 ·obtain ⟨v,h1,_,h3⟩:=r.slots j u true e1
  rw [e2] at h1; cases h1
  obtain ⟨p,ep,o⟩:=h3 rfl
  cases ep
  obtain ⟨ob,ho⟩:=o.own.there
  rw [h] at ho; cases ho
theorem Rel.a5n (r:Rel K B st σ H ps S as) (bD:B.H D=none) (sD:S D=none) (nD:D∉as) (no:Ly st σ D):Rel K B st σ (upd H D ob) ps S as:=by
 have ne:∀ b u,S b=some u→b≠D:=fun b u e z=>by subst z; rw [sD] at e; cases e
 refine ⟨fun b u e=>by rw [n8 (ne b u e)]; exact r.sub _ _ e,⟨r.grow.same,r.grow.more,fun p o x y z=>?_⟩,fun i t f e=>?_,r.apart,⟨r.sto.len,r.sto.nd,fun n so e=>?_⟩,r.pend,r.len⟩
 ·obtain ⟨a,b,c⟩:=r.grow.keep p o x y z
  exact ⟨by rw [n8 (fun w=>by subst w; rw [bD] at x; cases x)]; exact a,b,c⟩
 ·obtain ⟨v,h1,h2,h3⟩:=r.slots i t f e
  refine ⟨v,h1,h2,fun z=>?_⟩
  obtain ⟨p,rfl,o⟩:=h3 z
  have n:p≠D:=fun w=>by subst w; subst z; exact no i t e h1
  exact ⟨p,rfl,o.own.mono (Same.refl _) (n8 n).symm,o.out,o.nas,o.new⟩
 ·obtain ⟨a,h1,h2,h3⟩:=r.sto.at' n so e
  exact ⟨a,h1,h2,h3.mono (Same.refl _) (n8 (fun w=>by subst w; exact nD (List.mem_of_getElem? h1))).symm⟩
theorem Rel.ac9 (r:Rel K B st σ H ps S as) (no:a5t st) (sD:S D=none) (nD:D∉as):Rel K ⟨S,as,upd H D ob⟩ st σ (upd H D ob) ps S as:=by
 have ne:∀ b u,S b=some u→b≠D:=fun b u e z=>by subst z; rw [sD] at e; cases e
 refine ⟨fun b u e=>by rw [n8 (ne b u e)]; exact r.sub _ _ e,⟨Same.refl _,nol,fun p o x y z=>⟨x,y,z⟩⟩,fun i t f e=>?_,r.apart,⟨r.sto.len,r.sto.nd,fun n so e=>?_⟩,r.pend,r.len⟩
 ·obtain ⟨v,h1,h2,_⟩:=r.slots i t f e
  exact ⟨v,h1,h2,fun z=>by subst z; exact absurd e (no i t)⟩
 ·obtain ⟨a,h1,h2,h3⟩:=r.sto.at' n so e
  exact ⟨a,h1,h2,h3.mono (Same.refl _) (n8 (fun w=>by subst w; exact nD (List.mem_of_getElem? h1))).symm⟩
end
theorem G6:∀ (cap:List Nat) (env:List Slot) (k:Nat),(∀ t,env[k]?≠some (some (t,true)))→∀ t,(qg cap env)[k]?≠some (some (t,true))
 | [],env,k,h=>h
 | i::l,env,k,h=>by
  have e:qg (i::l) env=qg l (match env[i]? with | some (some (t,_))=>env.set i (some (t,false)) | _=>env):=rfl
  rw [e]
  refine G6 l _ k fun t=>?_
  split
  ·rename_i t' f e'
   by_cases hk:i=k
   ·subst hk
    rw [List.getElem?_set_self (List.getElem?_eq_some_iff.mp e').1]
    intro z; cases z
   ·rw [List.getElem?_set_ne hk]; exact h t
  ·exact h t
theorem K7:∀ (cap:List Nat) (env:List Slot) (k:Nat),k∈cap→∀ t,(qg cap env)[k]?≠some (some (t,true))
 | [],env,k,h=>by simp at h
 | i::l,env,k,h=>by
  have e:qg (i::l) env=qg l (match env[i]? with | some (some (t,_))=>env.set i (some (t,false)) | _=>env):=rfl
  rw [e]
  rcases List.mem_cons.mp h with rfl | h' -- here
  ·refine G6 l _ k fun t=>?_
   split
   ·rename_i t' f e'
    rw [List.getElem?_set_self (List.getElem?_eq_some_iff.mp e').1]
    intro z; cases z
   ·rename_i hx
    intro z
    exact hx _ _ z
  ·exact K7 l _ k h'
def gE (K:PySem.W.Frag) (g:G):TG:=fun v σ H Q=>∃ B,gOf K B g v σ H Q
def cE (K:PySem.W.Frag) (c:M Bool):TT:=fun σ H Q=>∃ B,cOf K B c σ H Q
def eE (K:PySem.W.Frag) (e:M T):TE:=fun σ H Q=>∃ B,tOf K B e σ H Q
theorem pgE {X:Cx} {tg:Expr} {g:G} (h:∀ B,PG X tg (gOf X.K B g)):PG X tg (gE X.K g):=fun pins s σ H x u Q I r ⟨B,q⟩=>h B pins s σ H x u Q I r q
theorem ptE {X:Cx} {e:Expr} {c:M Bool} (h:∀ B,PT X e (cOf X.K B c)):PT X e (cE X.K c):=fun pins s σ H Q I ⟨B,q⟩=>h B pins s σ H Q I q
theorem peE {X:Cx} {e:Expr} {m:M T} (h:∀ B,PE X e (tOf X.K B m)):PE X e (eE X.K m):=fun pins s σ H Q I ⟨B,q⟩=>h B pins s σ H Q I q
theorem vp {X:Cx}:PTs X [] (cE X.K zy):=fun pins s σ H Q I z9=>by
 obtain ⟨B,st,ps,S,as,R,b,st',e,q⟩:=z9
 cases e
 exact a87 pins s σ H Q I (q H S as R)
theorem J7 {X:Cx} {e:Expr} {c:M Bool} (h:∀ B,PT X e (cOf X.K B c)):PTs X [e] (cE X.K c):=a7g (ptE h)
section
variable {X:Cx} {scope:Scope} {N:List Str}
inductive CI (K:PySem.W.Frag) (B:Bas) (g:G) (c:M Bool) (e:M T) (ts us:List T) (env:List Slot) (s2:Sta) (σ:L2.St) (pp:List (V × T)) (D:Addr) (i m:Nat) (σ':L2.St) (H':Hp):Prop where
 | mk (sti:Sta) (Si:Hp) (asi:List Addr) (acc:List T) (accv:List V) (hm:m=ts.length - i) (hi:i≤ts.length) (Ri:Rel K ⟨Si,asi,H'⟩ sti σ' H' [] Si asi) (no:a5t sti) (Ro:Rel K B ⟨env,sti.sto⟩ σ H' pp Si asi) (hD:H' D=some (.lst accv)) (sD:Si D=none) (nD:D∉asi) (rA:ug K Si asi accv acc) (ei:El g c e (ts.drop i) sti acc=some (us,s2)):CI K B g c e ts us env s2 σ pp D i m σ' H'
theorem Yv {B:Bas} {nv:Nat} {cap:List Nat} {g:G} {c:M Bool} {e:M T} {ts us:List T} {env:List Slot} {sto1:List SO} {s2:Sta} {σ:L2.St} {H1 S1:Hp} {as1:List Addr} {ps ps':List (V × T)} {J:It} {Q:VK}
  (hN:N.length=nv+cap.length) (hv:∀ i x,i<nv→N[i]? = some x→True)
  (hcap:∀ (j k:Nat),cap[j]? = some k→∃ x,N[nv+j]? = some x∧X.N[k]? = some x∧adb X scope x)
  (R1:Rel X.K B ⟨env,sto1⟩ σ H1 (ps'++ps) S1 as1) (hno:∀ k∈cap,∀ t,env[k]?≠some (some (t,true)))
  (facts:∀ S as H,Same B.S S→(∃ l,as=B.as++l)→(∀ p∈ps',Rep X.K S as p.1 p.2)→Same S H→Nm X.K S as H J ts)
  (hc:El g c e ts ⟨List.replicate nv none++cap.map (fun i=>(env[i]?).getD none),sto1⟩ []=some (us,s2))
  (fin:∀ D H' S' as',Rel X.K B ⟨env,s2.sto⟩ σ H' (ps'++ps) S' as'→Xa X.K B S' as' H' D (.lst us)→Ly ⟨env,s2.sto⟩ σ D→Q (.ref D) H') :
  Rz X scope N (gE X.K g) (cE X.K c) (eE X.K e) σ J H1 Q:=by
 intro D hD
 obtain ⟨bD,sD1,nD1,noD⟩:=R1.fresh hD
 have capg:∀ (i:Nat) s,(List.replicate nv (none:Slot)++cap.map (fun i=>(env[i]?).getD none))[i]? = some (some s)→∃ j k,i=nv+j∧cap[j]? = some k∧env[k]? = some (some s):=fun i s h=>by
  by_cases hi:i<nv
  ·rw [List.getElem?_append_left (by rw [List.length_replicate]; exact hi)] at h
   have:=List.eq_of_mem_replicate (List.mem_of_getElem? h); cases this
  ·rw [List.getElem?_append_right (by rw [List.length_replicate]; exact Nat.le_of_not_lt hi),List.length_replicate,List.getElem?_map] at h
   cases z:cap[i - nv]? with
   | none=>rw [z] at h; cases h
   | some k =>
    rw [z] at h
    refine ⟨i - nv,k,by (clear z h noD nD1 sD1 bD hD fin hc facts hno R1 hcap hv hN; omega),z,?_⟩
    cases w:env[k]? with
    | none=>simp [w] at h
    | some s'=>simp [w] at h; rw [h]
 have sig:∀ (j k:Nat) v,cap[j]? = some k→σ[k]? = some (some v)→(List.replicate nv (none:Option V)++cap.map (fun i=>(σ[i]?).getD none))[nv+j]? = some (some v):=fun j k v h1 h2=>by
  rw [List.getElem?_append_right (by rw [List.length_replicate]; (clear h2 h1 capg noD nD1 sD1 bD hD fin hc facts hno R1 hcap hv hN; omega)),List.length_replicate,Nat.add_sub_cancel_left,List.getElem?_map,h1]
  simp [h2]
 refine ⟨List.replicate nv none++cap.map (fun i=>(σ[i]?).getD none),by rw [List.length_append,List.length_replicate,List.length_map,hN],fun i v x h1 h2 _=>?_,?_⟩
 ·by_cases hi:i<nv
  ·rw [List.getElem?_append_left (by rw [List.length_replicate]; exact hi)] at h1
   have:=List.eq_of_mem_replicate (List.mem_of_getElem? h1); cases this
  ·rw [List.getElem?_append_right (by rw [List.length_replicate]; exact Nat.le_of_not_lt hi),List.length_replicate,List.getElem?_map] at h1
   cases z:cap[i - nv]? with
   | none=>rw [z] at h1; cases h1
   | some k =>
    rw [z] at h1
    obtain ⟨y,n1,n2,ck⟩:=hcap _ _ z
    have e:nv+(i - nv)=i:=by (clear ck n2 n1 z h1 h2 sig capg noD nD1 sD1 bD hD fin hc facts hno R1 hcap hv hN; omega)
    rw [e,h2] at n1; cases n1
    refine ⟨k,n2,?_,ck⟩
    cases w:σ[k]? with
    | none=>simp [w] at h1
    | some s'=>simp [w] at h1; rw [h1]
 refine ⟨fun i m σ' H'=>CI X.K B g c e ts us env s2 σ (ps'++ps) D i m σ' H',⟨ts.length,.mk _ S1 as1 [] [] (by simp) (Nat.zero_le _) ?_ ?_ ?_ j8 sD1 nD1 .nil hc⟩,?_⟩
 ·refine Rel.ac9 (B:=B) (H:=H1) ⟨R1.sub,R1.grow,fun i t f h=>?_,fun i j t u p hi hj=>?_,R1.sto,(fun p hp=>by cases hp),?_⟩ (fun i t h=>?_) sD1 nD1
  ·obtain ⟨j,k,rfl,hk,ek⟩:=capg i _ h
   obtain ⟨v,h1,h2,h3⟩:=R1.slots k t f ek
   exact ⟨v,sig j k v hk h1,h2,h3⟩
  ·obtain ⟨j,k,rfl,hk,ek⟩:=capg i _ hi
   exact absurd ek (hno k (List.mem_of_getElem? hk) t)
  ·show (List.replicate nv (none:Option V)++cap.map _).length=(List.replicate nv (none:Slot)++cap.map _).length
   rw [List.length_append,List.length_append,List.length_replicate,List.length_replicate,List.length_map,List.length_map]
  ·obtain ⟨j,k,rfl,hk,ek⟩:=capg i _ h
   exact absurd ek (hno k (List.mem_of_getElem? hk) t)
 ·intro i t h
  obtain ⟨j,k,rfl,hk,ek⟩:=capg i _ h
  exact absurd ek (hno k (List.mem_of_getElem? hk) t)
 ·exact R1.a5n bD sD1 nD1 noD
 rintro i m σ' H' ⟨sti,Si,asi,acc,accv,rfl,hi,Ri,no,Ro,hD',sD,nD,rA,ei⟩
 have F:=facts Si asi H' Ro.grow.same Ro.grow.more (fun p hp=>Ro.pend p (List.mem_append_left _ hp)) Ri.sub
 by_cases hlt:i<ts.length
 ·rw [List.drop_eq_getElem_cons hlt] at ei
  obtain ⟨s3,b,s4,eg,ec,er⟩:=Zb ei
  have ht:ts[i]? = some ts[i]:=List.getElem?_eq_getElem hlt
  refine .inr ⟨(F.go i _ ht).1,fun x H2 y=>?_⟩
  obtain ⟨S2,ex,rx⟩:=(F.go i _ ht).2 x H2 y
  refine ⟨⟨Si,asi,H'⟩,sti,[],S2,asi,_,(Ri.ext ex).push rx,s3,eg,fun σ3 H3 S3 as3 R3=>⟨⟨Si,asi,H'⟩,s3,[],S3,as3,R3,b,s4,ec,fun H4 S4 as4 R4=>?_⟩⟩
  rcases er with ⟨rfl,w,s5,ee,hlen,erest⟩ | ⟨rfl,erest⟩
  ·refine a6t ⟨⟨Si,asi,H'⟩,s4,[],S4,as4,R4,w,s5,ee,fun y H5 S5 as5 R5=>?_⟩
   obtain ⟨S6,R6⟩:=R5.qt
   obtain ⟨k1,k2,k3⟩:=R6.grow.keep D _ hD' sD nD
   have Ro2:=Ro.call R6.grow R6.sub R6.sto
   refine ⟨accv,k1,?_,ts.length - (i+1),by (clear Ro2 k3 k2 k1 R6 R5 erest hlen ee ec R4 R3 rx ex ht eg ei F rA nD sD hD' Ro no Ri hi sig capg noD nD1 sD1 bD hD fin hc facts hno R1 hcap hv hN; omega),.mk (qt s5) S6 as5 (acc++[w]) (accv++[y]) rfl hlt (R6.drop.ac9 (Bh _) k2 k3) (Bh _) (Ro2.a5n bD k2 k3 noD) j8 k2 k3 ((rA.mono R6.grow.same R6.grow.more).append (.cons R6.top .nil)) erest⟩
   rw [rA.length]; exact Nat.lt_of_lt_of_le hlen um
  ·refine a69 ?_
   obtain ⟨S6,R6⟩:=R4.qt
   obtain ⟨k1,k2,k3⟩:=R6.grow.keep D _ hD' sD nD
   have Ro2:=Ro.call R6.grow R6.sub R6.sto
   exact ⟨ts.length - (i+1),by (clear Ro2 k3 k2 k1 R6 ec erest R4 R3 rx ex y ht eg ei F rA nD sD hD' Ro no Ri hi sig capg noD nD1 sD1 bD hD fin hc facts hno R1 hcap hv hN; omega),.mk (qt s4) S6 as4 acc accv rfl hlt (R6.rebase (Bh _)) (Bh _) Ro2 k1 k2 k3 (rA.mono R6.grow.same R6.grow.more) erest⟩
 ·have hie:i=ts.length:=by (clear F ei rA nD sD hD' Ro no Ri sig capg noD nD1 sD1 bD hD fin hc facts hno R1 hcap hv hN; omega)
  subst hie
  rw [List.drop_length] at ei
  cases ei
  exact .inl ⟨F.stop _ (Nat.le_refl _),fin D H' Si asi Ro ⟨⟨accv,hD',rA⟩,sD,nD,bD⟩ noD⟩
theorem Rel.give {K:PySem.W.Frag} {B:Bas} {st:Sta} {σ:L2.St} {H S:Hp} {ps:List (V × T)} {as:List Addr} {p:Addr} {t:T} (r:Rel K B st σ H ps S as) (o:Xa K B S as H p t) (no:Ly st σ p):∃ S',Rel K B st σ H ((.ref p,t)::ps) S' as:=by
 obtain ⟨ob,ho⟩:=o.own.there
 have sS:Same S (upd S p ob):=Same.upd o.out ob
 have rep:Rep K (upd S p ob) as (.ref p) t:=by
  have w:=o.own
  cases t with
  | lst ts=>obtain ⟨vs,h,q⟩:=w; rw [ho] at h; cases h; exact .lst (SqL.of j8) (q.mono sS nol)
  | dic ts=>obtain ⟨vs,h,q⟩:=w; rw [ho] at h; cases h; exact .dic (.inl j8) (q.mono sS nol)
  | _=>exact w.elim
 have outs:∀ q,S q=none→q≠p→upd S p ob q=none:=fun q h n=>by rw [n8 n]; exact h
 refine ⟨upd S p ob,Rel.push (v:=.ref p) (t:=t) ⟨?_,?_,?_,r.apart,?_,fun q hq=>(r.pend q hq).mono sS nol,r.len⟩ rep⟩
 ·intro b u q
  by_cases z:b=p
  ·subst z; rw [j8] at q; cases q; exact ho
  ·rw [n8 z] at q; exact r.sub _ _ q
 ·refine ⟨r.grow.same.trans sS,r.grow.more,fun q w a b c=>?_⟩
  obtain ⟨x,y,z⟩:=r.grow.keep q w a b c
  refine ⟨x,outs q y fun n=>?_,z⟩
  subst n; rw [o.new] at a; cases a
 ·intro j u f ej
  obtain ⟨v',a1,a2,a3⟩:=r.slots j u f ej
  refine ⟨v',a1,fun z=>(a2 z).mono sS nol,fun z=>?_⟩
  subst z
  obtain ⟨p',rfl,o'⟩:=a3 rfl
  refine ⟨p',rfl,o'.own.mono sS rfl,outs p' o'.out fun n=>?_,o'.nas,o'.new⟩
  subst n
  exact no j u ej a1
 ·refine ⟨r.sto.len,r.sto.nd,fun n so en=>?_⟩
  obtain ⟨a,a1,a2,a3⟩:=r.sto.at' n so en
  refine ⟨a,a1,outs a a2 fun z=>?_,a3.mono sS rfl⟩
  subst z
  exact o.nas (List.mem_of_getElem? a1)
theorem Mg {K:PySem.W.Frag} {B:Bas} {m:M T} {σ:L2.St} {H:Hp} {Q:VK} (h:tOf K B m σ H Q):fOf K B m σ H Q:=by
 obtain ⟨st,ps,S,as,R,t,st',e,q⟩:=h
 refine ⟨st,ps,S,as,R,t,st',e,fun p H' S' as' R' o n=>?_⟩
 obtain ⟨S2,R2⟩:=R'.give o n
 exact q _ H' S2 as' R2
theorem v9 {e:Expr} {B:Bas} {m:M T} (h:PE X e (fOf X.K B m)):PE X e (tOf X.K B m):=h.imp fun σ H Q=>Mg
variable {B:Bas} {nv:Nat} {cap:List Nat} {g:G} {it:M (List T)} {c:M Bool} {e:M T} {tg iter elt:Expr} {ifs:List Expr} {pos:Pos}
structure ac4 (X:Cx) (scope:Scope) (N:List Str) (nv:Nat) (cap:List Nat):Prop where
 len:N.length=nv+cap.length
 at':∀ (j k:Nat),cap[j]? = some k→∃ x,N[nv+j]? = some x∧X.N[k]? = some x∧adb X scope x
theorem Lz (co:ac4 X scope N nv cap) (hsz:∀ st ts st',it st=some (ts,st')→ts.length≤sizeLine) {σ:L2.St} {H:Hp} {Q:VK} (h:fOf X.K B (pq nv cap g it c e) σ H Q) :
  a2i X scope N (iOf X.K B it) (gE X.K g) (cE X.K c) (eE X.K e) σ H Q:=by
 obtain ⟨st,ps,S,as,R,t,st',e,q⟩:=h
 obtain ⟨ts,s1,us,s2,e1,e2,rfl,rfl⟩:=Zn e
 refine ⟨st,ps,S,as,R,ts,s1,e1,hsz _ _ _ e1,fun J H1 S1 as1 ps' R1 facts=>?_⟩
 obtain ⟨S2,R2⟩:=R1.qg cap
 exact Yv co.len (fun _ _ _ _=>trivial) co.at' R2 (fun k hk=>K7 cap s1.env k hk) (fun S as H _ _=>facts S as H) e2 fun D H' S' as' R' o n=>q D H' S' as' (R'.pick fun p hp=>List.mem_append_right _ hp) o n
theorem Af (co:ac4 X scope N nv cap) (sc:Pb X scope N) (calm:X.calm=true) (hi:PI X tg iter (iOf X.K B it)) (hsz:∀ st ts st',it st=some (ts,st')→ts.length≤sizeLine)
  (hg:∀ C s₀ H₀ ex pn,PG (Ge X scope N C s₀ H₀ ex pn) tg (gE X.K g)) (hc:∀ C s₀ H₀ ex pn,PTs (Ge X scope N C s₀ H₀ ex pn) ifs (cE X.K c)) (he:∀ C s₀ H₀ ex pn,PE (Ge X scope N C s₀ H₀ ex pn) elt (eE X.K e))
  (hs:∀ x,foldedSetIterable iter X.env x=pure x:=by intro _; rfl):PE X (.ListComp elt [⟨tg,iter,ifs,0⟩] scope pos) (fOf X.K B (pq nv cap g it c e)) :=
 (a8l sc calm hi hg hc he hs).imp fun σ H Q h=>Lz co hsz h
end
section
variable {X:Cx}
theorem Uk {f:Value→Value→Sem Value} {g:T→T→Option T} {r:R2} (h:OpR X f r)
  (k:∀ S as x y t u w,Rep X.K S as x t→Rep X.K S as y u→g t u=some w→∀ (H:Hp) (Q:VK),Same S H→(∀ v H' S',Ext S H S' H'→Rep X.K S' as v w→Q v H')→r x y H Q):OpT X f g:=by
 intro pins s σ H x y v u Q I rx ry z8
 obtain ⟨S,as,t,w,z,sub,ht,hu,hf,q⟩:=z8
 exact h pins s σ H x y v u Q I rx ry (k S as x y t w z ht hu hf H Q sub q)
structure OI (g:T→Option T):Prop where
 n:g .non=none
 b:∀ x,g (.bl x)=none
 s:∀ x,g (.str x)=none
 t:∀ x,g (.tup x)=none
 l:∀ x,g (.lst x)=none
 d:∀ x,g (.dic x)=none
 o:∀ x,g (.obj x)=none
theorem OI.int {g:T→Option T} {w t:T} (h:OI g) (e:g t=some w):∃ i,t=.int i:=by
 cases t with
 | int i=>exact ⟨i,rfl⟩
 | non=>exact jm (h.n.symm.trans e)
 | bl x=>exact jm ((h.b x).symm.trans e)
 | str x=>exact jm ((h.s x).symm.trans e)
 | tup x=>exact jm ((h.t x).symm.trans e)
 | lst x=>exact jm ((h.l x).symm.trans e)
 | dic x=>exact jm ((h.d x).symm.trans e)
 | obj x=>exact jm ((h.o x).symm.trans e)
theorem Cm {K:PySem.W.Frag} {S:Hp} {as:List Addr} {x y:V} {t u w:T} {g:T→T→Option T} {P:Prop} (ht:Rep K S as x t) (hu:Rep K S as y u) (hf:g t u=some w)
  (n1:∀ u,OI (g · u)) (n2:∀ i,OI (g (.int i))) (k:∀ i j,x=.int i→y=.int j→g (.int i) (.int j)=some w→P):P:=by
 obtain ⟨i,rfl⟩:=(n1 u).int hf
 obtain ⟨j,rfl⟩:=(n2 i).int hf
 cases ht; cases hu
 exact k i j rfl rfl hf
theorem Fd:OpT X (binaryOp .Sub) Rt:=Uk aak fun S as x y t u w ht hu hf H Q sub q =>
 Cm (g:=Rt) ht hu hf (fun u=>⟨rfl,fun _=>rfl,fun _=>rfl,fun _=>rfl,fun _=>rfl,fun _=>rfl,fun _=>rfl⟩) (fun i=>⟨rfl,fun _=>rfl,fun _=>rfl,fun _=>rfl,fun _=>rfl,fun _=>rfl,fun _=>rfl⟩) fun i j ex ey hf=>by
 subst ex ey; cases hf
 exact ⟨_,_,rfl,rfl,q _ H S (Ext.refl sub) (.int _)⟩
theorem m5:OpT X (binaryOp .Mod) Al:=Uk aao fun S as x y t u w ht hu hf H Q sub q =>
 Cm (g:=Al) ht hu hf (fun u=>⟨rfl,fun _=>rfl,fun _=>rfl,fun _=>rfl,fun _=>rfl,fun _=>rfl,fun _=>rfl⟩) (fun i=>⟨rfl,fun _=>rfl,fun _=>rfl,fun _=>rfl,fun _=>rfl,fun _=>rfl,fun _=>rfl⟩) fun i j ex ey hf=>by
 subst ex ey
 obtain ⟨hc,hf⟩:=Fl hf
 cases hf; exact ⟨_,_,rfl,rfl,hc,q _ H S (Ext.refl sub) (.int _)⟩
def ae5 (i j:Int):Prop:=0<j∧(j<1073741824∨j.natAbs<fdl)
theorem a5c:OpR X (binaryOp .FloorDiv) (rI ae5 fun i j=>.int (i / j)):=opI fun i j _ _ _ _ _ hc q=>by
 have h1:(0:Int)<j:=hc.1
 have h2:j.natAbs<2 ^ 200:=by
  rcases hc.2 with h | h
  ·exact Nat.lt_trans (show j.natAbs<1073741824 by (clear q hc; omega)) (by decide)
  ·exact h
 exact floordiv_int (by (clear h2 q hc; omega)) (by rw [Int.fdiv_eq_ediv_of_nonneg i (by (clear h2 q hc; omega))]; exact q) (.inl (PyProof.noPylong_of_log2 (Nat.lt_trans ((Nat.log2_lt (by (clear h2 q hc; omega))).mpr h2) (by decide))))
theorem oh:OpT X (binaryOp .FloorDiv) vh:=Uk a5c fun S as x y t u w ht hu hf H Q sub q =>
 Cm (g:=vh) ht hu hf (fun u=>⟨rfl,fun _=>rfl,fun _=>rfl,fun _=>rfl,fun _=>rfl,fun _=>rfl,fun _=>rfl⟩) (fun i=>⟨rfl,fun _=>rfl,fun _=>rfl,fun _=>rfl,fun _=>rfl,fun _=>rfl,fun _=>rfl⟩) fun i j ex ey hf=>by
 subst ex ey
 obtain ⟨hc,hf⟩:=Fl hf
 cases hf; exact ⟨_,_,rfl,rfl,hc,q _ H S (Ext.refl sub) (.int _)⟩
theorem a8u:OpT X (binaryOp .Pow) abm:=Uk ac8 fun S as x y t u w ht hu hf H Q sub q =>
 Cm (g:=abm) ht hu hf (fun u=>⟨rfl,fun _=>rfl,fun _=>rfl,fun _=>rfl,fun _=>rfl,fun _=>rfl,fun _=>rfl⟩) (fun i=>⟨rfl,fun _=>rfl,fun _=>rfl,fun _=>rfl,fun _=>rfl,fun _=>rfl,fun _=>rfl⟩) fun i j ex ey hf=>by
 subst ex ey
 obtain ⟨h,hf⟩:=Fl hf
 cases hf; exact ⟨_,_,rfl,rfl,⟨h.1,by (clear q hf hu ht sub; omega),by (clear q hf hu ht sub; omega)⟩,q _ H S (Ext.refl sub) (.int _)⟩
theorem Mi:OpT X (compareOp .Lt) ltT:=Uk afi fun S as x y t u w ht hu hf H Q sub q =>
 Cm (g:=ltT) ht hu hf (fun u=>⟨rfl,fun _=>rfl,fun _=>rfl,fun _=>rfl,fun _=>rfl,fun _=>rfl,fun _=>rfl⟩) (fun i=>⟨rfl,fun _=>rfl,fun _=>rfl,fun _=>rfl,fun _=>rfl,fun _=>rfl,fun _=>rfl⟩) fun i j ex ey hf=>by
 subst ex ey; cases hf
 exact ⟨_,_,rfl,rfl,q _ H S (Ext.refl sub) (.bl _)⟩
theorem Yi:OpT X (compareOp .LtE) leT:=Uk ae1 fun S as x y t u w ht hu hf H Q sub q =>
 Cm (g:=leT) ht hu hf (fun u=>⟨rfl,fun _=>rfl,fun _=>rfl,fun _=>rfl,fun _=>rfl,fun _=>rfl,fun _=>rfl⟩) (fun i=>⟨rfl,fun _=>rfl,fun _=>rfl,fun _=>rfl,fun _=>rfl,fun _=>rfl,fun _=>rfl⟩) fun i j ex ey hf=>by
 subst ex ey; cases hf
 exact ⟨_,_,rfl,rfl,q _ H S (Ext.refl sub) (.bl _)⟩
theorem Mv:OpT X (compareOp .Gt) gtT:=Uk aep fun S as x y t u w ht hu hf H Q sub q =>
 Cm (g:=gtT) ht hu hf (fun u=>⟨rfl,fun _=>rfl,fun _=>rfl,fun _=>rfl,fun _=>rfl,fun _=>rfl,fun _=>rfl⟩) (fun i=>⟨rfl,fun _=>rfl,fun _=>rfl,fun _=>rfl,fun _=>rfl,fun _=>rfl,fun _=>rfl⟩) fun i j ex ey hf=>by
 subst ex ey; cases hf
 exact ⟨_,_,rfl,rfl,q _ H S (Ext.refl sub) (.bl _)⟩
theorem w6:UnT X (unaryOp .USub) Jw:=by
 intro pins s σ H x v Q I rx z8
 obtain ⟨S,as,t,w,sub,ht,hf,q⟩:=z8
 cases ht <;> simp only [Jw,reduceCtorEq] at hf
 cases hf
 exact a6f pins s σ H _ v Q I rx ⟨_,rfl,q _ H S (Ext.refl sub) (.int _)⟩
def afy (K:PySem.W.Frag):R2:=fun x y H Q=>∃ l b xs zs,x=.ref l∧y=.ref b∧SqL K H l xs∧SqL K H b zs∧xs.length+zs.length≤sizeLine∧∀ p,H p=none→Q (.ref p) (upd H p (.lst (xs++zs)))
theorem Yb:OpR X (binaryOp .Add) (afy X.K):=by
 intro pins s σ H x y v u Q I rx ry h
 obtain ⟨l,b,xs,zs,rfl,rfl,hH,hB,hz,q⟩:=h
 cases rx
 cases ry
 obtain ⟨its,r,p1,hl⟩:=I.list hH
 obtain ⟨its2,r2,p2,hl2⟩:=I.list hB
 obtain ⟨⟨cls,dd,data,sl⟩,n,ho,hc,hd0,hd⟩:=id p1
 obtain ⟨⟨cls2,dd2,data2,sl2⟩,n2,ho2,hc2,hd02,hd2⟩:=id p2
 simp only at hc hd hc2 hd2
 subst hc hd hc2 hd2
 refine concat_meets ⟨_,ho,rfl⟩ ⟨_,ho2,rfl⟩ noFill_list_add seq_list_add PySem.F.slot_list_add PySem.F.entry_list_add (PySem.F.args_list_add_2 _ _)
   (list_addW l b its.toArray its2.toArray n n2 dd dd2 sl sl2 (by rw [List.size_toArray,List.size_toArray,← r.length,← r2.length]; exact hz)) ⟨ho,ho2,?_⟩
 have ea:its.toArray++its2.toArray=(its++its2).toArray:=by simp
 rw [ea]
 exact ⟨.ref _,_,I.agw (t':=s.toks) (r.append r2) (by rw [List.length_append]; exact hz),rfl,q _ I.fresh⟩
def abq (K:PySem.W.Frag):R2:=fun x y H Q=>∃ a b ys,x=.ref a∧y=.ref b∧SqT K H a []∧SqT K H b ys∧Q (.ref b) H
theorem a4v:OpR X (binaryOp .Add) (abq X.K):=by
 intro pins s σ H x y v u Q I rx ry h
 obtain ⟨a,b,ys,rfl,rfl,ha,hb,q⟩:=h
 cases rx
 cases ry
 obtain ⟨its,r1,p1,_⟩:=I.tuple ha
 obtain ⟨its2,r2,p2,_⟩:=I.tuple hb
 cases r1
 obtain ⟨⟨cls,dd,data,sl⟩,ho,hc,n,hd⟩:=id p1
 obtain ⟨⟨cls2,dd2,data2,sl2⟩,ho2,hc2,n2,hd2⟩:=id p2
 simp only at hc hd hc2 hd2
 subst hc hd hc2 hd2
 exact concat_meets ⟨_,ho,rfl⟩ ⟨_,ho2,rfl⟩ noFill_tuple_add seq_tuple_add PySem.F.slot_tuple_add PySem.F.entry_tuple_add (PySem.F.args_tuple_add_2 _ _)
   (tuple_addW0 a b _ its2.toArray n n2 dd dd2 sl sl2 (by rfl)) ⟨ho,ho2,⟨.ref b,H,I,rfl,q⟩⟩
theorem kj:OpT X (binaryOp .Add) vo:=by
 intro pins s σ H x y v u Q I rx ry z8
 obtain ⟨S,as,t,t2,w,sub,ht,hu,hf,q⟩:=z8
 cases ht <;> first | exact nomatch (show none=some w from hf) | cases hu <;> first | exact nomatch (show none=some w from hf) | simp only [vo] at hf
 ·cases hf
  exact abl pins s σ H _ _ v u Q I rx ry ⟨_,_,rfl,rfl,q _ H S (Ext.refl sub) (.int _)⟩
 ·split at hf
  ·rename_i hl; cases hf
   exact X3 pins s σ H _ _ v u Q I rx ry ⟨_,_,rfl,rfl,Nat.le_trans (Nat.le_of_lt hl) um,q _ H S (Ext.refl sub) (.str _)⟩
  ·cases hf
 ·rename_i a vs ts hs hr b ws us hs2 hr2
  split at hf
  ·rename_i hl; cases hf
   have hz:vs.length+ws.length≤sizeLine:=by rw [hr.length,hr2.length]; exact Nat.le_trans (Nat.le_of_lt hl) um
   cases hr with
   | nil=>exact a4v pins s σ H _ _ v u Q I rx ry ⟨_,_,_,rfl,rfl,ou sub hs,ou sub hs2,q _ H S (Ext.refl sub) (.tup hs2 hr2)⟩
   | @cons v0 t0 vs0 ts0 h1 h2 =>
    refine a83 pins s σ H _ _ v u Q I rx ry ⟨_,_,_,_,rfl,rfl,ou sub hs,ou sub hs2,by simp,hz,fun z=>?_,fun z p hp=>?_⟩
    ·subst z
     cases hr2
     rw [List.append_nil] at q
     exact q _ H S (Ext.refl sub) (.tup hs (.cons h1 h2))
    ·have x:=Ext.laid sub hp (.tup ((v0::vs0)++ws))
     exact q _ _ _ x (.tup (SqT.of j8) (((ug.cons h1 h2).append hr2).mono x.s nol))
  ·cases hf
 ·rename_i a vs ts hs hr b ws us hs2 hr2
  split at hf
  ·rename_i hl; cases hf
   have hz:vs.length+ws.length≤sizeLine:=by rw [hr.length,hr2.length]; exact Nat.le_trans (Nat.le_of_lt hl) um
   refine Yb pins s σ H _ _ v u Q I rx ry ⟨_,_,_,_,rfl,rfl,jl sub hs,jl sub hs2,hz,fun p hp=>?_⟩
   have x:=Ext.laid sub hp (.lst (vs++ws))
   exact q _ _ _ x (.lst (SqL.of j8) ((hr.append hr2).mono x.s nol))
  ·cases hf
theorem a9t (x:Str) (n:Int) (h:0≤n):Txt.mul x n=⟨((List.replicate n.toNat x.cps.toList).flatten).toArray⟩:=by
 have key:∀ (k:Nat) (acc:Array Nat),(List.replicate k x.cps).foldl (· ++ ·) acc=acc++((List.replicate k x.cps.toList).flatten).toArray:=by
  intro k
  induction k with
  | zero=>intro acc; simp
  | succ k ih =>
   intro acc
   rw [List.replicate_succ,List.foldl_cons,ih,List.replicate_succ,List.flatten_cons]
   apply Array.ext'
   simp
 unfold Txt.mul
 by_cases h1:n<1
 ·have:n=0:=by omega
  subst this
  rw [if_pos h1]; rfl
 ·rw [if_neg h1]
  by_cases h2:(n==1||x.length==0)=true
  ·rw [if_pos h2]
   rw [Bool.or_eq_true] at h2
   rcases h2 with h2 | h2
   ·have:n=1:=by simpa using h2
    subst this
    cases x; simp
   ·have h3:x.cps.size=0:=by simpa [Str.length] using h2
    obtain ⟨c⟩:=x
    have h4:c = #[]:=Array.eq_empty_of_size_eq_zero h3
    subst h4
    congr 1
    apply Array.ext'
    simp
  ·rw [if_neg h2,key]
   congr 1
   apply Array.ext'
   simp
theorem Hj:OpT X (binaryOp .Mult) Rq:=by
 intro pins s σ H x y v u Q I rx ry z8
 obtain ⟨S,as,t,t2,w,sub,ht,hu,hf,q⟩:=z8
 cases ht <;> first | exact nomatch (show none=some w from hf) | cases hu <;> first | exact nomatch (show none=some w from hf) | simp only [Rq] at hf
 ·split at hf
  ·rename_i hb; cases hf
   refine aai pins s σ H _ _ v u Q I rx ry ⟨_,_,rfl,rfl,?_,q _ H S (Ext.refl sub) (.int _)⟩
   rw [Bool.or_eq_true] at hb
   rcases hb with h | h
   ·exact .inl (of_decide_eq_true h)
   ·exact .inr (of_decide_eq_true h)
  ·cases hf
 ·rename_i z j
  split at hf
  ·rename_i hb; cases hf
   obtain ⟨t',rfl⟩:=rx
   obtain ⟨t2',rfl⟩:=ry
   refine SB.mul ⟨?_,fun _ _=>?_,fun _ _=>?_⟩ fun t3 k=>⟨.str (Txt.mul z j),H,I.tok _,⟨_,rfl⟩,?_⟩
   ·have h1:¬ j < -(2 ^ 63:Int):=by (clear q sub I; omega)
    have h2:¬ j ≥ 2 ^ 63:=by (clear h1 q sub I; omega)
    rw [decide_eq_false h1,decide_eq_false h2]; rfl
   ·have h1:(z.length:Int)≤100:=by (clear q sub I; omega)
    have h2:(100:Int)≤(2 ^ 63 - 1) / j:=by
     have hj:0<j:=by
      rcases Int.lt_or_le 0 j with h | h
      ·exact h
      ·exfalso
       have:j=0:=by (clear h1 q hb sub I; omega)
       subst this
       rename_i a _; exact a (by decide)
     exact (Int.le_ediv_iff_mul_le hj).mpr (by (clear hj h1 q sub I; omega))
    (clear q hb sub I; omega)
   ·have h3:z.length * j.toNat≤100 * 1000:=Nat.mul_le_mul hb.2.2 (by (clear q sub I; omega))
    unfold Builtin.Str.tooLong
    rw [sizeLine_eq]
    exact decide_eq_false (by (clear q hb sub I; omega))
   ·rw [a9t z j hb.1]; exact q _ H S (Ext.refl sub) (.str _)
  ·cases hf
end
section
variable {X:Cx} {B:Bas} {a b c e o:Expr} {m m1 m2:M T} {pos p:Pos}
theorem Yu (n:Nat) (i:Int):ixI n i=ixN n i:=rfl
theorem a7i {K:PySem.W.Frag} {S:Hp} {as:List Addr} {y:V} {t:T} {q:L2.Key} (r:Rep K S as y t) (h:keyOf t=some q):y=kV q:=by
 cases r <;> simp only [keyOf,reduceCtorEq] at h <;> (cases h; rfl)
def aew:R2:=fun x y H Q=>∃ a v,x=.ref a∧a3k H a y (some v)∧Q v H
theorem a9a (hu:X.A.units+1<cLine):IxR X aew:=by
 intro value slice pins s σ H x y v u Q I rx ry z8 hs
 obtain ⟨a,w,ex,g,q⟩:=z8
 subst ex
 cases rx
 refine tail_any (Tp I g) slot_dict_getitem.lookup (a07 hu I g ry fun w' s' I' r'=>⟨w,H,I',r',q⟩) hs
theorem a2t (hu:X.A.units+1<cLine):IxR X (r2 X.K cj):=by
 intro value slice pins s σ H x y v u Q I rx ry z8 hs
 obtain ⟨S,as,t,t2,w,sub,ht,hu2,hf,q⟩:=z8
 cases ht with
 | @tup a vs ts h1 h2 =>
  cases hu2 <;> first | exact jm hf | skip
  rename_i i
  obtain ⟨j,e1,e2⟩:=Option.bind_eq_some_iff.mp hf
  obtain ⟨z,hz,rz⟩:=h2.get e2
  refine abt value slice pins s σ H _ _ v u Q I rx ry ⟨a,vs,i,z,rfl,rfl,ou sub h1,?_,q z H S (Ext.refl sub) rz⟩ hs
  rw [Yu,← h2.length] at e1
  unfold atI; rw [e1]; exact hz
 | @lst a vs ts h1 h2 =>
  cases hu2 <;> first | exact jm hf | skip
  rename_i i
  obtain ⟨j,e1,e2⟩:=Option.bind_eq_some_iff.mp hf
  obtain ⟨z,hz,rz⟩:=h2.get e2
  refine a8c value slice pins s σ H _ _ v u Q I rx ry ⟨a,vs,i,z,rfl,rfl,jl sub h1,?_,q z H S (Ext.refl sub) rz⟩ hs
  rw [Yu,← h2.length] at e1
  unfold atI; rw [e1]; exact hz
 | str z =>
  cases hu2 <;> first | exact jm hf | skip
  rename_i i
  obtain ⟨hl,hf⟩:=Fl hf
  obtain ⟨j,e1,e2⟩:=Option.bind_eq_some_iff.mp hf
  obtain ⟨cc,e3,e4⟩:=Option.map_eq_some_iff.mp e2
  subst e4
  refine abk value slice pins s σ H _ _ v u Q I rx ry ⟨z,i,cc,rfl,rfl,Nat.le_trans (Nat.le_of_lt hl) um,?_,q _ H S (Ext.refl sub) (.str _)⟩ hs
  rw [Yu] at e1
  unfold atI; rw [e1]; exact e3
 | @dic a kvs ts h1 h2 =>
  obtain ⟨k,e1,e2⟩:=Option.bind_eq_some_iff.mp hf
  have ey:=a7i hu2 e1
  subst ey
  rcases h2.get k with ⟨z,t',a1,a2,a3⟩ | ⟨_,a2⟩
  ·rw [e2] at a2; cases a2
   exact a9a hu value slice pins s σ H _ _ v u Q I rx ry ⟨a,z,rfl,.inl ⟨kvs,k,yp sub h1,rfl,a1.symm⟩,q z H S (Ext.refl sub) a3⟩ hs
  ·rw [e2] at a2; cases a2
 | _=>exact jm hf
theorem fu (hu:X.A.units+1<cLine) (ha:PE X a (tOf X.K B m1)) (hb:PE X b (tOf X.K B m2)) (hs:a0o b):PE X (.Subscript a b pos) (tOf X.K B (mOp cj m1 m2)):=Vd (aer (a2t hu) ha hb hs)
theorem qb:Lx X (.builtin "len") Bw:=by
 intro pins s σ H xs us Q I rs z8
 obtain ⟨S,as,ts,w,sub,hr,hf,q⟩:=z8
 cases hr with
 | nil=>simp only [Bw,reduceCtorEq] at hf
 | @cons x t xs' ts' h1 h2 =>
  cases h2 with
  | cons h3 h4=>simp only [Bw,reduceCtorEq] at hf
  | nil =>
   cases h1 with
   | tup g1 g2=>simp only [Bw] at hf; cases hf; exact Dj pins s σ H _ us Q I rs ⟨_,_,rfl,.inr (ou sub g1),by rw [g2.length]; exact q _ H S (Ext.refl sub) (.int _)⟩
   | lst g1 g2=>simp only [Bw] at hf; cases hf; exact Dj pins s σ H _ us Q I rs ⟨_,_,rfl,.inl (jl sub g1),by rw [g2.length]; exact q _ H S (Ext.refl sub) (.int _)⟩
   | str z =>
    simp only [Bw] at hf
    split at hf
    ·rename_i hl; cases hf; exact Pu pins s σ H _ us Q I rs ⟨_,rfl,Nat.le_trans (Nat.le_of_lt hl) um,q _ H S (Ext.refl sub) (.int _)⟩
    ·cases hf
   | @dic a kvs ts g1 g2 =>
    simp only [Bw] at hf; cases hf
    obtain ⟨u,rfl,ru⟩:=rs.one
    cases ru
    exact acg I (yp sub g1) fun t s' I'=>⟨.int kvs.length,H,I',⟨t,rfl⟩,by rw [g2.length]; exact q _ H S (Ext.refl sub) (.int _)⟩
   | _=>simp only [Bw,reduceCtorEq] at hf
theorem v7:Lx X (.type "tuple") yg:=by
 intro pins s σ H xs us Q I rs z8
 obtain ⟨S,as,ts,w,sub,hr,hf,q⟩:=z8
 cases hr with
 | nil=>simp only [yg,reduceCtorEq] at hf
 | @cons x t xs' ts' h1 h2 =>
  cases h2 with
  | cons h3 h4=>simp only [yg,reduceCtorEq] at hf
  | nil =>
   cases h1 with
   | @tup a vs ts g1 g2=>simp only [yg] at hf; cases hf; exact Gv pins s σ H _ us Q I rs ⟨_,_,rfl,.inr ⟨ou sub g1,q _ H S (Ext.refl sub) (.tup g1 g2)⟩⟩
   | @lst a vs ts g1 g2 =>
    simp only [yg] at hf; cases hf
    refine Gv pins s σ H _ us Q I rs ⟨_,_,rfl,.inl ⟨jl sub g1,fun p hp=>?_⟩⟩
    have x:=Ext.laid sub hp (.tup vs)
    exact q _ _ _ x (.tup (SqT.of j8) (g2.mono x.s nol))
   | _=>simp only [yg,reduceCtorEq] at hf
theorem M7:Lx X (.type "list") Dt:=by
 intro pins s σ H xs us Q I rs z8
 obtain ⟨S,as,ts,w,sub,hr,hf,q⟩:=z8
 cases hr with
 | nil=>simp only [Dt,reduceCtorEq] at hf
 | @cons x t xs' ts' h1 h2 =>
  cases h2 with
  | cons h3 h4=>simp only [Dt,reduceCtorEq] at hf
  | nil =>
   cases h1 with
   | @tup a vs ts g1 g2 =>
    simp only [Dt] at hf; cases hf
    refine Dw pins s σ H _ us Q I rs ⟨_,_,rfl,.inr (ou sub g1),fun p hp=>?_⟩
    have x:=Ext.laid sub hp (.lst vs)
    exact q _ _ _ x (.lst (SqL.of j8) (g2.mono x.s nol))
   | @lst a vs ts g1 g2 =>
    simp only [Dt] at hf; cases hf
    refine Dw pins s σ H _ us Q I rs ⟨_,_,rfl,.inl (jl sub g1),fun p hp=>?_⟩
    have x:=Ext.laid sub hp (.lst vs)
    exact q _ _ _ x (.lst (SqL.of j8) (g2.mono x.s nol))
   | _=>simp only [Dt,reduceCtorEq] at hf
theorem Ed.put {K:PySem.W.Frag} {S:Hp} {as:List Addr} {k:L2.Key} {v:V} {t:T} (r:Rep K S as v t):∀ {vs:List (L2.Key × V)} {ts:List (L2.Key × T)},Ed K S as vs ts→Ed K S as (putK vs k v) (a6m k t ts):=by
 intro vs ts h
 have any:∀ {vs:List (L2.Key × V)} {ts:List (L2.Key × T)},Ed K S as vs ts→(vs.any fun kv=>decide (kv.1=k))=(ts.any fun p=>decide (p.1=k)):=by
  intro vs ts h
  induction vs generalizing ts with
  | nil=>cases h; rfl
  | cons p r ih=>cases h with | cons h1 h2=>rw [List.any_cons,List.any_cons,ih h2]
 have mp:∀ {vs:List (L2.Key × V)} {ts:List (L2.Key × T)},Ed K S as vs ts→Ed K S as (vs.map fun kv=>if kv.1=k then (kv.1,v) else kv) (ts.map fun p=>if p.1=k then (p.1,t) else p):=by
  intro vs ts h
  induction vs generalizing ts with
  | nil=>cases h; exact .nil
  | cons p rr ih =>
   cases h with
   | @cons q v0 t0 _ _ h1 h2 =>
    rw [List.map_cons,List.map_cons]
    by_cases e:q=k
    ·rw [if_pos e,if_pos e]; exact .cons r (ih h2)
    ·rw [if_neg e,if_neg e]; exact .cons h1 (ih h2)
 have ap:∀ {vs:List (L2.Key × V)} {ts:List (L2.Key × T)},Ed K S as vs ts→Ed K S as (vs++[(k,v)]) (ts++[(k,t)]):=by
  intro vs ts h
  induction vs generalizing ts with
  | nil=>cases h; exact .cons r .nil
  | cons p rr ih=>cases h with | cons h1 h2=>exact .cons h1 (ih h2)
 unfold putK a6m
 rw [any h]
 split
 ·exact mp h
 ·exact ap h
end
theorem Tr {i:Nat} {k d:M T} {s s':Sta} {t:T} (h:Hh i k d s=some (t,s')):Pj i s=true∧∃ kt s1 dt kvs f q,k s=some (kt,s1)∧d s1=some (dt,s')∧s'.env[i]? = some (some (.dic kvs,f))∧keyOf kt=some q∧t=(Ww q kvs).getD dt:=by
 unfold Hh at h
 split at h
 ·rename_i hd
  refine ⟨hd,?_⟩
  split at h
  ·rename_i kt s1 e1
   split at h
   ·rename_i dt s2 e2
    split at h
    ·rename_i kvs f e3
     split at h
     ·rename_i q e4
      cases h
      exact ⟨kt,s1,dt,kvs,f,q,e1,e2,e3,e4,rfl⟩
     ·cases h
    ·cases h
   ·cases h
  ·cases h
 ·cases h
theorem Tf {i:Nat} {s s':Sta} {t:T} (h:Ck i s=some (t,s')):s'=s∧((∃ xs f,s.env[i]? = some (some (.lst xs,f))∧t=.int xs.length)∨(∃ xs f,s.env[i]? = some (some (.dic xs,f))∧t=.int xs.length)):=by
 unfold Ck at h
 split at h
 ·rename_i xs f e; cases h; exact ⟨rfl,.inl ⟨xs,f,e,rfl⟩⟩
 ·rename_i xs f e; cases h; exact ⟨rfl,.inr ⟨xs,f,e,rfl⟩⟩
 ·cases h
section
variable {K:PySem.W.Frag} {B:Bas} {st:Sta} {σ:L2.St} {H S:Hp} {ps:List (V × T)} {as:List Addr}
theorem Rel.dictAt (r:Rel K B st σ H ps S as) {i:Nat} {kvs:List (L2.Key × T)} {f:Bool} (e:st.env[i]? = some (some (.dic kvs,f))):∃ p vs,σ[i]? = some (some (.ref p))∧Rd H p (.dK vs)∧Ed K S as vs kvs:=by
 obtain ⟨v,h1,h2,h3⟩:=r.slots i _ f e
 cases f with
 | false =>
  have h:=h2 rfl
  cases h with
  | dic a b=>exact ⟨_,_,h1,yp r.sub a,b⟩
 | true =>
  obtain ⟨p,rfl,o⟩:=h3 rfl
  obtain ⟨vs,h,q⟩:=o.own
  exact ⟨p,vs,h1,.inl h,q⟩
end
section
variable {X:Cx} {B:Bas} {a b c e o k d:Expr} {m mo mk md mv:M T} {pos p:Pos}
theorem P0 {i:Nat} {s:Sta} (h:Pj i s=true):∃ kvs f,s.env[i]? = some (some (.dic kvs,f)):=by
 unfold Pj at h
 split at h
 ·rename_i kvs f e; exact ⟨kvs,f,e⟩
 ·cases h
theorem Kz {i:Nat} {s:Sta} (h:Ei i s=true):∃ kvs f,s.env[i]? = some (some (.lst kvs,f)):=by
 unfold Ei at h
 split at h
 ·rename_i kvs f e; exact ⟨kvs,f,e⟩
 ·cases h
theorem a0d (i:Nat) {apos:Pos} (hu:X.A.units+1<cLine) (ho:PE X o (a2r i)) (hk:PE X k (tOf X.K B mk)) (hd:PE X d (tOf X.K B md)) (m:M2 X o "get" apos k d pos):PE X (.Call (.Attribute o "get" apos) [k,d] [] pos) (tOf X.K B (Hh i mk md)) :=
 (a3v hu ho hk hd m).imp fun σ H Q z9=>by
  obtain ⟨st,ps,S,as,R,t,st',e,q⟩:=z9
  obtain ⟨hd,kt,s1,dt,kvs,f,qk,e1,e2,e3,e4,rfl⟩:=Tr e
  obtain ⟨kvs0,f0,e0⟩:=P0 hd
  obtain ⟨p0,vs0,s0,rd0,_⟩:=R.dictAt e0
  refine ⟨_,s0,p0,rfl,.inl ⟨vs0,rd0⟩,st,ps,S,as,R,kt,s1,e1,fun u H1 S1 as1 R1=>⟨s1,_,S1,as1,R1,dt,st',e2,fun w H2 S2 as2 R2=>?_⟩⟩
  obtain ⟨p1,vs1,z1,rd1,h4⟩:=R2.dictAt e3
  rw [s0] at z1; cases z1
  have ey:=a7i R2.top2 e4
  subst ey
  refine ⟨Tz vs1 qk,.inl ⟨vs1,qk,rd1,rfl,rfl⟩,?_⟩
  rcases h4.get qk with ⟨z,t',a1,a2,a3⟩ | ⟨a1,a2⟩
  ·rw [a1]; rw [a2] at q; exact q z H2 S2 as2 (R2.drop.drop.push a3)
  ·rw [a1]; rw [a2] at q; exact q w H2 S2 as2 (R2.drop.drop.push R2.top)
theorem Kl (i:Nat) {pos':Pos} (hu:X.A.units+1<cLine) (ho:PE X o (a2r i)) (hk:PE X k (tOf X.K B mk)) (hv:PE X e (tOf X.K B mv)) (hs:swapsWith e (some (.Subscript o k pos')) pos.line X.env=pure false) :
  PS X (.Assign [.Subscript o k pos'] e pos) (sOf X.K B (Ai i mk mv)):=(a7v hu ho hk hv hs).imp fun D σ H z9=>by
 obtain ⟨st,ps,S,as,R,fl,st',e,q⟩:=z9
 obtain ⟨t,s1,kt,s2,kvs,qk,e1,hd,e3,e4,e5,hl,rfl,rfl⟩:=Uc e
 obtain ⟨kvs0,f0,e0⟩:=P0 hd
 refine ⟨st,ps,S,as,R,t,s1,e1,fun v H1 S1 as1 R1=>?_⟩
 obtain ⟨p0,vs0,s0,rd0,_⟩:=R1.dictAt e0
 refine ⟨_,s0,s1,_,S1,as1,R1,kt,s2,e3,fun y H3 S3 as3 R3=>?_⟩
 obtain ⟨w,h1,_,h3⟩:=R3.slots i _ true e4
 rw [s0] at h1; cases h1
 obtain ⟨p',ep,ow⟩:=h3 rfl
 cases ep
 obtain ⟨vs,hH,h4⟩:=ow.own
 have ey:=a7i R3.top e5
 subst ey
 exact ⟨p0,_,rfl,a9x.k hH (by rw [h4.length]; exact Nat.lt_of_lt_of_le hl um),q _ _ S3 as3 (R3.drop.drop.turn e4 s0 ⟨_,j8,h4.put R3.top2⟩)⟩
end
theorem dj {ms:M (List T)} {n:Nat} (h:∀ st ts st',ms st=some (ts,st')→ts.length≤n) (hn:n≤1000):∀ st ts st',ms st=some (ts,st')→ts.length≤1000:=fun st ts st' e=>Nat.le_trans (h st ts st' e) hn
theorem su {m:M T}:∀ st ts st',yd m st=some (ts,st')→ts.length≤sizeLine:=fun st ts st' e=>by
 unfold yd at e
 split at e
 ·split at e
  ·rename_i h; cases e; exact Nat.le_trans (Nat.le_of_lt h) um
  ·cases e
 ·split at e
  ·rename_i h; cases e; exact Nat.le_trans (Nat.le_of_lt h) um
  ·cases e
 ·cases e
theorem Fz {m:M T}:∀ st ts st',yh m st=some (ts,st')→ts.length≤sizeLine:=fun st ts st' e=>by
 obtain ⟨n,_,h,rfl⟩:=Mu e
 unfold rangeT
 rw [List.length_map,List.length_range]
 refine Nat.le_trans ?_ um
 show n.toNat≤1000000
 omega
def gw (P:Program) (w:World) (K:PySem.W.Frag) (mg:Str→Option Value) (base:Heap) (x:Str) (k:Nat) (ps:List Str) (F:Fn):Prop :=
 ∃ f fd,Nj P w K mg base CX0 k f fd ps (spF K ps.length F)∧Binds K fd ps []∧PySem.W.keepIn K (.ref f)=true∧mg x=some (.ref f)
theorem gw.mono {P:Program} {w:World} {K:PySem.W.Frag} {mg:Str→Option Value} {base:Heap} {x:Str} {j k:Nat} {ps:List Str} {F:Fn} (d:gw P w K mg base x j ps F) (h:j≤k):gw P w K mg base x k ps F:=by
 obtain ⟨f,fd,h1,h2⟩:=d
 exact ⟨f,fd,h1.mono h,h2⟩
section
variable {X:Cx} {B:Bas} {a b c e o k:Expr} {m m1 m2:M T} {pos p:Pos} {es:List Expr} {ms:M (List T)} {F:Fn} {x:Str} {n:Nat} {pn:List Str}
theorem dg (D:gw X.prog X.w X.K X.mg X.base x n pn F) (hr:Lq n X.A) (hg:Gl X x)
  (ha:PA X (e::es) (aOf X.K B ms)) (hl:∀ st ts st',ms st=some (ts,st')→ts.length=pn.length) (hdb:(x==("__debug__" : Str))=false:=by decide)
  (he:starEach (e::es) X.env=(false,eval e X.env)::starEach es X.env:=by rfl) (hpl:(backTo pos (starEach es X.env)).any (·.1)=false:=by rfl) :
  PE X (.Call (.Name x p) (e::es) [] pos) (tOf X.K B (iy F ms)):=by
 obtain ⟨f,fd,h1,h2,h3,h4⟩:=D
 exact a9v h1 hr hg h4 h3 h2 ha hl hdb he hpl
theorem Gx (h:PA X es (aOf X.K B ms)) (hm:∀ st ts st',ms st=some (ts,st')→ts.length≤1000):PE X (.List es pos) (fOf X.K B (gk (fun l=>some (.lst l)) ms)) :=
 (a78 h).imp fun σ H Q z9=>by
  obtain ⟨st,ps,S,as,R,t,st',e,q⟩:=z9
  obtain ⟨ts,e1,e2⟩:=Bx e
  cases e2
  refine ⟨st,ps,S,as,R,ts,st',e1,fun vs H1 S1 as1 R1 rs=>⟨?_,fun p hp=>?_⟩⟩
  ·rw [rs.length]; exact Nat.le_of_lt (Ko (hm _ _ _ e1))
  ·obtain ⟨bD,sD,nD,no⟩:=R1.fresh hp
   exact q p _ S1 as1 (R1.a5n bD sD nD no) ⟨⟨vs,j8,rs⟩,sD,nD,bD⟩ no
theorem Sd:PE X (.Dict [] [] pos) (fOf X.K B (au (.dic []))):=a3s.imp fun σ H Q z9=>by
 obtain ⟨st,ps,S,as,R,t,st',e,q⟩:=z9
 cases e
 intro p hp
 obtain ⟨bD,sD,nD,no⟩:=R.fresh hp
 exact q p _ S as (R.a5n bD sD nD no) ⟨⟨[],j8,.nil⟩,sD,nD,bD⟩ no
theorem Rel.listAt {K:PySem.W.Frag} {B:Bas} {st:Sta} {σ:L2.St} {H S:Hp} {ps:List (V × T)} {as:List Addr} (r:Rel K B st σ H ps S as) {i:Nat} {xs:List T} {f:Bool} (e:st.env[i]? = some (some (.lst xs,f))):∃ p vs,σ[i]? = some (some (.ref p))∧SqL K H p vs∧ug K S as vs xs:=by
 obtain ⟨v,h1,h2,h3⟩:=r.slots i _ f e
 cases f with
 | false =>
  have h:=h2 rfl
  cases h with
  | lst a b=>exact ⟨_,_,h1,jl r.sub a,b⟩
 | true =>
  obtain ⟨p,rfl,o⟩:=h3 rfl
  obtain ⟨vs,h,q⟩:=o.own
  exact ⟨p,vs,h1,SqL.of h,q⟩
theorem uy (i:Nat) {st:Stmt} (h:PS X st (a8y (tBM X.K "list" a0l (a2r i) (Ju (tOf X.K B m) a82)))):PS X st (sOf X.K B (qj i m)):=h.imp fun D σ H z9=>by
 obtain ⟨st,ps,S,as,R,fl,st',e,q⟩:=z9
 obtain ⟨hd,t,s1,xs,e1,e2,hl,rfl,rfl⟩:=Tj e
 obtain ⟨xs0,f0,e0⟩:=Kz hd
 obtain ⟨p0,vs0,s0,q0,_⟩:=R.listAt e0
 refine ⟨_,s0,.inl ⟨rfl,_,q0⟩,st,ps,S,as,R,t,s1,e1,fun v H1 S1 as1 R1=>?_⟩
 obtain ⟨w,h1,_,h3⟩:=R1.slots i _ true e2
 rw [s0] at h1; cases h1
 obtain ⟨p',ep,ow⟩:=h3 rfl
 cases ep
 obtain ⟨vs,hH,h4⟩:=ow.own
 exact ⟨p0,vs,v,rfl,rfl,hH,by rw [h4.length]; exact Nat.lt_of_lt_of_le hl um,q _ _ S1 as1 (R1.drop.turn e2 s0 ⟨_,j8,h4.append (.cons R1.top .nil)⟩)⟩
end
section
variable {X:Cx} {B:Bas} {a b c e o k:Expr} {m m1 m2:M T} {pos p:Pos}
theorem Qv {K:PySem.W.Frag} {S:Hp} {as:List Addr}:∀ {vs:List V} {ts:List T} {l:List Int},ug K S as vs ts→Xh ts=some l→vs=l.map V.int
 | _,[],l,h0,h=>by cases h0; cases h; rfl
 | _,_::_,l,h0,h=>by
  cases h0 with | cons h1 h2=>?_
  cases h1 <;> first | exact jm h | skip
  obtain ⟨l',e1,e2⟩:=Option.map_eq_some_iff.mp h
  subst e2
  rw [Qv h2 e1]; rfl
theorem Hi {K:PySem.W.Frag} {S:Hp} {as:List Addr}:∀ {vs:List V} {ts:List T} {l:List Bool},ug K S as vs ts→Es ts=some l→vs=l.map V.bl
 | _,_,l,.nil,h=>by cases h; rfl
 | _,_,l,.cons (t:=t) h1 h2,h=>by
  cases h1 <;> first | exact jm h | skip
  obtain ⟨l',e1,e2⟩:=Option.map_eq_some_iff.mp h
  subst e2
  rw [Hi h2 e1]; rfl
theorem Qg {K:PySem.W.Frag} {S:Hp} {as:List Addr}:∀ {vs:List V} {ts:List T} {l:List Str},ug K S as vs ts→Ky ts=some l→vs=l.map V.str
 | _,_,l,.nil,h=>by cases h; rfl
 | _,_,l,.cons (t:=t) h1 h2,h=>by
  cases h1 <;> first | exact jm h | skip
  obtain ⟨l',e1,e2⟩:=Option.map_eq_some_iff.mp h
  subst e2
  rw [Qg h2 e1]; rfl
theorem a4d {l:List Int} {us:List Value} (r:Vals (l.map V.int) us) {i:Nat} {v:Value} (h:us.toArray[i]? = some v):∃ t,v=.int (l.getD i 0) t:=by
 rw [List.getElem?_toArray] at h
 have hi:i<(l.map V.int).length:=by rw [r.length]; exact (List.getElem?_eq_some_iff.mp h).1
 rw [List.length_map] at hi
 have e:(l.map V.int)[i]? = some (.int l[i]):=by rw [List.getElem?_map,List.getElem?_eq_getElem hi]; rfl
 obtain ⟨u,h1,t,h2⟩:=r.get e
 rw [h] at h1; cases h1
 exact ⟨t,by rw [h2,List.getD_eq_getElem?_getD,List.getElem?_eq_getElem hi]; rfl⟩
theorem Qs {l:List Bool} {us:List Value} (r:Vals (l.map V.bl) us) {i:Nat} {v:Value} (h:us.toArray[i]? = some v):v=.bool (l.getD i true):=by
 rw [List.getElem?_toArray] at h
 have hi:i<(l.map V.bl).length:=by rw [r.length]; exact (List.getElem?_eq_some_iff.mp h).1
 rw [List.length_map] at hi
 have e:(l.map V.bl)[i]? = some (.bl l[i]):=by rw [List.getElem?_map,List.getElem?_eq_getElem hi]; rfl
 obtain ⟨u,h1,h2⟩:=r.get e
 rw [h] at h1; cases h1
 rw [h2,List.getD_eq_getElem?_getD,List.getElem?_eq_getElem hi]; rfl
theorem Inv.Ei {pins:List (Addr × Obj)} {σ:L2.St} {H:Hp} {s:Shared} {a:Addr} {xs:List V} (I:L2.Inv X pins σ H s) (h:SqL X.K H a xs):a<s.heap.objs.size:=by
 obtain ⟨its,_,⟨o,n,h1,_⟩,_⟩:=I.list h
 exact Heap.lt_size h1
theorem Y7 (hc:X.calm=true):Lx X (.builtin "sum") ade:=by
 intro pins s σ H xs us Q I rs z8
 obtain ⟨S,as,ts,w,sub,hr,hf,q⟩:=z8
 cases hr with
 | nil=>exact jm hf
 | @cons x t xs' ts' h1 h2 =>
  cases h2 with
  | cons h3 h4=>cases h1 <;> exact jm hf
  | nil =>
   cases h1 with
   | @lst a vs ts g1 g2 =>
    obtain ⟨l,e1,e2⟩:=Option.map_eq_some_iff.mp hf
    subst e2
    have ev:=Qv g2 e1
    subst ev
    obtain ⟨u,rfl,ru⟩:=rs.one
    cases ru
    obtain ⟨its,r,p,hz⟩:=I.list (jl sub g1)
    have hlt:=Inv.Ei I (jl sub g1)
    refine call_sum_walkG (wpAny_pyIter_list p.isList ?_)
    refine ⟨_,_,_,_,_,_,fun i=>l.getD i 0,rfl,Walks.list (A:=X.A.in1) (show X.A.in1.handled=none from I.ok.hd hc) s.heap.objs.size a (Nat.ne_of_lt hlt) its.toArray,And.intro ⟨_,Heap.get?_push_size _ rfl,rfl,rfl⟩ (PlainL.keeps p fun b o e=>Heap.get?_push_of_some _ e).isList,fun b hb=>?_,fun i v hv=>a4d r hv,fun h' tk t' hk=>?_⟩
    ·rw [Heap.size_push]
     rcases List.mem_cons.mp hb with rfl | hb -- here
     ·exact Nat.lt_succ_self _
     ·rw [List.mem_singleton.mp hb]; exact Nat.lt_succ_of_lt hlt -- here
    ·have hl:its.toArray.size=l.length:=by rw [List.size_toArray,← r.length,List.length_map]
     rw [hl,preSum_getD,List.take_length]
     exact ⟨.int l.sum,H,I.kept (h':=h') (t':=tk) fun b u e=>hk b u (by simp; exact Nat.ne_of_lt (Heap.lt_size e)) (Heap.get?_push_of_some _ e),⟨_,rfl⟩,q _ H S (Ext.refl sub) (.int _)⟩
   | _=>exact jm hf
theorem all_range (l:List Bool) (d:Bool):((List.range l.length).all fun i=>l.getD i d)=l.all id:=by
 induction l with
 | nil=>rfl
 | cons x r ih =>
  rw [List.length_cons,List.range_succ_eq_map,List.all_cons,List.all_map,List.all_cons,← ih]
  rfl
theorem any_range (l:List Bool) (d:Bool):((List.range l.length).any fun i=>l.getD i d)=l.any id:=by
 induction l with
 | nil=>rfl
 | cons x r ih =>
  rw [List.length_cons,List.range_succ_eq_map,List.any_cons,List.any_map,List.any_cons,← ih]
  rfl
theorem Di (hc:X.calm=true):Lx X (.builtin "all") a05:=by
 intro pins s σ H xs us Q I rs z8
 obtain ⟨S,as,ts,w,sub,hr,hf,q⟩:=z8
 cases hr with
 | nil=>exact jm hf
 | @cons x t xs' ts' h1 h2 =>
  cases h2 with
  | cons h3 h4=>cases h1 <;> exact jm hf
  | nil =>
   cases h1 with
   | @lst a vs ts g1 g2 =>
    obtain ⟨l,e1,e2⟩:=Option.map_eq_some_iff.mp hf
    subst e2
    have ev:=Hi g2 e1
    subst ev
    obtain ⟨u,rfl,ru⟩:=rs.one
    cases ru
    obtain ⟨its,r,p,hz⟩:=I.list (jl sub g1)
    have hlt:=Inv.Ei I (jl sub g1)
    refine call_all_walk (wpAny_pyIter_list p.isList ?_)
    refine ⟨_,_,_,_,_,_,fun i=>l.getD i true,rfl,Walks.list (A:=X.A.in1) (show X.A.in1.handled=none from I.ok.hd hc) s.heap.objs.size a (Nat.ne_of_lt hlt) its.toArray,And.intro ⟨_,Heap.get?_push_size _ rfl,rfl,rfl⟩ (PlainL.keeps p fun b o e=>Heap.get?_push_of_some _ e).isList,fun i v s Q E hv hq=>?_,fun h' tk hk=>?_⟩
    ·have e:=Qs r hv
     subst e
     exact wpAny_truthy_bool hq
    ·have hl:its.toArray.size=l.length:=by rw [List.size_toArray,← r.length,List.length_map]
     rw [hl,all_range]
     exact ⟨.bl (l.all id),H,I.kept (h':=h') (t':=tk) fun b u e=>hk b u (by simp; exact Nat.ne_of_lt (Heap.lt_size e)) (Heap.get?_push_of_some _ e),rfl,q _ H S (Ext.refl sub) (.bl _)⟩
   | _=>exact jm hf
theorem a1l (hc:X.calm=true):Lx X (.builtin "any") afh:=by
 intro pins s σ H xs us Q I rs z8
 obtain ⟨S,as,ts,w,sub,hr,hf,q⟩:=z8
 cases hr with
 | nil=>exact jm hf
 | @cons x t xs' ts' h1 h2 =>
  cases h2 with
  | cons h3 h4=>cases h1 <;> exact jm hf
  | nil =>
   cases h1 with
   | @lst a vs ts g1 g2 =>
    obtain ⟨l,e1,e2⟩:=Option.map_eq_some_iff.mp hf
    subst e2
    have ev:=Hi g2 e1
    subst ev
    obtain ⟨u,rfl,ru⟩:=rs.one
    cases ru
    obtain ⟨its,r,p,hz⟩:=I.list (jl sub g1)
    have hlt:=Inv.Ei I (jl sub g1)
    refine call_any_walk (wpAny_pyIter_list p.isList ?_)
    refine ⟨_,_,_,_,_,_,fun i=>l.getD i true,rfl,Walks.list (A:=X.A.in1) (show X.A.in1.handled=none from I.ok.hd hc) s.heap.objs.size a (Nat.ne_of_lt hlt) its.toArray,And.intro ⟨_,Heap.get?_push_size _ rfl,rfl,rfl⟩ (PlainL.keeps p fun b o e=>Heap.get?_push_of_some _ e).isList,fun i v s Q E hv hq=>?_,fun h' tk hk=>?_⟩
    ·have e:=Qs r hv
     subst e
     exact wpAny_truthy_bool hq
    ·have hl:its.toArray.size=l.length:=by rw [List.size_toArray,← r.length,List.length_map]
     rw [hl,any_range]
     exact ⟨.bl (l.any id),H,I.kept (h':=h') (t':=tk) fun b u e=>hk b u (by simp; exact Nat.ne_of_lt (Heap.lt_size e)) (Heap.get?_push_of_some _ e),rfl,q _ H S (Ext.refl sub) (.bl _)⟩
   | _=>exact jm hf
theorem M5:∀ {l:List Str} {us:List Value},Vals (l.map V.str) us→StrsAre us l
 | [],_,r=>by cases r; exact .nil
 | x::l,_,r=>by
  rw [List.map_cons] at r
  cases r with
  | cons r1 r2=>obtain ⟨t,rfl⟩:=r1; exact .cons x t (M5 r2)
theorem Oh {l:List Str} {us:List Value} (h:StrsAre us l):Vals (l.map V.str) us:=by
 induction h with
 | nil=>exact .nil
 | cons x t _ ih=>exact .cons ⟨t,rfl⟩ ih
abbrev Ej (a b:Str):Prop:=¬ b.cps.toList<a.cps.toList
theorem Lb {a b c:Str} (h1:Ej a b) (h2:Ej b c):Ej a c:=fun h=>by
 have h3:a.cps.toList≤b.cps.toList:=List.not_lt.mp h1
 have h4:b.cps.toList≤c.cps.toList:=List.not_lt.mp h2
 exact List.not_lt.mpr (List.le_trans h3 h4) h
theorem Xb {a b:Str} (h1:Ej a b) (h2:Ej b a):a=b:=by
 have h3:a.cps.toList≤b.cps.toList:=List.not_lt.mp h1
 have h4:b.cps.toList≤a.cps.toList:=List.not_lt.mp h2
 have h5:=List.le_antisymm h3 h4
 cases a; cases b
 simp at h5; subst h5; rfl
theorem Js:∀ (p:Str) (l:List Str),risingS p l=true→(p::l).Pairwise Ej
 | p,[],_=>by simp
 | p,x::r,h=>by
  rw [risingS,Bool.and_eq_true] at h
  have ih:=Js x r h.2
  have hx:Ej p x:=fun z=>by
   have:=h.1
   rw [ltCps_eq,decide_eq_true z] at this
   cases this
  refine List.pairwise_cons.mpr ⟨fun y hy=>?_,ih⟩
  rcases List.mem_cons.mp hy with rfl | hy -- here
  ·exact hx
  ·exact Lb hx (List.rel_of_pairwise_cons ih hy)
theorem Sv (l:List Str) (h:sortedS l=true):l.Pairwise Ej:=by
 cases l with
 | nil=>exact .nil
 | cons x r=>exact Js x r h
theorem Jz (x:Str):∀ l,(Xy x l).Perm (x::l)
 | []=>.refl _
 | y::r=>by
  rw [Xy]
  split
  ·exact .refl _
  ·exact ((Jz x r).cons y).trans (.swap x y r)
theorem Qn (x:Str):∀ l:List Str,l.Pairwise Ej→(Xy x l).Pairwise Ej
 | [],_=>by simp [Xy]
 | y::r,h=>by
  rw [Xy]
  split
  ·rename_i hx
   have hx:=of_decide_eq_true hx
   have hxy:Ej x y:=fun z=>List.lt_irrefl _ (List.lt_trans hx z)
   refine List.pairwise_cons.mpr ⟨fun z hz=>?_,h⟩
   rcases List.mem_cons.mp hz with rfl | hz -- here
   ·exact hxy
   ·exact Lb hxy (List.rel_of_pairwise_cons h hz)
  ·rename_i hx
   have hx:Ej y x:=fun z=>hx (decide_eq_true z)
   refine List.pairwise_cons.mpr ⟨fun z hz=>?_,Qn x r (List.pairwise_cons.mp h).2⟩
   rcases List.mem_cons.mp ((Jz x r).mem_iff.mp hz) with rfl | hz
   ·exact hx
   ·exact List.rel_of_pairwise_cons h hz
theorem Hz:∀ (l acc:List Str),acc.Pairwise Ej→(l.foldl (fun acc x=>Xy x acc) acc).Pairwise Ej∧(l.foldl (fun acc x=>Xy x acc) acc).Perm (l++acc)
 | [],acc,h=>⟨h,.refl _⟩
 | x::l,acc,h=>by
  obtain ⟨h1,h2⟩:=Hz l (Xy x acc) (Qn x acc h)
  exact ⟨h1,h2.trans (((Jz x acc).append_left l).trans (List.perm_middle))⟩
theorem Xi (l:List Str):(Bt l).Pairwise Ej:=(Hz l [] .nil).1
theorem Hf (l:List Str):(Bt l).Perm l:=by
 have:=(Hz l [] .nil).2
 rwa [List.append_nil] at this
theorem Vf {l l':List Str} (h1:sortedS l'=true) (h2:l'.Perm l):l'=Bt l :=
 List.Perm.eq_of_pairwise (le:=Ej) (fun _ _ _ _=>Xb) (Sv l' h1) (Xi l) (h2.trans (Hf l).symm)
theorem Jt {K:PySem.W.Frag} {S:Hp} {as:List Addr}:∀ l:List Str,ug K S as (l.map V.str) (l.map T.str)
 | []=>.nil
 | x::l=>.cons (.str x) (Jt l)
theorem Wq {pins:List (Addr × Obj)} {σ:L2.St} {H S:Hp} {s:Shared} {as:List Addr} {a:Addr} {l:List Str} {Q:VK} (I:L2.Inv X pins σ H s) (sub:Same S H) (g1:SqL X.K H a (l.map V.str)) (h64:l.length<64)
  (q:∀ v H' S',Ext S H S' H'→Rep X.K S' as v (.lst ((Bt l).map .str))→Q v H'):wpAny (model X.prog X.w) X.A (call (.builtin "sorted") [.ref a]) (EP X pins σ Q) X.xe s:=by
 obtain ⟨its,r,p,hz⟩:=I.list g1
 refine sorted_strs p.isList (M5 r) (by rw [← r.length,List.length_map]; exact h64) fun out ss' a1 a2 a3=>?_
 have es:=Vf a3 a2
 subst es
 obtain ⟨e,he⟩:=sortedAll_at s.heap its out
 have hl:(List.map V.str (Bt l)).length≤sizeLine:=by
  rw [List.length_map,(Hf l).length_eq]
  exact Nat.le_trans (Nat.le_of_lt h64) (by rw [sizeLine_eq]; decide)
 have hn:H (s.heap.objs.size+1)=none:=I.hok.fresh (Nat.le_succ _)
 have x:=Ext.laid sub hn (.lst ((Bt l).map V.str))
 refine ⟨.ref (s.heap.objs.size+1),_,I.laid (a:=s.heap.objs.size+1) (o:=.lst ((Bt l).map V.str)) (h':=sortedAll s.heap its out) (t':=s.toks) (fun _ _=>sortedAll_old) (Nat.le_succ _) ⟨hl,out.toList,e,Oh a1,he⟩,rfl,q _ _ _ x (.lst (SqL.of j8) (Jt _))⟩
theorem Np:Df X (.builtin "sorted") (fun xs H Q=>∃ S as ts l,Same S H∧ug X.K S as xs [.lst ts]∧ts.length<64∧Ky ts=some l∧∀ v H' S',Ext S H S' H'→Rep X.K S' as v (.lst ((Bt l).map .str))→Q v H'):=by
 intro pins s σ H xs us Q I rs z8
 obtain ⟨S,as,ts,l,sub,hr,h64,e1,q⟩:=z8
 cases hr with
 | cons h1 h2 =>
  cases h2
  cases h1 with
  | @lst a vs _ g1 g2 =>
   have ev:=Qg g2 e1
   subst ev
   obtain ⟨u,rfl,ru⟩:=rs.one
   cases ru
   have hl:=g2.length
   rw [List.length_map] at hl
   exact Wq I sub (jl sub g1) (by (clear rs g2 g1 q e1 sub I; omega)) q
def tyOf:T→Option Value
 | .non=>some (.type "NoneType")
 | .bl _=>some (.type "bool")
 | .int _=>some (.type "int")
 | .str _=>some (.type "str")
 | .tup _=>some (.type "tuple")
 | .lst _=>some (.type "list")
 | .dic _=>some (.type "dict")
 | .obj _=>none
theorem aax {pins:List (Addr × Obj)} {σ:L2.St} {H S:Hp} {s:Shared} {as:List Addr} {x:V} {u c:Value} {t:T} {ty:Value} {b:Bool} {Q:Value→Shared→Prop} {E:Value→Shared→Prop} (I:L2.Inv X pins σ H s) (sub:Same S H) (rx:RelV x u) (r:Rep X.K S as x t) (hty:tyOf t=some ty)
  (e:PySem.W.kitOne X.K ty c=some b) (h:∀ tk,Q (.bool b) { s with toks:=tk }):wpAny (model X.prog X.w) X.A (call (.builtin "isinstance") [u,c]) Q E s:=by
 cases r with
 | non=>cases hty; exact Ga I rx .non e h
 | bl y=>cases hty; exact Ga I rx (.bl y) e h
 | int y=>cases hty; exact Ga I rx (.int y) e h
 | str y=>cases hty; exact Ga I rx (.str y) e h
 | @tup a vs ts g1 g2 =>
  cases hty
  cases (show u=Value.ref a from rx)
  obtain ⟨its,_,⟨o,h1,h2,_⟩,_⟩:=I.tuple (ou sub g1)
  exact PySem.W.kia_one PySem.W.kitx_tuple I.kIn ⟨o,h1,h2⟩ e (fun z=>nomatch z) h
 | @lst a vs ts g1 g2 =>
  cases hty
  cases (show u=Value.ref a from rx)
  obtain ⟨its,_,⟨o,n,h1,h2,_⟩,_⟩:=I.list (jl sub g1)
  exact PySem.W.kia_one PySem.W.kitx_list I.kIn ⟨o,h1,h2⟩ e (fun z=>nomatch z) h
 | @dic a kvs ts g1 g2 =>
  cases hty
  cases (show u=Value.ref a from rx)
  obtain ⟨_,_,vs,_,o,es,ep,h1,h2,_⟩:=Lg I.hok (yp sub g1)
  exact PySem.W.kia_one PySem.W.kitx_dict I.kIn ⟨o,h1,h2.1⟩ e (fun z=>nomatch z) h
 | obj h=>cases hty
def aa2 (f:Value→Bool):List T→Option T
 | [t]=>(tyOf t).map fun ty=>.bl (f ty)
 | _=>none
theorem V8 {cn:String} {f:Value→Bool} {pc:Pos} (hg:Gl X "isinstance") (hm:X.mg "isinstance" = none) (hg2:Gl X (Str.ofString cn)) (hm2:X.mg (Str.ofString cn)=none) (hv:bootBuiltins (Str.ofString cn)=some (.type cn))
  (hf:∀ t ty,tyOf t=some ty→PySem.W.kitOne X.K ty (.type cn)=some (f ty)) (ha:PE X a (tOf X.K B m)) (hd:((Str.ofString cn)==("__debug__" : Str))=false) (hn:(Str.ofString cn) ≠ "__name__")
  (he:starEach [a,.Name (Str.ofString cn) pc] X.env=(false,eval a X.env)::starEach [.Name (Str.ofString cn) pc] X.env:=by rfl) (he2:starEach [.Name (Str.ofString cn) pc] X.env=(false,eval (.Name (Str.ofString cn) pc) X.env)::starEach [] X.env:=by rfl)
  (hpl:(backTo pos (starEach [.Name (Str.ofString cn) pc] X.env)).any (·.1)=false:=by rfl) :
  PE X (.Call (.Name "isinstance" p) [a,.Name (Str.ofString cn) pc] [] pos) (tOf X.K B (gk (aa2 f) (ao m dw))):=by
 have hc:Df X (.builtin "isinstance") (fun xs H Q=>∃ S as x t ty,xs=[x,.ty cn]∧Same S H∧Rep X.K S as x t∧tyOf t=some ty∧Q (.bl (f ty)) H):=by
  intro pins s σ H xs us Q I rs z8
  obtain ⟨S,as,x,t,ty,ex,sub,r,hty,q⟩:=z8
  subst ex
  obtain ⟨u,w,rfl,r1,r2⟩:=rs.two
  cases r2
  exact aax I sub r1 r hty (hf t ty hty) fun tk=>⟨.bl (f ty),H,I.tok _,rfl,q⟩
 have hnm:PE X (.Name (Str.ofString cn) pc) (tC (.ty cn)):=a8f hg2 hm2 hv rfl hn hd
 refine (jr hc hg hm PyProof.Rows.boot_isinstance (nu ha (nu hnm ux he2) he) (by decide) (by decide) he hpl).imp fun σ H Q z0=>?_
 obtain ⟨st,ps,S,as,R,t,st',e,q⟩:=z0
 obtain ⟨ts,e1,e2⟩:=Bx e
 obtain ⟨t1,s1,us,ea,en,rfl⟩:=Br e1
 cases en
 simp only [aa2] at e2
 obtain ⟨ty,e3,e4⟩:=Option.map_eq_some_iff.mp e2
 subst e4
 exact ⟨st,ps,S,as,R,t1,_,ea,fun v H1 S1 as1 R1=>⟨S1,as1,v,t1,ty,rfl,R1.sub,R1.top,e3,q _ H1 S1 as1 (R1.drop.push (.bl _))⟩⟩
example (K:PySem.W.Frag):PySem.W.kitOne K (.type "bool") (.type "int")=some true:=by rfl
example (K:PySem.W.Frag):PySem.W.kitOne K (.type "str") (.type "int")=some false:=by rfl
end
theorem Rj (l b:Addr) (xs0 ys0:Array Value) (n n2:Nat) (dd2:Option Addr) (sl2:Array (Option Value)) (hs0:¬(!xs0.isEmpty&&Builtin.List.listTooLong (xs0.size+ys0.size))=true) (hs1:xs0.size≤sizeLine) (hs2:xs0.size+ys0.size≤sizeLine+1) :
  Meets (Builtin.«list.extend» ⟨[.ref l,.ref b],[]⟩) (fun _ R s=>s.heap.get? l=some { cls:=.type "list",dict:=none,data:=.seq xs0 n,slots:=#[] }∧s.heap.get? b=some { cls:=.type "list",dict:=dd2,data:=.seq ys0 n2,slots:=sl2 }∧R (.ok (.ret Value.none)) { s with heap:=s.heap.update l (Obj.mapSeq fun x=>x++ys0),toks:=s.toks }) :=
 .of_wp fun pr wd Ar R z h=>by
  obtain ⟨hp,gs,dr,tk,os⟩:=z; obtain ⟨hl,hb,h⟩:=h; have f1:=AutoSeq1.idx_int; have f2:=AutoSeq1.sub_tuple_tuple; have f3:=AutoSeq1.sub_list_list; have f4:=AutoSeq1.sub_tuple_list; have f5:=AutoSeq1.sub_list_tuple
  have hz':(xs0++ys0).size≤sizeLine+1:=by rw [Array.size_append]; exact hs2
  wp_walk using (wpAny_updateSeq hl rfl (hz:=hs1) (_hz':=hz')),AutoSeq1.wpAny_loadPart' hl,AutoSeq1.wpAny_loadPart' hb; exact ⟨_,rfl,h⟩
theorem Og (l b:Addr) (xs0 ys0:Array Value) (n n2:Nat) (dd2:Option Addr) (sl2:Array (Option Value)) (hs0:¬(!xs0.isEmpty&&Builtin.List.listTooLong (xs0.size+ys0.size))=true) (hs1:xs0.size≤sizeLine) (hs2:xs0.size+ys0.size≤sizeLine+1) :
  Meets (Builtin.«list.extend» ⟨[.ref l,.ref b],[]⟩) (fun _ R s=>s.heap.get? l=some { cls:=.type "list",dict:=none,data:=.seq xs0 n,slots:=#[] }∧s.heap.get? b=some { cls:=.type "tuple",dict:=dd2,data:=.seq ys0 n2,slots:=sl2 }∧R (.ok (.ret Value.none)) { s with heap:=s.heap.update l (Obj.mapSeq fun x=>x++ys0),toks:=s.toks }) :=
 .of_wp fun pr wd Ar R z h=>by
  obtain ⟨hp,gs,dr,tk,os⟩:=z; obtain ⟨hl,hb,h⟩:=h; have f1:=AutoSeq1.idx_int; have f2:=AutoSeq1.sub_tuple_tuple; have f3:=AutoSeq1.sub_list_list; have f4:=AutoSeq1.sub_tuple_list; have f5:=AutoSeq1.sub_list_tuple
  have hz':(xs0++ys0).size≤sizeLine+1:=by rw [Array.size_append]; exact hs2
  wp_walk using (wpAny_updateSeq hl rfl (hz:=hs1) (_hz':=hz')),AutoSeq1.wpAny_loadPart' hl,AutoSeq1.wpAny_loadPart' hb; exact ⟨_,rfl,h⟩
section
variable {X:Cx} {B:Bas} {m:M T}
def V7 (K:PySem.W.Frag):V→List V→Hp→VK→Prop:=fun x vs H Q=>∃ l b xs zs,x=.ref l∧vs=[.ref b]∧H l=some (.lst xs)∧(SqL K H b zs∨SqT K H b zs)∧xs.length+zs.length≤sizeLine∧Q .non (upd H l (.lst (xs++zs)))
theorem Hw:MtM X "list.extend" (V7 X.K):=by
 intro pins s σ H x vs v us Q I rx rv h
 obtain ⟨l,b,xs,zs,rfl,rfl,hH,hB,hz,q⟩:=h
 cases rx
 obtain ⟨u,rfl,ru⟩:=rv.one
 cases ru
 obtain ⟨z,its,n,r,hl,e⟩:=I.ae8 hH
 have fin:∀ its2:List Value,Vals zs its2→L2.Inv X pins σ (upd H l (.lst (xs++zs))) { s with heap:=s.heap.update l (Obj.mapSeq fun x=>x++its2.toArray),toks:=s.toks }:=fun its2 r2 =>
  I.aes (its':=its++its2) hH e (by simp) (r.append r2) (by rw [List.length_append]; exact hz)
 have hlong:∀ its2:List Value,Vals zs its2→¬ (!its.toArray.isEmpty&&Builtin.List.listTooLong (its.toArray.size+its2.toArray.size))=true:=fun its2 r2=>by
  have hsz:its.toArray.size+its2.toArray.size≤sizeLine:=by rw [List.size_toArray,List.size_toArray,← hl,← r2.length]; exact hz
  rw [a5d hsz,Bool.and_false]
  exact Bool.false_ne_true
 rcases hB with hB | hB
 ·obtain ⟨its2,r2,⟨⟨cls2,dd2,data2,sl2⟩,n2,ho2,hc2,hd02,hd2⟩,_⟩:=I.list hB
  simp only at hc2 hd2
  subst hc2 hd2
  refine call_meets F.slot_list_extend ⟨_,e,rfl⟩ F.entry_list_extend (F.args_list_extend_2 _ _)
   (Rj l b its.toArray its2.toArray n n2 dd2 sl2 (hlong its2 r2) (by rw [List.size_toArray,← hl]; (clear hd02 ho2 r2 hB hlong fin e hl r rv q hz hH I; omega)) (by rw [List.size_toArray,List.size_toArray,← hl,← r2.length]; (clear hd02 ho2 r2 hB hlong fin e hl r z rv q hH I; omega))) ⟨e,ho2,?_⟩
  exact ⟨.non,_,fin its2 r2,rfl,q⟩
 ·obtain ⟨its2,r2,⟨⟨cls2,dd2,data2,sl2⟩,ho2,hc2,n2,hd2⟩,_⟩:=I.tuple hB
  simp only at hc2 hd2
  subst hc2 hd2
  refine call_meets F.slot_list_extend ⟨_,e,rfl⟩ F.entry_list_extend (F.args_list_extend_2 _ _)
   (Og l b its.toArray its2.toArray n n2 dd2 sl2 (hlong its2 r2) (by rw [List.size_toArray,← hl]; (clear ho2 r2 hB hlong fin e hl r rv q hz hH I; omega)) (by rw [List.size_toArray,List.size_toArray,← hl,← r2.length]; (clear ho2 r2 hB hlong fin e hl r z rv q hH I; omega))) ⟨e,ho2,?_⟩
  exact ⟨.non,_,fin its2 r2,rfl,q⟩
theorem K9 (i:Nat) {st:Stmt} (h:PS X st (a8y (tBM X.K "list" (V7 X.K) (a2r i) (Ju (tOf X.K B m) a82)))):PS X st (sOf X.K B (yu i m)):=h.imp fun D σ H z9=>by
 obtain ⟨st,ps,S,as,R,fl,st',e,q⟩:=z9
 obtain ⟨hd,t,s1,xs,ys,e1,ey,e2,hl,rfl,rfl⟩:=Ua e
 obtain ⟨xs0,f0,e0⟩:=Kz hd
 obtain ⟨p0,vs0,s0,q0,_⟩:=R.listAt e0
 refine ⟨_,s0,.inl ⟨rfl,_,q0⟩,st,ps,S,as,R,t,s1,e1,fun v H1 S1 as1 R1=>?_⟩
 obtain ⟨w,h1,_,h3⟩:=R1.slots i _ true e2
 rw [s0] at h1; cases h1
 obtain ⟨p',ep,ow⟩:=h3 rfl
 cases ep
 obtain ⟨vs,hH,h4⟩:=ow.own
 have top:=R1.top
 cases top with
 | @tup b zs _ g1 g2 =>
  cases ey
  exact ⟨p0,b,vs,zs,rfl,rfl,hH,.inr (ou R1.sub g1),by rw [h4.length,g2.length]; exact Nat.le_trans (Nat.le_of_lt hl) um,q _ _ S1 as1 (R1.drop.turn e2 s0 ⟨_,j8,h4.append g2⟩)⟩
 | @lst b zs _ g1 g2 =>
  cases ey
  exact ⟨p0,b,vs,zs,rfl,rfl,hH,.inl (jl R1.sub g1),by rw [h4.length,g2.length]; exact Nat.le_trans (Nat.le_of_lt hl) um,q _ _ S1 as1 (R1.drop.turn e2 s0 ⟨_,j8,h4.append g2⟩)⟩
 | _=>exact jm ey
end
def PN (X:Cx) (e:Expr) (N:L2.St→V→Prop):Prop:=PE X e (fun σ H Q=>∃ v,N σ v∧Q v H)
def MN (K:PySem.W.Frag) (m:M T) (N:L2.St→V→Prop):Prop:=∀ (B:Bas) (st:Sta) (σ:L2.St) (H:Hp) (ps:List (V × T)) (S:Hp) (as:List Addr) (t:T) (st':Sta),Rel K B st σ H ps S as→m st=some (t,st')→st'=st∧∃ v,N σ v∧Rep K S as v t
structure PM (X:Cx) (e:Expr) (m:M T) (N:L2.St→V→Prop):Prop where
 p:PN X e N
 m:MN X.K m N
section
variable {X:Cx} {B:Bas} {a b e e1 e2:Expr} {m m1 m2:M T} {N N1 N2:L2.St→V→Prop} {pos p:Pos}
end
inductive a81:List Expr→List Str→Prop where
 | nil:a81 [] []
 | cons {x:Str} {k:Nat} {q:Pos} {es:List Expr} {xs:List Str}:a81 es xs→a81 (.Constant (.str x) k q::es) (x::xs)
section
variable {X:Cx} {B:Bas} {a b c e o k:Expr} {m m1 m2:M T} {pos p p2:Pos}
theorem a5o (l:List T):isTup l=aa2 (fun ty=>ty == .type "tuple") l:=by
 match l with
 | []=>rfl
 | [t]=>cases t <;> rfl
 | x::y::r=>cases x <;> rfl
theorem a5k (l:List T):isInt l=aa2 (fun ty=>ty == .type "int" || ty == .type "bool") l:=by
 match l with
 | []=>rfl
 | [t]=>cases t <;> rfl
 | x::y::r=>cases x <;> rfl
theorem a7d (l:List T):aa6 l=aa2 (fun ty=>ty == .type "bool") l:=by
 match l with
 | []=>rfl
 | [t]=>cases t <;> rfl
 | x::y::r=>cases x <;> rfl
theorem a3e (l:List T):isStr l=aa2 (fun ty=>ty == .type "str") l:=by
 match l with
 | []=>rfl
 | [t]=>cases t <;> rfl
 | x::y::r=>cases x <;> rfl
theorem a1a:bootBuiltins "int" = some (.type "int"):=by decide +kernel
theorem Xk:bootBuiltins "bool" = some (.type "bool"):=by decide +kernel
theorem a1n:bootBuiltins "str" = some (.type "str"):=by decide +kernel
theorem Ik {pc:Pos} (hg:Gl X "isinstance") (hm:X.mg "isinstance" = none) (hg2:Gl X "tuple") (hm2:X.mg "tuple" = none) (ha:PE X a (tOf X.K B m)) (he:starEach [a,.Name "tuple" pc] X.env=(false,eval a X.env)::starEach [.Name "tuple" pc] X.env:=by rfl) :
  PE X (.Call (.Name "isinstance" p) [a,.Name "tuple" pc] [] pos) (tOf X.K B (gk isTup (ao m dw))):=by
 rw [show isTup=_ from funext a5o]
 exact V8 (cn := "tuple") hg hm hg2 hm2 boot_tuple (fun t ty h=>by cases t <;> cases h <;> rfl) ha (by decide) (by decide) he
theorem Ws {pc:Pos} (hg:Gl X "isinstance") (hm:X.mg "isinstance" = none) (hg2:Gl X "int") (hm2:X.mg "int" = none) (ha:PE X a (tOf X.K B m)) (he:starEach [a,.Name "int" pc] X.env=(false,eval a X.env)::starEach [.Name "int" pc] X.env:=by rfl) :
  PE X (.Call (.Name "isinstance" p) [a,.Name "int" pc] [] pos) (tOf X.K B (gk isInt (ao m dw))):=by
 rw [show isInt=_ from funext a5k]
 exact V8 (cn := "int") hg hm hg2 hm2 a1a (fun t ty h=>by cases t <;> cases h <;> rfl) ha (by decide) (by decide) he
theorem Kp {pc:Pos} (hg:Gl X "isinstance") (hm:X.mg "isinstance" = none) (hg2:Gl X "bool") (hm2:X.mg "bool" = none) (ha:PE X a (tOf X.K B m)) (he:starEach [a,.Name "bool" pc] X.env=(false,eval a X.env)::starEach [.Name "bool" pc] X.env:=by rfl) :
  PE X (.Call (.Name "isinstance" p) [a,.Name "bool" pc] [] pos) (tOf X.K B (gk aa6 (ao m dw))):=by
 rw [show aa6=_ from funext a7d]
 exact V8 (cn := "bool") hg hm hg2 hm2 Xk (fun t ty h=>by cases t <;> cases h <;> rfl) ha (by decide) (by decide) he
theorem Qc (i:Nat) (hm:X.mg "len" = none) {es:Expr} (hg:Gl X "len") (h:PE X es (a2r i)) (he:starEach [es] X.env=(false,eval es X.env)::starEach [] X.env:=by rfl) (hpl:(backTo pos (starEach [] X.env)).any (·.1)=false:=by rfl) :
  PE X (.Call (.Name "len" p) [es] [] pos) (tOf X.K B (Ck i)):=by
 have hc:Df X (.builtin "len") (fun xs H Q=>∃ q,xs=[.ref q]∧((∃ ys,SqL X.K H q ys∧Q (.int ys.length) H)∨(∃ kvs,Rd H q (.dK kvs)∧Q (.int kvs.length) H))):=by
  intro pins s σ H xs us Q I rs z8
  obtain ⟨q,ex,h⟩:=z8
  rcases h with ⟨ys,h1,h2⟩ | ⟨kvs,h1,h2⟩
  ·exact Dj pins s σ H xs us Q I rs ⟨q,ys,ex,.inl h1,h2⟩
  ·subst ex
   obtain ⟨u,rfl,ru⟩:=rs.one
   cases ru
   exact acg I h1 fun t s' I'=>⟨.int kvs.length,H,I',⟨t,rfl⟩,h2⟩
 refine (jr hc hg hm PySem.boot_len (nu h ux he) (by decide) (by decide) he hpl).imp fun σ H Q z0=>?_
 obtain ⟨st,ps,S,as,R,t,st',e,q⟩:=z0
 obtain ⟨rfl,h⟩:=Tf e
 rcases h with ⟨xs,f,e1,rfl⟩ | ⟨xs,f,e1,rfl⟩
 ·obtain ⟨p0,vs,s0,h1,h2⟩:=R.listAt e1
  exact ⟨_,s0,p0,rfl,.inl ⟨vs,h1,by rw [h2.length]; exact q _ H S as (R.push (.int _))⟩⟩
 ·obtain ⟨p0,vs,s0,h1,h2⟩:=R.dictAt e1
  exact ⟨_,s0,p0,rfl,.inr ⟨vs,h1,by rw [h2.length]; exact q _ H S as (R.push (.int _))⟩⟩
end
end C
end
section
namespace C
open PySem
mutual
theorem Aq:∀ (t:T) {d:PyData},dat t=some d→d.canLay0=true
 | .non,_,h=>by simp only [dat] at h; cases h; simp only [PyData.canLay0]
 | .bl b,_,h=>by simp only [dat] at h; cases h; simp only [PyData.canLay0]
 | .int i,_,h=>by simp only [dat] at h; cases h; simp only [PyData.canLay0]
 | .str x,_,h=>by
  simp only [dat] at h
  split at h
  ·rename_i hx; cases h; exact hx
  ·cases h
 | .tup xs,_,h=>by
  simp only [dat] at h
  obtain ⟨l,e1,e2⟩:=Option.map_eq_some_iff.mp h
  subst e2
  simp only [PyData.canLay0]
  exact N6 xs e1
 | .lst xs,_,h=>by
  simp only [dat] at h
  obtain ⟨l,e1,e2⟩:=Option.map_eq_some_iff.mp h
  subst e2
  simp only [PyData.canLay0]
  exact N6 xs e1
 | .dic _,_,h=>by simp only [dat] at h; cases h
 | .obj _,_,h=>by simp only [dat] at h; cases h
theorem N6:∀ (ts:List T) {l:List PyData},Eh ts=some l→PyData.canLayAll0 l=true
 | [],_,h=>by simp only [Eh] at h; cases h; simp only [PyData.canLayAll0]
 | x::r,_,h=>by
  simp only [Eh] at h
  split at h
  ·rename_i a ea
   obtain ⟨l,e1,e2⟩:=Option.map_eq_some_iff.mp h
   subst e2
   simp only [PyData.canLayAll0]
   rw [Aq x ea,N6 r e1]; rfl
  ·cases h
end
theorem a2o {x:T} {r:List T} {l:List PyData} (h:Eh (x::r)=some l):∃ a l',dat x=some a∧Eh r=some l'∧l=a::l':=by
 simp only [Eh] at h
 split at h
 ·rename_i a ea
  obtain ⟨l,e1,e2⟩:=Option.map_eq_some_iff.mp h
  exact ⟨a,l,ea,e1,e2.symm⟩
 ·cases h
theorem Jk {t u:T} {b:Bool} (h:eqD t u=some b):∃ x y,dat t=some x∧dat u=some y∧x.depth≤40∧b=PyData.eqv x y:=by
 unfold eqD at h
 split at h
 ·rename_i x ex
  split at h
  ·rename_i y ey
   split at h
   ·rename_i hd; cases h; exact ⟨x,y,ex,ey,hd,rfl⟩
   ·cases h
  ·cases h
 ·cases h
theorem a96 {t u:T} {b:Bool} (h:eqT t u=some b):(∃ x y,t=.dic x∧u=.dic y∧((x.length=y.length∧aa4 x y=some b)∨(x.length≠y.length∧b=false)))∨eqD t u=some b:=by
 unfold eqT at h
 split at h
 ·split at h
  ·rename_i hl; exact .inl ⟨_,_,rfl,rfl,.inl ⟨hl,h⟩⟩
  ·rename_i hl; cases h; exact .inl ⟨_,_,rfl,rfl,.inr ⟨hl,rfl⟩⟩
 ·exact .inr h
end C
end
section
namespace C
open PySem PySem.Spec PyProof.Rows L2
section
variable {X:Cx} {pins:List (Addr × Obj)} {σ:L2.St} {H S:Hp} {s:Shared} {as:List Addr}
theorem a0q (I:L2.Inv X pins σ H s) (sub:Same S H):(∀ {v:V} {t:T},Rep X.K S as v t→∀ {d:PyData} {u:Value},dat t=some d→RelV v u→∃ bs,Reads s.heap u d bs)∧∀ {vs:List V} {ts:List T},ug X.K S as vs ts→∀ {ds:List PyData} {us:List Value},Eh ts=some ds→Vals vs us→∃ bs,ReadsAll s.heap us ds bs:=by
 have tp:∀ {a:Addr} {vs:List V} {ts:List T},SqT X.K S a vs→ug X.K S as vs ts→(∀ {ds:List PyData} {us:List Value},Eh ts=some ds→Vals vs us→∃ bs,ReadsAll s.heap us ds bs)→∀ {d:PyData} {u:Value},dat (.tup ts)=some d→RelV (.ref a) u→∃ bs,Reads s.heap u d bs:=by
  intro a vs ts h _ q d u e r
  simp only [dat] at e
  obtain ⟨l,e1,e2⟩:=Option.map_eq_some_iff.mp e
  subst e2
  cases r
  obtain ⟨its,rv,⟨o,h1,h2,n,h3⟩,_⟩:=I.tuple (ou sub h)
  obtain ⟨bs,rb⟩:=q e1 rv
  exact ⟨_,.tuple h1 h2 h3 rb⟩
 have ls:∀ {a:Addr} {vs:List V} {ts:List T},SqL X.K S a vs→ug X.K S as vs ts→(∀ {ds:List PyData} {us:List Value},Eh ts=some ds→Vals vs us→∃ bs,ReadsAll s.heap us ds bs)→∀ {d:PyData} {u:Value},dat (.lst ts)=some d→RelV (.ref a) u→∃ bs,Reads s.heap u d bs:=by
  intro a vs ts h _ q d u e r
  simp only [dat] at e
  obtain ⟨l,e1,e2⟩:=Option.map_eq_some_iff.mp e
  subst e2
  cases r
  obtain ⟨its,rv,⟨o,n,h1,h2,_,h3⟩,_⟩:=I.list (jl sub h)
  obtain ⟨bs,rb⟩:=q e1 rv
  exact ⟨_,.list h1 h2 h3 rb⟩
 have st:∀ (x:Str) {d:PyData} {u:Value},dat (.str x)=some d→RelV (.str x) u→∃ bs,Reads s.heap u d bs:=by
  intro x d u e r
  simp only [dat] at e
  split at e
  ·cases e; obtain ⟨t,rfl⟩:=r; exact ⟨_,.str x t⟩
  ·cases e
 have cn:∀ {v:V} {t:T} {vs:List V} {ts:List T},Rep X.K S as v t→ug X.K S as vs ts→(∀ {d:PyData} {u:Value},dat t=some d→RelV v u→∃ bs,Reads s.heap u d bs)→(∀ {ds:List PyData} {us:List Value},Eh ts=some ds→Vals vs us→∃ bs,ReadsAll s.heap us ds bs)→∀ {ds:List PyData} {us:List Value},Eh (t::ts)=some ds→Vals (v::vs) us→∃ bs,ReadsAll s.heap us ds bs:=by
  intro v t vs ts _ _ h q ds us e r
  obtain ⟨a,l,e1,e2,e3⟩:=a2o e
  subst e3
  cases r with
  | cons r1 r2 =>
   obtain ⟨b1,x1⟩:=h e1 r1
   obtain ⟨b2,x2⟩:=q e2 r2
   exact ⟨_,.cons x1 x2⟩
 have nl:∀ {ds:List PyData} {us:List Value},Eh []=some ds→Vals [] us→∃ bs,ReadsAll s.heap us ds bs:=by
  intro ds us e r; simp only [Eh] at e; cases e; cases r; exact ⟨_,.nil⟩
 have no:∀ {d:PyData} {u:Value},dat .non=some d→RelV .non u→∃ bs,Reads s.heap u d bs:=by
  intro d u e r; simp only [dat] at e; cases e; cases r; exact ⟨_,.none⟩
 have bo:∀ (b:Bool) {d:PyData} {u:Value},dat (.bl b)=some d→RelV (.bl b) u→∃ bs,Reads s.heap u d bs:=by
  intro b d u e r; simp only [dat] at e; cases e; cases r; exact ⟨_,.bool b⟩
 have it:∀ (i:Int) {d:PyData} {u:Value},dat (.int i)=some d→RelV (.int i) u→∃ bs,Reads s.heap u d bs:=by
  intro i d u e r; simp only [dat] at e; cases e; obtain ⟨t,rfl⟩:=r; exact ⟨_,.int i t⟩
 have di:∀ {a:Addr} {ts:List (L2.Key × T)} {d:PyData} {u:Value},dat (.dic ts)=some d→RelV (.ref a) u→∃ bs,Reads s.heap u d bs:=by
  intro a ts d u e; simp only [dat] at e; cases e
 have ob:∀ {a:Addr} {n:Nat} {d:PyData} {u:Value},dat (.obj n)=some d→RelV (.ref a) u→∃ bs,Reads s.heap u d bs:=by
  intro a n d u e; simp only [dat] at e; cases e
 exact ⟨fun h=>Rep.rec (motive_1:=fun v t _=>∀ {d:PyData} {u:Value},dat t=some d→RelV v u→∃ bs,Reads s.heap u d bs) (motive_2:=fun vs ts _=>∀ {ds:List PyData} {us:List Value},Eh ts=some ds→Vals vs us→∃ bs,ReadsAll s.heap us ds bs) (motive_3:=fun _ _ _=>True) no bo it st tp ls (fun _ _ _=>di) (fun _=>ob) nl cn trivial (fun _ _ _ _=>trivial) h,
  fun h=>ug.rec (motive_1:=fun v t _=>∀ {d:PyData} {u:Value},dat t=some d→RelV v u→∃ bs,Reads s.heap u d bs) (motive_2:=fun vs ts _=>∀ {ds:List PyData} {us:List Value},Eh ts=some ds→Vals vs us→∃ bs,ReadsAll s.heap us ds bs) (motive_3:=fun _ _ _=>True) no bo it st tp ls (fun _ _ _=>di) (fun _=>ob) nl cn trivial (fun _ _ _ _=>trivial) h⟩
theorem Rep.reads (I:L2.Inv X pins σ H s) (sub:Same S H) {v:V} {t:T} (h:Rep X.K S as v t) {d:PyData} {u:Value} (e:dat t=some d) (r:RelV v u):∃ bs,Reads s.heap u d bs:=(a0q I sub).1 h e r
theorem a6q (I:L2.Inv X pins σ H s) (sub:Same S H) {x y:V} {t u:T} {v w:Value} {b:Bool} {A:Around} (hx:Rep X.K S as x t) (hy:Rep X.K S as y u) (rx:RelV x v) (ry:RelV y w) (e:eqD t u=some b) (hu:A.units+40<cLine):SeqAt.EqAt A s v w b:=by
 obtain ⟨dx,dy,e1,e2,hd,rfl⟩:=Jk e
 obtain ⟨b1,x1⟩:=hx.reads I sub e1 rx
 obtain ⟨b2,x2⟩:=hy.reads I sub e2 ry
 exact SeqAt.eqAt_reads dx dy A s v w b1 b2 x1 x2 (Aq _ e1) (Aq _ e2) (by have:=Nat.min_le_left dx.depth dy.depth; (clear this x2 x1 e e2 e1 ry rx hy hx sub I; omega))
theorem a1j (I:L2.Inv X pins σ H s) (sub:Same S H) {A:Around} (hu:A.units+40<cLine) {kb:List (L2.Key × V)} {ub:List (L2.Key × T)} {wb:List (L2.Key × Value)} (rb:Ed X.K S as kb ub) (vb:KV kb wb) :
  ∀ {ka:List (L2.Key × V)} {ua:List (L2.Key × T)} {wa:List (L2.Key × Value)} {r:Bool},Ed X.K S as ka ua→KV ka wa→aa4 ua ub=some r→PySem.W.KeqHits A s wb wa r
 | _,[],_,_,h0,va,e=>by
  cases h0
  simp only [aa4] at e; cases e
  cases va
  exact .nil
 | _,(k,_)::_,_,_,h0,va,e=>by
  cases h0 with | cons h q=>?_
  simp only [aa4] at e
  cases va with
  | @cons _ p2 _ _ hp hr =>
   obtain ⟨pk,pv⟩:=p2
   obtain ⟨ek,rv⟩:=hp
   dsimp only at ek rv
   subst ek
   rcases rb.get k with ⟨z,t',a1,a2,a3⟩ | ⟨a1,a2⟩
   ·rw [a2] at e
    dsimp only at e
    have rel:=KV.val vb k
    rw [a1] at rel
    obtain ⟨w',hw,rw'⟩:=Rm.some_of rel
    split at e
    ·rename_i eb he
     obtain ⟨b',e1,e2⟩:=Option.map_eq_some_iff.mp e
     subst e2
     exact .hit hw (a6q I sub h a3 rv rw' he hu) (a1j I sub hu rb vb q hr e1)
    ·cases e
   ·rw [a2] at e
    cases e
    have rel:=KV.val vb k
    rw [a1] at rel
    exact .miss (Rm.none_of rel)
end
section
variable {X:Cx}
theorem Ph {op:CmpOp} {neg:Bool} (hop:(op=.Eq∧neg=false)∨(op=.NotEq∧neg=true)) {g:T→T→Option T} (hg:∀ t u w,g t u=some w→∃ b,eqT t u=some b∧w=.bl (xor neg b)) (hu:X.A.units+64<cLine):OpT X (compareOp op) g:=by
 intro pins s σ H x y v u Q I rx ry z8
 obtain ⟨S,as,t,t2,w,sub,ht,hu2,hf,q⟩:=z8
 obtain ⟨b,e,rfl⟩:=hg _ _ _ hf
 have fin:EP X pins σ Q (.bool (xor neg b)) s:=⟨.bl (xor neg b),H,I,rfl,q _ H S (Ext.refl sub) (.bl _)⟩
 rcases a96 e with ⟨xs,ys,rfl,rfl,hd⟩ | he
 ·cases ht with
  | @dic a kvs _ g1 g2 =>
   cases hu2 with
   | @dic a' kvs' _ k1 k2 =>
    cases rx
    cases ry
    obtain ⟨z,hs,vs,rel,dd⟩:=Lg I.hok (yp sub g1)
    obtain ⟨z',hs',vs',rel',dd'⟩:=Lg I.hok (yp sub k1)
    have l1:vs.length=xs.length:=by rw [← rel.length]; exact g2.length
    have l2:vs'.length=ys.length:=by rw [← rel'.length]; exact k2.length
    have hu1:X.A.in1.units+40<cLine:=by show X.A.units+1+40<cLine; (clear l2 l1 dd' rel' hs' z' dd rel hs z k2 k1 g2 g1 hf e hd fin q sub I hg hop; omega)
    rcases hd with ⟨hl,eb⟩ | ⟨hl,rfl⟩
    ·have hits:vs.length=vs'.length→PySem.W.KeqHits X.A.in1 s vs' vs b:=fun _=>a1j I sub hu1 k2 rel' g2 rel eb
     have el:(vs.length==vs'.length)=true:=by rw [l1,l2,hl]; exact beq_self_eq_true _
     rcases hop with ⟨rfl,rfl⟩ | ⟨rfl,rfl⟩
     ·refine PySem.W.keq_eq hs hs' dd dd' (by (clear hf fin q hg el hits eb hl hu1 l2 l1 dd' rel' hs' z' dd rel hs z k2 k1 g2 g1 e sub I; omega)) hits ?_
      rw [el]; simpa using fin
     ·refine PySem.W.keq_ne hs hs' dd dd' (by (clear hf fin q hg el hits eb hl hu1 l2 l1 dd' rel' hs' z' dd rel hs z k2 k1 g2 g1 e sub I; omega)) hits ?_
      rw [el]; simpa using fin
    ·have hits:vs.length=vs'.length→PySem.W.KeqHits X.A.in1 s vs' vs true:=fun h=>absurd (by rw [← l1,← l2]; exact h) hl
     have el:(vs.length==vs'.length)=false:=by rw [l1,l2]; exact beq_eq_false_iff_ne.mpr hl
     rcases hop with ⟨rfl,rfl⟩ | ⟨rfl,rfl⟩
     ·refine PySem.W.keq_eq hs hs' dd dd' (by (clear hf fin q hg el hits e hl hu1 l2 l1 dd' rel' hs' z' dd rel hs z k2 k1 g2 g1 sub I; omega)) hits ?_
      rw [el]; simpa using fin
     ·refine PySem.W.keq_ne hs hs' dd dd' (by (clear hf fin q hg el hits e hl hu1 l2 l1 dd' rel' hs' z' dd rel hs z k2 k1 g2 g1 sub I; omega)) hits ?_
      rw [el]; simpa using fin
 ·obtain ⟨dx,dy,e1,e2,hd,rfl⟩:=Jk he
  obtain ⟨b1,x1⟩:=ht.reads I sub e1 rx
  obtain ⟨b2,x2⟩:=hu2.reads I sub e2 ry
  have hm:X.A.units+min dx.depth dy.depth<cLine:=by have:=Nat.min_le_left dx.depth dy.depth; (clear this x2 x1 he fin q hf e e2 e1 hu2 ht sub ry rx I hg hop; omega)
  rcases hop with ⟨rfl,rfl⟩ | ⟨rfl,rfl⟩
  ·exact SeqAt.compareEq_reads x1 x2 (Aq _ e1) (Aq _ e2) hm (by simpa using fin)
  ·exact SeqAt.compareNe_reads x1 x2 (Aq _ e1) (Aq _ e2) hm (by simpa using fin)
theorem nj (hu:X.A.units+64<cLine):OpT X (compareOp .Eq) eqO:=Ph (.inl ⟨rfl,rfl⟩) (fun t u w h=>by
 unfold eqO at h
 split at h
 ·rename_i b e; cases h; exact ⟨b,e,by simp⟩
 ·cases h) hu
theorem G3 (hu:X.A.units+64<cLine):OpT X (compareOp .NotEq) neO:=Ph (.inr ⟨rfl,rfl⟩) (fun t u w h=>by
 unfold neO at h
 split at h
 ·rename_i b e; cases h; exact ⟨b,e,by simp⟩
 ·cases h) hu
open Classical in
noncomputable def a9r (h:Heap) (dx:PyData) (y:Value):Bool:=if e:∃ d bs,Reads h y d bs∧d.canLay0=true then PyData.eqv (Classical.choose e) dx else false
theorem Rv {h:Heap} {dx d:PyData} {y:Value} {bs:List Addr} (r:Reads h y d bs) (l:d.canLay0=true):a9r h dx y=PyData.eqv d dx:=by
 have e:∃ d bs,Reads h y d bs∧d.canLay0=true:=⟨d,bs,r,l⟩
 unfold a9r
 rw [dif_pos e]
 obtain ⟨bs',r',l'⟩:=Classical.choose_spec e
 rw [SeqAt.Reads.unique _ _ _ _ _ l' r' r]
theorem a6h {pins:List (Addr × Obj)} {σ:L2.St} {H S:Hp} {s:Shared} {as:List Addr} {A:Around} (I:L2.Inv X pins σ H s) (sub:Same S H) (hu:A.units+40<cLine) {x:V} {t:T} {v:Value} {dx:PyData} (hx:Rep X.K S as x t) (rx:RelV x v) (ex:dat t=some dx) :
  ∀ {vs:List V} {ts:List T} {us:List Value} {b:Bool},ug X.K S as vs ts→Vals vs us→inL t ts=some b→(∀ y∈us,SeqAt.EqAt A s y v (a9r s.heap dx y))∧us.any (a9r s.heap dx)=b
 | _,[],_,_,h0,r,e=>by cases h0; simp only [inL] at e; cases e; cases r; exact ⟨fun y h=>(nomatch h),rfl⟩
 | _,_::_,_,_,h0,r,e=>by
  cases h0 with | cons h q=>?_
  simp only [inL] at e
  cases r with
  | @cons _ u1 _ us1 r1 r2 =>
   split at e
   ·rename_i eb he
    obtain ⟨b',e1,e2⟩:=Option.map_eq_some_iff.mp e
    subst e2
    obtain ⟨i1,i2⟩:=a6h I sub hu hx rx ex q r2 e1
    obtain ⟨dy,dx',f1,f2,hd,rfl⟩:=Jk he
    rw [ex] at f2; cases f2
    obtain ⟨b1,x1⟩:=h.reads I sub f1 r1
    have hb:=Rv (dx:=dx) x1 (Aq _ f1)
    refine ⟨fun y hy=>?_,by rw [List.any_cons,i2,hb]⟩
    rcases List.mem_cons.mp hy with rfl | hy -- here
    ·rw [hb]; exact a6q I sub h hx r1 rx he hu
    ·exact i1 y hy
   ·cases e
end
def ah4 (K:PySem.W.Frag) (ar:Nat) (F:Fn):Sp:=fun vs H Q _=>∃ S as sto ts t sto',Same S H∧Iv K S as H sto∧ug K S as vs ts∧ts.length=ar∧F ts sto=some (t,sto') ∧
 ∀ p H' S' as',adq ⟨S,as,H⟩ S' as' H'→Same S' H'→Iv K S' as' H' sto'→Xa K ⟨S,as,H⟩ S' as' H' p t→Q (.ref p) H'
theorem a9u {g:G} {m:M T} {s s':Sta} {fl:Flow} (h:sGo g m s=some (fl,s')):∃ t s1,m s=some (t,s1)∧g t s1=some s'∧fl=.next:=by
 unfold sGo at h
 split at h
 ·rename_i t s1 e
  split at h
  ·rename_i s2 e2; cases h; exact ⟨t,s1,e,e2,rfl⟩
  ·cases h
 ·cases h
section
variable {X:Cx} {B:Bas} {a b c e:Expr} {m m1 m2:M T} {pos p:Pos} {u v:S} {es:List Expr} {ms:M (List T)} {k n:Nat} {f:Addr} {fd:FuncData} {pn:List Str} {F:Fn} {x:Str}
theorem a9i {g:G} {s:Stmt} (h:PS X s (a68 (tOf X.K B m) (gOf X.K B g))):PS X s (sOf X.K B (sGo g m)):=h.imp fun D σ H z9=>by
 obtain ⟨st,ps,S,as,R,fl,st',e,q⟩:=z9
 obtain ⟨t,s1,e1,e2,rfl⟩:=a9u e
 exact ⟨st,ps,S,as,R,t,s1,e1,fun v H' S' as' R'=>⟨s1,ps,S',as',t,R',st',e2,fun σ' H'' S'' as'' R''=>q σ' H'' S'' as'' R''⟩⟩
end
def Zw (P:Program) (w:World) (K:PySem.W.Frag) (mg:Str→Option Value) (base:Heap) (x:Str) (k:Nat) (ps:List Str) (F:Fn):Prop :=
 ∃ f fd,Nj P w K mg base CX0 k f fd ps (ah4 K ps.length F)∧Binds K fd ps []∧PySem.W.keepIn K (.ref f)=true∧mg x=some (.ref f)
theorem Zw.mono {P:Program} {w:World} {K:PySem.W.Frag} {mg:Str→Option Value} {base:Heap} {x:Str} {j k:Nat} {ps:List Str} {F:Fn} (d:Zw P w K mg base x j ps F) (h:j≤k):Zw P w K mg base x k ps F:=by
 obtain ⟨f,fd,h1,h2⟩:=d
 exact ⟨f,fd,h1.mono h,h2⟩
section
variable {X:Cx} {B:Bas} {a b c e:Expr} {m m1 m2:M T} {pos p:Pos} {es:List Expr} {ms:M (List T)} {n:Nat} {pn:List Str} {F:Fn} {x:Str}
end
section
variable {P:Program} {w:World} {K:PySem.W.Frag} {mg:Str→Option Value} {base:Heap}
end
section
variable {X:Cx} {B:Bas} {a b c e:Expr} {m m1 m2:M T} {pos p p2 pos2:Pos}
theorem Yk:Lx X (.builtin "abs") aey:=by
 intro pins s σ H xs us Q I rs z8
 obtain ⟨S,as,ts,w,sub,hr,hf,q⟩:=z8
 cases hr with
 | nil=>exact jm hf
 | @cons x t xs' ts' h1 h2 =>
  cases h2 with
  | cons h3 h4=>cases h1 <;> exact jm hf
  | nil =>
   cases h1 <;> first | exact jm hf | skip
   cases hf
   exact a3t pins s σ H _ us Q I rs ⟨_,rfl,q _ H S (Ext.refl sub) (.int _)⟩
def Y5:List Nat→TGs
 | []=>ag7
 | i::is=>abp (Jj i) (Y5 is)
theorem Wj {K:PySem.W.Frag} {H S:Hp} {as:List Addr} {ps:List (V × T)}:∀ (is:List Nat) {vs:List V} {xs:List T} {st:Sta} {σ:L2.St} {Q:L2.St→Hp→Prop},Rel K B st σ H ps S as→ug K S as vs xs→xs.length=is.length →
  (∀ σ',Rel K B ((is.zip xs).foldl (fun s p=>jo p.1 p.2 false s) st) σ' H ps S as→Q σ' H)→Y5 is vs σ H Q
 | [],_,_,_,_,_,R,.nil,_,q=>⟨rfl,q _ R⟩
 | i::is,_,_,_,_,_,R,.cons r rs,hl,q=>⟨_,_,rfl,Wj is (R.put (i:=i) r) rs (by simpa using hl) q⟩
 | [],_,_,_,_,_,_,.cons _ _,hl,_=>by simp at hl
 | _::_,_,_,_,_,_,_,.nil,hl,_=>by simp at hl
theorem Ag {is:List Nat} {tg:Expr} (h:PG X tg (agc X.K is.length (Y5 is))):PG X tg (gOf X.K B (Cw is)):=fun pins s σ H x u Q I r z9=>h pins s σ H x u Q I r (by
 obtain ⟨st,ps,S,as,t,R,st',e,q⟩:=z9
 have top:=R.top
 cases t with
 | tup xs =>
  cases top with
  | @tup a vs _ g1 g2 =>
   obtain ⟨hl,e⟩:=Fl e
   cases e
   exact ⟨a,vs,rfl,ou R.sub g1,by rw [g2.length]; exact hl,Wj is R.drop g2 hl fun σ' R'=>q σ' H S as R'⟩
 | _=>exact jm e)
end
end C
namespace C
open PySem PySem.Spec PyProof.Rows L2
section
variable {X:Cx} {B:Bas} {a b c e lo hi:Expr} {m m1 m2 ml mh:M T} {pos p p2:Pos}
theorem Yw {K:PySem.W.Frag} {S:Hp} {as:List Addr} {x:V} {t:T} (r:Rep K S as x t):decide (x=V.non)=a3l t:=by
 cases r <;> rfl
theorem a3r {K:PySem.W.Frag} {S:Hp} {as:List Addr} {x:V} {t:T} (r:Rep K S as x t) (h:a3l t=true):x=.non:=by
 cases r <;> first | rfl | cases h
theorem Zj:OpT X (compareOp .Is) a73:=by
 intro pins s σ H x y v u Q I rx ry z8
 obtain ⟨S,as,t,t2,w,sub,ht,hu2,hf,q⟩:=z8
 unfold a73 at hf
 split at hf
 ·rename_i hn; cases hf
  exact aad pins s σ H x y v u Q I rx ry ⟨a3r hu2 hn,by rw [Yw ht]; exact q _ H S (Ext.refl sub) (.bl _)⟩
 ·cases hf
theorem ug.take {K:PySem.W.Frag} {S:Hp} {as:List Addr}:∀ (n:Nat) {vs:List V} {ts:List T},ug K S as vs ts→ug K S as (vs.take n) (ts.take n)
 | 0,_,_,_=>.nil
 | _+1,_,_,.nil=>.nil
 | n+1,_,_,.cons h r=>.cons h (ug.take n r)
end
section
variable {X:Cx} {B:Bas} {a b c e o k:Expr} {m mo mk mv:M T} {pos p:Pos}
end
section
variable {X:Cx} {B:Bas} {pins:List (Addr × Obj)} {σ:L2.St} {H S:Hp} {s:Shared} {as:List Addr} {Q:VK}
theorem gather {R:List Value→Shared→Prop} {A:Around} {E:Value→Shared→Prop} {T:String} {r d:Addr} {n:Nat} {P:Nat→Value→Prop} {OK:Heap→Prop} (KS:PySem.W.KdlSrc X.prog X.w T r d n P OK) (nh:A.handled=none) (ok0:OK s.heap) (sz:n≤sizeLine)
  (k:∀ (h1:Heap) (tk:Nat) (got:Array Value),s.heap.objs.size<h1.objs.size→(∀ b o,s.heap.get? b=some o→h1.get? b=some o)→ItemsOf P got n→R got.toList { s with heap:=h1,toks:=tk }) :
  wpAny (model X.prog X.w) A (collect (.ref r)) R E s:=by
 have lt0:=KS.there _ ok0
 unfold collect
 refine wpAny_bind (wpAny_runValue
  (codeAny_builtin entry_proto_collect' ?_))
 rw [Around.under_plainId
  PySem.F.plain_proto_collect _]
 show wpAny _ A.in1 (newList [] >>= fun z=>again (.builtin "list.__iadd__" ⟨[z,.ref r],[]⟩)) _ _ s
 refine wpAny_bind (wpAny_newObj_type (wpAny_pure ⟨plainId_quiet PySem.F.plain_list_iadd _,codeAny_builtin entry_list_iadd' ?_⟩))
 rw [Around.under_plainId
  PySem.F.plain_list_iadd _]
 change wpAny _ A.in1 (Builtin.List.listExtendWith (.ref s.heap.objs.size) (.ref r) (.ref s.heap.objs.size)) _ _ _
 have new0:(s.heap.push { cls:=.type "list",data:=.seq ([]:List Value).toArray }).get? s.heap.objs.size=some { cls:=.type "list",data:=.seq #[] }:=Heap.get?_push_size _ rfl
 have walk:=PySem.W.kdl_extend (A:=A) (s:={ s with heap:=s.heap.push { cls:=.type "list",data:=.seq ([]:List Value).toArray } })
  (R:=fun (f:Result) (s1:Shared)=>∃ (h1:Heap) (tk:Nat) (got:Array Value) (c1:Nat),f=.ok (.ret (.ref s.heap.objs.size))∧s1 = { s with heap:=h1,toks:=tk }∧(∀ b o,s.heap.get? b=some o→h1.get? b=some o) ∧
   h1.get? s.heap.objs.size=some { cls:=.type "list",dict:=none,data:=.seq got c1,slots:=#[] }∧ItemsOf P got n)
  KS nh (KS.keep _ _ ok0 fun b _ o e=>Heap.get?_push_of_some _ e) s.heap.objs.size (Nat.ne_of_gt lt0.1) (Nat.ne_of_gt lt0.2) (.ref s.heap.objs.size) 0 new0
  (fun h1 tk got c1 old at1 its=>⟨h1,tk,got,c1,rfl,rfl,fun b o e=>old b o (Nat.ne_of_lt (Heap.lt_size e)) (Heap.get?_push_of_some _ e),at1,its⟩) sz
 have last:∀ (h1:Heap) (tk:Nat) (got:Array Value) (c1:Nat),(∀ b o,s.heap.get? b=some o→h1.get? b=some o)→h1.get? s.heap.objs.size=some { cls:=.type "list",dict:=none,data:=.seq got c1,slots:=#[] }→ItemsOf P got n →
   wpAny (model X.prog X.w) A (load s.heap.objs.size >>= fun o=>match o.data with | .seq xs _=>pure xs.toList | _=>unsupported "internal:collect") R E { s with heap:=h1,toks:=tk } :=
  fun h1 tk got c1 old at1 its=>wpAny_bind (wpAny_load at1 (wpAny_pure (k h1 tk got (Heap.lt_size at1) old its)))
 refine wpAny_mono walk (fun fin s1 x=>?_) fun e s1 x=>?_
 ·cases fin with
  | done f =>
   obtain ⟨h1,tk,got,c1,ef,rfl,old,at1,its⟩:=x
   cases ef
   exact last h1 tk got c1 old at1 its
  | again c =>
   refine ⟨x.1,codeAny_mono x.2 fun f s2 y=>?_⟩
   obtain ⟨h1,tk,got,c1,rfl,rfl,old,at1,its⟩:=y
   exact last h1 tk got c1 old at1 its
 ·obtain ⟨_,_,_,_,ef,_⟩:=x
  cases ef
theorem Zq {T:String} {r d:Addr} {n:Nat} {P:Nat→Value→Prop} {OK:Heap→Prop} {l:List Str} (KS:PySem.W.KdlSrc X.prog X.w T r d n P OK) (hc:X.calm=true) (I:L2.Inv X pins σ H s) (sub:Same S H) (hok:OK s.heap) (h64:n<64)
  (hi:∀ vs:List Value,vs.length=n→(∀ (j:Nat) (v:Value),vs[j]? = some v→P j v)→∃ l',StrsAre vs l'∧l'.Perm l)
  (q:∀ v H' S',Ext S H S' H'→Rep X.K S' as v (.lst ((Bt l).map .str))→Q v H'):wpAny (model X.prog X.w) X.A (call (.builtin "sorted") [.ref r]) (EP X pins σ Q) X.xe s:=by
 have hn:n≤sizeLine:=Nat.le_trans (Nat.le_of_lt h64) (by rw [sizeLine_eq]; decide)
 refine Calls.call_function_entry kind_sorted plain_sorted
  entry_sorted (args_sorted1 _) ?_
 unfold Builtin.«sorted»
 refine wpAny_bind (m:=checkCount "sorted" 1 1 _) (wpAny_pure (wpAny_bind ?_))
 refine (gather (A:=X.A.in1) KS (show X.A.in1.handled=none from I.ok.hd hc) hok hn fun h' tk acc hlt hk hacc=>?_)
 have hl:acc.toList.length=n:=Array.length_toList.trans hacc.1
 obtain ⟨l',hS,hp⟩:=hi acc.toList hl fun j v e=>hacc.2 j v (by rw [← Array.getElem?_toList]; exact e)
 refine wpAny_bind (wpAny_newList ?_ (hl ▸ hn))
 have hoL:(h'.push (seqObj "list" acc.toList.toArray 0)).get? h'.objs.size=some (seqObj "list" acc.toList.toArray 0):=Heap.get?_push_size _ rfl
 refine wpAny_bind (wpAny_holding (wpAny_call_entry slot_list_sort ⟨_,hoL,rfl⟩ entry_list_sort (list_sort_treeK strKind_oneLt hoL hS.keysOf (fun v₁ v₂ rest e=>keyKind_strs (by rw [← e]; exact hS)) (by rw [hl]; exact h64) fun st' a1 a2=>⟨_,rfl,?_⟩) (args_list_sort _)))
 refine wpAny_pure ⟨_,rfl,(?_:EP X pins σ Q _ _)⟩
 obtain ⟨ss',b1,b2,b3⟩:=sorted_out_str hS a1 a2
 have es:=Vf b3 (b2.trans hp)
 subst es
 have hle:=Nat.le_of_lt hlt
 obtain ⟨e,he⟩:=sortedHeap_at (out:=(arrOf st').map (·.2)) hoL
 have hsz:(List.map V.str (Bt l)).length≤sizeLine:=by
  rw [List.length_map,(Hf l).length_eq,← hp.length_eq,← hS.length,hl]
  exact hn
 have hnn:H h'.objs.size=none:=I.hok.fresh hle
 have x:=Ext.laid sub hnn (.lst ((Bt l).map V.str))
 refine ⟨.ref h'.objs.size,_,I.laid (a:=h'.objs.size) (o:=.lst ((Bt l).map V.str)) (t':=tk) (fun b u eb=>?_) hle ⟨hsz,_,e,Oh b1,he⟩,rfl,q _ _ _ x (.lst (SqL.of j8) (Jt _))⟩
 have hb:=Heap.lt_size (hk _ _ eb)
 rw [sortedHeap_old (Nat.ne_of_lt hb) (by rw [Heap.size_push]; exact Nat.lt_succ_of_lt hb)]
 exact Heap.get?_push_of_some _ (hk _ _ eb)
theorem Oi:∀ {kvs:List (L2.Key × V)} {ts:List (L2.Key × T)} {l:List Str},kvs.map (·.1)=ts.map (·.1)→Ky (ts.map fun p=>Xl p.1)=some l→kvs.map (·.1)=l.map Sum.inr
 | [],[],l,_,h=>by simp only [List.map_nil,Ky] at h; cases h; rfl
 | (k,v)::kvs,(k2,t)::ts,l,e,h=>by
  simp only [List.map_cons,List.cons.injEq] at e
  obtain ⟨e1,e2⟩:=e
  subst e1
  cases k with
  | inl i=>simp only [List.map_cons,Xl,Ky,reduceCtorEq] at h
  | inr x =>
   simp only [List.map_cons,Xl,Ky] at h
   obtain ⟨l',h1,h2⟩:=Option.map_eq_some_iff.mp h
   subst h2
   rw [List.map_cons,List.map_cons,Oi e2 h1]
theorem Ed.keys {K:PySem.W.Frag} {S:Hp} {as:List Addr}:∀ {kvs:List (L2.Key × V)} {ts:List (L2.Key × T)},Ed K S as kvs ts→kvs.map (·.1)=ts.map (·.1)
 | _,_,.nil=>rfl
 | _,_,.cons h q=>by rw [List.map_cons,List.map_cons,Ed.keys q]
theorem Ie {prog:Program} {w:World}:∀ {vs:List (L2.Key × Value)} {us:List Value} {l:List Str},vs.map (·.1)=l.map Sum.inr→us.length=vs.length→(∀ (j:Nat) (v:Value),us[j]? = some v→∃ k x,vs[j]? = some (k,x)∧(uh prog w).is k v=true)→StrsAre us l
 | [],us,l,e,hl,h=>by
  cases us with
  | cons _ _=>simp at hl
  | nil=>cases l with
   | nil=>exact .nil
   | cons _ _=>simp at e
 | (k,x)::vs,us,l,e,hl,h=>by
  cases us with
  | nil=>simp at hl
  | cons u us =>
   cases l with
   | nil=>simp at e
   | cons y l =>
    simp only [List.map_cons,List.cons.injEq] at e
    obtain ⟨e1,e2⟩:=e
    subst e1
    obtain ⟨k',x',h1,h2⟩:=h 0 u rfl
    simp only [List.getElem?_cons_zero,Option.some.injEq,Prod.mk.injEq] at h1
    obtain ⟨rfl,rfl⟩:=h1
    rw [Wo] at h2
    have hu:∃ t,u=.str y t:=by
     rcases qz h2 with ⟨i,t,e',_⟩ | ⟨z,t,e',hz⟩
     ·cases e'
     ·cases e'; exact ⟨t,hz⟩
    obtain ⟨t,rfl⟩:=hu
    exact .cons y t (Ie e2 (by simpa using hl) fun j v ev=>by simpa using h (j+1) v (by simpa using ev))
theorem Qf (hc:X.calm=true):Lx X (.builtin "sorted") Nt:=by
 intro pins s σ H xs us Q I rs z8
 obtain ⟨S,as,ts,w,sub,hr,hf,q⟩:=z8
 cases hr with
 | nil=>exact jm hf
 | @cons x t xs' ts' h1 h2 =>
  cases h2 with
  | cons h3 h4=>cases h1 <;> exact jm hf
  | nil =>
   cases h1 with
   | @lst a vs ts g1 g2 =>
    obtain ⟨h64,hf⟩:=Fl hf
    obtain ⟨l,e1,e2⟩:=Option.map_eq_some_iff.mp hf
    subst e2
    exact Np pins s σ H _ us Q I rs ⟨S,as,ts,l,sub,.cons (.lst g1 g2) .nil,h64,e1,q⟩
   | @dic a kvs ts g1 g2 =>
    obtain ⟨h64,hf⟩:=Fl hf
    obtain ⟨l,e1,e2⟩:=Option.map_eq_some_iff.mp hf
    subst e2
    obtain ⟨u,rfl,ru⟩:=rs.one
    cases ru
    obtain ⟨z,hd,vs,rel,dd⟩:=Lg I.hok (yp sub g1)
    obtain ⟨ep,hat⟩:=dd.dictAt
    have hlen:vs.length=ts.length:=by rw [← rel.length]; exact g2.length
    have hk:=Oi g2.keys e1
    rw [KV.keys rel] at hk
    exact Zq (PySem.W.kdl_dict (knd:=uh X.prog X.w) (kvs:=vs) (ep:=ep) hd) hc I sub hat (by rw [hlen]; exact h64) (fun us hl hp=>⟨l,Ie hk hl hp,.refl _⟩) q
   | _=>exact jm hf
end
section
variable {prog:Program} {w:World} {A:Around} {E:Value→Shared→Prop} {s:Shared}
end
section
variable {prog:Program} {w:World} {A:Around} {R:Result→Shared→Prop} {I:Addr} {fp wr:List Addr} {G:Array GenState→Array GenState→Prop} {n:Nat} {P:Nat→Value→Prop} {St:Nat→Shared→Prop} {κ:Type} [DecidableEq κ] {knd:PySem.KeyKind prog w κ}
end
section
variable {prog:Program} {w:World} {A:Around} {E:Value→Shared→Prop} {s:Shared} {κ:Type} [DecidableEq κ] {knd:PySem.KeyKind prog w κ}
end
section
variable {X:Cx} {pins:List (Addr × Obj)} {σ:L2.St} {H S:Hp} {s:Shared} {as:List Addr}
inductive Lf (h:Heap) (prog:Program) (w:World):List Value→List L2.Key→List Value→Prop where
 | nil:Lf h prog w [] [] []
 | cons {t:Addr} {kx wv:Value} {o:Obj} {n:Nat} {q:L2.Key} {us:List Value} {qs:List L2.Key} {ws:List Value}:h.get? t=some o→o.cls=.type "tuple" → o.data=.seq #[kx,wv] n→(uh prog w).is q kx=true →
   Lf h prog w us qs ws→Lf h prog w (.ref t::us) (q::qs) (wv::ws)
theorem Lf.len {h:Heap} {prog:Program} {w:World}:∀ {us:List Value} {qs:List L2.Key} {ws:List Value},Lf h prog w us qs ws→us.length=qs.length∧us.length=ws.length:=by
 intro us qs ws h
 induction h with
 | nil=>exact ⟨rfl,rfl⟩
 | cons _ _ _ _ _ ih=>exact ⟨congrArg (· + 1) ih.1,congrArg (· + 1) ih.2⟩
end
section
variable {X:Cx} {B:Bas} {a:Expr} {m:M T} {pos p:Pos}
end
theorem gw.zero {P:Program} {w:World} {K:PySem.W.Frag} {mg:Str→Option Value} {base:Heap} {x qual:Str} {st:Stmt} {f:Addr} {fd:FuncData} {ps:List Str} {k:Nat} (F:Fun K x qual st f fd) (h:mg x=some (.ref f)) (b:Binds K fd ps []):gw P w K mg base x k ps (fun _ _=>none):=by
 have no:∀ vs H Q E,¬ spF K ps.length (fun _ _=>none) vs H Q E:=fun vs H Q E z=>by
  obtain ⟨S,as,sto,ts,t,sto',_,_,_,_,e,_⟩:=z
  cases e
 exact ⟨f,fd,⟨fun vs H Q E z=>absurd z (no vs H Q E),fun A outer s H args us vs Q E _ _ _ _ z=>absurd z (no vs H Q E)⟩,b,F.kp,h⟩
end C
end
section
namespace C
open PySem
def vg:Nat→M Bool→S→S
 | 0,_,_=>fun _=>none
 | n+1,c,b=>fun s=>match c s with
  | some (false,s1)=>some (.next,s1)
  | some (true,s1)=>match b s1 with
   | some (.next,s2)=>vg n c b s2
   | some (.cont,s2)=>vg n c b s2
   | some (.brk,s2)=>some (.next,s2)
   | some (.ret v,s2)=>some (.ret v,s2)
   | none=>none
  | none=>none
def a4c (i j:Nat):S:=fun s=>match s.env[i]? with
 | some (some (.lst xs,true))=>match xs[xs.length - 1]? with
  | some t=>some (.next,jo j t false (jo i (.lst xs.dropLast) true s))
  | none=>none
 | _=>none
def Vv:List T→Option T
 | [.int i]=>some (.int i)
 | [.bl k]=>some (.int (if k then 1 else 0))
 | _=>none
end C
end
section
namespace C
open PySem PySem.Spec PyProof.Rows L2
theorem Xr {n:Nat} {c:M Bool} {b:S} {s s':Sta} {fl:Flow} (h:vg (n+1) c b s=some (fl,s')):(∃ s1,c s=some (false,s1)∧fl=.next∧s'=s1) ∨
  ∃ s1 fb s2,c s=some (true,s1)∧b s1=some (fb,s2)∧(match fb with | .next=>vg n c b s2=some (fl,s') | .cont=>vg n c b s2=some (fl,s') | .brk=>fl=.next∧s'=s2 | .ret v=>fl=.ret v∧s'=s2):=by
 rw [vg] at h
 dsimp only at h
 split at h
 ·rename_i s1 e1; cases h; exact .inl ⟨_,e1,rfl,rfl⟩
 ·rename_i s1 e1
  split at h
  ·rename_i s2 e2; exact .inr ⟨s1,.next,s2,e1,e2,h⟩
  ·rename_i s2 e2; exact .inr ⟨s1,.cont,s2,e1,e2,h⟩
  ·rename_i s2 e2; cases h; exact .inr ⟨s1,.brk,_,e1,e2,rfl,rfl⟩
  ·rename_i v s2 e2; cases h; exact .inr ⟨s1,.ret v,_,e1,e2,rfl,rfl⟩
  ·cases h
 ·cases h
theorem a4z {i j:Nat} {s s':Sta} {fl:Flow} (h:a4c i j s=some (fl,s')):∃ xs t,s.env[i]? = some (some (.lst xs,true))∧xs[xs.length - 1]? = some t∧fl=.next∧s'=jo j t false (jo i (.lst xs.dropLast) true s):=by
 unfold a4c at h
 split at h
 ·rename_i xs e
  split at h
  ·rename_i t e2; cases h; exact ⟨xs,t,e,e2,rfl,rfl⟩
  ·cases h
 ·cases h
theorem ug.dropLast {K:PySem.W.Frag} {S:Hp} {as:List Addr}:∀ {vs:List V} {ts:List T},ug K S as vs ts→ug K S as vs.dropLast ts.dropLast
 | _,_,.nil=>.nil
 | _,_,.cons h .nil=>.nil
 | _,_,.cons h (.cons h2 r)=>.cons h (ug.dropLast (.cons h2 r))
section
variable {X:Cx} {B:Bas} {c e:Expr} {m:M T} {pos p:Pos} {u:S} {body:List Stmt}
theorem Wd (n:Nat) {mc:M Bool} (hp:PassesOwn (model X.prog X.w) X.A X.env X.xe) (hc:PT X c (cOf X.K B mc)) (hb:PSs X body (sOf X.K B u)):PS X (.While c body [] pos) (sOf X.K B (vg n mc u)):=(a5j hp hc hb).imp fun D σ H z9=>by
 obtain ⟨st,ps,S,as,R,fl,st',e,q⟩:=z9
 refine ⟨fun k σ H=>∃ sti Si asi,Rel X.K B sti σ H ps Si asi∧vg k mc u sti=some (fl,st'),⟨n,st,S,as,R,e⟩,?_⟩
 rintro k σ2 H2 ⟨sti,Si,asi,Ri,ei⟩
 cases k with
 | zero=>rw [vg] at ei; cases ei
 | succ k =>
  rcases Xr ei with ⟨s1,e1,rfl,rfl⟩ | ⟨s1,fb,s2,e1,e2,er⟩
  ·exact ⟨sti,ps,Si,asi,Ri,false,_,e1,fun H3 S3 as3 R3=>a69 (q σ2 H3 S3 as3 R3)⟩
  ·refine ⟨sti,ps,Si,asi,Ri,true,s1,e1,fun H3 S3 as3 R3=>a6t ⟨fun σ' H'=>∃ sti Si asi,Rel X.K B sti σ' H' ps Si asi∧vg k mc u sti=some (fl,st'),fun σ' H' h=>⟨k,Nat.lt_succ_self _,h⟩,s1,ps,S3,as3,R3,fb,s2,e2,?_⟩⟩
   cases fb with
   | next=>exact fun σ' H' S' as' R'=>⟨s2,S',as',R',er⟩
   | cont=>exact fun σ' H' S' as' R'=>⟨s2,S',as',R',er⟩
   | brk =>
    obtain ⟨rfl,rfl⟩:=er
    exact fun σ' H' S' as' R'=>q σ' H' S' as' R'
   | ret v =>
    obtain ⟨rfl,rfl⟩:=er
    exact fun v σ' H' S' as' R'=>q v σ' H' S' as' R'
theorem a6y (i j:Nat) {st:Stmt} (h:PS X st (a68 (agd X.K "list" agb (a2r i)) (Jj j))):PS X st (sOf X.K B (a4c i j)):=h.imp fun D σ H z9=>by
 obtain ⟨st,ps,S,as,R,fl,st',e,q⟩:=z9
 obtain ⟨xs,t,e2,e3,rfl,rfl⟩:=a4z e
 obtain ⟨w,h1,_,h3⟩:=R.slots i _ true e2
 obtain ⟨p0,rfl,ow⟩:=h3 rfl
 obtain ⟨vs,hH,h4⟩:=ow.own
 obtain ⟨y,hy,ry⟩:=h4.get e3
 have hy':vs[vs.length - 1]? = some y:=by rw [h4.length]; exact hy
 have R2:=R.turn (ob:=.lst vs.dropLast) (t':=.lst xs.dropLast) e2 h1 ⟨_,j8,h4.dropLast⟩
 exact ⟨_,h1,.inl ⟨rfl,_,SqL.of hH⟩,p0,vs,y,rfl,rfl,hH,hy',q _ _ S as (R2.put (i:=j) ry)⟩
theorem yx:Lx X (.type "int") Vv:=by
 intro pins s σ H xs us Q I rs z8
 obtain ⟨S,as,ts,w,sub,hr,hf,q⟩:=z8
 cases hr with
 | nil=>exact jm hf
 | @cons x t xs' ts' h1 h2 =>
  cases h2 with
  | cons h3 h4=>cases h1 <;> exact jm hf
  | nil =>
   cases h1 <;> first | exact jm hf | skip
   ·cases hf
    exact Qe pins s σ H _ us Q I rs (.inr ⟨_,rfl,q _ H S (Ext.refl sub) (.int _)⟩)
   ·cases hf
    exact Qe pins s σ H _ us Q I rs (.inl ⟨_,rfl,q _ H S (Ext.refl sub) (.int _)⟩)
end
section
variable {X:Cx} {B:Bas} {e st:Expr} {te:TE} {m:M T} {pos p2 p3 p4:Pos} {j:Nat}
theorem a2m (hg:Gl X "list") (hm:X.mg "list" = none) (ha:PE X e (tOf X.K B m)) (he:starEach [e] X.env=(false,eval e X.env)::starEach [] X.env:=by rfl) (hpl:(backTo pos (starEach [] X.env)).any (·.1)=false:=by rfl) :
  PE X (.Call (.Name "list" p3) [e] [] pos) (fOf X.K B (gk Dt (ao m dw))):=by
 refine (mq Dw hg hm PyProof.Rows.boot_list (nu ha ux he) (by decide) (by decide) he hpl).imp fun σ H Q z0=>?_
 obtain ⟨st,ps,S,as,R,t,st',e,q⟩:=z0
 obtain ⟨ts,e1,e2⟩:=Bx e
 obtain ⟨t1,s1,us,ea,en,rfl⟩:=Br e1
 cases en
 refine ⟨st,ps,S,as,R,t1,_,ea,fun v H1 S1 as1 R1=>?_⟩
 have top:=R1.top
 cases top with
 | @lst a vs ts g1 g2 =>
  simp only [Dt] at e2; cases e2
  refine ⟨a,vs,rfl,.inl (jl R1.sub g1),fun p hp=>?_⟩
  obtain ⟨bD,sD,nD,no⟩:=R1.fresh hp
  exact q p _ S1 as1 (R1.drop.a5n bD sD nD (fun j w e1 e2=>no j w e1 e2)) ⟨⟨vs,j8,g2⟩,sD,nD,bD⟩ (fun j w e1 e2=>no j w e1 e2)
 | @tup a vs ts g1 g2 =>
  simp only [Dt] at e2; cases e2
  refine ⟨a,vs,rfl,.inr (ou R1.sub g1),fun p hp=>?_⟩
  obtain ⟨bD,sD,nD,no⟩:=R1.fresh hp
  exact q p _ S1 as1 (R1.drop.a5n bD sD nD (fun j w e1 e2=>no j w e1 e2)) ⟨⟨vs,j8,g2⟩,sD,nD,bD⟩ (fun j w e1 e2=>no j w e1 e2)
 | _=>simp only [Dt,reduceCtorEq] at e2
end
section
variable {X:Cx} {B:Bas} {a:Expr} {m:M T} {pos p:Pos}
end
end C
end
section
namespace C
open PySem
def a6p (xs ys:List T):List T:=(xs.zip ys).map fun p=>.tup [p.1,p.2]
def a7f (a b:M T):M (List T):=fun s=>match a s with
 | some (t,s1)=>match b s1 with
  | some (u,s2)=>match Iz t,Iz u with
   | some xs,some ys=>if xs.length<lim∧ys.length<lim then some (a6p xs ys,s2) else none
   | _,_=>none
  | none=>none
 | none=>none
def a3n (y:T):List T→Nat→Option Nat
 | [],_=>none
 | x::r,k=>match eqD x y with
  | some true=>some k
  | some false=>a3n y r (k+1)
  | none=>none
def Mq:T→T→Option T
 | .lst xs,y=>if xs.length<lim∧(dat y).isSome∧(inL y xs).isSome then (a3n y xs 0).map fun (k:Nat)=>.int (k:Int) else none
 | _,_=>none
def sIx (n d:Nat):Option Int→Nat
 | none=>d
 | some v=>if v<0 then (v+(n:Int)).toNat else min v.toNat n
def Xz (xs:List T) (lo hi:Option Int):List T:=(xs.drop (sIx xs.length 0 lo)).take (sIx xs.length xs.length hi - sIx xs.length 0 lo)
def a2p (lo hi:Option Int):T→Option T
 | .lst xs=>some (.lst (Xz xs lo hi))
 | .tup xs=>if sIx xs.length 0 lo=0∧sIx xs.length xs.length hi=xs.length then none else some (.tup (Xz xs lo hi))
 | _=>none
def Az:M (Option Int):=fun s=>some (none,s)
def wg (e:M T):M (Option Int):=fun s=>match e s with
 | some (.int i,s1)=>some (some i,s1)
 | _=>none
def qu (m:M T) (lo hi:M (Option Int)):M T:=fun s=>match m s with
 | some (t,s1)=>match lo s1 with
  | some (l,s2)=>match hi s2 with
   | some (h,s3)=>match a2p l h t with
    | some u=>some (u,s3)
    | none=>none
   | none=>none
  | none=>none
 | none=>none
def adp:T→Option T
 | .lst xs=>some (.lst xs.reverse)
 | _=>none
end C
end
section
namespace C
open PySem PySem.Sem
def Ho:Bool→Heap→Addr→Addr→Nat→Prop
 | true,h,it,a,i=>h.IsListIter it a i
 | false,h,it,a,i=>h.IsTupleIter it a i
def Bq:Bool→Heap→Addr→Array Value→Prop
 | true,h,a,xs=>h.IsList a xs
 | false,h,a,xs=>h.IsTuple a xs
theorem Ho.to {k:Bool} {h h':Heap} {it a:Addr} {i:Nat} (x:Ho k h it a i) (e:∀ o,h.get? it=some o→h'.get? it=some o):Ho k h' it a i:=by
 cases k <;> obtain ⟨o,ho,r⟩:=x <;> exact ⟨o,e o ho,r⟩
theorem Ho.obj {k:Bool} {h:Heap} {it a:Addr} {i:Nat} (x:Ho k h it a i):∃ o,h.get? it=some o∧∀ v,o.data≠.cell v:=by
 cases k <;> obtain ⟨o,ho,_,d⟩:=x <;> exact ⟨o,ho,fun v z=>by rw [d] at z; cases z⟩
theorem Bq.to {k:Bool} {h h':Heap} {a:Addr} {xs:Array Value} (x:Bq k h a xs) (e:∀ o,h.get? a=some o→h'.get? a=some o):Bq k h' a xs:=by
 cases k <;> obtain ⟨o,ho,r⟩:=x <;> exact ⟨o,e o ho,r⟩
section
variable {prog:Program} {w:World} {A:Around} {E:Value→Shared→Prop} {s:Shared}
theorem nextT {it t:Addr} {i:Nat} {xs:Array Value} {x:Value} {Q:Value→Shared→Prop} (h1:s.heap.IsTupleIter it t i) (h2:s.heap.IsTuple t xs) (h3:xs[i]? = some x)
  (q:∀ h',h'.IsTupleIter it t (i+1)→Heap.SameBut it s.heap h'→Q x { s with heap:=h' }):wpAny (model prog w) A (Builtin.SmallTypes.nextOf (.ref it)) Q E s:=by
 have ty:s.TypeIs (.ref it) "tuple_iterator" := h1.typeIs
 obtain ⟨oi,gi,ci,di⟩:=h1
 obtain ⟨ot,gt,_,m,dt⟩:=h2
 have upd:∀ (h':Heap),h'=s.heap.update it (Obj.mapFields (·.setIfInBounds 1 (rawInt ((i:Int)+1))))→h'.IsTupleIter it t (i+1):=fun h' e=>by
  subst e
  refine ⟨_,Heap.get?_update_self _ gi (Obj.isFreed_of_fields (Obj.data_mapFields di _)),(Obj.cls_mapFields ..).trans ci,?_⟩
  rw [Obj.data_mapFields di]; rfl
 unfold Builtin.SmallTypes.nextOf -- here
 refine wpAny_bind (wpAny_callSpecial?_slot (name:=Str.ofString "__next__") ty F.slot_tuple_iterator_next (wpAny_call_entry F.slot_tuple_iterator_next ty F.entry_tuple_iterator_next ?_ (F.args_tuple_iterator_next_1 _)))
 refine (show wpAny _ _ (field (.ref it) 0 >>= _) _ _ s from wpAny_bind (wpAny_field gi di (x:=.ref t) rfl ?_))
 dsimp only
 rw [if_neg (by intro z; cases z)]
 refine (show wpAny _ _ (field (.ref it) 1 >>= _) _ _ s from wpAny_bind (wpAny_field gi di (x:=.int i 0) rfl ?_))
 refine (show wpAny _ _ (seqItems? (.ref t) >>= _) _ _ s from wpAny_bind (wpAny_seqItems gt dt ?_))
 dsimp only
 rw [Int.toNat_natCast,h3]
 exact wpAny_bind (wpAny_setField gi di (by simp) (wpAny_pure ⟨x,rfl,wpAny_pure (q _ (upd _ rfl) (Heap.SameBut.update ..))⟩))
theorem a0w {it t:Addr} {i:Nat} {xs:Array Value} {Q:Value→Shared→Prop} (hh:A.handled=none) (h1:s.heap.IsTupleIter it t i) (h2:s.heap.IsTuple t xs) (h3:xs[i]? = none)
  (q:∀ h' e,Heap.ExtBut it s.heap h'→(∃ o,h'.get? e=some o∧o.cls=.type "StopIteration")→E (.ref e) { s with heap:=h' }):wpAny (model prog w) A (Builtin.SmallTypes.nextOf (.ref it)) Q E s:=by
 have ty:s.TypeIs (.ref it) "tuple_iterator" := h1.typeIs
 obtain ⟨oi,gi,ci,di⟩:=h1
 obtain ⟨ot,gt,_,m,dt⟩:=h2
 unfold Builtin.SmallTypes.nextOf -- here
 refine wpAny_bind (wpAny_callSpecial?_slot (name:=Str.ofString "__next__") ty F.slot_tuple_iterator_next (wpAny_call_entry F.slot_tuple_iterator_next ty F.entry_tuple_iterator_next ?_ (F.args_tuple_iterator_next_1 _)))
 refine (show wpAny _ _ (field (.ref it) 0 >>= _) _ _ s from wpAny_bind (wpAny_field gi di (x:=.ref t) rfl ?_))
 dsimp only
 rw [if_neg (by intro z; cases z)]
 refine (show wpAny _ _ (field (.ref it) 1 >>= _) _ _ s from wpAny_bind (wpAny_field gi di (x:=.int i 0) rfl ?_))
 refine (show wpAny _ _ (seqItems? (.ref t) >>= _) _ _ s from wpAny_bind (wpAny_seqItems gt dt ?_))
 dsimp only
 rw [Int.toNat_natCast,h3]
 refine wpAny_bind (wpAny_rule (wpAny_bind (wpAny_setField gi di (by simp) ?_)))
 refine (show wpAny _ _ (newExc (.type "StopIteration") [] >>= _) _ _ _ from wpAny_bind ?_)
 simp only [newExc,newTuple]
 refine wpAny_bind (wpAny_newObj_type (wpAny_bind (m:=firstArgMember _ _) (wpAny_of_eq (a:=Value.none) (by first | rfl | (simp only [firstArgMember]; rfl)) (wpAny_newObj_type ?_ (by size_fits)))) (by size_fits))
 simp only [raiseNew]
 refine wpAny_bind (wpAny_handled ?_) -- here
 rw [show A.in1.handled=none from hh] -- here
 exact wpAny_bind (wpAny_pure (wpAny_throw (q _ _ (((Heap.SameBut.update ..).extBut.push _).push _) ⟨_,Heap.get?_push_size _ rfl,rfl⟩)))
theorem Nh {k:Bool} {it a:Addr} {i:Nat} {xs:Array Value} {x:Value} {Q:Value→Shared→Prop} (h1:Ho k s.heap it a i) (h2:Bq k s.heap a xs) (h3:xs[i]? = some x)
  (q:∀ h',Ho k h' it a (i+1)→Heap.SameBut it s.heap h'→Q x { s with heap:=h' }):wpAny (model prog w) A (Builtin.SmallTypes.nextOf (.ref it)) Q E s:=by
 cases k with
 | true=>exact wpAny_nextOf_list_item h1 h2 h3 q
 | false=>exact nextT h1 h2 h3 q
theorem Ii {k:Bool} {it a:Addr} {i:Nat} {xs:Array Value} {Q:Value→Shared→Prop} (hh:A.handled=none) (h1:Ho k s.heap it a i) (h2:Bq k s.heap a xs) (h3:xs[i]? = none)
  (q:∀ h' e,Heap.ExtBut it s.heap h'→(∃ o,h'.get? e=some o∧o.cls=.type "StopIteration")→E (.ref e) { s with heap:=h' }):wpAny (model prog w) A (Builtin.SmallTypes.nextOf (.ref it)) Q E s:=by
 cases k with
 | true=>exact wpAny_nextOf_list_end hh h1 h2 h3 q
 | false=>exact a0w hh h1 h2 h3 q
end
structure Ow (h:Heap) (z ti to' i1 i2:Addr) (f:Value):Prop where
 zip:IsZip h z ti to' f
 its:IsPair h ti (.ref i1) (.ref i2)
 kept:∃ a b,IsPair h to' a b
structure Far (z ti to' i1 i2:Addr):Prop where
 nd:[z,ti,to',i1,i2].Nodup
theorem Far.all {z ti to' i1 i2:Addr} (f:Far z ti to' i1 i2):ti≠z∧to'≠z∧i1≠z∧i2≠z∧ti≠to'∧ti≠i1∧ti≠i2∧to'≠i1∧to'≠i2∧i1≠i2:=by
 have:=f.nd
 simp only [List.nodup_cons,List.mem_cons,List.not_mem_nil,or_false,not_or] at this
 obtain ⟨⟨a,b,c,d⟩,⟨e,f,g⟩,⟨h,i⟩,j,_⟩:=this
 exact ⟨Ne.symm a,Ne.symm b,Ne.symm c,Ne.symm d,e,f,g,h,i,j⟩
def Zi (z to' i1 i2:Addr) (h h':Heap):Prop:=∀ c o,c≠z→c≠to'→c≠i1→c≠i2→h.get? c=some o→h'.get? c=some o
section
variable {prog:Program} {w:World} {A:Around} {E:Value→Shared→Prop} {s:Shared}
theorem a3j {k1 k2:Bool} {z ti to' i1 i2 a1 a2:Addr} {j1 j2:Nat} {xs ys:Array Value} {x y:Value} {Q:Value→Shared→Prop} (D:Far z ti to' i1 i2) (Z:Ow s.heap z ti to' i1 i2 .none)
  (h1:Ho k1 s.heap i1 a1 j1) (h2:Ho k2 s.heap i2 a2 j2) (r1:Bq k1 s.heap a1 xs) (r2:Bq k2 s.heap a2 ys) (n2:a2≠z∧a2≠to'∧a2≠i1∧a2≠i2) (n1:a1≠z) (hx:xs[j1]? = some x) (hy:ys[j2]? = some y)
  (q:∀ h',Ow h' z ti to' i1 i2 (rawInt s.heap.objs.size)→Ho k1 h' i1 a1 (j1+1)→Ho k2 h' i2 a2 (j2+1)→IsPair h' s.heap.objs.size x y→Zi z to' i1 i2 s.heap h'→Q (.ref s.heap.objs.size) { s with heap:=h' }) :
  wpAny (model prog w) A (Builtin.«zip.__next__» ⟨[.ref z],[]⟩) (fun fin s'=>∃ v,fin=.done (.ret v)∧Q v s') E s:=by -- here
 obtain ⟨hz,hI,a,b,hO⟩:=Z
 obtain ⟨d1,d2,d3,d4,d5,d6,d7,d8,d9,d10⟩:=D.all
 refine (show wpAny _ _ (field (.ref z) 2 >>= _) _ _ _ from wpAny_bind (wpAny_field hz rfl (x:=.bool false) rfl ?_))
 refine (show wpAny _ _ (field (.ref z) 3 >>= _) _ _ _ from wpAny_bind (wpAny_field hz rfl (x:=.ref ti) rfl (wpAny_bind (wpAny_seqItems hI rfl ?_))))
 refine (show wpAny _ _ (Builtin.SmallTypes.ownedTupleIsFree (.ref z) >>= _) _ _ _ from wpAny_bind ?_)
 unfold Builtin.SmallTypes.ownedTupleIsFree -- here
 refine wpAny_bind (wpAny_field hz rfl (x:=.none) rfl (wpAny_pure ?_)) -- here
 dsimp only
 rw [if_pos rfl]
 refine wpAny_bind (wpAny_rule (wpAny_bind (wpAny_field hz rfl (x:=.ref to') rfl (wpAny_bind (wpAny_setField_rec hz (by simp) fun g1 z1 s1=>wpAny_bind ?_)))))
 have z1:IsZip g1 z ti to' .ellipsis:=z1
 simp only [List.zipIdx_cons,List.zipIdx_nil,List.forIn_cons,List.forIn_nil] -- here
 refine wpAny_bind (wpAny_bind (wpAny_onRaise (show wpAny _ _ (Builtin.SmallTypes.nextOf (.ref i1) >>= _) _ _ _ from wpAny_bind (Nh (h1.to fun o e=>s1.extBut _ _ d3 e) (r1.to fun o e=>s1.extBut _ _ n1 e) hx fun g2 t2 s2=>wpAny_pure ?_))))
 have o2:IsPair g2 to' a b:=s2.extBut _ _ d8 (s1.extBut _ _ d2 hO)
 refine wpAny_bind (wpAny_seqItems o2 rfl (wpAny_bind (wpAny_updateSeq_pair o2 fun g3 o3 s3=>wpAny_bind (wpAny_letGo (wpAny_pure ?_)))))
 have o3:IsPair g3 to' x b:=o3
 have e3:∀ c o,c≠z→c≠i1→c≠to'→s.heap.get? c=some o→g3.get? c=some o:=fun c o c1 c2 c3 e=>s3.extBut _ _ c3 (s2.extBut _ _ c2 (s1.extBut _ _ c1 e))
 refine wpAny_bind (wpAny_bind (wpAny_onRaise (show wpAny _ _ (Builtin.SmallTypes.nextOf (.ref i2) >>= _) _ _ _ from wpAny_bind (Nh (h2.to fun o e=>e3 _ o d4 (Ne.symm d10) (Ne.symm d9) e) (r2.to fun o e=>e3 _ o n2.1 n2.2.2.1 n2.2.1 e) hy fun g4 t4 s4=>wpAny_pure ?_))))
 have o4:IsPair g4 to' x b:=s4.extBut _ _ d9 o3
 refine wpAny_bind (wpAny_seqItems o4 rfl (wpAny_bind (wpAny_updateSeq_pair o4 fun g5 o5 s5=>wpAny_bind (wpAny_letGo (wpAny_pure (wpAny_pure ?_))))))
 have o5:IsPair g5 to' x y:=o5
 have sz:g5.objs.size=s.heap.objs.size:=by rw [s5.1,s4.1,s3.1,s2.1,s1.1]
 have z5:IsZip g5 z ti to' .ellipsis:=s5.extBut _ _ (Ne.symm d2) (s4.extBut _ _ (Ne.symm d4) (s3.extBut _ _ (Ne.symm d2) (s2.extBut _ _ (Ne.symm d3) z1)))
 have t5:Ho k1 g5 i1 a1 (j1+1):=t2.to fun o e=>s5.extBut _ _ (Ne.symm d8) (s4.extBut _ _ d10 (s3.extBut _ _ (Ne.symm d8) e))
 have u5:Ho k2 g5 i2 a2 (j2+1):=t4.to fun o e=>s5.extBut _ _ (Ne.symm d9) e
 refine wpAny_bind (wpAny_seqItems o5 rfl (wpAny_bind (wpAny_newTuple ?_)))
 refine (show wpAny _ _ (Builtin.SmallTypes.ownedTupleHandOut (.ref z) (.ref g5.objs.size) >>= _) _ _ _ from wpAny_bind ?_)
 unfold Builtin.SmallTypes.ownedTupleHandOut -- here
 have z6:IsZip (g5.push { cls:=.type "tuple",data:=.seq #[x,y] }) z ti to' .ellipsis:=Heap.get?_push_of_some _ z5
 refine wpAny_bind (wpAny_setField_rec z6 (by simp) fun g7 z7 s7=>?_)
 have z7:IsZip g7 z ti to' (rawInt g5.objs.size):=z7
 refine wpAny_setField_rec z7 (by simp) fun g8 z8 s8=>wpAny_pure ⟨_,rfl,?_⟩
 have z8:IsZip g8 z ti to' (rawInt g5.objs.size):=z8
 have e8:∀ c o,c≠z→g5.get? c=some o→g8.get? c=some o:=fun c o c1 e=>s8.extBut _ _ c1 (s7.extBut _ _ c1 (Heap.get?_push_of_some _ e))
 have p8:IsPair g8 g5.objs.size x y:=s8.extBut _ _ (Nat.ne_of_gt (Heap.lt_size z5)) (s7.extBut _ _ (Nat.ne_of_gt (Heap.lt_size z5)) (Heap.get?_push_size _ rfl))
 have all:∀ c o,c≠z→c≠to'→c≠i1→c≠i2→s.heap.get? c=some o→g8.get? c=some o:=fun c o c1 c2 c3 c4 e=>e8 c o c1 (s5.extBut _ _ c2 (s4.extBut _ _ c4 (e3 c o c1 c3 c2 e)))
 rw [sz] at z8 p8
 show Q (.ref g5.objs.size) _
 rw [sz]
 exact q g8 ⟨z8,all _ _ d1 d5 d6 d7 hI,x,y,e8 _ _ d2 o5⟩ (t5.to fun o e=>e8 _ o d3 e) (u5.to fun o e=>e8 _ o d4 e) p8 all
theorem a4l {k1 k2:Bool} {z ti to' i1 i2 a1 a2:Addr} {j1 j2:Nat} {xs ys:Array Value} {Q:PySem.Fin→Shared→Prop} (hh:A.handled=none) (D:Far z ti to' i1 i2) (Z:Ow s.heap z ti to' i1 i2 .none)
  (h1:Ho k1 s.heap i1 a1 j1) (h2:Ho k2 s.heap i2 a2 j2) (r1:Bq k1 s.heap a1 xs) (r2:Bq k2 s.heap a2 ys) (n2:a2≠z∧a2≠to'∧a2≠i1∧a2≠i2) (n1:a1≠z) (hend:xs[j1]? = none∨ys[j2]? = none)
  (q:∀ h' e,Zi z to' i1 i2 s.heap h'→(∃ o,h'.get? e=some o∧o.cls=.type "StopIteration")→E (.ref e) { s with heap:=h' }) :
  wpAny (model prog w) A (Builtin.«zip.__next__» ⟨[.ref z],[]⟩) Q E s:=by -- here
 obtain ⟨hz,hI,a,b,hO⟩:=Z
 obtain ⟨d1,d2,d3,d4,d5,d6,d7,d8,d9,d10⟩:=D.all
 refine (show wpAny _ _ (field (.ref z) 2 >>= _) _ _ _ from wpAny_bind (wpAny_field hz rfl (x:=.bool false) rfl ?_))
 refine (show wpAny _ _ (field (.ref z) 3 >>= _) _ _ _ from wpAny_bind (wpAny_field hz rfl (x:=.ref ti) rfl (wpAny_bind (wpAny_seqItems hI rfl ?_))))
 refine (show wpAny _ _ (Builtin.SmallTypes.ownedTupleIsFree (.ref z) >>= _) _ _ _ from wpAny_bind ?_)
 unfold Builtin.SmallTypes.ownedTupleIsFree -- here
 refine wpAny_bind (wpAny_field hz rfl (x:=.none) rfl (wpAny_pure ?_)) -- here
 dsimp only
 rw [if_pos rfl]
 refine wpAny_bind (wpAny_rule (wpAny_bind (wpAny_field hz rfl (x:=.ref to') rfl (wpAny_bind (wpAny_setField_rec hz (by simp) fun g1 z1 s1=>wpAny_bind ?_)))))
 have z1:IsZip g1 z ti to' .ellipsis:=z1
 simp only [List.zipIdx_cons,List.zipIdx_nil,List.forIn_cons,List.forIn_nil] -- here
 have fin:∀ (g:Heap) (e:Addr) (zg:IsZip g z ti to' .ellipsis) (he:∃ o,g.get? e=some o∧o.cls=.type "StopIteration") (kg:Zi z to' i1 i2 s.heap g),wpAny (model prog w) A (setField (.ref z) 0 .none) (fun _ s'=>E (.ref e) s') E { s with heap:=g }:=fun g e zg ⟨o,ho,hc⟩ kg=>by
  have ne:e≠z:=fun x=>by subst x; rw [zg] at ho; cases ho; simp at hc
  exact wpAny_setField_rec zg (by simp) fun g' _ s'=>q g' e (fun c o c1 c2 c3 c4 x=>s'.extBut _ _ c1 (kg c o c1 c2 c3 c4 x)) ⟨o,s'.extBut _ _ ne ho,hc⟩
 cases hx:xs[j1]? with
 | none =>
  refine wpAny_bind (wpAny_bind (wpAny_onRaise (show wpAny _ _ (Builtin.SmallTypes.nextOf (.ref i1) >>= _) _ _ _ from wpAny_bind (Ii hh (h1.to fun o e=>s1.extBut _ _ d3 e) (r1.to fun o e=>s1.extBut _ _ n1 e) hx fun g2 e s2 he=>?_))))
  exact fin g2 e (s2 _ _ (Ne.symm d3) z1) he fun c o c1 _ c3 _ x=>s2 _ _ c3 (s1.extBut _ _ c1 x)
 | some x =>
  have hy:ys[j2]? = none:=hend.resolve_left fun h=>by rw [hx] at h; cases h
  refine wpAny_bind (wpAny_bind (wpAny_onRaise (show wpAny _ _ (Builtin.SmallTypes.nextOf (.ref i1) >>= _) _ _ _ from wpAny_bind (Nh (h1.to fun o e=>s1.extBut _ _ d3 e) (r1.to fun o e=>s1.extBut _ _ n1 e) hx fun g2 t2 s2=>wpAny_pure ?_))))
  have o2:IsPair g2 to' a b:=s2.extBut _ _ d8 (s1.extBut _ _ d2 hO)
  refine wpAny_bind (wpAny_seqItems o2 rfl (wpAny_bind (wpAny_updateSeq_pair o2 fun g3 o3 s3=>wpAny_bind (wpAny_letGo (wpAny_pure ?_)))))
  have e3:∀ c o,c≠z→c≠i1→c≠to'→s.heap.get? c=some o→g3.get? c=some o:=fun c o c1 c2 c3 e=>s3.extBut _ _ c3 (s2.extBut _ _ c2 (s1.extBut _ _ c1 e))
  refine wpAny_bind (wpAny_bind (wpAny_onRaise (show wpAny _ _ (Builtin.SmallTypes.nextOf (.ref i2) >>= _) _ _ _ from wpAny_bind (Ii hh (h2.to fun o e=>e3 _ o d4 (Ne.symm d10) (Ne.symm d9) e) (r2.to fun o e=>e3 _ o n2.1 n2.2.2.1 n2.2.1 e) hy fun g4 e s4 he=>?_))))
  exact fin g4 e (s4 _ _ (Ne.symm d4) (s3.extBut _ _ (Ne.symm d2) (s2.extBut _ _ (Ne.symm d3) z1))) he fun c o c1 c2 c3 c4 x=>s4 _ _ c4 (e3 c o c1 c3 c2 x)
theorem a5a {k1 k2:Bool} {z ti to' i1 i2 a1 a2:Addr} {j1 j2:Nat} {xs ys:Array Value} {x y:Value} {Q:Option Value→Shared→Prop} (D:Far z ti to' i1 i2) (Z:Ow s.heap z ti to' i1 i2 .none)
  (h1:Ho k1 s.heap i1 a1 j1) (h2:Ho k2 s.heap i2 a2 j2) (r1:Bq k1 s.heap a1 xs) (r2:Bq k2 s.heap a2 ys) (n2:a2≠z∧a2≠to'∧a2≠i1∧a2≠i2) (n1:a1≠z) (hx:xs[j1]? = some x) (hy:ys[j2]? = some y)
  (q:∀ h',Ow h' z ti to' i1 i2 (rawInt s.heap.objs.size)→Ho k1 h' i1 a1 (j1+1)→Ho k2 h' i2 a2 (j2+1)→IsPair h' s.heap.objs.size x y→Zi z to' i1 i2 s.heap h'→Q (some (.ref s.heap.objs.size)) { s with heap:=h' }) :
  wpAny (model prog w) A (pyNext (.ref z)) Q E s:=by -- here
 have ty:s.TypeIs (.ref z) "zip" := ⟨_,Z.zip,rfl⟩
 unfold pyNext
 exact wpAny_bind (wpAny_attempt (wpAny_callSpecial?_slot (name:=Str.ofString "__next__") ty F.slot_zip_next (wpAny_call_entry F.slot_zip_next ty F.entry_zip_next
  (a3j D Z h1 h2 r1 r2 n2 n1 hx hy fun h' a b c d e=>wpAny_pure (q h' a b c d e)) (F.args_zip_next_1 _))))
theorem a4o {k1 k2:Bool} {z ti to' i1 i2 a1 a2:Addr} {j1 j2:Nat} {xs ys:Array Value} {Q:Option Value→Shared→Prop} (hh:A.handled=none) (D:Far z ti to' i1 i2) (Z:Ow s.heap z ti to' i1 i2 .none)
  (h1:Ho k1 s.heap i1 a1 j1) (h2:Ho k2 s.heap i2 a2 j2) (r1:Bq k1 s.heap a1 xs) (r2:Bq k2 s.heap a2 ys) (n2:a2≠z∧a2≠to'∧a2≠i1∧a2≠i2) (n1:a1≠z) (hend:xs[j1]? = none∨ys[j2]? = none)
  (q:∀ h',Zi z to' i1 i2 s.heap h'→Q none { s with heap:=h' }):wpAny (model prog w) A (pyNext (.ref z)) Q E s:=by
 have ty:s.TypeIs (.ref z) "zip" := ⟨_,Z.zip,rfl⟩
 unfold pyNext
 refine wpAny_bind (wpAny_attempt (wpAny_callSpecial?_slot (name:=Str.ofString "__next__") ty F.slot_zip_next (wpAny_call_entry F.slot_zip_next ty F.entry_zip_next
  (a4l hh D Z h1 h2 r1 r2 n2 n1 hend fun h' e kp he=>?_) (F.args_zip_next_1 _))))
 obtain ⟨o,ho,hc⟩:=he
 exact wpAny_bind (wpAny_isInstance (T := "StopIteration") (b:=true) ⟨o,ho,hc⟩ isSubtype_stop (wpAny_pure (q _ kp)))
end
abbrev Zt (k:Bool) (a:Addr):Obj:={ cls:=.type (if k then "list_iterator" else "tuple_iterator"),data:=.fields #[.ref a,.int 0 0] }
abbrev zh1 (h:Heap) (k1:Bool) (a1:Addr):Heap:=h.push (Zt k1 a1)
abbrev zh2 (h:Heap) (k1 k2:Bool) (a1 a2:Addr):Heap:=(zh1 h k1 a1).push (Zt k2 a2)
abbrev zh3 (h:Heap) (k1 k2:Bool) (a1 a2:Addr):Heap:=(zh2 h k1 k2 a1 a2).push { cls:=.type "tuple",data:=.seq #[.ref h.objs.size,.ref (zh1 h k1 a1).objs.size] }
abbrev zh4 (h:Heap) (k1 k2:Bool) (a1 a2:Addr):Heap:=(zh3 h k1 k2 a1 a2).push { cls:=.type "tuple",data:=.seq #[.none,.none] }
abbrev zh5 (h:Heap) (k1 k2:Bool) (a1 a2:Addr):Heap:=(zh4 h k1 k2 a1 a2).push { cls:=.type "zip",data:=.fields #[.none,.bool false,.bool false,.ref (zh2 h k1 k2 a1 a2).objs.size,.ref (zh3 h k1 k2 a1 a2).objs.size] }
set_option maxHeartbeats 4000000 in
theorem T7 (a1 a2:Addr) (xs ys:Array Value):Meets (Builtin.«zip.__new__» ⟨[.type "zip",.ref a1,.ref a2],[]⟩) (fun _ R s=>s.heap.IsTuple a1 xs∧s.heap.IsTuple a2 ys ∧
   R (.ok (.ret (.ref (zh4 s.heap false false a1 a2).objs.size))) { s with heap:=zh5 s.heap false false a1 a2 }) :=
 .of_wp fun prog w A R s z9=>by
  obtain ⟨r1,r2,fin⟩:=z9
  obtain ⟨hp,g,d,tk,os⟩:=s -- here
  have hsub:=sub_zip
  have q1:Heap.IsTuple (Shared.heap ⟨hp,g,d,tk,os⟩) a1 xs:=r1
  have q2:Heap.IsTuple (Shared.heap ⟨hp.push { cls:=.type "tuple_iterator",data:=.fields #[.ref a1,.int 0 0] },g,d,tk,os⟩) a2 ys:=Heap.IsTuple.push r2 _
  wp_walk using wpAny_pyIter_tuple q1,wpAny_pyIter_tuple q2
  exact ⟨_,rfl,fin⟩
set_option maxHeartbeats 4000000 in
theorem Tc (a1 a2:Addr) (xs ys:Array Value):Meets (Builtin.«zip.__new__» ⟨[.type "zip",.ref a1,.ref a2],[]⟩) (fun _ R s=>s.heap.IsTuple a1 xs∧s.heap.IsList a2 ys ∧
   R (.ok (.ret (.ref (zh4 s.heap false true a1 a2).objs.size))) { s with heap:=zh5 s.heap false true a1 a2 }) :=
 .of_wp fun prog w A R s z9=>by
  obtain ⟨r1,r2,fin⟩:=z9
  obtain ⟨hp,g,d,tk,os⟩:=s -- here
  have hsub:=sub_zip
  have q1:Heap.IsTuple (Shared.heap ⟨hp,g,d,tk,os⟩) a1 xs:=r1
  have q2:Heap.IsList (Shared.heap ⟨hp.push { cls:=.type "tuple_iterator",data:=.fields #[.ref a1,.int 0 0] },g,d,tk,os⟩) a2 ys:=Heap.IsList.push r2 _
  wp_walk using wpAny_pyIter_tuple q1,wpAny_pyIter_list q2
  exact ⟨_,rfl,fin⟩
set_option maxHeartbeats 4000000 in
theorem Uo (a1 a2:Addr) (xs ys:Array Value):Meets (Builtin.«zip.__new__» ⟨[.type "zip",.ref a1,.ref a2],[]⟩) (fun _ R s=>s.heap.IsList a1 xs∧s.heap.IsTuple a2 ys ∧
   R (.ok (.ret (.ref (zh4 s.heap true false a1 a2).objs.size))) { s with heap:=zh5 s.heap true false a1 a2 }) :=
 .of_wp fun prog w A R s z9=>by
  obtain ⟨r1,r2,fin⟩:=z9
  obtain ⟨hp,g,d,tk,os⟩:=s -- here
  have hsub:=sub_zip
  have q1:Heap.IsList (Shared.heap ⟨hp,g,d,tk,os⟩) a1 xs:=r1
  have q2:Heap.IsTuple (Shared.heap ⟨hp.push { cls:=.type "list_iterator",data:=.fields #[.ref a1,.int 0 0] },g,d,tk,os⟩) a2 ys:=Heap.IsTuple.push r2 _
  wp_walk using wpAny_pyIter_list q1,wpAny_pyIter_tuple q2
  exact ⟨_,rfl,fin⟩
set_option maxHeartbeats 4000000 in
theorem Sh (a1 a2:Addr) (xs ys:Array Value):Meets (Builtin.«zip.__new__» ⟨[.type "zip",.ref a1,.ref a2],[]⟩) (fun _ R s=>s.heap.IsList a1 xs∧s.heap.IsList a2 ys ∧
   R (.ok (.ret (.ref (zh4 s.heap true true a1 a2).objs.size))) { s with heap:=zh5 s.heap true true a1 a2 }) :=
 .of_wp fun prog w A R s z9=>by
  obtain ⟨r1,r2,fin⟩:=z9
  obtain ⟨hp,g,d,tk,os⟩:=s -- here
  have hsub:=sub_zip
  have q1:Heap.IsList (Shared.heap ⟨hp,g,d,tk,os⟩) a1 xs:=r1
  have q2:Heap.IsList (Shared.heap ⟨hp.push { cls:=.type "list_iterator",data:=.fields #[.ref a1,.int 0 0] },g,d,tk,os⟩) a2 ys:=Heap.IsList.push r2 _
  wp_walk using wpAny_pyIter_list q1,wpAny_pyIter_list q2
  exact ⟨_,rfl,fin⟩
theorem a3p (k1 k2:Bool) (a1 a2:Addr) (xs ys:Array Value):Meets (Builtin.«zip.__new__» ⟨[.type "zip",.ref a1,.ref a2],[]⟩) (fun _ R s=>Bq k1 s.heap a1 xs∧Bq k2 s.heap a2 ys ∧
   R (.ok (.ret (.ref (zh4 s.heap k1 k2 a1 a2).objs.size))) { s with heap:=zh5 s.heap k1 k2 a1 a2 }):=by
 cases k1 <;> cases k2
 ·exact T7 a1 a2 xs ys
 ·exact Tc a1 a2 xs ys
 ·exact Uo a1 a2 xs ys
 ·exact Sh a1 a2 xs ys
theorem Vu {k:Bool} {h:Heap} {p a:Addr} (e:h.get? p=some (Zt k a)):Ho k h p a 0:=by
 cases k <;> exact ⟨_,e,rfl,rfl⟩
section
variable {prog:Program} {w:World} {A:Around} {E:Value→Shared→Prop} {s:Shared}
theorem a3u {k1 k2:Bool} {a1 a2:Addr} {xs ys:Array Value} {Q:Value→Shared→Prop} (r1:Bq k1 s.heap a1 xs) (r2:Bq k2 s.heap a2 ys)
  (q:∀ h',Ow h' (s.heap.objs.size+4) (s.heap.objs.size+2) (s.heap.objs.size+3) s.heap.objs.size (s.heap.objs.size+1) .none→Ho k1 h' s.heap.objs.size a1 0→Ho k2 h' (s.heap.objs.size+1) a2 0 →
   (∀ c o,s.heap.get? c=some o→h'.get? c=some o)→Q (.ref (s.heap.objs.size+4)) { s with heap:=h' }):wpAny (model prog w) A (call (.type "zip") [.ref a1,.ref a2]) Q E s:=by
 refine callType_new F.called_zip (by decide) (F.typeCall_zip_2 _ _) (F.newCall_zip_2 _ _) (fun obj=>F.args_object_init_3 obj _ _) F.entry_zip_new (a3p k1 k2 a1 a2 xs ys) ⟨r1,r2,?_⟩
 have y1:(zh1 s.heap k1 a1).objs.size=s.heap.objs.size+1:=Heap.size_push ..
 have y2:(zh2 s.heap k1 k2 a1 a2).objs.size=s.heap.objs.size+2:=by rw [Heap.size_push,y1]
 have y3:(zh3 s.heap k1 k2 a1 a2).objs.size=s.heap.objs.size+3:=by rw [Heap.size_push,y2]
 have y4:(zh4 s.heap k1 k2 a1 a2).objs.size=s.heap.objs.size+4:=by rw [Heap.size_push,y3]
 have up:∀ {h:Heap} {o:Obj} {c:Addr} {u:Obj},h.get? c=some u→(h.push o).get? c=some u:=fun e=>Heap.get?_push_of_some _ e
 have g5:(zh5 s.heap k1 k2 a1 a2).get? (zh4 s.heap k1 k2 a1 a2).objs.size=some _:=Heap.get?_push_size _ rfl
 have g4:(zh5 s.heap k1 k2 a1 a2).get? (zh3 s.heap k1 k2 a1 a2).objs.size=some _:=up (Heap.get?_push_size _ rfl)
 have g3:(zh5 s.heap k1 k2 a1 a2).get? (zh2 s.heap k1 k2 a1 a2).objs.size=some _:=up (up (Heap.get?_push_size _ rfl))
 have g2:(zh5 s.heap k1 k2 a1 a2).get? (zh1 s.heap k1 a1).objs.size=some (Zt k2 a2):=up (up (up (Heap.get?_push_size _ rfl)))
 have g1:(zh5 s.heap k1 k2 a1 a2).get? s.heap.objs.size=some (Zt k1 a1):=up (up (up (up (Heap.get?_push_size _ rfl))))
 show _∧_
 rw [y2,y3,y4] at g5
 rw [y1,y2] at g3
 rw [y3] at g4
 rw [y1] at g2
 rw [y4]
 exact ⟨⟨_,g5,rfl⟩,q _ ⟨g5,g3,_,_,g4⟩ (Vu g1) (Vu g2) fun c o x=>up (up (up (up (up x))))⟩
end
end C
end
section
namespace C
open PySem PySem.Spec PyProof.Rows L2
theorem Inv.a8w {X:Cx} {pins:List (Addr × Obj)} {σ:L2.St} {H:Hp} {s:Shared} {h':Heap} {t':Nat} {ch:List Addr} {n:Addr} {o:HO} (I:L2.Inv X pins σ H s) (hch:∀ b∈ch,Rc X pins H b)
  (k:∀ b u,b∉ch→s.heap.get? b=some u→h'.get? b=some u) (hp:s.heap.objs.size≤n) (new:xu X.prog X.w (upd H n o) h' n o):L2.Inv X pins σ (upd H n o) { s with heap:=h',toks:=t' }:=by
 have fr:=I.hok.fresh hp
 have nn:∀ b u,s.heap.get? b=some u→b≠n:=fun b u e=>Nat.ne_of_lt (Nat.lt_of_lt_of_le (Heap.lt_size e) hp)
 have nch:∀ b u,H b=some u→b∉ch:=fun b u e z=>by rw [(hch b z).1] at e; cases e
 refine I.step (g':=s.gens) (d':=s.drawn) (ch:=ch) (fun b hb=>?_) (fun b u _ _ hc e _=>k b u hc e) (fun b u _ _ hc e _=>⟨u.slots,k b u hc e⟩) (fun b u _ e z=>by rw [n8 (nn b u e)]; exact z)
  (fun b u hc e=>⟨u,k b u hc e⟩) (fun b xs e=>by rw [n8 (sy e fr)]; exact e) (fun b u xs e=>by rw [n8 (sy e fr)]; exact e) (fun b ps e=>⟨#[],by rw [n8 (sy e fr),e]; simp⟩) (fun m hm=>?_) (fun b u e=>?_) I.bare
 ·obtain ⟨f0,f1,f2,f3,f4,f5⟩:=hch b hb
  exact ⟨f3,f1,f4,f5⟩
 ·obtain ⟨ob,es,ep,ho,r⟩:=hm
  exact ⟨ob,es,ep,k _ ob (fun z=>(hch _ z).2.1 rfl) ho,r⟩
 ·by_cases hb:b=n
  ·subst hb; rw [j8] at e; cases e; exact new
  ·rw [n8 hb] at e
   refine (I.hok b u e).stay (fun c v hc q=>k c v ?_ q) (fun c q=>by rw [n8 (sy q fr)]; exact q) fun c xs q=>by rw [n8 (sy q fr)]; exact q
   rcases hc with rfl | hc
   ·exact nch _ _ e
   ·exact nch _ _ hc
theorem Inv.a8i {X:Cx} {pins:List (Addr × Obj)} {σ:L2.St} {H:Hp} {s:Shared} {h':Heap} {t':Nat} {ch:List Addr} (I:L2.Inv X pins σ H s) (hch:∀ b∈ch,Rc X pins H b)
  (k:∀ b u,b∉ch→s.heap.get? b=some u→h'.get? b=some u):L2.Inv X pins σ H { s with heap:=h',toks:=t' }:=by
 have nch:∀ b u,H b=some u→b∉ch:=fun b u e z=>by rw [(hch b z).1] at e; cases e
 refine I.step (g':=s.gens) (d':=s.drawn) (ch:=ch) (fun b hb=>?_) (fun b u _ _ hc e _=>k b u hc e) (fun b u _ _ hc e _=>⟨u.slots,k b u hc e⟩) (fun b u _ e z=>z)
  (fun b u hc e=>⟨u,k b u hc e⟩) (fun b xs e=>e) (fun b u xs e=>e) (fun b ps e=>⟨#[],by rw [e]; simp⟩) (fun m hm=>?_) (fun b u e=>?_) I.bare
 ·obtain ⟨f0,f1,f2,f3,f4,f5⟩:=hch b hb
  exact ⟨f3,f1,f4,f5⟩
 ·obtain ⟨ob,es,ep,ho,r⟩:=hm
  exact ⟨ob,es,ep,k _ ob (fun z=>(hch _ z).2.1 rfl) ho,r⟩
 ·refine (I.hok b u e).stay (fun c v hc q=>k c v ?_ q) (fun c q=>q) fun c xs q=>q
  rcases hc with rfl | hc
  ·exact nch _ _ e
  ·exact nch _ _ hc
def Sq:Bool→PySem.W.Frag→Hp→Addr→List V→Prop
 | true,K,H,a,xs=>SqL K H a xs
 | false,K,H,a,xs=>SqT K H a xs
section
variable {X:Cx} {pins:List (Addr × Obj)} {σ:L2.St} {H:Hp} {s:Shared} {a:Addr} {xs ys:List V} {k:Bool}
theorem Sq.row (I:L2.Inv X pins σ H s) (h:Sq k X.K H a xs):∃ its:List Value,Vals xs its∧Bq k s.heap a its.toArray:=by
 cases k with
 | true=>obtain ⟨its,r,p,_⟩:=I.list h; exact ⟨its,r,p.isList⟩
 | false=>obtain ⟨its,r,p,_⟩:=I.tuple h; exact ⟨its,r,p⟩
theorem Sq.inj (I:L2.Inv X pins σ H s) (h:Sq k X.K H a xs) (h':Sq k X.K H a ys):xs=ys:=by
 cases k with
 | true=>exact I.Wm h h'
 | false=>exact I.Om h h'
theorem Sq.far (I:L2.Inv X pins σ H s) {b:Addr} (h:Sq k X.K H a xs) (f:Rc X pins H b):a≠b:=by
 have held:∀ o,X.K.lookup a=some o→a≠b:=fun o e z=>by
  subst z
  have eb:=I.mod.kin a o e
  rcases f.2.2.2.1 with q | q
  ·exact I.ok.noex a o eb q
  ·exact absurd (Nat.lt_of_lt_of_le (Heap.lt_size (I.ok.bs a o eb).1) q) (Nat.lt_irrefl _)
 have there:∀ u,Rd H a u→a≠b:=fun u e z=>by
  subst z
  rcases e with e | ⟨o,e⟩ <;> rw [f.1] at e <;> cases e
 cases k with
 | true =>
  rcases h with h | ⟨o,_,_,e,_⟩
  ·exact there _ h
  ·exact held o e
 | false =>
  rcases h with h | ⟨o,_,_,e,_⟩
  ·exact there _ h
  ·exact held o e
end
def Itz (K:PySem.W.Frag) (k1 k2:Bool) (a1 a2:Addr):It :=
 ⟨fun i H=>∃ xs ys x y,Sq k1 K H a1 xs∧Sq k2 K H a2 ys∧xs[i]? = some x∧ys[i]? = some y,
   fun i H v H'=>∃ p x y,H p=none∧v=.ref p∧H'=upd H p (.tup [x,y])∧(∀ xs,Sq k1 K H a1 xs→xs[i]? = some x)∧∀ ys,Sq k2 K H a2 ys→ys[i]? = some y,
   fun i H=>∃ xs ys,Sq k1 K H a1 xs∧Sq k2 K H a2 ys∧(xs.length≤i∨ys.length≤i)⟩
theorem a4y {P:Program} {w:World} {K:PySem.W.Frag} {elts:List Expr} {x1:Nat} {pos:Pos} {k1 k2:Bool} {a1 a2 z ti to' i1 i2:Addr} (D:Far z ti to' i1 i2) :
  Turn P w K (.Tuple elts x1 pos) (Itz K k1 k2 a1 a2) [z,ti,to',i1,i2] z (fun i h=>Ow h z ti to' i1 i2 .none∧Ho k1 h i1 a1 i∧Ho k2 h i2 a2 i) where
 mem:=by simp
 obj:=fun i h ⟨Z,t1,t2⟩ b hb=>by
  simp only [List.mem_cons,List.not_mem_nil,or_false] at hb -- here
  obtain ⟨zz,its,a,b,kp⟩:=Z
  rcases hb with rfl | rfl | rfl | rfl | rfl
  ·exact ⟨_,zz,fun v q=>by cases q⟩
  ·exact ⟨_,its,fun v q=>by cases q⟩
  ·exact ⟨_,kp,fun v q=>by cases q⟩
  ·exact t1.obj
  ·exact t2.obj
 keep:=fun i h h' ⟨⟨zz,its,a,b,kp⟩,t1,t2⟩ e=>⟨⟨e z (by simp) _ zz,e ti (by simp) _ its,a,b,e to' (by simp) _ kp⟩,t1.to fun o q=>e i1 (by simp) o q,t2.to fun o q=>e i2 (by simp) o q⟩
 item:=by
  intro X hP hw hK hc i pins s σ H E I hf ⟨Z,t1,t2⟩ ⟨xs,ys,x,y,q1,q2,e1,e2⟩
  subst hP hw hK
  obtain ⟨its1,v1,r1⟩:=q1.row I
  obtain ⟨its2,v2,r2⟩:=q2.row I
  obtain ⟨u1,g1,ru1⟩:=v1.get e1
  obtain ⟨u2,g2,ru2⟩:=v2.get e2
  have f1:∀ b∈[z,ti,to',i1,i2],a1≠b:=fun b hb=>q1.far I (hf b hb)
  have f2:∀ b∈[z,ti,to',i1,i2],a2≠b:=fun b hb=>q2.far I (hf b hb)
  refine a5a D Z t1 t2 r1 r2 ⟨f2 z (by simp),f2 to' (by simp),f2 i1 (by simp),f2 i2 (by simp)⟩ (f1 z (by simp)) (by simpa using g1) (by simpa using g2) fun h' Z' t1' t2' hp kp=>?_
  refine ⟨_,rfl,wpAny_letOwnedTupleGo_zip (s:={ s with heap:=h' }) Z'.zip fun h2 z2 s2=>?_⟩
  obtain ⟨d1,d2,d3,d4,d5,d6,d7,d8,d9,d10⟩:=D.all
  have lt:∀ b∈[z,ti,to',i1,i2],s.heap.objs.size≠b:=fun b hb=>by
   have ob:∃ o,s.heap.get? b=some o:=by
    simp only [List.mem_cons,List.not_mem_nil,or_false] at hb -- here
    obtain ⟨zz,its,a,b',kp⟩:=Z
    rcases hb with rfl | rfl | rfl | rfl | rfl
    ·exact ⟨_,zz⟩
    ·exact ⟨_,its⟩
    ·exact ⟨_,kp⟩
    ·exact ⟨_,t1.obj.choose_spec.1⟩
    ·exact ⟨_,t2.obj.choose_spec.1⟩
   obtain ⟨o,e⟩:=ob
   exact Nat.ne_of_gt (Heap.lt_size e)
  have pair:IsPair h2 s.heap.objs.size u1 u2:=s2.extBut _ _ (lt z (by simp)) hp
  have J:L2.Inv X pins σ (upd H s.heap.objs.size (.tup [x,y])) { s with heap:=h2,toks:=s.toks }:=Inv.a8w (ch:=[z,ti,to',i1,i2]) I hf (fun b u hb e=>by
   simp only [List.mem_cons,List.not_mem_nil,or_false,not_or] at hb
   exact s2.extBut _ _ hb.1 (kp b u hb.1 hb.2.2.1 hb.2.2.2.1 hb.2.2.2.2 e)) (Nat.le_refl _) ⟨by show 2≤sizeLine; rw [sizeLine_eq]; decide,[u1,u2],.cons ru1 (.cons ru2 .nil),⟨_,pair,rfl,rfl,0,rfl⟩⟩
  refine ⟨.ref s.heap.objs.size,_,J,rfl,⟨s.heap.objs.size,x,y,I.hok.fresh (Nat.le_refl _),rfl,rfl,fun xs' h=>by rw [h.inj I q1]; exact e1,fun ys' h=>by rw [h.inj I q2]; exact e2⟩,?_,fun b hb=>?_⟩
  ·obtain ⟨_,its,a,b,kk⟩:=Z'
   exact ⟨⟨z2,s2.extBut _ _ d1 its,a,b,s2.extBut _ _ d2 kk⟩,t1'.to fun o q=>s2.extBut _ _ d3 q,t2'.to fun o q=>s2.extBut _ _ d4 q⟩
  ·rw [n8 (Ne.symm (lt b hb))]; exact (hf b hb).1
 done:=by
  intro X hP hw hK hc i pins s σ H E I hf ⟨Z,t1,t2⟩ ⟨xs,ys,q1,q2,e⟩
  subst hP hw hK
  obtain ⟨its1,v1,r1⟩:=q1.row I
  obtain ⟨its2,v2,r2⟩:=q2.row I
  have f1:∀ b∈[z,ti,to',i1,i2],a1≠b:=fun b hb=>q1.far I (hf b hb)
  have f2:∀ b∈[z,ti,to',i1,i2],a2≠b:=fun b hb=>q2.far I (hf b hb)
  refine a4o (I.ok.hd hc) D Z t1 t2 r1 r2 ⟨f2 z (by simp),f2 to' (by simp),f2 i1 (by simp),f2 i2 (by simp)⟩ (f1 z (by simp)) ?_ fun h' kp=>⟨rfl,Inv.a8i (t':=s.toks) (ch:=[z,ti,to',i1,i2]) I hf fun b u hb e=>?_⟩
  ·have l1:=v1.length
   have l2:=v2.length
   rcases e with e | e
   ·exact .inl (by simp; omega)
   ·exact .inr (by simp; omega)
  ·simp only [List.mem_cons,List.not_mem_nil,or_false,not_or] at hb
   exact kp b u hb.1 hb.2.2.1 hb.2.2.2.1 hb.2.2.2.2 e
 self:=fun _ _ _ _ _ ⟨Z,_⟩ h=>wpAny_pyIter_zip Z.zip h
theorem a7t (n:Nat):Far (n+4) (n+2) (n+3) n (n+1):=⟨by
 have h1:n+4≠n+2:=by omega
 have h2:n+4≠n+3:=by omega
 have h3:n+4≠n:=by omega
 have h4:n+4≠n+1:=by omega
 have h5:n+2≠n+3:=by omega
 have h6:n+2≠n:=by omega
 have h7:n+2≠n+1:=by omega
 have h8:n+3≠n:=by omega
 have h9:n+3≠n+1:=by omega
 have h10:n≠n+1:=by omega
 exact List.nodup_cons.mpr ⟨by simp only [List.mem_cons,List.not_mem_nil,or_false,not_or]; exact ⟨h1,h2,h3,h4⟩,List.nodup_cons.mpr ⟨by simp only [List.mem_cons,List.not_mem_nil,or_false,not_or]; exact ⟨h5,h6,h7⟩,List.nodup_cons.mpr ⟨by simp only [List.mem_cons,List.not_mem_nil,or_false,not_or]; exact ⟨h8,h9⟩,List.nodup_cons.mpr ⟨by simp only [List.mem_cons,List.not_mem_nil,or_false]; exact h10,List.nodup_cons.mpr ⟨by simp,.nil⟩⟩⟩⟩⟩⟩
def iZp (K:PySem.W.Frag) (ta:TA):TI:=fun σ H R=>ta σ H fun vs H1=>∃ k1 k2 a1 a2 xs ys,vs=[.ref a1,.ref a2]∧Sq k1 K H1 a1 xs∧Sq k2 K H1 a2 ys∧R (Itz K k1 k2 a1 a2) H1
section
variable {X:Cx} {B:Bas} {a b:Expr} {m m1 m2:M T} {pos p:Pos} {elts:List Expr} {x1:Nat} {tpos:Pos}
theorem acn {ta:TA} (hg:Gl X "zip") (hm:X.mg "zip" = none) (ha:PA X [a,b] ta) (hs:starEach [a,b] X.env=[(false,eval a X.env),(false,eval b X.env)]:=by rfl) (hs2:starEach [b] X.env=[(false,eval b X.env)]:=by rfl) :
  PI X (.Tuple elts x1 tpos) (.Call (.Name "zip" p) [a,b] [] pos) (iZp X.K ta):=by
 intro pins s σ H R I h
 refine Call_ (Ku I hg hm boot_zip (PyProof.Rows.callWith_type1 (thn (ha pos pins s σ H _ I h) fun us s1 z0=>?_) (by rw [hs,hs2]) (by rw [hs2]; rfl)))
 obtain ⟨vs,H1,I1,r1,q1⟩:=z0
 obtain ⟨k1,k2,a1,a2,xs,ys,e,w1,w2,q⟩:=q1
 subst e
 cases r1 with
 | cons r rr =>
  cases rr with
  | cons r' rr =>
   cases rr
   cases r
   cases r'
   obtain ⟨its1,v1,r1⟩:=w1.row I1
   obtain ⟨its2,v2,r2⟩:=w2.row I1
   refine a3u r1 r2 fun h' Z t1 t2 kp=>wpAny_pyIter_zip Z.zip ?_
   have D:Far (s1.heap.objs.size+4) (s1.heap.objs.size+2) (s1.heap.objs.size+3) s1.heap.objs.size (s1.heap.objs.size+1):=a7t s1.heap.objs.size
   refine ⟨_,_,_,_,H1,rfl,I1.kept (t':=s1.toks) kp,a4y D,⟨Z,t1,t2⟩,fun b hb=>?_,q⟩
   have hle:s1.heap.objs.size≤b:=by
    simp only [List.mem_cons,List.not_mem_nil,or_false] at hb -- here
    rcases hb with rfl | rfl | rfl | rfl | rfl
    ·exact Nat.le_add_right _ 4
    ·exact Nat.le_add_right _ 2
    ·exact Nat.le_add_right _ 3
    ·exact Nat.le_refl _
    ·exact Nat.le_add_right _ 1
   exact I1.a6i hle (I1.hok.fresh hle)
theorem Vz {ts:List T} {s s':Sta} (h:a7f m1 m2 s=some (ts,s')):∃ t u s1 xs ys,m1 s=some (t,s1)∧m2 s1=some (u,s')∧Iz t=some xs∧Iz u=some ys∧xs.length<lim∧ys.length<lim∧ts=a6p xs ys:=by
 unfold a7f at h
 split at h
 ·rename_i t s1 e1
  split at h
  ·rename_i u s2 e2
   split at h
   ·rename_i xs ys e3 e4
    split at h
    ·rename_i hl; cases h; exact ⟨t,u,s1,xs,ys,e1,e2,e3,e4,hl.1,hl.2,rfl⟩
    ·cases h
   ·cases h
  ·cases h
 ·cases h
theorem aah:∀ st ts st',a7f m1 m2 st=some (ts,st')→ts.length≤sizeLine:=fun st ts st' e=>by
 obtain ⟨t,u,s1,xs,ys,_,_,_,_,l1,_,rfl⟩:=Vz e
 unfold a6p
 rw [List.length_map,List.length_zip]
 have:=um
 omega
theorem a3y {xs ys:List T} {i:Nat} {t:T} (h:(a6p xs ys)[i]? = some t):∃ x y,xs[i]? = some x∧ys[i]? = some y∧t=.tup [x,y]:=by
 unfold a6p at h
 rw [List.getElem?_map] at h
 obtain ⟨p,e,rfl⟩:=Option.map_eq_some_iff.mp h
 obtain ⟨e1,e2⟩:=List.getElem?_zip_eq_some.mp e
 exact ⟨p.1,p.2,e1,e2,rfl⟩
theorem Yc {K:PySem.W.Frag} {S:Hp} {as:List Addr} {v:V} {t:T} {xs:List T} (r:Rep K S as v t) (e:Iz t=some xs):∃ k a vs,v=.ref a∧Sq k K S a vs∧ug K S as vs xs∧(k=true∧t=.lst xs∨k=false∧t=.tup xs):=by
 cases r with
 | @lst a vs ts g1 g2=>simp only [Iz] at e; cases e; exact ⟨true,a,vs,rfl,g1,g2,.inl ⟨rfl,rfl⟩⟩
 | @tup a vs ts g1 g2=>simp only [Iz] at e; cases e; exact ⟨false,a,vs,rfl,g1,g2,.inr ⟨rfl,rfl⟩⟩
 | _=>simp only [Iz,reduceCtorEq] at e
theorem Sq.mono {k:Bool} {K:PySem.W.Frag} {S H:Hp} {a:Addr} {vs:List V} (e:Same S H) (h:Sq k K S a vs):Sq k K H a vs:=by
 cases k with
 | true=>exact jl e h
 | false=>exact ou e h
theorem Zg {K:PySem.W.Frag} {S:Hp} {as:List Addr} {a:Addr} {t:T} {xs:List T} {k:Bool} (r:Rep K S as (.ref a) t) (e:k=true∧t=.lst xs∨k=false∧t=.tup xs):∃ vs,Sq k K S a vs∧ug K S as vs xs:=by
 rcases e with ⟨rfl,rfl⟩ | ⟨rfl,rfl⟩
 ·cases r with
  | lst g1 g2=>exact ⟨_,g1,g2⟩
 ·cases r with
  | tup g1 g2=>exact ⟨_,g1,g2⟩
theorem ad6 (hg:Gl X "zip") (hm:X.mg "zip" = none) (h1:PE X a (tOf X.K B m1)) (h2:PE X b (tOf X.K B m2)) (hs:starEach [a,b] X.env=[(false,eval a X.env),(false,eval b X.env)]:=by rfl) (hs2:starEach [b] X.env=[(false,eval b X.env)]:=by rfl) :
  PI X (.Tuple elts x1 tpos) (.Call (.Name "zip" p) [a,b] [] pos) (iOf X.K B (a7f m1 m2)):=by
 intro pins s σ H R I hw
 refine acn (ta:=Ju (tOf X.K B m1) (Ju (tOf X.K B m2) a82)) hg hm (nu h1 (nu h2 ux (by rw [hs2]; rfl)) (by rw [hs,hs2])) hs hs2 pins s σ H R I ?_
 obtain ⟨st,ps,S,as,Rl,ts,st',e,hz,q⟩:=hw
 obtain ⟨t,u,s1,xs,ys,e1,e2,e3,e4,l1,l2,rfl⟩:=Vz e
 refine ⟨st,ps,S,as,Rl,t,s1,e1,fun v H1 S1 as1 R1=>⟨s1,_,S1,as1,R1,u,st',e2,fun v2 H2 S2 as2 R2=>?_⟩⟩
 obtain ⟨k1,a1,vs1,rfl,w1,p1,c1⟩:=Yc R2.top2 e3
 obtain ⟨k2,a2,vs2,rfl,w2,p2,c2⟩:=Yc R2.top e4
 refine ⟨k1,k2,a1,a2,vs1,vs2,rfl,w1.mono R2.sub,w2.mono R2.sub,q _ H2 S2 as2 [(.ref a2,u),(.ref a1,t)] R2 fun S3 as3 H3 hp hh=>?_⟩
 obtain ⟨us1,y1,z1⟩:=Zg (hp (.ref a1,t) (by simp)) c1
 obtain ⟨us2,y2,z2⟩:=Zg (hp (.ref a2,u) (by simp)) c2
 refine ⟨fun i tt et=>?_,fun i hi=>⟨us1,us2,y1.mono hh,y2.mono hh,?_⟩⟩
 ·obtain ⟨x,y,f1,f2,rfl⟩:=a3y et
  obtain ⟨vx,gx,rx⟩:=z1.get f1
  obtain ⟨vy,gy,ry⟩:=z2.get f2
  refine ⟨⟨us1,us2,vx,vy,y1.mono hh,y2.mono hh,gx,gy⟩,fun v H' z0=>?_⟩
  obtain ⟨pp,x',y',hn,hv,hH,b1,b2⟩:=z0
  have c1:=b1 _ (y1.mono hh)
  have c2:=b2 _ (y2.mono hh)
  rw [gx] at c1; rw [gy] at c2
  cases c1; cases c2
  subst hv hH
  have x:=Ext.laid hh hn (.tup [vx,vy])
  exact ⟨_,x,.tup (SqT.of j8) (.cons (rx.mono x.s nol) (.cons (ry.mono x.s nol) .nil))⟩
 ·rw [z1.length,z2.length]
  unfold a6p at hi
  rw [List.length_map,List.length_zip] at hi
  omega
end
section
variable {X:Cx}
theorem a09 {pins:List (Addr × Obj)} {σ:L2.St} {H S:Hp} {s:Shared} {as:List Addr} {A:Around} (I:L2.Inv X pins σ H s) (sub:Same S H) (hu:A.units+40<cLine) {x:V} {t:T} {v:Value} {dx:PyData} (hx:Rep X.K S as x t) (rx:RelV x v) (ex:dat t=some dx) :
  ∀ {vs:List V} {ts:List T} {us:List Value} {d j:Nat},ug X.K S as vs ts→Vals vs us→a3n t ts d=some j→d≤j∧∃ h:j - d<us.length,a9r s.heap dx us[j - d]=true∧∀ m (hm:m<us.length),m<j - d→a9r s.heap dx us[m]=false
 | _,_,_,_,_,.nil,r,e=>by simp only [a3n] at e; cases e
 | _,_,_,d,j,.cons h q,r,e=>by
  cases r with
  | @cons _ u1 _ us1 r1 r2 =>
   simp only [a3n] at e
   split at e
   ·rename_i he
    cases e
    obtain ⟨dy,dx',f1,f2,hd,hv⟩:=Jk he
    rw [ex] at f2; cases f2
    obtain ⟨b1,x1⟩:=h.reads I sub f1 r1
    refine ⟨Nat.le_refl _,⟨by simp,?_,fun m hm hlt=>by (clear x1 hv hd f1 he r2 r1 q h ex rx hx hu sub I; omega)⟩⟩
    simp only [Nat.sub_self,List.getElem_cons_zero]
    rw [Rv x1 (Aq _ f1),← hv]
   ·rename_i he
    obtain ⟨dy,dx',f1,f2,hd,hv⟩:=Jk he
    rw [ex] at f2; cases f2
    obtain ⟨b1,x1⟩:=h.reads I sub f1 r1
    obtain ⟨g1,g2,g3,g4⟩:=a09 I sub hu hx rx ex q r2 e
    have ej:j - d=(j - (d+1))+1:=by (clear g4 g3 x1 hv hd f1 e he r2 r1 q h ex rx hx hu sub I; omega)
    refine ⟨by (clear g4 g3 g1 x1 hv hd f1 e he r2 r1 q h ex rx hx hu sub I; omega),⟨by rw [ej]; simpa using g2,?_,fun m hm hlt=>?_⟩⟩
    ·simp only [ej,List.getElem_cons_succ]; exact g3
    ·cases m with
     | zero=>simp only [List.getElem_cons_zero]; rw [Rv x1 (Aq _ f1),← hv]
     | succ m=>simp only [List.getElem_cons_succ]; exact g4 m (by simpa using hm) (by (clear hm ej g4 g3 g1 x1 hv hd f1 e he r2 r1 q h ex rx hx hu sub I; omega))
   ·cases e
def abv (K:PySem.W.Frag):V→List V→Hp→VK→Prop:=fun x vs H Q=>∃ S as l ts y t j b,x=.ref l∧vs=[y]∧Same S H∧Rep K S as (.ref l) (.lst ts)∧Rep K S as y t∧(dat t).isSome=true∧inL t ts=some b∧a3n t ts 0=some j∧ts.length<lim∧Q (.int (j:Nat)) H
theorem a4w (hu:X.A.units+64<cLine):MtM X "list.index" (abv X.K):=by
 intro pins s σ H x vs v us Q I rx rv z8
 obtain ⟨S,as,l,ts,y,t,j,b,e1,e2,sub,rl,ry,hd,hi,hj,hl,q⟩:=z8
 subst e1 e2
 cases rx
 obtain ⟨u,rfl,ru⟩:=rv.one
 obtain ⟨dx,ex⟩:=Option.isSome_iff_exists.mp hd
 have hu1:X.A.in1.units+40<cLine:=by show X.A.units+1+40<cLine; (clear ex rv ru q hl hj hi hd ry rl sub I; omega)
 cases rl with
 | @lst _ vs _ g1 g2 =>
  obtain ⟨its,r,⟨⟨cls2,dd2,data2,sl2⟩,n2,ho2,hc2,hd02,hd2⟩,_⟩:=I.list (jl sub g1)
  simp only at hc2 hd2
  subst hc2 hd2
  obtain ⟨i1,i2⟩:=a6h I sub hu1 ry ru ex g2 r hi
  obtain ⟨_,c1,c2,c3⟩:=a09 I sub hu1 ry ru ex g2 r hj
  have ln:its.length=ts.length:=by rw [← r.length]; exact g2.length
  refine call_meets F.slot_list_index ⟨_,ho2,rfl⟩ F.entry_list_index (F.args_list_index_2 _ _)
   (SeqAt.list_indexAt l its.toArray n2 dd2 sl2 u (a9r s.heap dx) j (by simpa using c1) (by have:ts.length<1000000:=hl; simp at c1; (clear c3 c2 i2 i1 hd02 ho2 r g2 g1 hu1 ex rv ru q hl hj hi hd ry sub I hu; omega)) (by simpa using c2) (fun m hm hlt=>by simpa using c3 m (by simpa using hm) hlt)) ⟨ho2,fun y hy=>i1 y (by simpa using hy),?_⟩
  exact ⟨.int j,H,I.tok _,⟨_,rfl⟩,q⟩
variable {B:Bas} {o e:Expr} {m1 m2:M T} {apos cpos:Pos}
theorem X8 {x y w:T} (h:Mq x y=some w):∃ xs b j,x=.lst xs∧xs.length<lim∧(dat y).isSome=true∧inL y xs=some b∧a3n y xs 0=some j∧w=.int (j:Nat):=by
 unfold Mq at h
 split at h
 ·split at h
  ·rename_i hc
   obtain ⟨j,e1,e2⟩:=Option.map_eq_some_iff.mp h
   obtain ⟨b,hb⟩:=Option.isSome_iff_exists.mp hc.2.2
   exact ⟨_,b,j,rfl,hc.1,hc.2.1,hb,e1,e2.symm⟩
  ·cases h
 ·cases h
theorem a5v (hu:X.A.units+64<cLine) (ho:PE X o (tOf X.K B m1)) (he:PE X e (tOf X.K B m2))
  (hbase:attributeBase o "index" X.env (eval o X.env)=eval o X.env:=by rfl)
  (hfew:((backTo cpos (starEach [e] X.env)).all (fun x=>!x.1)&&(backToKw cpos (keywordEach [] X.env)).all (fun x=>x.1.isSome)
   && decide ([e].length+([]:List Keyword).length+(if ([]:List Keyword).isEmpty then 0 else 1)<30))=true:=by rfl)
  (hline:(apos.endLine==cpos.line)=true:=by rfl) (hs:starEach [e] X.env=(false,eval e X.env)::starEach [] X.env:=by rfl) (hplain:(backTo cpos (starEach [] X.env)).any (·.1)=false:=by rfl) :
  PE X (.Call (.Attribute o "index" apos) [e] [] cpos) (tOf X.K B (mOp Mq m1 m2)) :=
 (Ft F.plainAttrs_list F.slot_list_index F.type_list_index (a4w hu) ho (nu he ux hs) hbase hfew hline hs hplain).imp fun σ H Q z9=>by
  obtain ⟨st,ps,S,as,R,t,st',e,q⟩:=z9
  obtain ⟨t1,s1,t2,e1,e2,e3⟩:=Ob e
  obtain ⟨xs,b,j,rfl,hl,hd,hi,hj,rfl⟩:=X8 e3
  refine ⟨st,ps,S,as,R,_,s1,e1,fun v H1 S1 as1 R1=>?_⟩
  have top:=R1.top
  cases top with
  | @lst a vs _ g1 g2 =>
   refine ⟨.inl ⟨rfl,_,jl R1.sub g1⟩,s1,_,S1,as1,R1,t2,st',e2,fun u H2 S2 as2 R2=>?_⟩
   exact ⟨S2,as2,a,xs,u,t2,j,b,rfl,rfl,R2.sub,R2.top2,R2.top,hd,hi,hj,hl,q _ H2 S2 as2 (R2.drop.drop.push (.int _))⟩
end
theorem V0 (n d:Nat) (o:Option Int):sIx n d o=HT.sIx n d o:=by cases o <;> rfl
inductive oOf (K:PySem.W.Frag) (B:Bas) (m:M (Option Int)) (σ:L2.St) (H:Hp) (Q:Option Int→Hp→Prop):Prop
 | mk (st:Sta) (ps:List (V × T)) (S:Hp) (as:List Addr) (R:Rel K B st σ H ps S as) (o:Option Int) (st':Sta) (e:m st=some (o,st')) (q:∀ H' S' as',Rel K B st' σ H' ps S' as'→Q o H')
section
variable {X:Cx} {B:Bas} {a e:Expr} {m:M T} {ml mh:M (Option Int)} {lo hi:Option Expr} {pos p2:Pos}
theorem Dr:PO X none (oOf X.K B Az):=fun pins s σ H Q I ⟨st,ps,S,as,R,o,st',e,q⟩=>a8a pins s σ H Q I (by cases e; exact q H S as R)
theorem zu (h:PE X e (tOf X.K B m)):PO X (some e) (oOf X.K B (wg m)):=fun pins s σ H Q I z9=>a90 h pins s σ H Q I (by
 obtain ⟨st,ps,S,as,R,o,st',eo,q⟩:=z9
 unfold wg at eo
 split at eo
 ·rename_i i s1 e1
  cases eo
  refine ⟨st,ps,S,as,R,.int i,_,e1,fun v H1 S1 as1 R1=>?_⟩
  cases R1.top
  exact ⟨i,rfl,q H1 S1 as1 R1.drop⟩
 ·cases eo)
theorem Xq {s s':Sta} {v:T} (h:qu m ml mh s=some (v,s')):∃ t s1 l s2 u,m s=some (t,s1)∧ml s1=some (l,s2)∧mh s2=some (u,s')∧a2p l u t=some v:=by
 unfold qu at h
 split at h
 ·rename_i t s1 e1
  split at h
  ·rename_i l s2 e2
   split at h
   ·rename_i u s3 e3
    split at h
    ·rename_i w e4; cases h; exact ⟨t,s1,l,s2,u,e1,e2,e3,e4⟩
    ·cases h
   ·cases h
  ·cases h
 ·cases h
theorem ug.takes {K:PySem.W.Frag} {S:Hp} {as:List Addr}:∀ (n:Nat) {vs:List V} {ts:List T},ug K S as vs ts→ug K S as (vs.take n) (ts.take n)
 | 0,_,_,_=>.nil
 | _+1,_,_,.nil=>.nil
 | n+1,_,_,.cons h r=>.cons h (ug.takes n r)
theorem Vh {K:PySem.W.Frag} {S:Hp} {as:List Addr} {vs:List V} {ts:List T} (r:ug K S as vs ts) (lo hi:Option Int):ug K S as (a2q vs lo hi) (Xz ts lo hi):=by
 unfold a2q Xz
 rw [V0,V0,r.length]
 exact ug.takes _ (r.drop _)
theorem yw (ha:PE X a (tOf X.K B m)) (hl:PO X lo (oOf X.K B ml)) (hh:PO X hi (oOf X.K B mh)):PE X (.Subscript a (.Slice lo hi none p2) pos) (tOf X.K B (qu m ml mh)) :=
 (a4j (a7p.or ab2) ha hl hh).imp fun σ H Q z9=>by
  obtain ⟨st,ps,S,as,R,t,st',e,q⟩:=z9
  obtain ⟨t1,s1,l,s2,u,e1,e2,e3,e4⟩:=Xq e
  refine ⟨st,ps,S,as,R,t1,s1,e1,fun v H1 S1 as1 R1=>⟨s1,_,S1,as1,R1,l,s2,e2,fun H2 S2 as2 R2=>⟨s2,_,S2,as2,R2,u,st',e3,fun H3 S3 as3 R3=>?_⟩⟩⟩
  have top:=R3.top
  cases top with
  | @lst b vs ts g1 g2 =>
   simp only [a2p] at e4; cases e4
   refine .inl ⟨b,vs,rfl,jl R3.sub g1,fun p hp=>?_⟩
   have x:=Ext.laid R3.sub hp (.lst (a2q vs l u))
   exact q _ _ _ _ ((R3.drop.ext x).push (.lst (SqL.of j8) ((Vh g2 l u).mono x.s nol)))
  | @tup b vs ts g1 g2 =>
   simp only [a2p] at e4
   split at e4
   ·cases e4
   ·rename_i hw
    cases e4
    refine .inr ⟨b,vs,rfl,ou R3.sub g1,?_,fun p hp=>?_⟩
    ·rw [V0,V0,← g2.length] at hw; exact hw
    ·have x:=Ext.laid R3.sub hp (.tup (a2q vs l u))
     exact q _ _ _ _ ((R3.drop.ext x).push (.tup (SqT.of j8) ((Vh g2 l u).mono x.s nol)))
  | _=>exact jm e4
end
section
variable {prog:Program} {w:World} {A:Around} {E:Value→Shared→Prop} {s:Shared}
theorem Qw {sl:Addr} {t:Tok} {n:Nat} {Q:Int × Int × Nat→Shared→Prop} (hs:s.heap.IsSliceOf sl .none .none (.int (-1) t)) (h:Q ((n:Int) - 1,-1,n) s):wpAny (model prog w) A (Builtin.Slice.sliceApplied (.ref sl) (pure (n:Int))) Q E s:=by
 obtain ⟨os,g1,g2,g3⟩:=id hs
 have ea:Builtin.Slice.sliceAdjust none none (-1) (n:Int)=((n:Int) - 1,-1):=by
  unfold Builtin.Slice.sliceAdjust
  simp
 have en:Builtin.Slice.slicePlaces ((n:Int) - 1) (-1) (-1)=n:=by
  unfold Builtin.Slice.slicePlaces
  have h1:¬ ((-1:Int) > 0):=by decide -- here
  rw [if_neg h1]
  split
  ·first
   | (simp; done)
   | (simp; omega)
  ·(clear h1 ea g3 g2 g1 h hs; omega)
 unfold Builtin.Slice.sliceApplied Builtin.Slice.sliceFields
 refine wpAny_bind (wpAny_bind (wpAny_field g1 g3 (x:=.none) rfl (wpAny_bind (wpAny_field g1 g3 (x:=.none) rfl (wpAny_bind (wpAny_field g1 g3 (x:=.int (-1) t) rfl (wpAny_pure ?_)))))))
 refine wpAny_bind (HT.Bu (.int (-1) t) ?_)
 refine (show wpAny _ _ (if ((-1:Int)==0)=true then _ else _) _ _ s from ?_)
 rw [if_neg (by decide)]
 refine wpAny_bind (HT.Bu .none (wpAny_bind (HT.Bu .none (wpAny_bind (wpAny_pure ?_)))))
 refine (show wpAny _ _ (match Builtin.Slice.sliceAdjust none none (-1) (n:Int) with | (lo,hi)=>pure (lo,(-1:Int),Builtin.Slice.slicePlaces lo hi (-1))) _ _ s from ?_)
 rw [ea]
 refine (show wpAny _ _ (pure ((n:Int) - 1,(-1:Int),Builtin.Slice.slicePlaces ((n:Int) - 1) (-1) (-1))) _ _ s from ?_)
 rw [en]
 exact wpAny_pure h
theorem abz {α β:Type} {f g:α→Option β}:∀ {l:List α},(∀ a∈l,f a=g a)→l.filterMap f=l.filterMap g
 | [],_=>rfl
 | a::l,h=>by rw [List.filterMap_cons,List.filterMap_cons,h a List.mem_cons_self,abz fun b hb=>h b (List.mem_cons_of_mem _ hb)]
theorem a0h (xs:Array Value):((List.range xs.size).filterMap fun (m:Nat)=>xs[(((xs.size:Nat):Int) - 1+(m:Int) * (-1)).toNat]?)=xs.toList.reverse:=by
 have e:∀ m∈List.range xs.size,xs[(((xs.size:Nat):Int) - 1+(m:Int) * (-1)).toNat]? = some (xs.toList.reverse.getD m .none):=fun m hm=>by
  have hm:=List.mem_range.mp hm
  have e1:(((xs.size:Nat):Int) - 1+(m:Int) * (-1)).toNat=xs.size - 1 - m:=by omega
  rw [e1,List.getD_eq_getElem?_getD,List.getElem?_reverse (by rw [Array.length_toList]; exact hm),Array.getElem?_toList,Array.length_toList,Array.getElem?_eq_getElem (by omega)]
  rfl
 rw [abz e]
 rw [show (fun (x:Nat)=>some (xs.toList.reverse.getD x Value.none))=some ∘ fun x=>xs.toList.reverse.getD x .none from rfl,List.filterMap_eq_map]
 apply List.ext_getElem
 ·simp
 ·intro i h1 h2
  simp [List.getD_eq_getElem?_getD,List.getElem?_eq_getElem h2]
theorem Wt {t sl:Addr} {k:Tok} {items:Array Value} {Q:Value→Shared→Prop} (ht:IsTup s.heap t items) (hs:s.heap.IsSliceOf sl .none .none (.int (-1) k))
  (h:Q (.ref s.heap.objs.size) { s with heap:=s.heap.push { cls:=.type "tuple",data:=.seq items.toList.reverse.toArray } }) (hsz:items.size≤sizeLine):wpAny (model prog w) A (getItem (.ref t) (.ref sl)) Q E s:=by
 have hz:sizeOk (.seq items.toList.reverse.toArray):=by
  show items.toList.reverse.toArray.size≤sizeLine
  rw [List.size_toArray,List.length_reverse,Array.length_toList]; exact hsz
 obtain ⟨os,g1,g2,g3⟩:=id hs
 have ty:s.TypeIs (.ref sl) "slice" := ⟨os,g1,g2⟩
 unfold getItem
 try with_reducible refine wpAny_holding ?_
 first | refine wpAny_bind (wpAny_pure ?_) | skip
 refine wpAny_bind (wpAny_sequenceKey ht.typeIs (by decide) (wpAny_bind (wpAny_callSpecial?_slot (name:=Str.ofString "__getitem__") ht.typeIs PyProof.Rows.slot_tuple_getitem
  (wpAny_call_entry PyProof.Rows.slot_tuple_getitem ht.typeIs entry_tuple_getitem ?_ (args_tuple_getitem _ _)))))
 refine (show wpAny _ _ (Builtin.Tuple.tupleItemsOf (.ref t) >>= _) _ _ s from wpAny_bind (tupleItemsOf_ ht (wpAny_bind (wpAny_typeOf ty ?_))))
 rw [if_pos (by decide)]
 refine wpAny_bind (Qw hs ?_)
 refine (show wpAny _ _ (if ((((items.size:Nat):Int) - 1)==0&&(-1:Int)==1&&items.size==items.size)=true then _ else _) _ _ s from ?_)
 rw [if_neg (by rw [show ((-1:Int)==1)=false from rfl,Bool.and_false,Bool.false_and]; exact Bool.false_ne_true),a0h]
 first
  | exact wpAny_bind (m:=Builtin.Tuple.tupleExact _) (wpAny_newObj_type (wpAny_pure ⟨_,rfl,wpAny_pure h⟩) hz)
  | exact wpAny_bind (m:=Builtin.Tuple.tupleExact _) (wpAny_newObj_type (wpAny_bind (wpAny_pure (wpAny_pure ⟨_,rfl,wpAny_pure h⟩))) hz)
  | exact wpAny_bind (wpAny_bind (m:=Builtin.Tuple.tupleExact _) (wpAny_newObj_type (wpAny_pure (wpAny_pure ⟨_,rfl,wpAny_pure h⟩)) hz))
  | exact wpAny_bind (wpAny_bind (m:=Builtin.Tuple.tupleExact _) (wpAny_newObj_type (wpAny_pure ⟨_,rfl,wpAny_pure h⟩) hz))
end
section
variable {X:Cx} {B:Bas} {e:Expr} {te:TE} {m m1 m2:M T} {pos p p2 p3 p4:Pos} {j:Nat}
def af6 (K:PySem.W.Frag):V→Hp→VK→Prop:=fun x H Q=>∃ a xs,x=.ref a∧((SqL K H a xs∧∀ p,H p=none→Q (.ref p) (upd H p (.lst xs.reverse)))∨(SqT K H a xs∧∀ p,H p=none→Q (.ref p) (upd H p (.tup xs.reverse))))
theorem a9l:PE X (.UnaryOp .USub (.Constant (.int 1) j p4) p3) (tC (.int (-1))):=(ac7 a6f a79).imp fun σ H Q q=>⟨1,rfl,q⟩
theorem a2e (he:PE X e te):PE X (.Subscript e (.Slice none none (some (.UnaryOp .USub (.Constant (.int 1) j p4) p3)) p2) pos) (fun σ H Q=>te σ H fun x H1=>af6 X.K x H1 Q):=by
 intro pins s σ H Q I h
 refine Subscript_ (thn (he pins s σ H _ I h) fun v s1 z0=>?_)
 obtain ⟨x,H1,I1,r1,q1⟩:=z0
 refine wpAny_Slice ?_
 rw [evalPart_none]
 refine wpAny_pure (wpAny_pure ?_) -- here
 rw [evalPart_some]
 refine thn (a9l pins s1 σ H1 (fun v H2=>v=.int (-1)∧H2=H1) I1 ⟨rfl,rfl⟩) fun vk s2 z0=>?_
 obtain ⟨y,H2,I2,r2,ey,eH⟩:=z0
 subst ey eH
 obtain ⟨t,rfl⟩:=r2
 obtain ⟨a,xs,rfl,hx⟩:=q1
 cases r1
 have I4:L2.Inv X pins σ H2 { s2 with heap:=s2.heap.push { cls:=.type "slice",data:=.fields #[.none,.none,.int (-1) t] } }:=I2.kept (t':=s2.toks) fun b ob q=>Heap.get?_push_of_some _ q
 rcases hx with ⟨hx,q⟩ | ⟨hx,q⟩
 ·obtain ⟨its,r,ht,hz⟩:=I4.list hx
  have hlen:=r.length
  refine tail_any (ops:=[.ref a,.ref s2.heap.objs.size]) (T := "list") ht.isList.typeIs slot_list_getitem.lookup ?_ (by with_unfolding_all rfl)
  refine wpAny_getItem_list_slice ht.isList (Heap.IsSliceOf.new ..) .none .none (.int (-1) t) (by decide) ?_ (by rw [List.size_toArray] <;> (clear ht r q hx I4 I1 I2 h I he; omega))
  rw [PySem.W.krv_pick]
  refine ⟨.ref _,_,I4.laid (t':=s2.toks) (o:=.lst xs.reverse) (fun b ob q=>Heap.get?_push_of_some _ q) (Nat.le_refl _) ?_,rfl,q _ (I4.hok.fresh (Nat.le_refl _))⟩
  exact ⟨by rw [List.length_reverse]; exact hz,_,0,by simpa using r.reverse,Heap.get?_push_size _ rfl⟩
 ·obtain ⟨its,r,ht,hz⟩:=I4.tuple hx
  have hlen:=r.length
  refine tail_any (ops:=[.ref a,.ref s2.heap.objs.size]) (T := "tuple") ht.typeIs PyProof.Rows.slot_tuple_getitem.lookup ?_ (by with_unfolding_all rfl)
  refine Wt ht (Heap.IsSliceOf.new ..) ?_ (by rw [List.size_toArray] <;> (clear ht r q hx I4 I1 I2 h I he; omega))
  refine ⟨.ref _,_,I4.laid (t':=s2.toks) (o:=.tup xs.reverse) (fun b ob q=>Heap.get?_push_of_some _ q) (Nat.le_refl _) ?_,rfl,q _ (I4.hok.fresh (Nat.le_refl _))⟩
  exact ⟨by rw [List.length_reverse]; exact hz,its.reverse,r.reverse,a2x.new _ its.reverse.toArray⟩
theorem a8j (ha:PE X e (tOf X.K B m)):PE X (.Subscript e (.Slice none none (some (.UnaryOp .USub (.Constant (.int 1) j p4) p3)) p2) pos) (tOf X.K B (mUn a77 m)) :=
 (a2e ha).imp fun σ H Q z9=>by
  obtain ⟨st,ps,S,as,R,t,st',e,q⟩:=z9
  obtain ⟨t1,e1,e3⟩:=Tg e
  refine ⟨st,ps,S,as,R,t1,st',e1,fun v H1 S1 as1 R1=>?_⟩
  have top:=R1.top
  cases top with
  | @lst a vs ts g1 g2 =>
   simp only [a77] at e3; cases e3
   refine ⟨a,vs,rfl,.inl ⟨jl R1.sub g1,fun p hp=>?_⟩⟩
   have x:=Ext.laid R1.sub hp (.lst vs.reverse)
   exact q _ _ _ _ ((R1.drop.ext x).push (.lst (SqL.of j8) (g2.reverse.mono x.s nol)))
  | @tup a vs ts g1 g2 =>
   simp only [a77] at e3; cases e3
   refine ⟨a,vs,rfl,.inr ⟨ou R1.sub g1,fun p hp=>?_⟩⟩
   have x:=Ext.laid R1.sub hp (.tup vs.reverse)
   exact q _ _ _ _ ((R1.drop.ext x).push (.tup (SqT.of j8) (g2.reverse.mono x.s nol)))
  | _=>exact jm e3
theorem a8p (ha:PE X e (tOf X.K B m)):PE X (.Subscript e (.Slice none none (some (.UnaryOp .USub (.Constant (.int 1) j p4) p3)) p2) pos) (fOf X.K B (mUn adp m)) :=
 (a2e ha).imp fun σ H Q z9=>by
  obtain ⟨st,ps,S,as,R,t,st',e,q⟩:=z9
  obtain ⟨t1,e1,e3⟩:=Tg e
  refine ⟨st,ps,S,as,R,t1,st',e1,fun v H1 S1 as1 R1=>?_⟩
  have top:=R1.top
  cases top with
  | @lst a vs ts g1 g2 =>
   simp only [adp] at e3; cases e3
   refine ⟨a,vs,rfl,.inl ⟨jl R1.sub g1,fun p hp=>?_⟩⟩
   obtain ⟨bD,sD,nD,no⟩:=R1.fresh hp
   exact q p _ S1 as1 (R1.drop.a5n bD sD nD (fun j w e1 e2=>no j w e1 e2)) ⟨⟨vs.reverse,j8,g2.reverse⟩,sD,nD,bD⟩ (fun j w e1 e2=>no j w e1 e2)
  | _=>exact jm e3
theorem a3c {x:Str} {i:Int} (hg:Gl X x) (h:∃ tk,X.mg x=some (.int i tk)) (hd:(x==("__debug__" : Str))=false:=by decide):PE X (.Name x pos) (tOf X.K B (au (.int i))):=by
 obtain ⟨tk,h⟩:=h
 exact Gh (v:=.int i) (a95 hg h (show RelV (.int i) _ from ⟨tk,rfl⟩) hd) fun _ _=>.int i
theorem Mw {a:Expr} {pc:Pos} (hg:Gl X "isinstance") (hm:X.mg "isinstance" = none) (hg2:Gl X "str") (hm2:X.mg "str" = none) (ha:PE X a (tOf X.K B m)) (he:starEach [a,.Name "str" pc] X.env=(false,eval a X.env)::starEach [.Name "str" pc] X.env:=by rfl) :
  PE X (.Call (.Name "isinstance" p) [a,.Name "str" pc] [] pos) (tOf X.K B (gk isStr (ao m dw))):=by
 rw [show isStr=_ from funext a3e]
 exact V8 (cn := "str") hg hm hg2 hm2 a1n (fun t ty h=>by cases t <;> cases h <;> rfl) ha (by decide) (by decide) he
end
end C
end
section
end
section
namespace C
open PySem PySem.Spec L2
def Held (K:PySem.W.Frag) (u:Value) (t:T):Prop:=∃ v,RelV v u∧∀ S as,Rep K S as v t
def S8 (K:PySem.W.Frag) (us:List Value) (ts:List T):Prop:=∃ vs,Vals vs us∧∀ S as,ug K S as vs ts
section
variable {K:PySem.W.Frag}
theorem Held.int {i:Int} {tk:Tok}:Held K (.int i tk) (.int i):=⟨.int i,⟨tk,rfl⟩,fun _ _=>.int i⟩
theorem Held.str {x:Str} {tk:Tok}:Held K (.str x tk) (.str x):=⟨.str x,⟨tk,rfl⟩,fun _ _=>.str x⟩
theorem Held.bl {b:Bool}:Held K (.bool b) (.bl b):=⟨.bl b,rfl,fun _ _=>.bl b⟩
theorem Held.non:Held K .none .non:=⟨.non,rfl,fun _ _=>.non⟩
theorem S8.nil:S8 K [] []:=⟨[],.nil,fun _ _=>.nil⟩
theorem S8.cons {u:Value} {t:T} {us:List Value} {ts:List T} (h:Held K u t) (hs:S8 K us ts):S8 K (u::us) (t::ts):=by
 obtain ⟨v,r,e⟩:=h
 obtain ⟨vs,rs,es⟩:=hs
 exact ⟨v::vs,.cons r rs,fun S as=>.cons (e S as) (es S as)⟩
theorem Held.tup {a:Addr} {us:List Value} {n:Nat} {sl:Array (Option Value)} {ts:List T} (h:K.lookup a=some ⟨.type "tuple",none,.seq us.toArray n,sl⟩) (hz:us.length≤1000) (hs:S8 K us ts):Held K (.ref a) (.tup ts):=by
 obtain ⟨vs,rs,es⟩:=hs
 refine ⟨.ref a,rfl,fun S as=>.tup (.inr ⟨_,us.toArray,n,h,rfl,rfl,rfl,?_,?_⟩) (es S as)⟩
 ·rw [List.size_toArray,sizeLine_eq]; omega
 ·exact rs
theorem Held.lst {a:Addr} {us:List Value} {n:Nat} {sl:Array (Option Value)} {ts:List T} (h:K.lookup a=some ⟨.type "list",none,.seq us.toArray n,sl⟩) (hz:us.length≤1000) (hs:S8 K us ts):Held K (.ref a) (.lst ts):=by
 obtain ⟨vs,rs,es⟩:=hs
 refine ⟨.ref a,rfl,fun S as=>.lst (.inr ⟨_,us.toArray,n,h,rfl,rfl,rfl,?_,?_⟩) (es S as)⟩
 ·rw [List.size_toArray,sizeLine_eq]; omega
 ·exact rs
end
section
variable {X:Cx} {B:Bas} {pos:Pos}
end
end C
end
section
namespace C
open PySem PySem.Spec PyProof.Rows
section
variable {prog:Program} {w:World} {A:Around} {E:Value→Shared→Prop} {s:Shared}
end
section
variable {prog:Program} {w:World} {A:Around} {R:Result→Shared→Prop} {I:Addr} {fp wr:List Addr} {G:Array GenState→Array GenState→Prop} {n:Nat} {P:Nat→Value→Prop} {St:Nat→Shared→Prop} -- here
end
section
variable {prog:Program} {w:World} {A:Around} {E:Value→Shared→Prop} {s:Shared}
end
section
variable {prog:Program} {w:World} {A:Around} {E:Value→Shared→Prop} {s:Shared}
end
section
variable {prog:Program} {w:World} {A:Around} {E:Value→Shared→Prop} {s:Shared}
end
section
variable {prog:Program} {w:World} {A:Around} {E:Value→Shared→Prop} {s:Shared} {I a:Addr} {i n ep:Nat} {o:Obj} {es:Array (Int × Value)} {t:SetTable} {Q:Option Value→Shared→Prop}
end
section
variable {prog:Program} {w:World} {A:Around} {E:Value→Shared→Prop} {s:Shared} {I a q:Addr} {i n ep:Nat} {o:Obj} {es:Array (Int × Value)} {t:SetTable} {Q:Option Value→Shared→Prop} {ps:List Nat}
end
section
variable {prog:Program} {w:World} {A:Around} {E:Value→Shared→Prop} {s:Shared} {I a q:Addr} {n ep:Nat} {o:Obj} {es:Array (Int × Value)} {t:SetTable} {ps:List Nat}
end
section
variable {prog:Program} {w:World} {A:Around} {E:Value→Shared→Prop} {s:Shared} {a:Addr} {o:Obj} {l:List Str}
end
section
variable {prog:Program} {w:World} {A:Around} {E:Value→Shared→Prop} {s:Shared} {a:Addr} {o:Obj} {l:List Str}
end
end C
end
section
namespace C
open PySem PySem.Spec PyProof.Rows L2
section
variable {X:Cx} {B:Bas} {e:Expr} {m1:M T} {p1 p2 p3 p4:Pos}
end
open AutoSeq1 (wpAny_loadPart') -- here
open MeetsSeq MeetsSeq2 MeetsSeq3 -- here
section
variable {prog:Program} {w:World} -- here
end
section
variable {X:Cx} {pins:List (Addr × Obj)} {σ:L2.St} {H S:Hp} {s:Shared} {as:List Addr}
end
end C
end
section
namespace C
open PySem PySem.Spec PyProof.Rows L2
theorem a9p {K:PySem.W.Frag} {F:Fn} {H:Hp} {a:Addr} {ns:List Int} (hS:SqL K H a (ns.map V.int)) (hE:∃ st,F [.lst (ns.map T.int)] []=some (.bl true,st)):spF K 1 F [.ref a] H (fun v _=>v=.bl true) fun _ _ _=>False:=by
 obtain ⟨st,hF⟩:=hE
 have reps:∀ (S:Hp) (l:List Int),ug K S [] (l.map V.int) (l.map T.int):=fun S l=>by
  induction l with
  | nil=>exact .nil
  | cons x l ih=>exact .cons (.int x) ih
 let S:Hp:=fun p=>if p=a then H p else none
 have sa:S a=H a:=if_pos rfl
 have sub:Same S H:=fun p u h=>by
  by_cases e:p=a
  ·subst e; rw [← sa]; exact h
  ·have:S p=none:=if_neg e
   rw [this] at h; cases h
 have sq:SqL K S a (ns.map V.int):=by
  rcases hS with h | h
  ·refine .inl ?_
   unfold Rd at h ⊢
   rw [sa]; exact h
  ·exact .inr h
 refine ⟨S,[],[],[.lst (ns.map T.int)],.bl true,st,sub,⟨rfl,.nil,fun n so e=>by simp at e⟩,.cons (.lst sq (reps S ns)) .nil,rfl,hF,fun v H' S' as' _ _ _ r=>?_⟩
 cases r
 rfl
end C
end
section
namespace C
open PySem
def Fi (lo:Int) (n:Nat):List T:=(List.range n).map fun (k:Nat)=>.int (lo+(k:Int))
def Ez (i:Nat) (m:M T):M T:=fun s=>if Ei i s then (match m s with
 | some (.lst ys,s1)=>match s1.env[i]? with
  | some (some (.lst xs,_))=>if xs.length+ys.length<lim then some (.lst (xs++ys),s1) else none
  | _=>none
 | _=>none) else none
end C
end
section
namespace C
open PySem PySem.W PyProof.Rows
def K8 {α:Type} (lt:Nat→Nat→Bool):KasT α→α
 | .ret a=>a
 | .ask i j k=>K8 lt (k (lt i j))
def Bf {α:Type} (n:Nat):KasT α→Bool
 | .ret _=>true
 | .ask i j k=>decide (i<n)&&decide (j<n)&&decide (i≠j)&&Bf n (k true)&&Bf n (k false)
def firsts:List T→Option (List Str)
 | []=>some []
 | .tup (.str x::_)::r=>(firsts r).map (x :: ·)
 | _=>none
def ltS (l:List Str) (i j:Nat):Bool:=decide ((l.getD i "").cps.toList<(l.getD j "").cps.toList)
def order (l:List Str):List Nat:=if l.length<2 then List.range l.length else (K8 (ltS l) (kas_sort l.length)).toList
def Fg:List T→Option T
 | [.lst ts]=>match firsts ts with
  | some l=>if l.length≤4∧l.Nodup then some (.lst ((order l).map fun i=>ts.getD i .non)) else none
  | none=>none
 | _=>none
end C
end
section
namespace C
open PySem PySem.W PySem.Spec PyProof.Rows L2
theorem Z9 {α:Type} {cmp:Nat→Nat→(Bool→Shared→Prop)→Shared→Prop} {lt:Nat→Nat→Bool} {n:Nat} {s:Shared} (h:∀ i j C,i<n→j<n→i≠j→C (lt i j) s→cmp i j C s) :
  ∀ (t:KasT α) {Q:α→Shared→Prop},Bf n t=true→Q (K8 lt t) s→t.kasWp cmp Q s
 | .ret a,Q,_,q=>q
 | .ask i j k,Q,hb,q=>by
  simp only [Bf,Bool.and_eq_true,decide_eq_true_eq] at hb
  obtain ⟨⟨⟨⟨h1,h2⟩,h3⟩,h4⟩,h5⟩:=hb
  refine h i j _ h1 h2 h3 (Z9 h (k (lt i j)) ?_ q)
  cases lt i j
  ·exact h5
  ·exact h4
inductive Pg (h:Heap):List Value→List Str→Prop where
 | nil:Pg h [] []
 | cons {a:Addr} {o:Obj} {xs:List Value} {n:Nat} {x:Str} {t:Tok} {vs:List Value} {l:List Str}:h.get? a=some o→o.cls=.type "tuple" → o.data=.seq (Value.str x t::xs).toArray n→Pg h vs l→Pg h (.ref a::vs) (x::l)
theorem Pg.mono {h h':Heap} (k:∀ b o,h.get? b=some o→h'.get? b=some o):∀ {vs:List Value} {l:List Str},Pg h vs l→Pg h' vs l:=by
 intro vs l z
 induction z with
 | nil=>exact .nil
 | cons a b c _ ih=>exact .cons (k _ _ a) b c ih
theorem Pg.length {h:Heap}:∀ {vs:List Value} {l:List Str},Pg h vs l→vs.length=l.length
 | _,_,.nil=>rfl
 | _,_,.cons _ _ _ r=>congrArg (· + 1) r.length
theorem Pg.get {h:Heap}:∀ {vs:List Value} {l:List Str} (i:Nat),Pg h vs l→i<l.length→∃ a o xs n t,vs.getD i Value.none=.ref a∧h.get? a=some o∧o.data=.seq (Value.str (l.getD i "") t::xs).toArray n
 | _,_,_,.nil,hi=>absurd hi (Nat.not_lt_zero _)
 | _,_,0,.cons a b c r,_=>⟨_,_,_,_,_,rfl,a,c⟩
 | _,_,i+1,.cons a b c r,hi=>by
  obtain ⟨a,o,xs,n,t,e1,e2,e3⟩:=r.get i (Nat.lt_of_succ_lt_succ hi)
  exact ⟨a,o,xs,n,t,by simpa using e1,e2,by simpa using e3⟩
theorem Pg.kat {M:Model} {h:Heap}:∀ {vs:List Value} {l:List Str},Pg h vs l→∃ fs:List Value,KatTups h vs fs∧fs.length=l.length∧∀ v∈fs,Looks M h (typeOf v) (Value.type "str")
 | _,_,.nil=>⟨[],.nil,rfl,fun v hv=>nomatch hv⟩
 | _,_,.cons a b c r=>by
  obtain ⟨fs,h1,h2,h3⟩:=r.kat (M:=M)
  refine ⟨_::fs,.cons a b c (by simp; rfl) h1,congrArg (· + 1) h2,fun v hv=>?_⟩
  rcases List.mem_cons.mp hv with rfl | hv -- here
  ·exact Looks.now
  ·exact h3 v hv
section
variable {prog:Program} {w:World} {A:Around} {E:Value→Shared→Prop} {s:Shared}
theorem a3q {vs:List Value} {l:List Str} (T:Pg s.heap vs l) (nd:l.Nodup) (i j:Nat) (C:Bool→Shared→Prop) (hi:i<l.length) (hj:j<l.length) (ne:i≠j) (h:C (ltS l i j) s):kas_ask prog w A (tuples' true) vs i j C s:=by
 obtain ⟨a,o,xs,n,t,e1,e2,e3⟩:=T.get i hi
 obtain ⟨b,p,ys,m,u,f1,f2,f3⟩:=T.get j hj
 unfold kas_ask
 rw [e1,f1]
 refine kat_lt e2 e3 f2 f3 ?_
 simp only [List.zip_cons_cons]
 refine kat_cons (eqBool_str ?_)
 have d:(l.getD i "" == l.getD j "")=false:=by
  refine beq_eq_false_iff_ne.mpr fun z=>ne ?_
  have z1:l.getD i "" = l[i]:=by simp [hi]
  have z2:l.getD j "" = l[j]:=by simp [hj]
  rw [z1,z2] at z
  exact (List.getElem_inj nd).mp z
 rw [d]
 exact kat_no (oneLt_str h)
theorem U0:Bf 2 (kas_sort 2)=true∧Bf 3 (kas_sort 3)=true∧Bf 4 (kas_sort 4)=true:=by decide +kernel
def outV (vs:List Value) (l:List Str):List Value:=(order l).map fun i=>vs.getD i Value.none
theorem a8h {vs:List Value} (h:vs.length<2):(vs.toArray.zip vs.toArray).map (·.2)=((List.range vs.length).map fun i=>vs.getD i Value.none).toArray:=by
 cases vs with
 | nil=>simp
 | cons v t =>
  cases t with
  | nil=>simp [List.range_succ]
  | cons _ _=>simp at h; omega
theorem Jy {h0:Heap} {a:Addr} {vs:List Value} {l:List Str} {n:Nat} {P:PySem.Fin→Shared→Prop} (ho:s.heap.get? a=some (seqObj "list" vs.toArray n)) (hk:∀ b o,h0.get? b=some o→s.heap.get? b=some o∧b≠a)
  (T:Pg h0 vs l) (nd:l.Nodup) (h3:l.length≤4) (h:P (.done (.ret .none)) { s with heap:=sortedHeap s.heap a vs (outV vs l).toArray }) :
  wpAny (model prog w) A (Builtin.«list.sort» ⟨[.ref a],[]⟩) P E s:=by -- here
 have hlen:=T.length
 rw [list_sort_plain]
 have ha:a<s.heap.objs.size:=Heap.lt_size ho -- here
 refine wpAny_bind (listItems_at ho rfl ?_) -- here
 refine wpAny_bind (listUpdate_at ho rfl ?_ (by rw [List.size_toArray,sizeLine_eq]; omega) (Nat.zero_le _)) -- here
 obtain ⟨e1,ho1⟩:∃ e1,(s.heap.update a (Obj.mapSeq fun _=>(#[]:Array Value))).get? a=some (seqObj "list" #[] e1):=⟨_,get?_update_seq ho (fun _=>#[])⟩
 refine wpAny_bind (seqEpoch_at ho1 rfl ?_) -- here
 refine wpAny_bind (wpAny_newTuple ?_ (by show vs.length≤_; rw [sizeLine_eq]; omega)) -- here
 refine wpAny_bind (wpAny_newList ?_ (Nat.zero_le _)) -- here
 refine wpAny_holding ?_
 have ho6:(((s.heap.update a (Obj.mapSeq fun _=>(#[]:Array Value))).push (seqObj "tuple" vs.toArray 0)).push (seqObj "list" #[] 0)).get? a=some (seqObj "list" #[] e1):=by
  rw [Heap.get?_push_ne _ _ _ (by rw [size_push',Heap.size_update]; exact Nat.ne_of_lt (Nat.lt_succ_of_lt ha)),Heap.get?_push_ne _ _ _ (by rw [Heap.size_update]; exact Nat.ne_of_lt ha)] -- here
  exact ho1
 have T6:Pg (((s.heap.update a (Obj.mapSeq fun _=>(#[]:Array Value))).push (seqObj "tuple" vs.toArray 0)).push (seqObj "list" #[] 0)) vs l:=T.mono fun b o e=>by
  obtain ⟨k1,k2⟩:=hk b o e
  refine Heap.get?_push_of_some _ (Heap.get?_push_of_some _ ?_)
  rw [Heap.get?_update_ne _ _ _ _ k2]
  exact k1
 show wpAny (model prog w) A _ P E { s with heap:=((s.heap.update a (Obj.mapSeq fun _=>(#[]:Array Value))).push (seqObj "tuple" vs.toArray 0)).push (seqObj "list" #[] 0) } -- here
 dsimp only
 by_cases h2:vs.toArray.size<2 -- here
 ·rw [if_pos h2,if_pos h2]
  refine wpAny_bind (wpAny_pure ?_)
  rw [StateT.run_pure]
  refine wpAny_bind (wpAny_pure ?_)
  dsimp only
  refine wpAny_bind (seqEpoch_at ho6 rfl ?_) -- here
  have eo:(arrOf (SortSt.mk' general' (vs.toArray.zip vs.toArray) #[] 7 none)).map (·.2)=(outV vs l).toArray:=by
   rw [List.size_toArray] at h2
   have h2':l.length<2:=by omega
   unfold outV order
   rw [if_pos h2',← hlen]
   show (vs.toArray.zip vs.toArray).map (·.2)=_
   exact a8h h2
  refine wpAny_bind (listUpdate_at ho6 rfl ?_ (Nat.zero_le _) (by
   show ((arrOf (SortSt.mk' general' (vs.toArray.zip vs.toArray) #[] 7 none)).map (·.2)).size≤_
   rw [List.size_toArray] at h2
   show ((vs.toArray.zip vs.toArray).map (·.2)).size≤_
   rw [Array.size_map,Array.size_zip,List.size_toArray,sizeLine_eq]; omega))
  simp only [bne_self_eq_false,Bool.false_eq_true,if_false] -- here
  refine wpAny_pure ?_
  unfold sortedHeap at h
  rw [← eo] at h
  exact h
 ·rw [if_neg h2,if_neg h2]
  rw [List.size_toArray] at h2
  obtain ⟨fs,k1,k2,k3⟩:=T6.kat (M:=model prog w)
  refine wpAny_bind (kat_kind (T:=Value.type "str") (s:={ s with heap:=((s.heap.update a (Obj.mapSeq fun _=>(#[]:Array Value))).push (seqObj "tuple" vs.toArray 0)).push (seqObj "list" #[] 0) }) k1 (by omega) k3 (by decide) ?_)
  rw [show (Value.type "str" != Value.type "tuple")=true by decide]
  have hb:Bf l.length (kas_sort vs.length)=true:=by
   have:l.length=2∨l.length=3∨l.length=4:=by omega
   rcases this with z | z | z
   ·rw [hlen,z]; exact U0.1
   ·rw [hlen,z]; exact U0.2.1
   ·rw [hlen,z]; exact U0.2.2
  refine wpAny_bind (wpAny_mono (kat_run (Q:=fun st' s'=>∃ p:Array Nat,arrOf st'=p.map (kas_item (vs.toArray.zip vs.toArray))∧failedOf st'=none∧p=K8 (ltS l) (kas_sort vs.length)∧p.size=vs.length∧s' = { s with heap:=((s.heap.update a (Obj.mapSeq fun _=>(#[]:Array Value))).push (seqObj "tuple" vs.toArray 0)).push (seqObj "list" #[] 0) })
   (G:=fun p s'=>p=K8 (ltS l) (kas_sort vs.length)∧s' = { s with heap:=((s.heap.update a (Obj.mapSeq fun _=>(#[]:Array Value))).push (seqObj "tuple" vs.toArray 0)).push (seqObj "list" #[] 0) })
   rfl (by omega) (by omega) (fun p' st' s' a1 a2 a3 a4=>⟨p',a2,a3,a4.1,a1,a4.2⟩) (Z9 (n:=l.length) (lt:=ltS l) (fun i j C hi hj ne hC=>a3q T6 nd i j C hi hj ne hC) _ hb ⟨rfl,rfl⟩)) ?_ fun _ _ e=>e)
  rintro ⟨⟨⟩,st'⟩ s' ⟨p,har,hf,hp,hz,rfl⟩
  dsimp only
  have hout:=kat_snds rfl har
  have eo:(arrOf st').map (·.2)=(outV vs l).toArray:=by
   rw [hout,hp]
   unfold outV order
   rw [if_neg (by omega),hlen]
  refine wpAny_bind (seqEpoch_at ho6 rfl ?_) -- here
  refine wpAny_bind (listUpdate_at ho6 rfl ?_ (Nat.zero_le _) (by rw [hout,List.size_toArray,List.length_map,Array.length_toList,hz,sizeLine_eq]; omega))
  rw [hf]
  simp only [bne_self_eq_false,Bool.false_eq_true,if_false] -- here
  refine wpAny_pure ?_
  unfold sortedHeap at h
  rw [← eo] at h
  exact h
theorem Qt {l:Addr} {vs:List Value} {ss:List Str} {Q:Value→Shared→Prop} (hl:s.heap.IsList l vs.toArray) (T:Pg s.heap vs ss) (nd:ss.Nodup) (h3:ss.length≤4)
  (h:Q (.ref (s.heap.objs.size+1)) { s with heap:=sortedAll s.heap vs (outV vs ss).toArray }) :
  wpAny (model prog w) A (call (.builtin "sorted") [.ref l]) Q E s:=by -- here
 have hlen:=T.length
 refine Calls.call_function_entry kind_sorted plain_sorted entry_sorted (args_sorted1 _) ?_ -- here
 unfold Builtin.«sorted»
 refine wpAny_bind (m:=checkCount "sorted" 1 1 _) (wpAny_pure ?_) -- here
 refine wpAny_bind (collect_list hl ?_ (by rw [sizeLine_eq]; omega)) -- here
 refine wpAny_bind (wpAny_newList ?_ (by rw [sizeLine_eq]; omega)) -- here
 have hsz:((s.heap.push (seqObj "list" #[] 0)).update s.heap.objs.size (Obj.mapSeq (· ++ vs.toArray))).objs.size=s.heap.objs.size+1:=by -- here
  rw [Heap.size_update,size_push'] -- here
 have hoL:(((s.heap.push (seqObj "list" #[] 0)).update s.heap.objs.size (Obj.mapSeq (· ++ vs.toArray))).push (seqObj "list" vs.toArray 0)).get? (s.heap.objs.size+1)=some (seqObj "list" vs.toArray 0):=by -- here
  rw [← hsz]; exact Heap.get?_push_size _ rfl -- here
 have keep:∀ b o,s.heap.get? b=some o→(((s.heap.push (seqObj "list" #[] 0)).update s.heap.objs.size (Obj.mapSeq (· ++ vs.toArray))).push (seqObj "list" vs.toArray 0)).get? b=some o∧b≠s.heap.objs.size+1:=fun b o q=>by
  have hlt:b<s.heap.objs.size:=Heap.lt_size q -- here
  refine ⟨?_,Nat.ne_of_lt (Nat.lt_succ_of_lt hlt)⟩
  rw [Heap.get?_push_ne _ _ _ (by rw [hsz]; exact Nat.ne_of_lt (Nat.lt_succ_of_lt hlt)),Heap.get?_update_ne _ _ _ _ (Nat.ne_of_lt hlt),Heap.get?_push_ne _ _ _ (Nat.ne_of_lt hlt)] -- here
  exact q
 show wpAny _ _ _ _ _ { s with heap:=((s.heap.push (seqObj "list" #[] 0)).update s.heap.objs.size (Obj.mapSeq (· ++ vs.toArray))).push (seqObj "list" vs.toArray 0) } -- here
 rw [hsz]
 refine wpAny_bind (wpAny_holding (wpAny_call_entry slot_list_sort ⟨_,hoL,rfl⟩ entry_list_sort (Jy (s:={ s with heap:=((s.heap.push (seqObj "list" #[] 0)).update s.heap.objs.size (Obj.mapSeq (· ++ vs.toArray))).push (seqObj "list" vs.toArray 0) }) (h0:=s.heap) hoL keep T nd h3 ⟨_,rfl,?_⟩) (args_list_sort _)))
 exact wpAny_pure ⟨_,rfl,h⟩
end
section
variable {X:Cx} {pins:List (Addr × Obj)} {σ:L2.St} {H S:Hp} {s:Shared} {as:List Addr}
theorem a1c (I:L2.Inv X pins σ H s) (sub:Same S H):∀ {ts:List T} {vs:List V} {us:List Value} {l:List Str},ug X.K S as vs ts→Vals vs us→firsts ts=some l→Pg s.heap us l
 | [],_,_,_,h1,h2,h=>by cases h1; cases h2; cases h; exact .nil
 | t::r,_,_,l,h1,h2,h=>by
  cases h1 with | cons a b=>?_
  cases h2 with | cons c d=>?_
  cases a with
  | @tup p ws ts' g1 g2 =>
   cases g2 with
   | nil=>simp only [firsts,reduceCtorEq] at h
   | cons y1 y2 =>
    cases y1 <;> simp only [firsts,reduceCtorEq] at h
    rename_i x
    obtain ⟨l',e1,e2⟩:=Option.map_eq_some_iff.mp h
    subst e2
    cases c
    obtain ⟨its,r',⟨o,h1,h2,n,h3⟩,_⟩:=I.tuple (ou sub g1)
    cases r' with
    | cons q1 q2 =>
     obtain ⟨t,rfl⟩:=q1
     exact .cons h1 h2 h3 (a1c I sub b d e1)
  | _=>simp only [firsts,reduceCtorEq] at h
theorem a5e {ts:List T} {vs:List V} (r:ug X.K S as vs ts) (i:Nat):Rep X.K S as (vs.getD i .non) (ts.getD i .non):=by
 by_cases h:i<ts.length
 ·have e:ts[i]? = some ts[i]:=List.getElem?_eq_getElem h
  obtain ⟨v,h1,h2⟩:=r.get e
  rw [List.getD_eq_getElem?_getD,List.getD_eq_getElem?_getD,e,h1]
  exact h2
 ·have h':¬ i<vs.length:=by rw [r.length]; exact h
  rw [List.getD_eq_getElem?_getD,List.getD_eq_getElem?_getD,List.getElem?_eq_none (Nat.le_of_not_lt h),List.getElem?_eq_none (Nat.le_of_not_lt h')]
  exact .non
theorem Wh:∀ {vs:List V} {us:List Value} (_:Vals vs us) (i:Nat),RelV (vs.getD i .non) (us.getD i Value.none)
 | _,_,.nil,i=>by simp; rfl
 | _,_,.cons a b,0=>a
 | _,_,.cons a b,i+1=>by simpa using Wh b i
theorem V1 {ts:List T} {vs:List V} (r:ug X.K S as vs ts):∀ l:List Nat,ug X.K S as (l.map fun i=>vs.getD i .non) (l.map fun i=>ts.getD i .non)
 | []=>.nil
 | i::l=>.cons (a5e r i) (V1 r l)
theorem Wk {vs:List V} {us:List Value} (r:Vals vs us):∀ l:List Nat,Vals (l.map fun i=>vs.getD i .non) (l.map fun i=>us.getD i Value.none)
 | []=>.nil
 | i::l=>.cons (Wh r i) (Wk r l)
def Kr {α:Type} (P:α→Bool):KasT α→Bool
 | .ret a=>P a
 | .ask i j k=>Kr P (k true)&&Kr P (k false)
theorem Ny {α:Type} {P:α→Bool} {lt:Nat→Nat→Bool}:∀ t:KasT α,Kr P t=true→P (K8 lt t)=true
 | .ret a,h=>h
 | .ask i j k,h=>by
  simp only [Kr,Bool.and_eq_true] at h
  refine Ny (k (lt i j)) ?_
  cases lt i j
  ·exact h.2
  ·exact h.1
theorem Zc:Kr (fun p:Array Nat=>decide (p.size≤4)) (kas_sort 2)=true∧Kr (fun p:Array Nat=>decide (p.size≤4)) (kas_sort 3)=true∧Kr (fun p:Array Nat=>decide (p.size≤4)) (kas_sort 4)=true:=by decide +kernel
theorem a0x (l:List Str) (h:l.length≤4):(order l).length≤sizeLine:=by
 have z:(4:Nat)≤sizeLine:=by rw [sizeLine_eq]; decide
 unfold order
 split
 ·rw [List.length_range]; omega
 ·rename_i h2
  rw [Array.length_toList]
  have:l.length=2∨l.length=3∨l.length=4:=by omega
  rcases this with e | e | e
  ·rw [e]
   have:=Ny (lt:=ltS l) _ Zc.1
   rw [decide_eq_true_eq] at this
   omega
  ·rw [e]
   have:=Ny (lt:=ltS l) _ Zc.2.1
   rw [decide_eq_true_eq] at this
   omega
  ·rw [e]
   have:=Ny (lt:=ltS l) _ Zc.2.2
   rw [decide_eq_true_eq] at this
   omega
theorem O5:Lx X (.builtin "sorted") Fg:=by
 intro pins s σ H xs us Q I rs z8
 obtain ⟨S,as,ts,w,sub,hr,hf,q⟩:=z8
 cases hr with
 | nil=>simp only [Fg,reduceCtorEq] at hf
 | @cons x t xs' ts' h1 h2 =>
  cases h2 with
  | cons h3 h4=>cases h1 <;> simp only [Fg,reduceCtorEq] at hf
  | nil =>
   cases h1 with
   | @lst a vs ts g1 g2 =>
    simp only [Fg] at hf
    split at hf
    ·rename_i l e1
     split at hf
     ·rename_i hc
      cases hf
      obtain ⟨u,rfl,ru⟩:=rs.one
      cases ru
      obtain ⟨its,r,p,hz⟩:=I.list (jl sub g1)
      have T:=a1c I sub g2 r e1
      refine Qt p.isList T hc.2 hc.1 ?_
      obtain ⟨e,he⟩:=sortedAll_at s.heap its (outV its l).toArray
      have hn:H (s.heap.objs.size+1)=none:=I.hok.fresh (Nat.le_succ _)
      have x:=Ext.laid sub hn (.lst ((order l).map fun i=>vs.getD i .non))
      refine ⟨.ref (s.heap.objs.size+1),_,I.laid (a:=s.heap.objs.size+1) (o:=.lst ((order l).map fun i=>vs.getD i .non)) (h':=sortedAll s.heap its (outV its l).toArray) (t':=s.toks) (fun _ _=>sortedAll_old) (Nat.le_succ _) ⟨by rw [List.length_map]; exact a0x l hc.1,_,e,Wk r (order l),he⟩,rfl,q _ _ _ x (.lst (SqL.of j8) ((V1 g2 _).mono x.s nol))⟩
     ·cases hf
    ·cases hf
   | _=>simp only [Fg,reduceCtorEq] at hf
end
end C
end
section
namespace C
open PySem L2
theorem Uj {lo:Int} {n i:Nat} {t:T} (h:(Fi lo n)[i]? = some t):i<n∧t=.int (lo+(i:Int)):=by
 unfold Fi at h
 rw [List.getElem?_map] at h
 cases z:(List.range n)[i]? with
 | none=>rw [z] at h; cases h
 | some k =>
  rw [z] at h; cases h
  obtain ⟨hi,e⟩:=List.getElem?_eq_some_iff.mp z
  rw [List.getElem_range] at e; subst e
  rw [List.length_range] at hi
  exact ⟨hi,rfl⟩
section
variable {X:Cx} {B:Bas} {a b tg:Expr} {m1 m2:M T} {pos p:Pos}
end
end C
end
section
namespace C
open PySem
end C
end
section
namespace C
def Fb (lo:Int) (n:Nat):List T:=(List.range n).map fun (k:Nat)=>.int (lo - (k:Int))
def Ey (a b c:M T):M (List T):=fun s=>match a s with
 | some (.int lo,s1)=>match b s1 with
  | some (.int hi,s2)=>match c s2 with
   | some (.int d,s3)=>if d = -1∧lo.natAbs<lim∧hi.natAbs<lim then some (Fb lo (lo - hi).toNat,s3) else none
   | _=>none
  | _=>none
 | _=>none
def Ds (a b:M T):M (List T):=fun s=>match a s with
 | some (.int lo,s1)=>match b s1 with
  | some (.int hi,s2)=>if (hi - lo).natAbs<lim then some (Fi lo (hi - lo).toNat,s2) else none
  | _=>none
 | _=>none
def a6o:List T→Option T
 | [.dic kvs]=>some (.dic kvs)
 | _=>none
end C
end
section
namespace C
open PySem PySem.Spec PyProof.Rows L2
theorem Kg {a b c:M T} {ts:List T} {s s':Sta} (h:Ey a b c s=some (ts,s')):∃ (lo hi:Int) (s1 s2:Sta),a s=some (.int lo,s1)∧b s1=some (.int hi,s2)∧c s2=some (.int (-1),s')∧(-1000000<lo∧lo<1000000∧-1000000<hi∧hi<1000000)∧ts=Fb lo (lo - hi).toNat:=by
 unfold Ey at h
 split at h
 ·rename_i lo s1 e1
  split at h
  ·rename_i hi s2 e2
   split at h
   ·rename_i d s3 e3
    split at h
    ·rename_i hl; cases h
     obtain ⟨hd,h1,h2⟩:=hl
     subst hd
     exact ⟨lo,hi,s1,s2,e1,e2,e3,by have h1:lo.natAbs<1000000:=h1; have h2:hi.natAbs<1000000:=h2; (clear e2 e1 e3; omega),rfl⟩
    ·cases h
   ·cases h
  ·cases h
 ·cases h
theorem Uv {lo:Int} {n i:Nat} {t:T} (h:(Fb lo n)[i]? = some t):i<n∧t=.int (lo - (i:Int)):=by
 unfold Fb at h
 rw [List.getElem?_map] at h
 cases z:(List.range n)[i]? with
 | none=>rw [z] at h; cases h
 | some k =>
  rw [z] at h; cases h
  obtain ⟨hi,e⟩:=List.getElem?_eq_some_iff.mp z
  rw [List.getElem_range] at e; subst e
  rw [List.length_range] at hi
  exact ⟨hi,rfl⟩
theorem a0a {m1 m2 m3:M T}:∀ st ts st',Ey m1 m2 m3 st=some (ts,st')→ts.length≤sizeLine:=fun st ts st' e=>by
 obtain ⟨lo,hi,s1,s2,_,_,_,hl,rfl⟩:=Kg e
 unfold Fb
 rw [List.length_map,List.length_range,sizeLine_eq]
 omega
def Itd (lo:Int) (n:Nat):It:=⟨fun i _=>i<n,fun i H x H'=>H'=H∧x=.int (lo - i),fun i _=>n≤i⟩
theorem Zz {P:Program} {w:World} {K:PySem.W.Frag} {tg:Expr} (it:Addr) (lo:Int) (n:Nat):Turn P w K tg (Itd lo n) [it] it (fun i h=>IsRangeIter h it (lo+(i:Nat) * (-1)) ((n:Int) - (i:Nat)) (-1)) where
 mem:=List.mem_singleton.mpr rfl
 obj:=fun i h st b hb=>by
  have e:b=it:=List.mem_singleton.mp hb
  subst e
  exact ⟨_,st,fun v z=>by
   have z2:Data.fields _=Data.cell v:=z
   cases z2⟩
 keep:=fun i h h' st k=>k it (List.mem_singleton.mpr rfl) _ st
 item:=by
  intro X hP hw hK hc i pins s σ H E I hf st hg
  subst hP hw hK
  obtain ⟨f0,f1,f2,f3,f4,f5⟩:=hf it (List.mem_singleton.mpr rfl)
  have W:=Walks.range (prog:=X.prog) (w:=X.w) (I.ok.hd hc) it lo (-1) n
  refine W.item i s _ _ hg st fun v h2 tk hv st2 kk=>?_
  obtain ⟨t,rfl⟩:=hv
  have I1:Inv X pins σ H { s with heap:=h2,toks:=tk }:=I.turned (fun b o hb e=>kk b o (by simpa using hb) e) f0 f1 f3 f4 f5
  refine ⟨_,rfl,Yl (s:={ s with heap:=h2,toks:=tk }) (n := "range_iterator") st2 rfl rfl (by decide) ⟨.int (lo - i),H,I1,⟨t,?_⟩,⟨rfl,rfl⟩,st2,fun b hb=>(hf b hb).1⟩⟩
  rw [show lo+(i:Int) * (-1)=lo - (i:Int) by omega]
 done:=by
  intro X hP hw hK hc i pins s σ H E I hf st hg
  subst hP hw hK
  obtain ⟨f0,f1,f2,f3,f4,f5⟩:=hf it (List.mem_singleton.mpr rfl)
  exact wpAny_pyNext_range_end (I.ok.hd hc) st (by have:n≤i:=hg; omega) fun h2 eb=>⟨rfl,I.turned (t':=s.toks) (fun b o hb e=>eb b o hb e) f0 f1 f3 f4 f5⟩
 self:=fun _ _ _ _ _ st h=>wpAny_pyIter_rangeiter st h
theorem rangeSize_down (a b:Int):Builtin.Range.rangeSize a b (-1)=if b<a then a - b else 0:=by
 unfold Builtin.Range.rangeSize -- here
 rw [if_neg (by decide)]
 split
 ·rw [show - -(1:Int)=1 by decide,Int.ediv_one]
  omega
 ·rfl
theorem small_down {a b:Int} (h1:-1000000<a) (h2:a<1000000) (h3:-1000000<b) (h4:b<1000000):Builtin.Range.small a b (-1)=true:=by
 unfold Builtin.Range.small
 rw [rangeSize_down]
 unfold Builtin.Range.rangeFitsLong
 split <;> simp <;> omega
section
variable {X:Cx} {tg:Expr}
theorem a7r {pins:List (Addr × Obj)} {σ:L2.St} {H:Hp} {s:Shared} {R:It→Hp→Prop} {E:Value→Shared→Prop} {lo hi:Int} {t u v:Tok} {tk:Nat} (I:Inv X pins σ H s) (hb:-1000000<lo∧lo<1000000∧-1000000<hi∧hi<1000000)
  (q:R (Itd lo (lo - hi).toNat) H):wpAny (model X.prog X.w) X.A (pyIter (.ref s.heap.objs.size)) (PIE X pins σ tg R) E { s with heap:=s.heap.push { cls:=.type "range",data:=.fields #[.int lo t,.int hi u,.int (-1) v] },toks:=tk }:=by
 refine wpAny_pyIter_range (IsRange.new ..) (small_down hb.1 hb.2.1 hb.2.2.1 hb.2.2.2) ?_
 have I1:Inv X pins σ H { s with heap:=s.heap.push { cls:=.type "range",data:=.fields #[.int lo t,.int hi u,.int (-1) v] },toks:=tk }:=I.kept fun b o e=>Heap.get?_push_of_some _ e
 refine ⟨_,[_],_,_,H,rfl,
  I1.kept (t':=tk) fun b o e=>Heap.get?_push_of_some _ e,Zz _ lo (lo - hi).toNat,?_,fun b hb=>?_,q⟩
 ·have e1:lo+((0:Nat):Int) * (-1)=lo:=by omega
  have e2:(((lo - hi).toNat:Nat):Int) - ((0:Nat):Int)=Builtin.Range.rangeSize lo hi (-1):=by rw [rangeSize_down]; split <;> omega
  show IsRangeIter _ _ (lo+((0:Nat):Int) * (-1)) ((((lo - hi).toNat:Nat):Int) - ((0:Nat):Int)) (-1)
  rw [e1,e2]
  exact Heap.get?_push_size _ rfl
 ·have e:=List.mem_singleton.mp hb
  subst e
  exact I1.a6i (Nat.le_refl _) (I1.hok.fresh (Nat.le_refl _))
def aez (ta:TA):TI:=fun σ H R=>ta σ H fun vs H1=>∃ i j:Int,vs=[.int i,.int j,.int (-1)]∧(-1000000<i∧i<1000000∧-1000000<j∧j<1000000)∧R (Itd i (i - j).toNat) H1
theorem Z8 (x:Int):Builtin.divisionGoesByPylong x (-1)=false:=by
 unfold Builtin.divisionGoesByPylong
 exact Bool.and_eq_false_imp.mpr fun h=>absurd (of_decide_eq_true h) (by decide)
theorem a0y {a b c:Expr} {ta:TA} {p pos:Pos} (hg:Gl X "range") (hm:X.mg "range" = none) (ha:PA X [a,b,c] ta) (hs:starEach [a,b,c] X.env=(false,eval a X.env)::starEach [b,c] X.env:=by rfl) (hs2:(backTo pos (starEach [b,c] X.env)).any (·.1)=false:=by rfl) :
  PI X tg (.Call (.Name "range" p) [a,b,c] [] pos) (aez ta):=by
 intro pins s σ H R I h
 refine Call_ (Ku I hg hm boot_range (PyProof.Rows.callWith_type1 (thn (ha pos pins s σ H _ I h) fun us s1 z0=>?_) hs hs2))
 obtain ⟨vs,H1,I1,r1,q1⟩:=z0
 obtain ⟨i,j,e,hb,q⟩:=q1
 subst e
 cases r1 with
 | cons r rr =>
  cases rr with
  | cons r2 rr =>
   cases rr with
   | cons r3 rr =>
    cases rr
    obtain ⟨t,rfl⟩:=r
    obtain ⟨t2,rfl⟩:=r2
    obtain ⟨t3,rfl⟩:=r3
    exact call_range_3 (by decide) (a7r (tk:=s1.toks) I1 hb q) (.inl (Z8 _))
end
section
variable {X:Cx} {B:Bas} {a b c tg:Expr} {m1 m2 m3:M T} {pos p:Pos}
theorem Yh (hg:Gl X "range") (hm:X.mg "range" = none) (h1:PE X a (tOf X.K B m1)) (h2:PE X b (tOf X.K B m2)) (h3:PE X c (tOf X.K B m3)) (hs:starEach [a,b,c] X.env=(false,eval a X.env)::starEach [b,c] X.env:=by rfl) (hs2:starEach [b,c] X.env=(false,eval b X.env)::starEach [c] X.env:=by rfl) (hs3:starEach [c] X.env=(false,eval c X.env)::starEach [] X.env:=by rfl) (hp:(backTo pos (starEach [b,c] X.env)).any (·.1)=false:=by rfl) :
  PI X tg (.Call (.Name "range" p) [a,b,c] [] pos) (iOf X.K B (Ey m1 m2 m3)):=by
 intro pins s σ H R I hw
 refine a0y (ta:=Ju (tOf X.K B m1) (Ju (tOf X.K B m2) (Ju (tOf X.K B m3) a82))) hg hm (nu h1 (nu h2 (nu h3 ux hs3) hs2) hs) hs hp pins s σ H R I ?_
 obtain ⟨st,ps,S,as,Rl,ts,st',e,hz,q⟩:=hw
 obtain ⟨lo,hi,s1,s2,e1,e2,e3,hl,rfl⟩:=Kg e
 refine ⟨st,ps,S,as,Rl,_,_,e1,fun v H1 S1 as1 R1=>⟨s1,_,S1,as1,R1,_,_,e2,fun u H2 S2 as2 R2=>⟨s2,_,S2,as2,R2,_,_,e3,fun x H3 S3 as3 R3=>?_⟩⟩⟩
 have t3:=R3.top
 have t2:=R3.top2
 have t1:=R3.drop.top2
 cases t3
 cases t2
 cases t1
 refine ⟨lo,hi,rfl,by (clear R3 R2 R1 q hz e e3 e2 e1 Rl I hs3 hs2 hs h3 h2 h1 hm hg; omega),q _ H3 S3 as3 [] R3.drop.drop.drop fun S3 as3 H3 _ hh=>⟨fun i t e=>?_,fun i hj=>?_⟩⟩
 ·obtain ⟨hi,rfl⟩:=Uv e
  refine ⟨hi,fun x H' y=>⟨S3,by rw [y.1]; exact Ext.refl hh,?_⟩⟩
  have:=y.2; subst this
  exact .int _
 ·show (lo - hi).toNat≤i
  unfold Fb at hj
  rwa [List.length_map,List.length_range] at hj
end
theorem Ld {a b:M T} {ts:List T} {s s':Sta} (h:Ds a b s=some (ts,s')):∃ (lo hi:Int) (s1:Sta),a s=some (.int lo,s1)∧b s1=some (.int hi,s')∧(-1000000<hi - lo∧hi - lo<1000000)∧ts=Fi lo (hi - lo).toNat:=by
 unfold Ds at h
 split at h
 ·rename_i lo s1 e1
  split at h
  ·rename_i hi s2 e2
   split at h
   ·rename_i hl; cases h; exact ⟨lo,hi,s1,e1,e2,by have:(hi - lo).natAbs<1000000:=hl; (clear e2 hl e1; omega),rfl⟩
   ·cases h
  ·cases h
 ·cases h
theorem a0p {m1 m2:M T}:∀ st ts st',Ds m1 m2 st=some (ts,st')→ts.length≤sizeLine:=fun st ts st' e=>by
 obtain ⟨lo,hi,s1,_,_,hl,rfl⟩:=Ld e
 unfold Fi
 rw [List.length_map,List.length_range,sizeLine_eq]
 omega
theorem a1m {P:Program} {w:World} {K:PySem.W.Frag} {tg:Expr} (it:Addr) (lo:Int) (n:Nat):Turn P w K tg (Itr lo n) [it] it (fun i h=>IsLongIter h it (lo+(i:Nat) * 1) ((n:Int) - (i:Nat)) 1) where
 mem:=List.mem_singleton.mpr rfl
 obj:=fun i h st b hb=>by
  have e:b=it:=List.mem_singleton.mp hb
  subst e
  exact ⟨_,st,fun v z=>by
   have z2:Data.fields _=Data.cell v:=z
   cases z2⟩
 keep:=fun i h h' st k=>k it (List.mem_singleton.mpr rfl) _ st
 item:=by
  intro X hP hw hK hc i pins s σ H E I hf st hg
  subst hP hw hK
  obtain ⟨f0,f1,f2,f3,f4,f5⟩:=hf it (List.mem_singleton.mpr rfl)
  have W:=Walks.longrange (prog:=X.prog) (w:=X.w) (I.ok.hd hc) it lo 1 n
  refine W.item i s _ _ hg st fun v h2 tk hv st2 kk=>?_
  obtain ⟨t,rfl⟩:=hv
  have I1:Inv X pins σ H { s with heap:=h2,toks:=tk }:=I.turned (fun b o hb e=>kk b o (by simpa using hb) e) f0 f1 f3 f4 f5
  refine ⟨_,rfl,Yl (s:={ s with heap:=h2,toks:=tk }) (n := "longrange_iterator") st2 rfl rfl (by decide) ⟨.int (lo+i),H,I1,⟨t,?_⟩,⟨rfl,rfl⟩,st2,fun b hb=>(hf b hb).1⟩⟩
  rw [Int.mul_one]
 done:=by
  intro X hP hw hK hc i pins s σ H E I hf st hg
  subst hP hw hK
  obtain ⟨f0,f1,f2,f3,f4,f5⟩:=hf it (List.mem_singleton.mpr rfl)
  exact wpAny_pyNext_long_end (I.ok.hd hc) st (by have:n≤i:=hg; omega) fun h2 eb=>⟨rfl,I.turned (t':=s.toks) (fun b o hb e=>eb b o hb e) f0 f1 f3 f4 f5⟩
 self:=fun _ _ _ _ _ st h=>wpAny_pyIter_longiter st h
section
variable {X:Cx} {tg:Expr}
theorem a80 {pins:List (Addr × Obj)} {σ:L2.St} {H:Hp} {s:Shared} {R:It→Hp→Prop} {E:Value→Shared→Prop} {lo hi:Int} {t u v:Tok} {tk:Nat} (I:Inv X pins σ H s)
  (q:R (Itr lo (hi - lo).toNat) H):wpAny (model X.prog X.w) X.A (pyIter (.ref s.heap.objs.size)) (PIE X pins σ tg R) E { s with heap:=s.heap.push { cls:=.type "range",data:=.fields #[.int lo t,.int hi u,.int 1 v] },toks:=tk }:=by
 have I1:Inv X pins σ H { s with heap:=s.heap.push { cls:=.type "range",data:=.fields #[.int lo t,.int hi u,.int 1 v] },toks:=tk }:=I.kept fun b o e=>Heap.get?_push_of_some _ e
 have e1:lo+((0:Nat):Int) * 1=lo:=by simp
 have e2:(((hi - lo).toNat:Nat):Int) - ((0:Nat):Int)=Builtin.Range.rangeSize lo hi 1:=by rw [rangeSize_one]; split <;> omega
 cases z:Builtin.Range.small lo hi 1 with
 | true =>
  refine wpAny_pyIter_range (IsRange.new ..) z ?_
  refine ⟨_,[_],_,_,H,rfl,I1.kept (t':=tk) fun b o e=>Heap.get?_push_of_some _ e,Ma _ lo (hi - lo).toNat,?_,fun b hb=>?_,q⟩
  ·show IsRangeIter _ _ (lo+((0:Nat):Int) * 1) ((((hi - lo).toNat:Nat):Int) - ((0:Nat):Int)) 1
   rw [e1,e2]
   exact Heap.get?_push_size _ rfl
  ·have e:=List.mem_singleton.mp hb
   subst e
   exact I1.a6i (Nat.le_refl _) (I1.hok.fresh (Nat.le_refl _))
 | false =>
  refine wpAny_pyIter_longrange (IsRange.new ..) z ?_
  refine ⟨_,[_],_,_,H,rfl,I1.kept (t':=tk) fun b o e=>Heap.get?_push_of_some _ e,a1m _ lo (hi - lo).toNat,?_,fun b hb=>?_,q⟩
  ·show IsLongIter _ _ (lo+((0:Nat):Int) * 1) ((((hi - lo).toNat:Nat):Int) - ((0:Nat):Int)) 1
   rw [e1,e2]
   exact Heap.get?_push_size _ rfl
  ·have e:=List.mem_singleton.mp hb
   subst e
   exact I1.a6i (Nat.le_refl _) (I1.hok.fresh (Nat.le_refl _))
def aee (ta:TA):TI:=fun σ H R=>ta σ H fun vs H1=>∃ i j:Int,vs=[.int i,.int j]∧R (Itr i (j - i).toNat) H1
theorem a2c {a b:Expr} {ta:TA} {p pos:Pos} (hg:Gl X "range") (hm:X.mg "range" = none) (ha:PA X [a,b] ta) (hs:starEach [a,b] X.env=(false,eval a X.env)::starEach [b] X.env:=by rfl) (hs2:(backTo pos (starEach [b] X.env)).any (·.1)=false:=by rfl) :
  PI X tg (.Call (.Name "range" p) [a,b] [] pos) (aee ta):=by
 intro pins s σ H R I h
 refine Call_ (Ku I hg hm boot_range (PyProof.Rows.callWith_type1 (thn (ha pos pins s σ H _ I h) fun us s1 z0=>?_) hs hs2))
 obtain ⟨vs,H1,I1,r1,q1⟩:=z0
 obtain ⟨i,j,e,q⟩:=q1
 subst e
 cases r1 with
 | cons r rr =>
  cases rr with
  | cons r2 rr =>
   cases rr
   obtain ⟨t,rfl⟩:=r
   obtain ⟨t2,rfl⟩:=r2
   exact call_range_2 (a80 I1 q)
end
section
variable {X:Cx} {B:Bas} {a b tg:Expr} {m1 m2:M T} {pos p:Pos}
theorem a0u (hg:Gl X "range") (hm:X.mg "range" = none) (h1:PE X a (tOf X.K B m1)) (h2:PE X b (tOf X.K B m2)) (hs:starEach [a,b] X.env=(false,eval a X.env)::starEach [b] X.env:=by rfl) (hs2:starEach [b] X.env=(false,eval b X.env)::starEach [] X.env:=by rfl) (hp:(backTo pos (starEach [b] X.env)).any (·.1)=false:=by rfl) :
  PI X tg (.Call (.Name "range" p) [a,b] [] pos) (iOf X.K B (Ds m1 m2)):=by
 intro pins s σ H R I hw
 refine a2c (ta:=Ju (tOf X.K B m1) (Ju (tOf X.K B m2) a82)) hg hm (nu h1 (nu h2 ux hs2) hs) hs hp pins s σ H R I ?_
 obtain ⟨st,ps,S,as,Rl,ts,st',e,hz,q⟩:=hw
 obtain ⟨lo,hi,s1,e1,e2,hl,rfl⟩:=Ld e
 refine ⟨st,ps,S,as,Rl,_,_,e1,fun v H1 S1 as1 R1=>⟨s1,_,S1,as1,R1,_,_,e2,fun u H2 S2 as2 R2=>?_⟩⟩
 have t2:=R2.top
 have t1:=R2.top2
 cases t2
 cases t1
 refine ⟨lo,hi,rfl,q _ H2 S2 as2 [] R2.drop.drop fun S3 as3 H3 _ hh=>⟨fun i t e=>?_,fun i hj=>?_⟩⟩
 ·obtain ⟨hi,rfl⟩:=Uj e
  refine ⟨hi,fun x H' y=>⟨S3,by rw [y.1]; exact Ext.refl hh,?_⟩⟩
  have:=y.2; subst this
  exact .int _
 ·show (hi - lo).toNat≤i
  unfold Fi at hj
  rwa [List.length_map,List.length_range] at hj
end
section
variable {X:Cx} {B:Bas} {a:Expr} {m:M T} {pos p:Pos}
def ad4 (K:PySem.W.Frag):List V→Hp→VK→Prop:=fun xs H Q=>∃ S as u,Same S H∧ug K S as xs [.dic u]∧∀ p kv,H p=none→Ed K S as kv u→Q (.ref p) (upd H p (.dK kv))
theorem Wz:Df X (.type "dict") (ad4 X.K):=by
 intro pins s σ H xs us Q I rs z8
 obtain ⟨S,as,u,sub,hr,q⟩:=z8
 cases hr with
 | cons h1 h2 =>
  cases h2
  obtain ⟨v,rfl,ru⟩:=rs.one
  cases h1 with
  | @dic a kvs ts g1 g2 =>
   cases ru
   exact a5m I (yp sub g1) fun p s' hp I'=>⟨.ref p,_,I',rfl,q p kvs hp g2⟩
theorem a3f (hg:Gl X "dict") (hm:X.mg "dict" = none) (ha:PE X a (tOf X.K B m)) (he:starEach [a] X.env=(false,eval a X.env)::starEach [] X.env:=by rfl) (hpl:(backTo pos (starEach [] X.env)).any (·.1)=false:=by rfl) :
  PE X (.Call (.Name "dict" p) [a] [] pos) (fOf X.K B (gk a6o (ao m dw))):=by
 refine (mq Wz hg hm PyProof.Rows.boot_dict (nu ha ux he) (by decide) (by decide) he hpl).imp fun σ H Q z0=>?_
 obtain ⟨st,ps,S,as,R,t,st',e,q⟩:=z0
 obtain ⟨ts,e1,e2⟩:=Bx e
 obtain ⟨t1,s1,us,ea,en,rfl⟩:=Br e1
 cases en
 cases t1 <;> first | exact jm e2 | skip
 rename_i u
 cases e2
 refine ⟨st,ps,S,as,R,_,_,ea,fun v H1 S1 as1 R1=>⟨S1,as1,u,R1.sub,.cons R1.top .nil,fun p kv hp k2=>?_⟩⟩
 obtain ⟨bD,sD,nD,no⟩:=R1.fresh hp
 exact q p _ S1 as1 (R1.drop.a5n bD sD nD (fun j w e1 e2=>no j w e1 e2)) ⟨⟨kv,j8,k2⟩,sD,nD,bD⟩ (fun j w e1 e2=>no j w e1 e2)
end
section
variable {K:PySem.W.Frag} {S:Hp} {as:List Addr}
end
section
variable {X:Cx} {B:Bas} {a b e:Expr} {m m2:M T} {pos p1:Pos} {es:List Expr} {ms:M (List T)}
theorem Rel.base {K:PySem.W.Frag} {B:Bas} {st:Sta} {σ:L2.St} {H S:Hp} {ps:List (V × T)} {as:List Addr} (r:Rel K B st σ H ps S as):Rel K ⟨S,as,B.H⟩ st σ H ps S as :=
 ⟨r.sub,⟨Same.refl _,nol,fun p o h1 h2 h3=>by
  change S p=none at h2
  have b2:B.S p=none:=by
   cases q:B.S p with
   | none=>rfl
   | some u=>have:=r.grow.same _ _ q; rw [h2] at this; cases this
  have b3:p∉B.as:=fun q=>by obtain ⟨l,e⟩:=r.grow.more; exact h3 (by show p∈as; rw [e]; exact List.mem_append_left _ q)
  exact ⟨(r.grow.keep p o h1 b2 b3).1,h2,h3⟩⟩,fun i t f e=>by
   obtain ⟨v,h1,h2,h3⟩:=r.slots i t f e
   exact ⟨v,h1,h2,fun q=>by obtain ⟨p,ep,o⟩:=h3 q; exact ⟨p,ep,o.own,o.out,o.nas,o.new⟩⟩,r.apart,r.sto,r.pend,r.len⟩
end
end C
end
section
namespace C
open PySem PySem.Spec
section
variable {prog:Program} {w:World} {A:Around} {E:Value→Shared→Prop} {s:Shared} {it l:Addr} {xs:Array Value}
end
end C
end
section
namespace C
open PySem PySem.Spec PyProof.Rows L2
section
variable {X:Cx} {B:Bas} {a b e e1 e2:Expr} {m m1 m2:M T} {pos p1 p2 p3 p4:Pos} {lo hi:Option Expr} {ml mh:M (Option Int)}
theorem T3 {i:Nat} {s s':Sta} {t:T} (h:Ez i m s=some (t,s')):Ei i s=true∧∃ xs f ys,m s=some (.lst ys,s')∧s'.env[i]? = some (some (.lst xs,f))∧xs.length+ys.length<lim∧t=.lst (xs++ys):=by
 unfold Ez at h
 split at h
 ·rename_i hd
  refine ⟨hd,?_⟩
  split at h
  ·rename_i ys s1 e1
   split at h
   ·rename_i xs f e2
    split at h
    ·rename_i hl
     cases h
     exact ⟨xs,f,ys,e1,e2,hl,rfl⟩
    ·cases h
   ·cases h
  ·cases h
 ·cases h
theorem Z6 (i:Nat) (hi:PE X a (a2r i)) (hb:PE X b (tOf X.K B m)):PE X (.BinOp a .Add b pos) (fOf X.K B (Ez i m)):=(aac Yb hi hb).imp fun σ H Q z9=>by
 obtain ⟨st,ps,S,as,R,t,st',ev,q⟩:=z9
 obtain ⟨hd,xs,f,ys,e1,e2,hl,rfl⟩:=T3 ev
 obtain ⟨xs0,f0,e0⟩:=Kz hd
 obtain ⟨p0,vs0,s0,_⟩:=R.listAt e0
 refine ⟨_,s0,st,ps,S,as,R,.lst ys,st',e1,fun u H2 S2 as2 R2=>?_⟩
 have tp:=R2.top
 cases tp with
 | @lst c vs ts g1 g2 =>
  obtain ⟨q1,vs1,s1,rd1,h4⟩:=R2.listAt e2
  rw [s0] at s1; cases s1
  refine ⟨p0,c,vs1,vs,rfl,rfl,rd1,jl R2.sub g1,?_,fun l hl2=>?_⟩
  ·rw [h4.length,g2.length]; exact Nat.le_trans (Nat.le_of_lt hl) um
  ·obtain ⟨bD,sD,nD,no⟩:=R2.fresh hl2
   exact q l _ S2 as2 (R2.drop.a5n bD sD nD (fun j w e1 e2=>no j w e1 e2)) ⟨⟨vs1++vs,j8,h4.append g2⟩,sD,nD,bD⟩ (fun j w e1 e2=>no j w e1 e2)
end
section
variable {X:Cx} {B:Bas} {e1:Expr} {m1:M T} {pos p1:Pos}
end
end C
end
section
namespace K
open C PySem
def Cp:Fn:=qp 6
 (jz (sNew 2 (au (.dic [])))
 (jz (Fq (Cw [3,4]) (yd (bx 1))
 (Ai 2 (bx 3) (mOp vo (Hh 2 (bx 3) (au (.int 0))) (bx 4))))
 (jz (vf 5 (pq 1 [2] (hName 0) (yd (gk Nt (ao (bx 2) dw))) (gb (mOp neO (mOp cj (bx 1) (bx 0)) (au (.int 0)))) (gk (fun l=>some (.tup l)) (ao (bx 0) (ao (mOp cj (bx 1) (bx 0)) dw)))))
 (rm (gk (fun l=>some (.tup l)) (ao (bx 0) (ao (gk yg (ao (bx 5) dw)) dw)))))))
abbrev a7m:M Bool:=gb (mOp gtT (Ck 4) (au (.int 0)))
def R9:Fn:=qp 2
 (rm (iy Cp (ao (mOp vo (mOp cj (bx 0) (au (.int 0))) (mOp cj (bx 1) (au (.int 0)))) (ao (mOp vo (mOp cj (bx 0) (au (.int 1))) (mOp cj (bx 1) (au (.int 1)))) dw))))
abbrev ac0:S:=jz (a4c 4 5) (sIf (gb (mOp eqO (mOp cj (bx 5) (au (.int 0))) (au (.str "and")))) (yu 4 (mUn a77 (mOp cj (bx 5) (au (.int 1))))) (sIf (gb (mOp eqO (mOp cj (bx 5) (au (.int 0))) (au (.str "or")))) (qj 3 (mOp cj (bx 5) (au (.int 1)))) (qj 2 (bx 5))))
abbrev lC:M Bool:=a7m
def uz:Fn:=qp 6
 (jz (sNew 2 (gk Dt (ao (mOp cj (bx 0) (au (.int 0))) dw)))
 (jz (sNew 3 (gk Dt (ao (mOp cj (bx 0) (au (.int 1))) dw)))
 (jz (sNew 4 (mUn adp (gk Dt (ao (bx 1) dw))))
 (jz (vg 1000 lC
 ac0)
 (rm (gk (fun l=>some (.tup l)) (ao (bx 2) (ao (bx 3) dw))))))))
def lg:Fn:=qp 1
 (rm (mIf (gb (gk isTup (ao (bx 0) dw))) (gk yg (ao (bx 0) dw)) (gk (fun l=>some (.tup l)) dw)))
def je:Fn:=qp 3
 (rm (Ad (Ba (gb (mOp eqO (gk Bw (ao (bx 0) dw)) (bx 2))) (gb (Ad (Ba (gb (gk isStr (ao (mOp cj (bx 0) (au (.int 0))) dw))) (gb (mOp eqO (mOp cj (bx 0) (au (.int 0))) (bx 1)))))))))
def ud:Fn:=qp 1
 (rm (Ad (Ba (gb (gk isInt (ao (bx 0) dw))) (gb (Ad (J2 (gb (gk aa6 (ao (bx 0) dw)))))))))
def yq:Fn:=qp 2
 (rm (Ad (Ba (gb (mOp leT (au (.int 0)) (bx 0))) (gb (mOp ltT (bx 0) (gk Bw (ao (bx 1) dw)))))))
def ni:Fn:=qp 5
 (jz (sIf (mOr (J2 (gb (iy yq (ao (bx 1) (ao (mOp cj (bx 0) (au (.int 1))) dw))))) (J2 (gb (gk isTup (ao (bx 2) dw)))))
 (rm (au .non))
 Ab)
 (jz (vf 3 (mOp cj (mOp cj (bx 0) (au (.int 1))) (bx 1)))
 (jz (vf 4 (iy lg (ao (bx 2) dw)))
 (jz (sIf (gb (mOp neO (gk Bw (ao (bx 4) dw)) (gk Bw (ao (bx 3) dw))))
 (rm (au .non))
 Ab)
 (rm (pq 2 [0] (Cw [0,1]) (a7f (bx 3) (bx 4)) zy (gk (fun l=>some (.tup l)) (ao (iy uz (ao (bx 2) (ao (gk (fun l=>some (.lst l)) (ao (bx 0) dw)) dw))) (ao (bx 1) dw)))))))))
def Aw:Fn:=qp 2
 (rm (gk (fun l=>some (.tup l)) (ao (au (.str "most")) (ao (gk (fun l=>some (.tup l)) (ao (mUn Jw (bx 1)) (ao (gk (fun l=>some (.tup l)) (ao (gk (fun l=>some (.tup l)) (ao (bx 0) (ao (au (.int 1)) dw))) dw)) dw))) dw))))
def yr:Fn:=qp 2
 (rm (gk (fun l=>some (.tup l)) (ao (au (.str "most")) (ao (gk (fun l=>some (.tup l)) (ao (bx 1) (ao (gk (fun l=>some (.tup l)) (ao (gk (fun l=>some (.tup l)) (ao (bx 0) (ao (mUn Jw (au (.int 1))) dw))) dw)) dw))) dw))))
def tu:Fn:=qp 8
 (jz (vf 5 (pq 1 [2] (hName 0) (yd (bx 0)) (Ba (gb (gk isStr (ao (bx 1) dw))) (gb (mOp eqO (bx 0) (bx 1)))) (bx 0)))
 (jz (sIf (gb (mOp neO (gk Bw (ao (bx 5) dw)) (au (.int 1))))
 (rm (au .non))
 Ab)
 (jz (vf 6 (iy uz (ao (bx 1) (ao (gk (fun l=>some (.lst l)) (ao (iy Aw (ao (mOp cj (bx 5) (au (.int 0))) (ao (bx 3) dw))) dw)) dw))))
 (jz (vf 7 (iy uz (ao (bx 1) (ao (gk (fun l=>some (.lst l)) (ao (iy yr (ao (mOp cj (bx 5) (au (.int 0))) (ao (mOp vo (bx 3) (au (.int 1))) dw))) dw)) dw))))
 (rm (gk (fun l=>some (.lst l)) (ao (gk (fun l=>some (.tup l)) (ao (bx 6) (ao (mOp cj (bx 4) (au (.int 0))) dw))) (ao (gk (fun l=>some (.tup l)) (ao (bx 7) (ao (mOp cj (bx 4) (au (.int 1))) dw))) dw))))))))
def vd:Fn:=qp 6
 (jz (vf 2 (au (.int 0)))
 (jz (sNew 3 (gk (fun l=>some (.lst l)) dw))
 (jz (Fq (hName 4) (yd (bx 1))
 (jz (vf 5 (mOp cj (mOp cj (bx 0) (mOp cj (bx 4) (au (.int 0)))) (au (.int 1))))
 (jz (vf 2 (mOp vo (bx 2) (mOp Rq (mOp cj (bx 4) (mUn Jw (au (.int 1)))) (mOp cj (bx 5) (au (.int 0))))))
 (yu 3 (pq 2 [4] (Cw [0,1]) (yd (mOp cj (bx 5) (au (.int 1)))) zy (gk (fun l=>some (.tup l)) (ao (bx 0) (ao (mOp Rq (mOp cj (bx 2) (mUn Jw (au (.int 1)))) (bx 1)) dw))))))))
 (rm (iy Cp (ao (bx 2) (ao (bx 3) dw)))))))
def uq:Fn:=qp 3
 (rm (Ad (Ba (gb (iy yq (ao (bx 1) (ao (bx 0) dw)))) (gb (mOp eqO (mOp cj (mOp cj (bx 0) (bx 1)) (au (.int 0))) (bx 2))))))
def mj:Fn:=qp 2
 (rm (Ad (Ba (gb (mOp eqO (gk Bw (ao (bx 1) dw)) (au (.int 2)))) (gb (Ad (Ba (gb (iy uq (ao (bx 0) (ao (mOp cj (bx 1) (au (.int 0))) (ao (au (.str "most")) dw))))) (gb (mOp gtT (mOp cj (bx 1) (au (.int 1))) (au (.int 0))))))))))
def G5:Fn:=qp 3
 (jz (sIf (J2 (gb (gk a05 (ao (pq 1 [0] (hName 0) (yd (bx 1)) zy (iy mj (ao (bx 1) (ao (bx 0) dw)))) dw))))
 (rm (au (.bl false)))
 Ab)
 (jz (vf 2 (iy vd (ao (bx 0) (ao (bx 1) dw))))
 (rm (Ad (Ba (gb (mOp eqO (mOp cj (bx 2) (au (.int 1))) (gk (fun l=>some (.tup l)) dw))) (gb (mOp gtT (mOp cj (bx 2) (au (.int 0))) (au (.int 0)))))))))
def qy:Fn:=qp 3
 (jz (sIf (mOr (J2 (gb (iy uq (ao (bx 0) (ao (bx 1) (ao (au (.str "most")) dw)))))) (J2 (gb (iy uq (ao (bx 0) (ao (bx 2) (ao (au (.str "most")) dw)))))))
 (rm (au (.bl false)))
 Ab)
 (rm (mOp eqO (iy R9 (ao (mOp cj (mOp cj (bx 0) (bx 1)) (au (.int 1))) (ao (mOp cj (mOp cj (bx 0) (bx 2)) (au (.int 1))) dw))) (gk (fun l=>some (.tup l)) (ao (au (.int 0)) (ao (gk (fun l=>some (.tup l)) dw) dw))))))
def lq:Fn:=qp 3
 (jz (sIf (gb (mOp eqO (gk Bw (ao (bx 2) dw)) (au (.int 3))))
 (rm (Ad (Ba (gb (iy qy (ao (bx 0) (ao (mOp cj (bx 2) (au (.int 0))) (ao (mOp cj (bx 2) (au (.int 1))) dw))))) (gb (mOp neO (mOp cj (bx 2) (au (.int 2))) (au (.int 0)))))))
 Ab)
 (jz (sIf (gb (mOp eqO (gk Bw (ao (bx 2) dw)) (au (.int 2))))
 (rm (Ad (Ba (gb (iy uq (ao (bx 0) (ao (mOp cj (bx 2) (au (.int 0))) (ao (au (.str "rest")) dw))))) (gb (Ad (Ba (gb (mOp neO (mOp cj (bx 2) (au (.int 1))) (au (.int 0)))) (gb (mOp eqO (mOp Al (mOp Rq (mOp cj (bx 2) (au (.int 1))) (mOp cj (mOp cj (bx 0) (mOp cj (bx 2) (au (.int 0)))) (au (.int 2)))) (bx 1)) (au (.int 0))))))))))
 Ab)
 (rm (au (.bl false)))))
def Bv:Fn:=qp 4
 (jz (sIf (mOr (gb (mOp ltT (bx 1) (au (.int 2)))) (J2 (gb (gk a05 (ao (pq 1 [0,1] (hName 0) (yd (bx 2)) zy (iy lq (ao (bx 1) (ao (bx 2) (ao (bx 0) dw))))) dw)))))
 (rm (au (.bl false)))
 Ab)
 (jz (vf 3 (iy vd (ao (bx 0) (ao (bx 2) dw))))
 (rm (Ad (Ba (gb (mOp neO (mOp Al (mOp cj (bx 3) (au (.int 0))) (bx 1)) (au (.int 0)))) (gb (gk a05 (ao (pq 2 [1] (Cw [0,1]) (yd (mOp cj (bx 3) (au (.int 1)))) zy (mOp eqO (mOp Al (bx 1) (bx 2)) (au (.int 0)))) dw))))))))
def yj:Fn:=qp 2
 (jz (vf 1 (iy lg (ao (bx 0) dw)))
 (rm (mIf (gb (gk a05 (ao (pq 1 [] (hName 0) (yd (bx 1)) zy (iy ud (ao (bx 0) dw))) dw))) (gk yg (ao (pq 1 [] (hName 0) (yd (bx 1)) zy (gk Vv (ao (bx 0) dw))) dw)) (gk (fun l=>some (.tup l)) dw))))
def ql:Fn:=qp 1
 (rm (pq 1 [] (hName 0) (yd (iy lg (ao (bx 0) dw))) zy (iy yj (ao (bx 0) dw))))
def gj:Fn:=qp 4
 (jz (vf 3 (iy lg (ao (bx 2) dw)))
 (jz (sIf (Ba (gb (iy je (ao (bx 3) (ao (au (.str "or")) (ao (au (.int 3)) dw))))) (gb (iy ud (ao (mOp cj (bx 3) (au (.int 1))) dw))))
 (rm (iy ni (ao (bx 1) (ao (gk Vv (ao (mOp cj (bx 3) (au (.int 1))) dw)) (ao (mOp cj (bx 3) (au (.int 2))) dw)))))
 Ab)
 (jz (sIf (Ba (gb (iy je (ao (bx 3) (ao (au (.str "cut")) (ao (au (.int 5)) dw))))) (gb (iy ud (ao (mOp cj (bx 3) (au (.int 2))) dw))))
 (rm (iy tu (ao (bx 0) (ao (bx 1) (ao (mOp cj (bx 3) (au (.int 1))) (ao (gk Vv (ao (mOp cj (bx 3) (au (.int 2))) dw)) (ao (qu (bx 3) (wg (au (.int 3))) Az) dw)))))))
 Ab)
 (jz (sIf (Ba (gb (iy je (ao (bx 3) (ao (au (.str "sum")) (ao (au (.int 2)) dw))))) (gb (iy G5 (ao (mOp cj (bx 1) (au (.int 0))) (ao (iy ql (ao (mOp cj (bx 3) (au (.int 1))) dw)) dw)))))
 (rm (gk (fun l=>some (.lst l)) dw))
 Ab)
 (jz (sIf (Ba (gb (iy je (ao (bx 3) (ao (au (.str "rest")) (ao (au (.int 3)) dw))))) (Ba (gb (iy ud (ao (mOp cj (bx 3) (au (.int 1))) dw))) (gb (iy Bv (ao (mOp cj (bx 1) (au (.int 0))) (ao (gk Vv (ao (mOp cj (bx 3) (au (.int 1))) dw)) (ao (iy ql (ao (mOp cj (bx 3) (au (.int 2))) dw)) dw)))))))
 (rm (gk (fun l=>some (.lst l)) dw))
 Ab)
 (rm (au .non)))))))
def wz:Fn:=qp 5
 (jz (sNew 1 (gk (fun l=>some (.lst l)) dw))
 (jz (Fq (Cw [2,3,4]) (yd (bx 0))
 (jz (qj 1 (iy yr (ao (bx 2) (ao (bx 3) dw))))
 (qj 1 (iy Aw (ao (bx 2) (ao (bx 4) dw))))))
 (rm (gk (fun l=>some (.tup l)) (ao (bx 1) (ao (gk (fun l=>some (.lst l)) dw) dw))))))
abbrev lB:S:=jz (a4c 4 5) (jz (vf 6 (au .non)) (jz (sIf (gb (mOp leT (mOp cj (bx 5) (au (.int 2))) (au (.int 90)))) (vf 6 (iy gj (ao (bx 3) (ao (mOp cj (bx 5) (au (.int 0))) (ao (mOp cj (bx 5) (au (.int 1))) dw))))) Ab) (jz (sIf (gb (mOp a73 (bx 6) (au .non))) (rm (au (.bl false))) Ab) (yu 4 (pq 2 [5] (Cw [0,1]) (yd (bx 6)) zy (gk (fun l=>some (.tup l)) (ao (bx 0) (ao (bx 1) (ao (mOp vo (mOp cj (bx 2) (au (.int 2))) (au (.int 1))) dw)))))))))
def wu:Fn:=qp 7
 (jz (vf 3 (pq 3 [] (Cw [0,1,2]) (yd (bx 0)) zy (bx 0)))
 (jz (sNew 4 (gk (fun l=>some (.lst l)) (ao (gk (fun l=>some (.tup l)) (ao (iy uz (ao (iy wz (ao (bx 0) dw)) (ao (bx 1) dw))) (ao (bx 2) (ao (au (.int 1)) dw)))) dw)))
 (jz (vg 1000 (gb (mOp gtT (Ck 4) (au (.int 0))))
 lB)
 (rm (au (.bl true))))))
def jx:Fn:=qp 2
 (jz (sIf (gb (mOp ltT (bx 1) (gk Bw (ao (bx 0) dw))))
 (rm (mOp cj (bx 0) (bx 1)))
 Ab)
 (rm (au (.int 0))))
abbrev ab8:S:=jz (vf 3 (iy jx (ao (bx 0) (ao (mOp vo (au (.int 1)) (bx 2)) dw)))) (jz (vf 4 (mOp Rt (mOp Al (mOp vh (bx 3) (au (.int 3))) (au (.int 7))) (au (.int 3)))) (jz (sIf (gb (mOp eqO (mOp Al (mOp vh (bx 3) (au (.int 21))) (au (.int 3))) (au (.int 1)))) (vf 4 (mOp Al (bx 3) (mOp abm (au (.int 10)) (au (.int 25))))) Ab) (qj 1 (gk (fun l=>some (.tup l)) (ao (mOp cj (gk (fun l=>some (.lst l)) (ao (au (.str "x")) (ao (au (.str "y")) (ao (au (.str "@p")) dw)))) (bx 2)) (ao (bx 4) (ao (mOp vo (bx 4) (mOp Al (bx 3) (au (.int 3)))) dw)))))))
def Dy:Fn:=qp 5
 (jz (sNew 1 (gk (fun l=>some (.lst l)) dw))
 (jz (Fq (hName 2) (yh (mOp vo (au (.int 1)) (mOp Al (iy jx (ao (bx 0) (ao (au (.int 0)) dw))) (au (.int 3)))))
 ab8)
 (rm (bx 1))))
abbrev suB:S:=jz (vf 5 (mOp Rt (mOp Al (mOp vh (bx 0) (mOp cj (gk (fun l=>some (.lst l)) (ao (au (.int 18)) (ao (au (.int 90)) (ao (au (.int 450)) dw)))) (bx 4))) (au (.int 5))) (au (.int 2)))) (sIf (gb (mOp neO (bx 5) (au (.int 0)))) (jz (qj 3 (gk (fun l=>some (.tup l)) (ao (mOp cj (mOp cj (bx 1) (bx 4)) (au (.int 0))) (ao (bx 5) dw)))) (vf 2 (mOp Rt (bx 2) (mOp Rq (bx 5) (mOp cj (mOp cj (bx 1) (bx 4)) (au (.int 1))))))) Ab)
def uf:Fn:=qp 7
 (jz (vf 2 (mOp Rt (mOp Al (mOp vh (bx 0) (au (.int 2))) (au (.int 9))) (au (.int 4))))
 (jz (sNew 3 (gk (fun l=>some (.lst l)) dw))
 (jz (Fq (hName 4) (yh (gk Bw (ao (bx 1) dw)))
 suB)
 (jz (vf 6 (gk (fun l=>some (.tup l)) (ao (bx 2) (ao (gk yg (ao (gk Fg (ao (bx 3) dw)) dw)) dw))))
 (jz (sIf (gb (mOp eqO (mOp Al (bx 0) (au (.int 2))) (au (.int 0))))
 (rm (gk (fun l=>some (.tup l)) (ao (au (.str "most")) (ao (bx 6) dw))))
 Ab)
 (rm (gk (fun l=>some (.tup l)) (ao (au (.str "rest")) (ao (bx 6) (ao (mOp vo (au (.int 2)) (mOp Al (mOp vh (bx 0) (au (.int 5000))) (au (.int 11)))) dw))))))))))
mutual
def jj:Nat→Fn
 | 0=>fun _ _=>none
 | n+1=>qp 6
   (jz (vf 3 (mOp Al (bx 0) (au (.int 6))))
   (jz (sIf (mOr (gb (mOp ltT (bx 3) (au (.int 3)))) (gb (mOp eqO (bx 2) (au (.int 0)))))
   (rm (iy uf (ao (mOp vh (bx 0) (au (.int 6))) (ao (bx 1) dw))))
   Ab)
   (jz (vf 4 (mOp cj (gk (fun l=>some (.lst l)) (ao (au (.str "and")) (ao (au (.str "or")) dw))) (mOp Al (bx 3) (au (.int 2)))))
   (jz (sIf (Ba (gb (mOp eqO (bx 3) (au (.int 5)))) (gb (mOp eqO (mOp Al (mOp vh (bx 0) (au (.int 6))) (au (.int 7))) (au (.int 0)))))
   (rm (gk (fun l=>some (.tup l)) (ao (bx 4) (ao (gk (fun l=>some (.tup l)) dw) dw))))
   Ab)
   (jz (vf 5 (gk (fun l=>some (.tup l)) (ao (iy (jj n) (ao (mOp vh (bx 0) (au (.int 42))) (ao (bx 1) (ao (mOp Rt (bx 2) (au (.int 1))) dw)))) (ao (iy (jj n) (ao (mOp vh (bx 0) (au (.int 4200000))) (ao (bx 1) (ao (mOp Rt (bx 2) (au (.int 1))) dw)))) dw))))
   (jz (sIf (gb (mOp eqO (bx 3) (au (.int 5))))
   (rm (gk (fun l=>some (.tup l)) (ao (bx 4) (ao (mOp vo (bx 5) (gk (fun l=>some (.tup l)) (ao (iy uf (ao (mOp vh (bx 0) (au (.int 43))) (ao (bx 1) dw))) dw))) dw))))
   Ab)
   (rm (gk (fun l=>some (.tup l)) (ao (bx 4) (ao (bx 5) dw))))))))))
end
mutual
def j5:Nat→Fn
 | 0=>fun _ _=>none
 | n+1=>qp 4
   (jz (sIf (mOr (gb (mOp eqO (mOp cj (bx 0) (au (.int 0))) (au (.str "most")))) (gb (mOp eqO (mOp cj (bx 0) (au (.int 0))) (au (.str "rest")))))
   (jz (vf 2 (mOp vo (mOp cj (mOp cj (bx 0) (au (.int 1))) (au (.int 0))) (gk ade (ao (pq 2 [1] (Cw [0,1]) (yd (mOp cj (mOp cj (bx 0) (au (.int 1))) (au (.int 1)))) zy (mOp Rq (bx 1) (mOp cj (bx 2) (bx 0)))) dw))))
   (rm (mOp cj (gk (fun l=>some (.lst l)) (ao (mOp leT (bx 2) (au (.int 0))) (ao (mOp eqO (mOp Al (bx 2) (mOp cj (mOp vo (gk (fun l=>some (.lst l)) (ao (au (.int 1)) dw)) (gk Dt (ao (qu (bx 0) (wg (au (.int 2))) Az) dw))) (mUn Jw (au (.int 1))))) (au (.int 0))) dw))) (gk Vv (ao (mOp eqO (mOp cj (bx 0) (au (.int 0))) (au (.str "rest"))) dw)))))
   Ab)
   (jz (vf 3 (pq 1 [1] (hName 0) (yd (mOp cj (bx 0) (au (.int 1)))) zy (iy (j5 n) (ao (bx 0) (ao (bx 1) dw)))))
   (rm (mOp cj (gk (fun l=>some (.lst l)) (ao (gk a05 (ao (bx 3) dw)) (ao (gk afh (ao (bx 3) dw)) dw))) (gk Vv (ao (mOp eqO (mOp cj (bx 0) (au (.int 0))) (au (.str "or"))) dw))))))
end
mutual
def m9:Nat→Fn
 | 0=>fun _ _=>none
 | n+1=>qp 4
   (jz (sIf (gb (mOp eqO (mOp cj (bx 0) (au (.int 0))) (au (.str "or"))))
   (rm (gk (fun l=>some (.tup l)) (ao (bx 1) (ao (mOp vo (bx 2) (gk (fun l=>some (.lst l)) (ao (mOp cj (bx 0) (au (.int 1))) dw))) dw))))
   Ab)
   (jz (sIf (gb (mOp neO (mOp cj (bx 0) (au (.int 0))) (au (.str "and"))))
   (rm (gk (fun l=>some (.tup l)) (ao (mOp vo (bx 1) (gk (fun l=>some (.lst l)) (ao (bx 0) dw))) (ao (bx 2) dw))))
   Ab)
   (jz (Fq (hName 3) (yd (mOp cj (bx 0) (au (.int 1))))
   (sGo (Cw [1,2]) (iy (m9 n) (ao (bx 3) (ao (bx 1) (ao (bx 2) dw))))))
   (rm (gk (fun l=>some (.tup l)) (ao (bx 1) (ao (bx 2) dw)))))))
end
def u6:Fn:=qp 4
 (rm (mOp Mq (bx 0) (gk (fun l=>some (.tup l)) (ao (au (.str "most")) (ao (gk (fun l=>some (.tup l)) (ao (mOp Rq (mUn Jw (bx 2)) (bx 3)) (ao (gk (fun l=>some (.tup l)) (ao (gk (fun l=>some (.tup l)) (ao (bx 1) (ao (bx 2) dw))) dw)) dw))) dw)))))
abbrev clB:S:=jz (vf 7 (iy u6 (ao (bx 0) (ao (bx 5) (ao (mUn Jw (au (.int 1))) (ao (mOp cj (bx 2) (bx 5)) dw)))))) (jz (vf 8 (iy u6 (ao (bx 0) (ao (bx 5) (ao (au (.int 1)) (ao (mOp cj (bx 2) (bx 5)) dw)))))) (sIf (gb (mOp eqO (mOp cj (mOp cj (bx 0) (bx 3)) (au (.int 0))) (au (.str "rest")))) (qj 4 (gk (fun l=>some (.tup l)) (ao (bx 8) (ao (bx 7) (ao (mUn Jw (bx 6)) dw))))) (qj 4 (gk (fun l=>some (.tup l)) (ao (mOp cj (gk (fun l=>some (.lst l)) (ao (bx 7) (ao (bx 8) dw))) (gk Vv (ao (mOp ltT (bx 6) (au (.int 0))) dw))) (ao (gk aey (ao (bx 6) dw)) dw))))))
abbrev leB:S:=jz (sNew 4 (gk (fun l=>some (.lst l)) (ao (gk (fun l=>some (.tup l)) (ao (bx 3) (ao (au (.int 1)) dw))) dw))) (jz (Fq (Cw [5,6]) (yd (mOp cj (mOp cj (mOp cj (bx 0) (bx 3)) (au (.int 1))) (au (.int 1)))) clB) (jz (sIf (gb (mOp eqO (mOp cj (mOp cj (bx 0) (bx 3)) (au (.int 0))) (au (.str "rest")))) (rm (gk (fun l=>some (.tup l)) (ao (au (.str "rest")) (ao (mOp cj (mOp cj (bx 0) (bx 3)) (au (.int 2))) (ao (gk yg (ao (bx 4) dw)) dw))))) Ab) (rm (gk (fun l=>some (.tup l)) (ao (au (.str "sum")) (ao (gk yg (ao (bx 4) dw)) dw))))))
abbrev atB:S:=sIf (J2 (gb (iy (j5 40) (ao (mOp cj (bx 0) (bx 3)) (ao (bx 2) dw))))) leB Ab
mutual
def jf:Nat→Fn
 | 0=>fun _ _=>none
 | n+1=>qp 12
   (jz (Fq (hName 3) (yh (gk Bw (ao (bx 0) dw)))
   atB)
   (jz (Fq (hName 3) (Ey (mOp Rt (gk Bw (ao (bx 1) dw)) (au (.int 1))) (mUn Jw (au (.int 1))) (mUn Jw (au (.int 1))))
   (sIf (J2 (gb (iy (j5 40) (ao (gk (fun l=>some (.tup l)) (ao (au (.str "or")) (ao (mOp cj (bx 1) (bx 3)) dw))) (ao (bx 2) dw)))))
   (jz (sNew 9 (gk (fun l=>some (.lst l)) dw))
   (jz (Fq (hName 10) (yd (mOp cj (bx 1) (bx 3)))
   (jz (vf 11 (iy (m9 40) (ao (bx 10) (ao (bx 0) (ao (bx 1) dw)))))
   (qj 9 (iy (jf n) (ao (mOp cj (bx 11) (au (.int 0))) (ao (mOp cj (bx 11) (au (.int 1))) (ao (bx 2) dw)))))))
   (rm (gk (fun l=>some (.tup l)) (ao (au (.str "or")) (ao (bx 3) (ao (gk yg (ao (bx 9) dw)) dw)))))))
   Ab))
   (rm (au .non))))
end
mutual
def kh:Nat→Fn
 | 0=>fun _ _=>none
 | n+1=>qp 13
   (jz (Fq (hName 4) (yh (gk Bw (ao (bx 0) dw)))
   (jz (sGo (Cw [5,6,7]) (mOp cj (bx 0) (bx 4)))
   (sIf (gb (mOp ltT (bx 6) (bx 7)))
   (jz (vf 8 (mOp vo (bx 1) (gk (fun l=>some (.lst l)) (ao (gk (fun l=>some (.tup l)) (ao (au (.str "most")) (ao (gk (fun l=>some (.tup l)) (ao (mUn Jw (bx 6)) (ao (gk (fun l=>some (.tup l)) (ao (gk (fun l=>some (.tup l)) (ao (bx 5) (ao (au (.int 1)) dw))) dw)) dw))) dw))) dw))))
   (jz (vf 9 (iy (kh n) (ao (mOp vo (mOp vo (qu (bx 0) Az (wg (bx 4))) (gk (fun l=>some (.lst l)) (ao (gk (fun l=>some (.tup l)) (ao (bx 5) (ao (bx 6) (ao (bx 6) dw)))) dw))) (qu (bx 0) (wg (mOp vo (bx 4) (au (.int 1)))) Az)) (ao (bx 8) (ao (bx 2) (ao (bx 3) dw))))))
   (jz (vf 8 (mOp vo (bx 1) (gk (fun l=>some (.lst l)) (ao (gk (fun l=>some (.tup l)) (ao (au (.str "most")) (ao (gk (fun l=>some (.tup l)) (ao (mOp vo (bx 6) (au (.int 1))) (ao (gk (fun l=>some (.tup l)) (ao (gk (fun l=>some (.tup l)) (ao (bx 5) (ao (mUn Jw (au (.int 1))) dw))) dw)) dw))) dw))) dw))))
   (jz (vf 10 (iy (kh n) (ao (mOp vo (mOp vo (qu (bx 0) Az (wg (bx 4))) (gk (fun l=>some (.lst l)) (ao (gk (fun l=>some (.tup l)) (ao (bx 5) (ao (mOp vo (bx 6) (au (.int 1))) (ao (bx 7) dw)))) dw))) (qu (bx 0) (wg (mOp vo (bx 4) (au (.int 1)))) Az)) (ao (bx 8) (ao (bx 2) (ao (bx 3) dw))))))
   (rm (gk (fun l=>some (.tup l)) (ao (au (.str "cut")) (ao (bx 5) (ao (bx 6) (ao (bx 9) (ao (bx 10) dw)))))))))))
   Ab)))
   (jz (sNew 11 (au (.dic [])))
   (jz (Fq (Cw [5,6,7]) (yd (bx 0))
   (Ai 11 (bx 5) (bx 6)))
   (jz (vf 12 (iy (jf 40) (ao (bx 1) (ao (bx 2) (ao (bx 11) dw)))))
   (rm (mOp cj (gk (fun l=>some (.lst l)) (ao (bx 12) (ao (bx 3) dw))) (gk Vv (ao (mOp a73 (bx 12) (au .non)) dw))))))))
end
mutual
def jh:Nat→Fn
 | 0=>fun _ _=>none
 | n+1=>qp 2
   (jz (sIf (mOr (gb (mOp neO (mOp cj (bx 0) (au (.int 0))) (au (.str "cut")))) (gb (mOp eqO (mOp Al (bx 1) (au (.int 6))) (au (.int 0)))))
   (rm (mOp cj (gk (fun l=>some (.lst l)) (ao (gk (fun l=>some (.tup l)) (ao (au (.str "sum")) (ao (gk (fun l=>some (.tup l)) dw) dw))) (ao (gk (fun l=>some (.tup l)) (ao (au (.str "or")) (ao (au (.int 0)) (ao (gk (fun l=>some (.tup l)) dw) dw)))) (ao (gk (fun l=>some (.tup l)) (ao (au (.str "sum")) (ao (gk (fun l=>some (.tup l)) (ao (gk (fun l=>some (.tup l)) (ao (au (.int 0)) (ao (au (.int 1)) dw))) (ao (gk (fun l=>some (.tup l)) (ao (au (.int 1)) (ao (au (.int 1)) dw))) dw))) dw))) (ao (gk (fun l=>some (.tup l)) (ao (au (.str "rest")) (ao (au (.int 2)) (ao (gk (fun l=>some (.tup l)) (ao (gk (fun l=>some (.tup l)) (ao (au (.int 0)) (ao (au (.int 1)) dw))) dw)) dw)))) dw))))) (mOp Al (mOp vh (bx 1) (au (.int 6))) (au (.int 4)))))
   Ab)
   (jz (sIf (gb (mOp eqO (mOp Al (bx 1) (au (.int 6))) (au (.int 1))))
   (rm (gk (fun l=>some (.tup l)) (ao (au (.str "cut")) (ao (mOp cj (bx 0) (au (.int 1))) (ao (mOp vo (mOp cj (bx 0) (au (.int 2))) (mOp cj (gk (fun l=>some (.lst l)) (ao (au (.int 1)) (ao (mUn Jw (au (.int 1))) dw))) (mOp Al (mOp vh (bx 1) (au (.int 6))) (au (.int 2))))) (ao (mOp cj (bx 0) (au (.int 3))) (ao (mOp cj (bx 0) (au (.int 4))) dw)))))))
   Ab)
   (jz (sIf (gb (mOp eqO (mOp Al (bx 1) (au (.int 6))) (au (.int 2))))
   (rm (gk (fun l=>some (.tup l)) (ao (au (.str "cut")) (ao (mOp cj (bx 0) (au (.int 1))) (ao (mOp cj (bx 0) (au (.int 2))) (ao (mOp cj (bx 0) (au (.int 4))) (ao (mOp cj (bx 0) (au (.int 3))) dw)))))))
   Ab)
   (jz (sIf (gb (mOp eqO (mOp Al (bx 1) (au (.int 6))) (au (.int 3))))
   (rm (mOp cj (bx 0) (au (.int 3))))
   Ab)
   (jz (sIf (gb (mOp eqO (mOp Al (bx 1) (au (.int 6))) (au (.int 4))))
   (rm (gk (fun l=>some (.tup l)) (ao (au (.str "cut")) (ao (mOp cj (bx 0) (au (.int 1))) (ao (mOp cj (bx 0) (au (.int 2))) (ao (iy (jh n) (ao (mOp cj (bx 0) (au (.int 3))) (ao (mOp vh (bx 1) (au (.int 6))) dw))) (ao (mOp cj (bx 0) (au (.int 4))) dw)))))))
   Ab)
   (rm (gk (fun l=>some (.tup l)) (ao (au (.str "cut")) (ao (mOp cj (bx 0) (au (.int 1))) (ao (mOp cj (bx 0) (au (.int 2))) (ao (mOp cj (bx 0) (au (.int 3))) (ao (iy (jh n) (ao (mOp cj (bx 0) (au (.int 4))) (ao (mOp vh (bx 1) (au (.int 6))) dw))) dw))))))))))))
end
mutual
def jk:Nat→Fn
 | 0=>fun _ _=>none
 | n+1=>qp 3
   (jz (sIf (Ba (gb (mOp eqO (mOp cj (bx 0) (au (.int 0))) (au (.str "cut")))) (gb (mOp eqO (mOp Al (bx 1) (au (.int 2))) (au (.int 0)))))
   (rm (gk (fun l=>some (.tup l)) (ao (au (.str "cut")) (ao (mOp cj (bx 0) (au (.int 1))) (ao (mOp cj (bx 0) (au (.int 2))) (ao (iy (jk n) (ao (mOp cj (bx 0) (au (.int 3))) (ao (mOp vh (bx 1) (au (.int 2))) dw))) (ao (mOp cj (bx 0) (au (.int 4))) dw)))))))
   Ab)
   (jz (sIf (gb (mOp eqO (mOp cj (bx 0) (au (.int 0))) (au (.str "cut"))))
   (rm (gk (fun l=>some (.tup l)) (ao (au (.str "cut")) (ao (mOp cj (bx 0) (au (.int 1))) (ao (mOp cj (bx 0) (au (.int 2))) (ao (mOp cj (bx 0) (au (.int 3))) (ao (iy (jk n) (ao (mOp cj (bx 0) (au (.int 4))) (ao (mOp vh (bx 1) (au (.int 2))) dw))) dw)))))))
   Ab)
   (jz (sIf (Ba (gb (mOp eqO (mOp cj (bx 0) (au (.int 0))) (au (.str "or")))) (Ba (gb (mOp gtT (gk Bw (ao (mOp cj (bx 0) (au (.int 2))) dw)) (au (.int 0)))) (gb (mOp gtT (mOp Al (bx 1) (au (.int 5))) (au (.int 0))))))
   (jz (vf 2 (mOp Al (mOp vh (bx 1) (au (.int 5))) (gk Bw (ao (mOp cj (bx 0) (au (.int 2))) dw))))
   (rm (gk (fun l=>some (.tup l)) (ao (au (.str "or")) (ao (mOp cj (bx 0) (au (.int 1))) (ao (mOp vo (mOp vo (qu (mOp cj (bx 0) (au (.int 2))) Az (wg (bx 2))) (gk (fun l=>some (.tup l)) (ao (iy (jk n) (ao (mOp cj (mOp cj (bx 0) (au (.int 2))) (bx 2)) (ao (mOp vh (bx 1) (au (.int 15))) dw))) dw))) (qu (mOp cj (bx 0) (au (.int 2))) (wg (mOp vo (bx 2) (au (.int 1)))) Az)) dw))))))
   Ab)
   (rm (gk (fun l=>some (.tup l)) (ao (au (.str "sum")) (ao (gk (fun l=>some (.tup l)) dw) dw)))))))
end
abbrev bkB:S:=jz (sNew 8 (gk a6o (ao (bx 6) dw))) (jz (Ai 8 (bx 2) (bx 7)) (qj 5 (bx 8)))
def Ah:Fn:=qp 9
 (jz (vf 1 (gk (fun l=>some (.lst l)) (ao (au (.dic [])) dw)))
 (jz (Fq (Cw [2,3,4]) (yd (bx 0))
 (jz (sNew 5 (gk (fun l=>some (.lst l)) dw))
 (jz (Fq (hName 6) (yd (bx 1))
 (Fq (hName 7) (Ds (bx 3) (mOp vo (bx 4) (au (.int 1))))
 bkB))
 (vf 1 (bx 5)))))
 (rm (bx 1))))
def mz:Fn:=qp 5
 (jz (vf 4 (iy wu (ao (bx 0) (ao (bx 1) (ao (bx 2) dw)))))
 (rm (Ad (Ba (gb (gk aa6 (ao (bx 4) dw))) (gb (Ad (mOr (gb (mOp a73 (bx 3) (au .non))) (gb (mOp eqO (bx 4) (bx 3))))))))))
abbrev ae6:S:=jz (vf 12 (gk (fun l=>some (.tup l)) (ao (au (.str "sum")) (ao (gk (fun l=>some (.tup l)) (ao (gk (fun l=>some (.tup l)) (ao (mOp Al (bx 11) (au (.int 9))) (ao (au (.int 1)) dw))) (ao (gk (fun l=>some (.tup l)) (ao (mOp Al (mOp vh (bx 11) (au (.int 9))) (au (.int 9))) (ao (mOp vo (au (.int 1)) (mOp Al (mOp vh (bx 11) (au (.int 81))) (au (.int 3)))) dw))) dw))) dw)))) (jz (vf 13 (mOp cj (gk (fun l=>some (.lst l)) (ao (gk (fun l=>some (.tup l)) (ao (au (.str "sum")) (ao (gk (fun l=>some (.tup l)) dw) dw))) (ao (bx 12) (ao (gk (fun l=>some (.tup l)) (ao (au (.str "or")) (ao (mOp Al (bx 11) (au (.int 3))) (ao (gk (fun l=>some (.tup l)) dw) (ao (gk (fun l=>some (.tup l)) dw) dw))))) dw)))) (mOp Al (mOp vh (bx 11) (au (.int 3))) (au (.int 3))))) (jz (vf 14 (iy (kh 40) (ao (bx 1) (ao (bx 4) (ao (bx 8) (ao (bx 13) dw)))))) (jz (sIf (J2 (gb (iy mz (ao (bx 1) (ao (bx 2) (ao (bx 14) (ao (au (.bl false)) dw))))))) (rm (au (.bl false))) Ab) (sIf (J2 (gb (iy mz (ao (bx 1) (ao (bx 2) (ao (iy (jh 40) (ao (bx 14) (ao (mOp vh (bx 11) (au (.int 9))) dw))) (ao (au (.bl false)) dw))))))) (rm (au (.bl false))) Ab))))
abbrev anB:S:=vf 4 (mOp vo (bx 4) (gk (fun l=>some (.lst l)) (ao (gk (fun l=>some (.tup l)) (ao (au (.str "most")) (ao (gk (fun l=>some (.tup l)) (ao (bx 6) (ao (gk (fun l=>some (.tup l)) (ao (gk (fun l=>some (.tup l)) (ao (bx 5) (ao (mUn Jw (au (.int 1))) dw))) dw)) dw))) dw))) (ao (gk (fun l=>some (.tup l)) (ao (au (.str "most")) (ao (gk (fun l=>some (.tup l)) (ao (mUn Jw (bx 7)) (ao (gk (fun l=>some (.tup l)) (ao (gk (fun l=>some (.tup l)) (ao (bx 5) (ao (au (.int 1)) dw))) dw)) dw))) dw))) dw))))
abbrev ntB:S:=jz (sIf (J2 (gb (iy mz (ao (bx 1) (ao (bx 2) (ao (iy (jh 40) (ao (bx 10) (ao (bx 11) dw))) (ao (au .non) dw))))))) (rm (au (.bl false))) Ab) (sIf (J2 (gb (iy mz (ao (bx 1) (ao (bx 2) (ao (iy (jk 40) (ao (bx 10) (ao (bx 11) dw))) (ao (au (.bl false)) dw))))))) (rm (au (.bl false))) Ab)
abbrev laA:S:=sGo (Cw [4,8]) (iy (m9 40) (ao (gk (fun l=>some (.tup l)) (ao (au (.str "and")) (ao (gk yg (ao (bx 2) dw)) dw))) (ao (bx 4) (ao (gk (fun l=>some (.lst l)) dw) dw))))
abbrev trC:M Bool:=gb (mOp eqO (gk Bw (ao (pq 1 [0] (hName 0) (yd (bx 1)) (J2 (gb (iy (j5 40) (ao (bx 0) (ao (bx 1) dw))))) (au (.int 1))) dw)) (au (.int 0)))
abbrev foB:S:=qj 2 (iy (jj 40) (ao (iy jx (ao (bx 0) (ao (mOp vo (au (.int 4)) (bx 3)) dw))) (ao (bx 1) (ao (au (.int 2)) dw))))
def Ul:Fn:=qp 15
 (jz (vf 1 (iy Dy (ao (bx 0) dw)))
 (jz (sNew 2 (gk (fun l=>some (.lst l)) dw))
 (jz (Fq (hName 3) (yh (mOp vo (au (.int 1)) (mOp Al (mOp vh (iy jx (ao (bx 0) (ao (au (.int 0)) dw))) (au (.int 3))) (au (.int 5)))))
 foB)
 (jz (vf 4 (gk (fun l=>some (.lst l)) dw))
 (jz (Fq (Cw [5,6,7]) (yd (bx 1))
 anB)
 (jz laA
 (jz (vf 9 (pq 1 [2] (hName 0) (yd (iy Ah (ao (bx 1) dw))) trC (bx 0)))
 (jz (vf 10 (iy (kh 40) (ao (bx 1) (ao (bx 4) (ao (bx 8) (ao (gk (fun l=>some (.tup l)) (ao (au (.str "or")) (ao (au (.int 0)) (ao (gk (fun l=>some (.tup l)) dw) dw)))) dw))))))
 (jz (sIf (gb (mOp eqO (gk Bw (ao (bx 9) dw)) (au (.int 0))))
 (jz (sIf (J2 (gb (iy mz (ao (bx 1) (ao (bx 2) (ao (bx 10) (ao (au (.bl true)) dw)))))))
 (rm (au (.bl false)))
 Ab)
 (jz (sIf (J2 (gb (iy mz (ao (bx 1) (ao (Ez 2 (gk (fun l=>some (.lst l)) (ao (gk (fun l=>some (.tup l)) (ao (au (.str "or")) (ao (gk (fun l=>some (.tup l)) dw) dw))) dw))) (ao (gk (fun l=>some (.tup l)) (ao (au (.str "or")) (ao (gk Bw (ao (bx 8) dw)) (ao (gk (fun l=>some (.tup l)) dw) dw)))) (ao (au (.bl true)) dw)))))))
 (rm (au (.bl false)))
 Ab)
 (jz (Fq (hName 11) (yd (qu (bx 0) (wg (au (.int 9))) (wg (au (.int 20)))))
 ntB)
 (rm (au (.bl true))))))
 Ab)
 (jz (Fq (hName 11) (yd (qu (bx 0) (wg (au (.int 9))) (wg (au (.int 30)))))
 ae6)
 (rm (iy mz (ao (bx 1) (ao (bx 2) (ao (bx 10) (ao (au (.bl false)) dw))))))))))))))))
end K
end
section
namespace D
open PySem L2 C
def top (i:Nat):Stmt:=PySem.Challenge.pw_calm_k47_papers_down_to_single_books.main.body.getD i (.Pass ⟨0,0,0,0⟩)
abbrev ll1:List Str:=["_law_script","_law_rows_here","_law_forms","_law_k","_law_atoms","_law_box","_law_low","_law_high","_law_ors","_law_true_here","_law_paper_here","_law_cell","_law_two","_law_stead","_law_other"]
abbrev ll2:List Str:=["_law_rows_here","_law_atoms","_law_ors","_law_stead","_law_k","_law_box","_law_low","_law_high","_law_more","_law_below","_law_above","_law_book","_law_found"]
abbrev ll3:List Str:=["_law_atoms","_law_ors","_law_book","_law_n","_law_rows_here","_law_box","_law_times","_law_low","_law_high","_law_papers","_law_form_here","_law_more"]
abbrev ll4:List Str:=["_law_rows_here","_law_books_here","_law_box","_law_low","_law_high","_law_more","_law_book","_law_number","_law_then"]
abbrev ll5:List Str:=["_law_digits","_law_rows_here","_law_number","_law_parts","_law_k","_law_many","_law_one"]
abbrev ll6:List Str:=["_law_digits","_law_rows_here","_law_deep","_law_kind","_law_word","_law_two"]
abbrev ll7:List Str:=["_law_rows_here","_law_forms","_law_paper_here","_law_due","_law_found"]
abbrev ll8:List Str:=["names","lists","box","number","papers","boxes","low","high"]
abbrev ll9:List Str:=["_law_script","_law_rows_here","_law_k","_law_cell","_law_low"]
abbrev afs:List Str:=["rows","forms","paper","names","waiting","reading","inner"]
abbrev afu:List Str:=["_law_form_here","_law_book","_law_total","_law_told_here"]
abbrev adf:List Str:=["_law_rows_here","_law_forms","_law_paper_here","_law_due"]
abbrev a9d:List Str:=["_law_rows_here","_law_atoms","_law_ors","_law_stead"]
abbrev af7:List Str:=["_law_form_here","_law_atoms","_law_ors","_law_one"]
abbrev a5x:List Str:=["_law_atoms","_law_box","_law_times","_law_number"]
abbrev afv:List Str:=["lists","forms","atoms","ors","waiting","form"]
abbrev afm:List Str:=["number","pairs","times","box","many","parts"]
abbrev afx:List Str:=["atoms","rows","number","pairs","row","one"]
abbrev ael:List Str:=["lists","number","papers","members","inner"]
abbrev a8t:List Str:=["_law_digits","_law_rows_here","_law_deep"]
abbrev adv:List Str:=["names","lists","box","number","papers"]
abbrev a4s:List Str:=["_law_form_here","_law_atoms","_law_ors"]
abbrev afz:List Str:=["_law_paper_here","_law_cell","_law_at"]
abbrev aeu:List Str:=["rows","atoms","box","low","high"]
abbrev aen:List Str:=["_law_box","_law_times","_law_book"]
abbrev a5y:List Str:=["_law_atoms","_law_ors","_law_book"]
abbrev afd:List Str:=["atoms","divisor","rows","whole"]
abbrev afe:List Str:=["names","lists","paper","parts"]
abbrev acp:List Str:=["_law_digits","_law_rows_here"]
abbrev Qa:List Str:=["_law_paper_here","_law_cell"]
abbrev a06:List Str:=["_law_form_here","_law_book"]
abbrev ady:List Str:=["lists","number","papers"]
abbrev adu:List Str:=["atoms","divisor","rows"]
abbrev a92:List Str:=["parts","kind","length"]
abbrev a3b:List Str:=["atoms","number","kind"]
abbrev a9s:List Str:=["atoms","divisor","row"]
abbrev aeh:List Str:=["box","times","divisor"]
abbrev ae0:List Str:=["names","lists","paper"]
abbrev aem:List Str:=["lists","one","reading"]
abbrev afc:List Str:=["member","one","lists"]
abbrev afq:List Str:=["atoms","rows","whole"]
abbrev adn:List Str:=["rows","forms","paper"]
abbrev a7k:List Str:=["atoms","one","other"]
abbrev a6b:List Str:=["_law_script","_law_k"]
abbrev afp:List Str:=["box","times","row"]
abbrev adk:List Str:=["box","low","high"]
abbrev a6w:List Str:=["number","places"]
abbrev acz:List Str:=["number","pairs"]
abbrev aa8:List Str:=["lists","forms"]
abbrev adw:List Str:=["_law_rows_here"]
abbrev Rr:List Str:=["box","number"]
abbrev a4u:List Str:=["atoms","rows"]
abbrev a7j:List Str:=["one","other"]
abbrev a93:List Str:=["atoms","row"]
abbrev a9o:List Str:=["_law_script"]
abbrev Gd:List Str:=["thing"]
section
variable {P:Program} {w:World} {K:PySem.W.Frag} {mg:Str→Option Value} {base:Heap} {f:Addr} {fd:FuncData}
abbrev Od:Stmt:=top 1
theorem Pa:ji afm acz (gq Od):=⟨rfl,rfl,rfl,by decide +kernel,rfl,by decide +kernel,by decide +kernel⟩
theorem Zx (F:Fun K "sum_of" "sum_of" Od f fd) (hmg:mg "sum_of" = some (.ref f)) (b_sorted:mg "sorted" = none) (b_tuple:mg "tuple" = none):gw P w K mg base "sum_of" 1 acz _root_.K.Cp:=by
 refine ⟨f,fd,?_,F.binds (ps:=acz) fun _ _ _ _ _ _ us hl=>bd2 (fun _ _=>rfl) us hl,F.kp,hmg⟩
 refine jw (N:=afm) F Pa (by decide)  fun cdv A outer s H E B hr=>?_
 have hu:=uw hr
 have hq:=hr.units
 have nd:afm.Nodup:=Pa.nd
 refine cu ?_ ?_
 ·exact Av 2 (jg nd rfl (Or.inr rfl) Sd) (fun _ _ _ h=>h)
 ·refine cu ?_ ?_
  ·refine xr ?_ ?_ ?_ ?_ ?_ ?_
   ·exact PassesOwn.never
   ·exact rfl
   ·exact uc (ak 1 (pv 1))
   ·exact Ag (is:=[3,4]) (Aj rfl (j9 (gn nd rfl (Or.inl rfl)) (j9 (gn nd rfl (Or.inl rfl)) vq)))
   ·exact dz (Kl 2 hu (pv 2) (ak 3 (pv 3)) (j6 kj (a0d 2 hu (pv 2) (ak 3 (pv 3)) bw ⟨rfl,rfl,rfl,rfl⟩) (ak 4 (pv 4))) rfl)
   ·exact su
  ·refine cu ?_ ?_
   ·exact jy 5 (Ng (N:=["box","times"]) ⟨rfl,rfl,by decide +kernel,by decide +kernel⟩ rfl (uc (iu (jr (Qf (by rfl)) (by rfl) b_sorted PyProof.Rows.boot_sorted (aj (ak 2 (pv 2)) bh)))) (fun C s₀ H₀ ex pn=>pgE fun B=>(qm 0 (gn (show (["box","times"]:List Str).Nodup by decide +kernel) rfl (Or.inl rfl)))) (fun C s₀ H₀ ex pn=>(J7 fun B=>(m8 (G3 hq) (fu hu (ak 1 (pv 1)) (ak 0 (pv 0)) (fun _ _=>rfl)) bw (j7 _)))) (fun C s₀ H₀ ex pn=>peE fun B=>(fj (aj (ak 0 (pv 0)) (aj (fu hu (ak 1 (pv 1)) (ak 0 (pv 0)) (fun _ _=>rfl)) bh)) (dj (aq (aq cg)) (by decide)))) (gn nd rfl (Or.inl rfl)) rfl) (fun σ H Q h=>Lz ⟨rfl,fun j k h=>match j,h with | 0,h=>(by cases h; exact ⟨_,rfl,rfl,⟨.inl rfl,.inr (.inl rfl),.inl rfl⟩⟩) | _+1,h=>(by cases h)⟩ su (Mg h))
   ·exact dz (iw (fj (aj (ak 0 (pv 0)) (aj (iu (mq v7 (by rfl) b_tuple PyProof.Rows.boot_tuple (aj (ak 5 (pv 5)) bh))) bh)) (dj (aq (aq cg)) (by decide))))
abbrev Z7:Stmt:=top 2
theorem a1p:ji a7j a7j (gq Z7):=⟨rfl,rfl,rfl,by decide +kernel,rfl,by decide +kernel,by decide +kernel⟩
theorem a7c (F:Fun K "plus" "plus" Z7 f fd) (hmg:mg "plus" = some (.ref f)) (d_sum_of:gw P w K mg base "sum_of" 1 acz (_root_.K.Cp)):gw P w K mg base "plus" 2 a7j _root_.K.R9:=by
 refine ⟨f,fd,?_,F.binds (ps:=a7j) fun _ _ _ _ _ _ us hl=>bd2 (fun _ _=>rfl) us hl,F.kp,hmg⟩
 have d_sum_of:=d_sum_of.mono (by decide:1≤1)
 refine jw (N:=a7j) F a1p (by decide)  fun cdv A outer s H E B hr=>?_
 have hu:=uw hr
 have hq:=hr.units
 have nd:a7j.Nodup:=a1p.nd
 refine dz ?_
 ·refine iw ?_
  ·refine dg d_sum_of ?_ ?_ ?_ ?_
   ·exact hr
   ·exact by rfl
   ·exact aj (j6 kj (fu hu (ak 0 (pv 0)) bw (fun _ _=>rfl)) (fu hu (ak 1 (pv 1)) bw (fun _ _=>rfl))) (aj (j6 kj (fu hu (ak 0 (pv 0)) bw (fun _ _=>rfl)) (fu hu (ak 1 (pv 1)) bw (fun _ _=>rfl))) bh)
   ·exact bf (bf eq_nil)
abbrev Jm:Stmt:=top 9
theorem Mh:ji afv aa8 (gq Jm):=⟨rfl,rfl,rfl,by decide +kernel,rfl,by decide +kernel,by decide +kernel⟩
theorem X7 (F:Fun K "laid_in" "laid_in" Jm f fd) (hmg:mg "laid_in" = some (.ref f)) (b_len:mg "len" = none) (b_list:mg "list" = none):gw P w K mg base "laid_in" 1 aa8 _root_.K.uz:=by
 refine ⟨f,fd,?_,F.binds (ps:=aa8) fun _ _ _ _ _ _ us hl=>bd2 (fun _ _=>rfl) us hl,F.kp,hmg⟩
 refine jw (N:=afv) F Mh (by decide)  fun cdv A outer s H E B hr=>?_
 have hu:=uw hr
 have hq:=hr.units
 have nd:afv.Nodup:=Mh.nd
 refine cu ?_ ?_
 ·exact Av 2 (jg nd rfl (Or.inl rfl) (a2m (by rfl) b_list (fu hu (ak 0 (pv 0)) bw (fun _ _=>rfl)))) (fun _ _ _ h=>h)
 ·refine cu ?_ ?_
  ·exact Av 3 (jg nd rfl (Or.inl rfl) (a2m (by rfl) b_list (fu hu (ak 0 (pv 0)) bw (fun _ _=>rfl)))) (fun _ _ _ h=>h)
  ·refine cu ?_ ?_
   ·exact Av 4 (jg nd rfl (Or.inl rfl) (a8p (iu (mq M7 (by rfl) b_list PyProof.Rows.boot_list (aj (ak 1 (pv 1)) bh))))) (fun _ _ _ h=>h)
   ·refine cu ?_ ?_
    ·refine Wd _ ?_ ?_ ?_
     ·exact PassesOwn.never
     ·exact m8 Mv (Qc 4 b_len rfl (pv 4)) bw (j7 _)
     ·refine cu ?_ ?_
      ·exact a6y 4 5 (Q0 (a6a PySem.F.plainAttrs_list PySem.F.slot_list_pop PySem.F.type_list_pop a6l (pv 4)) (gn nd rfl (Or.inl rfl)))
      ·refine dz ?_
       ·refine qw ?_ ?_ ?_
        ·exact m8 (nj hq) (fu hu (ak 5 (pv 5)) bw (fun _ _=>rfl)) jc (j7 _)
        ·exact dz (K9 4 (xq (Ft PySem.F.plainAttrs_list PySem.F.slot_list_extend PySem.F.type_list_extend Hw (pv 4) (nu (a8j (fu hu (ak 5 (pv 5)) bw (fun _ _=>rfl))) ux))))
        ·refine dz ?_
         ·refine qw ?_ ?_ ?_
          ·exact m8 (nj hq) (fu hu (ak 5 (pv 5)) bw (fun _ _=>rfl)) jc (j7 _)
          ·exact dz (uy 3 (xq (Ft PySem.F.plainAttrs_list PySem.F.slot_list_append PySem.F.type_list_append uo (pv 3) (nu (fu hu (ak 5 (pv 5)) bw (fun _ _=>rfl)) ux))))
          ·exact dz (uy 2 (xq (Ft PySem.F.plainAttrs_list PySem.F.slot_list_append PySem.F.type_list_append uo (pv 2) (nu (ak 5 (pv 5)) ux))))
    ·exact dz (iw (fj (aj (ak 2 (pv 2)) (aj (ak 3 (pv 3)) bh)) (dj (aq (aq cg)) (by decide))))
abbrev Cu:Stmt:=top 11
theorem Eo:ji Gd Gd (gq Cu):=⟨rfl,rfl,rfl,by decide +kernel,rfl,by decide +kernel,by decide +kernel⟩
theorem Lp (F:Fun K "plain_tuple" "plain_tuple" Cu f fd) (hmg:mg "plain_tuple" = some (.ref f)) (b_isinstance:mg "isinstance" = none) (b_tuple:mg "tuple" = none):gw P w K mg base "plain_tuple" 1 Gd _root_.K.lg:=by
 refine ⟨f,fd,?_,F.binds (ps:=Gd) fun _ _ _ _ _ _ us hl=>bd1 (fun _=>rfl) us hl,F.kp,hmg⟩
 refine jw (N:=Gd) F Eo (by decide)  fun cdv A outer s H E B hr=>?_
 have hu:=uw hr
 have hq:=hr.units
 have nd:Gd.Nodup:=Eo.nd
 exact dz (iw (Vp (u9 (Ik (by rfl) b_isinstance (by rfl) b_tuple (ak 0 (pv 0)))) (iu (mq v7 (by rfl) b_tuple PyProof.Rows.boot_tuple (aj (ak 0 (pv 0)) bh))) (fj bh (dj cg (by decide)))))
abbrev Kh:Stmt:=top 15
theorem M4:ji a92 a92 (gq Kh):=⟨rfl,rfl,rfl,by decide +kernel,rfl,by decide +kernel,by decide +kernel⟩
theorem Wv (F:Fun K "is_kind" "is_kind" Kh f fd) (hmg:mg "is_kind" = some (.ref f)) (b_isinstance:mg "isinstance" = none) (b_len:mg "len" = none) (b_str:mg "str" = none):gw P w K mg base "is_kind" 1 a92 _root_.K.je:=by
 refine ⟨f,fd,?_,F.binds (ps:=a92) fun _ _ _ _ _ _ us hl=>bd3 (fun _ _ _=>rfl) us hl,F.kp,hmg⟩
 refine jw (N:=a92) F M4 (by decide)  fun cdv A outer s H E B hr=>?_
 have hu:=uw hr
 have hq:=hr.units
 have nd:a92.Nodup:=M4.nd
 refine dz ?_
 ·refine iw ?_
  ·refine Bo ?_ ?_
   ·exact v8 (nj hq) (iu (jr qb (by rfl) b_len PySem.boot_len (aj (ak 0 (pv 0)) bh))) (ak 2 (pv 2)) (j7 _)
   ·exact Bo (Mw (by rfl) b_isinstance (by rfl) b_str (fu hu (ak 0 (pv 0)) bw (fun _ _=>rfl))) (Du (v8 (nj hq) (fu hu (ak 0 (pv 0)) bw (fun _ _=>rfl)) (ak 1 (pv 1)) (j7 _)))
abbrev Hs:Stmt:=top 14
theorem Kf:ji Gd Gd (gq Hs):=⟨rfl,rfl,rfl,by decide +kernel,rfl,by decide +kernel,by decide +kernel⟩
theorem Ur (F:Fun K "is_whole" "is_whole" Hs f fd) (hmg:mg "is_whole" = some (.ref f)) (b_bool:mg "bool" = none) (b_int:mg "int" = none) (b_isinstance:mg "isinstance" = none):gw P w K mg base "is_whole" 1 Gd _root_.K.ud:=by
 refine ⟨f,fd,?_,F.binds (ps:=Gd) fun _ _ _ _ _ _ us hl=>bd1 (fun _=>rfl) us hl,F.kp,hmg⟩
 refine jw (N:=Gd) F Kf (by decide)  fun cdv A outer s H E B hr=>?_
 have hu:=uw hr
 have hq:=hr.units
 have nd:Gd.Nodup:=Kf.nd
 exact dz (iw (Bo (Ws (by rfl) b_isinstance (by rfl) b_int (ak 0 (pv 0))) (Du (aam (Kp (by rfl) b_isinstance (by rfl) b_bool (ak 0 (pv 0)))))))
abbrev Hg:Stmt:=top 16
theorem Jp:ji a6w a6w (gq Hg):=⟨rfl,rfl,rfl,by decide +kernel,rfl,by decide +kernel,by decide +kernel⟩
theorem Um (F:Fun K "is_place" "is_place" Hg f fd) (hmg:mg "is_place" = some (.ref f)) (b_len:mg "len" = none):gw P w K mg base "is_place" 1 a6w _root_.K.yq:=by
 refine ⟨f,fd,?_,F.binds (ps:=a6w) fun _ _ _ _ _ _ us hl=>bd2 (fun _ _=>rfl) us hl,F.kp,hmg⟩
 refine jw (N:=a6w) F Jp (by decide)  fun cdv A outer s H E B hr=>?_
 have hu:=uw hr
 have hq:=hr.units
 have nd:a6w.Nodup:=Jp.nd
 exact dz (iw (Bo (v8 Yi bw (ak 0 (pv 0)) (j7 _)) (Du (v8 Mi (ak 0 (pv 0)) (iu (jr qb (by rfl) b_len PySem.boot_len (aj (ak 1 (pv 1)) bh))) (j7 _)))))
abbrev Bl:Stmt:=top 17
theorem Dq:ji ael ady (gq Bl):=⟨rfl,rfl,rfl,by decide +kernel,rfl,by decide +kernel,by decide +kernel⟩
theorem Jo (F:Fun K "papers_of_or" "papers_of_or" Bl f fd) (hmg:mg "papers_of_or" = some (.ref f)) (d_is_place:gw P w K mg base "is_place" 1 a6w (_root_.K.yq)) (d_laid_in:gw P w K mg base "laid_in" 1 aa8 (_root_.K.uz)) (d_plain_tuple:gw P w K mg base "plain_tuple" 1 Gd (_root_.K.lg)) (b_isinstance:mg "isinstance" = none) (b_len:mg "len" = none) (b_tuple:mg "tuple" = none) (b_zip:mg "zip" = none):gw P w K mg base "papers_of_or" 2 ady _root_.K.ni:=by
 refine ⟨f,fd,?_,F.binds (ps:=ady) fun _ _ _ _ _ _ us hl=>bd3 (fun _ _ _=>rfl) us hl,F.kp,hmg⟩
 have d_is_place:=d_is_place.mono (by decide:1≤1)
 have d_laid_in:=d_laid_in.mono (by decide:1≤1)
 have d_plain_tuple:=d_plain_tuple.mono (by decide:1≤1)
 refine jw (N:=ael) F Dq (by decide)  fun cdv A outer s H E B hr=>?_
 have hu:=uw hr
 have hq:=hr.units
 have nd:ael.Nodup:=Dq.nd
 refine cu ?_ ?_
 ·refine qw ?_ ?_ ?_
  ·exact PW.pt (Xo (Ak (u9 (dg d_is_place hr (by rfl) (aj (ak 1 (pv 1)) (aj (fu hu (ak 0 (pv 0)) bw (fun _ _=>rfl)) bh)) (bf (bf eq_nil))))) (M9 (Ak (u9 (Ik (by rfl) b_isinstance (by rfl) b_tuple (ak 2 (pv 2)))))))
  ·exact dz (iw Er)
  ·exact m7
 ·refine cu ?_ ?_
  ·exact jy 3 (jg nd rfl (Or.inl rfl) (fu hu (fu hu (ak 0 (pv 0)) bw (fun _ _=>rfl)) (ak 1 (pv 1)) (fun _ _=>rfl))) (fun _ _ _ h=>h)
  ·refine cu ?_ ?_
   ·exact jy 4 (jg nd rfl (Or.inl rfl) (dg d_plain_tuple hr (by rfl) (aj (ak 2 (pv 2)) bh) (bf eq_nil))) (fun _ _ _ h=>h)
   ·refine cu ?_ ?_
    ·exact qw (m8 (G3 hq) (iu (jr qb (by rfl) b_len PySem.boot_len (aj (ak 4 (pv 4)) bh))) (iu (jr qb (by rfl) b_len PySem.boot_len (aj (ak 3 (pv 3)) bh))) (j7 _))   (dz (iw Er))   m7
    ·refine dz ?_
     ·refine iw ?_
      ·refine v9 ?_
       ·refine Af (N:=afc) ?_ ?_ ?_ ?_ ?_ ?_ ?_ ?_
        ·exact ⟨rfl,fun j k h=>match j,h with | 0,h=>(by cases h; exact ⟨_,rfl,rfl,⟨.inl rfl,.inr (.inl rfl),.inl rfl⟩⟩) | _+1,h=>(by cases h)⟩
        ·exact ⟨rfl,rfl,by decide +kernel,by decide +kernel⟩
        ·exact rfl
        ·exact ad6 (by rfl) b_zip (ak 3 (pv 3)) (ak 4 (pv 4))
        ·exact aah
        ·exact fun C s₀ H₀ ex pn=>pgE fun B=>(Ag (is:=[0,1]) (Aj rfl (j9 (gn (show afc.Nodup by decide +kernel) rfl (Or.inl rfl)) (j9 (gn (show afc.Nodup by decide +kernel) rfl (Or.inl rfl)) vq))))
        ·exact fun C s₀ H₀ ex pn=>vp
        ·intro C s₀ H₀ ex pn
         refine peE ?_
         intro B
         exact fj (aj (dg d_laid_in hr (by rfl) (aj (ak 2 (pv 2)) (aj (qx (aj (ak 0 (pv 0)) bh) (dj (aq cg) (by decide))) bh)) (bf (bf eq_nil))) (aj (ak 1 (pv 1)) bh)) (dj (aq (aq cg)) (by decide))
abbrev Ks:Stmt:=top 7
theorem Ms:ji Rr Rr (gq Ks):=⟨rfl,rfl,rfl,by decide +kernel,rfl,by decide +kernel,by decide +kernel⟩
theorem X6 (F:Fun K "at_most" "at_most" Ks f fd) (hmg:mg "at_most" = some (.ref f)):gw P w K mg base "at_most" 1 Rr _root_.K.Aw:=by
 refine ⟨f,fd,?_,F.binds (ps:=Rr) fun _ _ _ _ _ _ us hl=>bd2 (fun _ _=>rfl) us hl,F.kp,hmg⟩
 refine jw (N:=Rr) F Ms (by decide)  fun cdv A outer s H E B hr=>?_
 have hu:=uw hr
 have hq:=hr.units
 have nd:Rr.Nodup:=Ms.nd
 refine dz ?_
 ·refine iw ?_
  ·refine fj ?_ ?_
   ·refine aj ?_ ?_
    ·exact jc
    ·refine aj ?_ ?_
     ·exact fj (aj (Fv w6 (ak 1 (pv 1))) (aj (fj (aj (fj (aj (ak 0 (pv 0)) (aj bw bh)) (dj (aq (aq cg)) (by decide))) bh) (dj (aq cg) (by decide))) bh)) (dj (aq (aq cg)) (by decide))
     ·exact bh
   ·exact dj (aq (aq cg)) (by decide)
abbrev Hr:Stmt:=top 8
theorem K3:ji Rr Rr (gq Hr):=⟨rfl,rfl,rfl,by decide +kernel,rfl,by decide +kernel,by decide +kernel⟩
theorem Rx (F:Fun K "at_least" "at_least" Hr f fd) (hmg:mg "at_least" = some (.ref f)):gw P w K mg base "at_least" 1 Rr _root_.K.yr:=by
 refine ⟨f,fd,?_,F.binds (ps:=Rr) fun _ _ _ _ _ _ us hl=>bd2 (fun _ _=>rfl) us hl,F.kp,hmg⟩
 refine jw (N:=Rr) F K3 (by decide)  fun cdv A outer s H E B hr=>?_
 have hu:=uw hr
 have hq:=hr.units
 have nd:Rr.Nodup:=K3.nd
 refine dz ?_
 ·refine iw ?_
  ·refine fj ?_ ?_
   ·refine aj ?_ ?_
    ·exact jc
    ·refine aj ?_ ?_
     ·exact fj (aj (ak 1 (pv 1)) (aj (fj (aj (fj (aj (ak 0 (pv 0)) (aj (Fv w6 bw) bh)) (dj (aq (aq cg)) (by decide))) bh) (dj (aq cg) (by decide))) bh)) (dj (aq (aq cg)) (by decide))
     ·exact bh
   ·exact dj (aq (aq cg)) (by decide)
abbrev Ax:Stmt:=top 18
theorem Cz:ji ll8 adv (gq Ax):=⟨rfl,rfl,rfl,by decide +kernel,rfl,by decide +kernel,by decide +kernel⟩
theorem Iw (F:Fun K "papers_of_cut" "papers_of_cut" Ax f fd) (hmg:mg "papers_of_cut" = some (.ref f)) (d_at_least:gw P w K mg base "at_least" 1 Rr (_root_.K.yr)) (d_at_most:gw P w K mg base "at_most" 1 Rr (_root_.K.Aw)) (d_laid_in:gw P w K mg base "laid_in" 1 aa8 (_root_.K.uz)) (b_isinstance:mg "isinstance" = none) (b_len:mg "len" = none) (b_str:mg "str" = none):gw P w K mg base "papers_of_cut" 2 adv _root_.K.tu:=by
 refine ⟨f,fd,?_,F.binds (ps:=adv) fun _ _ _ _ _ _ us hl=>bd5 (fun _ _ _ _ _=>rfl) us hl,F.kp,hmg⟩
 have d_at_least:=d_at_least.mono (by decide:1≤1)
 have d_at_most:=d_at_most.mono (by decide:1≤1)
 have d_laid_in:=d_laid_in.mono (by decide:1≤1)
 refine jw (N:=ll8) F Cz (by decide)  fun cdv A outer s H E B hr=>?_
 have hu:=uw hr
 have hq:=hr.units
 have nd:ll8.Nodup:=Cz.nd
 refine cu ?_ ?_
 ·exact jy 5 (Ng (N:=["name","box"]) ⟨rfl,rfl,by decide +kernel,by decide +kernel⟩ rfl (uc (ak 0 (pv 0))) (fun C s₀ H₀ ex pn=>pgE fun B=>(qm 0 (gn (show (["name","box"]:List Str).Nodup by decide +kernel) rfl (Or.inl rfl)))) (fun C s₀ H₀ ex pn=>(J7 fun B=>(PW.pt (Ew (u9 (Mw (by rfl) b_isinstance (by rfl) b_str (ak 1 (pv 1)))) (Dh (m8 (nj hq) (ak 0 (pv 0)) (ak 1 (pv 1)) (j7 _))))))) (fun C s₀ H₀ ex pn=>peE fun B=>(ak 0 (pv 0))) (gn nd rfl (Or.inl rfl)) rfl) (fun σ H Q h=>Lz ⟨rfl,fun j k h=>match j,h with | 0,h=>(by cases h; exact ⟨_,rfl,rfl,⟨.inl rfl,.inr (.inl rfl),.inl rfl⟩⟩) | _+1,h=>(by cases h)⟩ su (Mg h))
 ·refine cu ?_ ?_
  ·exact qw (m8 (G3 hq) (iu (jr qb (by rfl) b_len PySem.boot_len (aj (ak 5 (pv 5)) bh))) bw (j7 _))   (dz (iw Er))   m7
  ·refine cu ?_ ?_
   ·refine @jy _ _ _ _ (tOf _ _ _) _ ?_ (fun _ _ _ h=>h)
    ·refine jg ?_ ?_ ?_ ?_
     ·exact nd
     ·exact rfl
     ·exact Or.inl rfl
     ·refine dg d_laid_in ?_ ?_ ?_ ?_
      ·exact hr
      ·exact by rfl
      ·exact aj (ak 1 (pv 1)) (aj (qx (aj (dg d_at_most hr (by rfl) (aj (fu hu (ak 5 (pv 5)) bw (fun _ _=>rfl)) (aj (ak 3 (pv 3)) bh)) (bf (bf eq_nil))) bh) (dj (aq cg) (by decide))) bh)
      ·exact bf (bf eq_nil)
   ·refine cu ?_ ?_
    ·refine @jy _ _ _ _ (tOf _ _ _) _ ?_ (fun _ _ _ h=>h)
     ·refine jg ?_ ?_ ?_ ?_
      ·exact nd
      ·exact rfl
      ·exact Or.inl rfl
      ·refine dg d_laid_in ?_ ?_ ?_ ?_
       ·exact hr
       ·exact by rfl
       ·exact aj (ak 1 (pv 1)) (aj (qx (aj (dg d_at_least hr (by rfl) (aj (fu hu (ak 5 (pv 5)) bw (fun _ _=>rfl)) (aj (j6 kj (ak 3 (pv 3)) bw) bh)) (bf (bf eq_nil))) bh) (dj (aq cg) (by decide))) bh)
       ·exact bf (bf eq_nil)
    ·refine dz ?_
     ·refine iw ?_
      ·refine qx ?_ ?_
       ·refine aj ?_ ?_
        ·exact fj (aj (ak 6 (pv 6)) (aj (fu hu (ak 4 (pv 4)) bw (fun _ _=>rfl)) bh)) (dj (aq (aq cg)) (by decide))
        ·exact aj (fj (aj (ak 7 (pv 7)) (aj (fu hu (ak 4 (pv 4)) bw (fun _ _=>rfl)) bh)) (dj (aq (aq cg)) (by decide))) bh
       ·exact dj (aq (aq cg)) (by decide)
abbrev Hq:Stmt:=top 22
theorem Jr:ji afx a4u (gq Hq):=⟨rfl,rfl,rfl,by decide +kernel,rfl,by decide +kernel,by decide +kernel⟩
theorem Uw (F:Fun K "added_up" "added_up" Hq f fd) (hmg:mg "added_up" = some (.ref f)) (d_sum_of:gw P w K mg base "sum_of" 1 acz (_root_.K.Cp)):gw P w K mg base "added_up" 2 a4u _root_.K.vd:=by
 refine ⟨f,fd,?_,F.binds (ps:=a4u) fun _ _ _ _ _ _ us hl=>bd2 (fun _ _=>rfl) us hl,F.kp,hmg⟩
 have d_sum_of:=d_sum_of.mono (by decide:1≤1)
 refine jw (N:=afx) F Jr (by decide)  fun cdv A outer s H E B hr=>?_
 have hu:=uw hr
 have hq:=hr.units
 have nd:afx.Nodup:=Jr.nd
 refine cu ?_ ?_
 ·exact jy 2 (jg nd rfl (Or.inl rfl) bw) (fun _ _ _ h=>h)
 ·refine cu ?_ ?_
  ·exact Av 3 (jg nd rfl (Or.inl rfl) (Gx bh (dj cg (by decide)))) (fun _ _ _ h=>h)
  ·refine cu ?_ ?_
   ·refine xr ?_ ?_ ?_ ?_ ?_ ?_
    ·exact PassesOwn.never
    ·exact rfl
    ·exact uc (ak 1 (pv 1))
    ·exact qm 4 (gn nd rfl (Or.inr rfl))
    ·refine cu ?_ ?_
     ·exact jy 5 (jg nd rfl (Or.inl rfl) (fu hu (fu hu (ak 0 (pv 0)) (fu hu (ak 4 (pv 4)) bw (fun _ _=>rfl)) (fun _ _=>rfl)) bw (fun _ _=>rfl))) (fun _ _ _ h=>h)
     ·refine cu ?_ ?_
      ·exact jy 2 (jg nd rfl (Or.inl rfl) (j6 kj (ak 2 (pv 2)) (j6 Hj (fu hu (ak 4 (pv 4)) (Fv w6 bw) (fun _ _=>rfl)) (fu hu (ak 5 (pv 5)) bw (fun _ _=>rfl))))) (fun _ _ _ h=>h)
      ·refine dz ?_
       ·refine K9 _ ?_
        ·refine xq ?_
         ·refine Ft PySem.F.plainAttrs_list PySem.F.slot_list_extend PySem.F.type_list_extend Hw ?_ ?_
          ·exact pv 3
          ·refine nu ?_ ?_
           ·refine v9 ?_
            ·refine Af (N:=afp) ?_ ?_ ?_ ?_ ?_ ?_ ?_ ?_
             ·exact ⟨rfl,fun j k h=>match j,h with | 0,h=>(by cases h; exact ⟨_,rfl,rfl,⟨.inl rfl,.inr (.inl rfl),.inl rfl⟩⟩) | _+1,h=>(by cases h)⟩
             ·exact ⟨rfl,rfl,by decide +kernel,by decide +kernel⟩
             ·exact rfl
             ·exact uc (fu hu (ak 5 (pv 5)) bw (fun _ _=>rfl))
             ·exact su
             ·exact fun C s₀ H₀ ex pn=>pgE fun B=>(Ag (is:=[0,1]) (Aj rfl (j9 (gn (show afp.Nodup by decide +kernel) rfl (Or.inl rfl)) (j9 (gn (show afp.Nodup by decide +kernel) rfl (Or.inl rfl)) vq))))
             ·exact fun C s₀ H₀ ex pn=>vp
             ·exact fun C s₀ H₀ ex pn=>peE fun B=>(fj (aj (ak 0 (pv 0)) (aj (j6 Hj (fu hu (ak 2 (pv 2)) (Fv w6 bw) (fun _ _=>rfl)) (ak 1 (pv 1))) bh)) (dj (aq (aq cg)) (by decide)))
           ·exact ux
    ·exact su
   ·exact dz (iw (dg d_sum_of hr (by rfl) (aj (ak 2 (pv 2)) (aj (ak 3 (pv 3)) bh)) (bf (bf eq_nil))))
abbrev Jg:Stmt:=top 21
theorem M8:ji a3b a3b (gq Jg):=⟨rfl,rfl,rfl,by decide +kernel,rfl,by decide +kernel,by decide +kernel⟩
theorem Xv (F:Fun K "is_atom" "is_atom" Jg f fd) (hmg:mg "is_atom" = some (.ref f)) (d_is_place:gw P w K mg base "is_place" 1 a6w (_root_.K.yq)):gw P w K mg base "is_atom" 2 a3b _root_.K.uq:=by
 refine ⟨f,fd,?_,F.binds (ps:=a3b) fun _ _ _ _ _ _ us hl=>bd3 (fun _ _ _=>rfl) us hl,F.kp,hmg⟩
 have d_is_place:=d_is_place.mono (by decide:1≤1)
 refine jw (N:=a3b) F M8 (by decide)  fun cdv A outer s H E B hr=>?_
 have hu:=uw hr
 have hq:=hr.units
 have nd:a3b.Nodup:=M8.nd
 refine dz ?_
 ·exact iw (Bo (dg d_is_place hr (by rfl) (aj (ak 1 (pv 1)) (aj (ak 0 (pv 0)) bh)) (bf (bf eq_nil))) (Du (v8 (nj hq) (fu hu (fu hu (ak 0 (pv 0)) (ak 1 (pv 1)) (fun _ _=>rfl)) bw (fun _ _=>rfl)) (ak 2 (pv 2)) (j7 _))))
abbrev Dm:Stmt:=top 20
theorem Gu:ji a93 a93 (gq Dm):=⟨rfl,rfl,rfl,by decide +kernel,rfl,by decide +kernel,by decide +kernel⟩
theorem Nb (F:Fun K "is_sum_row" "is_sum_row" Dm f fd) (hmg:mg "is_sum_row" = some (.ref f)) (d_is_atom:gw P w K mg base "is_atom" 2 a3b (_root_.K.uq)) (b_len:mg "len" = none):gw P w K mg base "is_sum_row" 3 a93 _root_.K.mj:=by
 refine ⟨f,fd,?_,F.binds (ps:=a93) fun _ _ _ _ _ _ us hl=>bd2 (fun _ _=>rfl) us hl,F.kp,hmg⟩
 have d_is_atom:=d_is_atom.mono (by decide:2≤2)
 refine jw (N:=a93) F Gu (by decide)  fun cdv A outer s H E B hr=>?_
 have hu:=uw hr
 have hq:=hr.units
 have nd:a93.Nodup:=Gu.nd
 refine dz ?_
 ·refine iw ?_
  ·refine Bo ?_ ?_
   ·exact v8 (nj hq) (iu (jr qb (by rfl) b_len PySem.boot_len (aj (ak 1 (pv 1)) bh))) bw (j7 _)
   ·exact Bo (dg d_is_atom hr (by rfl) (aj (ak 0 (pv 0)) (aj (fu hu (ak 1 (pv 1)) bw (fun _ _=>rfl)) (aj jc bh))) (bf (bf (bf eq_nil)))) (Du (v8 Mv (fu hu (ak 1 (pv 1)) bw (fun _ _=>rfl)) bw (j7 _)))
abbrev Mz:Stmt:=top 19
theorem Pn:ji afq a4u (gq Mz):=⟨rfl,rfl,rfl,by decide +kernel,rfl,by decide +kernel,by decide +kernel⟩
theorem Yx (F:Fun K "is_sum" "is_sum" Mz f fd) (hmg:mg "is_sum" = some (.ref f)) (d_added_up:gw P w K mg base "added_up" 2 a4u (_root_.K.vd)) (d_is_sum_row:gw P w K mg base "is_sum_row" 3 a93 (_root_.K.mj)) (b_all:mg "all" = none):gw P w K mg base "is_sum" 4 a4u _root_.K.G5:=by
 refine ⟨f,fd,?_,F.binds (ps:=a4u) fun _ _ _ _ _ _ us hl=>bd2 (fun _ _=>rfl) us hl,F.kp,hmg⟩
 have d_added_up:=d_added_up.mono (by decide:2≤3)
 have d_is_sum_row:=d_is_sum_row.mono (by decide:3≤3)
 refine jw (N:=afq) F Pn (by decide)  fun cdv A outer s H E B hr=>?_
 have hu:=uw hr
 have hq:=hr.units
 have nd:afq.Nodup:=Pn.nd
 refine cu ?_ ?_
 ·refine qw ?_ ?_ ?_
  ·refine Ak ?_
   ·refine u9 ?_
    ·refine iu ?_
     ·refine jr (Di (by rfl)) ?_ ?_ PyProof.Rows.boot_all ?_
      ·exact by rfl
      ·exact b_all
      ·refine aj ?_ ?_
       ·refine v9 ?_
        ·refine Af (N:=["row","atoms"]) ?_ ?_ ?_ ?_ ?_ ?_ ?_ ?_
         ·exact ⟨rfl,fun j k h=>match j,h with | 0,h=>(by cases h; exact ⟨_,rfl,rfl,⟨.inl rfl,.inr (.inl rfl),.inl rfl⟩⟩) | _+1,h=>(by cases h)⟩
         ·exact ⟨rfl,rfl,by decide +kernel,by decide +kernel⟩
         ·exact rfl
         ·exact uc (ak 1 (pv 1))
         ·exact su
         ·exact fun C s₀ H₀ ex pn=>pgE fun B=>(qm 0 (gn (show (["row","atoms"]:List Str).Nodup by decide +kernel) rfl (Or.inl rfl)))
         ·exact fun C s₀ H₀ ex pn=>vp
         ·exact fun C s₀ H₀ ex pn=>peE fun B=>(dg d_is_sum_row hr (by rfl) (aj (ak 1 (pv 1)) (aj (ak 0 (pv 0)) bh)) (bf (bf eq_nil)))
       ·exact bh
  ·exact dz (iw Cq)
  ·exact m7
 ·refine cu ?_ ?_
  ·exact jy 2 (jg nd rfl (Or.inl rfl) (dg d_added_up hr (by rfl) (aj (ak 0 (pv 0)) (aj (ak 1 (pv 1)) bh)) (bf (bf eq_nil)))) (fun _ _ _ h=>h)
  ·exact dz (iw (Bo (v8 (nj hq) (fu hu (ak 2 (pv 2)) bw (fun _ _=>rfl)) (fj bh (dj cg (by decide))) (j7 _)) (Du (v8 Mv (fu hu (ak 2 (pv 2)) bw (fun _ _=>rfl)) bw (j7 _)))))
abbrev Bk:Stmt:=top 25
theorem Dp:ji a7k a7k (gq Bk):=⟨rfl,rfl,rfl,by decide +kernel,rfl,by decide +kernel,by decide +kernel⟩
theorem Jh (F:Fun K "is_zero_pair" "is_zero_pair" Bk f fd) (hmg:mg "is_zero_pair" = some (.ref f)) (d_is_atom:gw P w K mg base "is_atom" 2 a3b (_root_.K.uq)) (d_plus:gw P w K mg base "plus" 2 a7j (_root_.K.R9)):gw P w K mg base "is_zero_pair" 3 a7k _root_.K.qy:=by
 refine ⟨f,fd,?_,F.binds (ps:=a7k) fun _ _ _ _ _ _ us hl=>bd3 (fun _ _ _=>rfl) us hl,F.kp,hmg⟩
 have d_is_atom:=d_is_atom.mono (by decide:2≤2)
 have d_plus:=d_plus.mono (by decide:2≤2)
 refine jw (N:=a7k) F Dp (by decide)  fun cdv A outer s H E B hr=>?_
 have hu:=uw hr
 have hq:=hr.units
 have nd:a7k.Nodup:=Dp.nd
 refine cu ?_ ?_
 ·refine qw ?_ ?_ ?_
  ·refine PW.pt ?_
   ·refine Xo ?_ ?_
    ·exact Ak (u9 (dg d_is_atom hr (by rfl) (aj (ak 0 (pv 0)) (aj (ak 1 (pv 1)) (aj jc bh))) (bf (bf (bf eq_nil)))))
    ·exact M9 (Ak (u9 (dg d_is_atom hr (by rfl) (aj (ak 0 (pv 0)) (aj (ak 2 (pv 2)) (aj jc bh))) (bf (bf (bf eq_nil))))))
  ·exact dz (iw Cq)
  ·exact m7
 ·refine dz ?_
  ·refine iw ?_
   ·refine v8 (nj hq) ?_ ?_ ?_
    ·exact dg d_plus hr (by rfl) (aj (fu hu (fu hu (ak 0 (pv 0)) (ak 1 (pv 1)) (fun _ _=>rfl)) bw (fun _ _=>rfl)) (aj (fu hu (fu hu (ak 0 (pv 0)) (ak 2 (pv 2)) (fun _ _=>rfl)) bw (fun _ _=>rfl)) bh)) (bf (bf eq_nil))
    ·exact fj (aj bw (aj (fj bh (dj cg (by decide))) bh)) (dj (aq (aq cg)) (by decide))
    ·exact j7 _
abbrev Cd:Stmt:=top 24
theorem Et:ji a9s a9s (gq Cd):=⟨rfl,rfl,rfl,by decide +kernel,rfl,by decide +kernel,by decide +kernel⟩
theorem Ls (F:Fun K "is_rest_row" "is_rest_row" Cd f fd) (hmg:mg "is_rest_row" = some (.ref f)) (d_is_atom:gw P w K mg base "is_atom" 2 a3b (_root_.K.uq)) (d_is_zero_pair:gw P w K mg base "is_zero_pair" 3 a7k (_root_.K.qy)) (b_len:mg "len" = none):gw P w K mg base "is_rest_row" 4 a9s _root_.K.lq:=by
 refine ⟨f,fd,?_,F.binds (ps:=a9s) fun _ _ _ _ _ _ us hl=>bd3 (fun _ _ _=>rfl) us hl,F.kp,hmg⟩
 have d_is_atom:=d_is_atom.mono (by decide:2≤3)
 have d_is_zero_pair:=d_is_zero_pair.mono (by decide:3≤3)
 refine jw (N:=a9s) F Et (by decide)  fun cdv A outer s H E B hr=>?_
 have hu:=uw hr
 have hq:=hr.units
 have nd:a9s.Nodup:=Et.nd
 refine cu ?_ ?_
 ·refine qw ?_ ?_ ?_
  ·exact m8 (nj hq) (iu (jr qb (by rfl) b_len PySem.boot_len (aj (ak 2 (pv 2)) bh))) bw (j7 _)
  ·refine dz ?_
   ·refine iw ?_
    ·refine Bo ?_ ?_
     ·exact dg d_is_zero_pair hr (by rfl) (aj (ak 0 (pv 0)) (aj (fu hu (ak 2 (pv 2)) bw (fun _ _=>rfl)) (aj (fu hu (ak 2 (pv 2)) bw (fun _ _=>rfl)) bh))) (bf (bf (bf eq_nil)))
     ·exact Du (v8 (G3 hq) (fu hu (ak 2 (pv 2)) bw (fun _ _=>rfl)) bw (j7 _))
  ·exact m7
 ·refine cu ?_ ?_
  ·refine qw ?_ ?_ ?_
   ·exact m8 (nj hq) (iu (jr qb (by rfl) b_len PySem.boot_len (aj (ak 2 (pv 2)) bh))) bw (j7 _)
   ·refine dz ?_
    ·refine iw ?_
     ·refine Bo ?_ ?_
      ·exact dg d_is_atom hr (by rfl) (aj (ak 0 (pv 0)) (aj (fu hu (ak 2 (pv 2)) bw (fun _ _=>rfl)) (aj jc bh))) (bf (bf (bf eq_nil)))
      ·refine Bo ?_ ?_
       ·exact v8 (G3 hq) (fu hu (ak 2 (pv 2)) bw (fun _ _=>rfl)) bw (j7 _)
       ·exact Du (v8 (nj hq) (j6 m5 (j6 Hj (fu hu (ak 2 (pv 2)) bw (fun _ _=>rfl)) (fu hu (fu hu (ak 0 (pv 0)) (fu hu (ak 2 (pv 2)) bw (fun _ _=>rfl)) (fun _ _=>rfl)) bw (fun _ _=>rfl))) (ak 1 (pv 1))) bw (j7 _))
   ·exact m7
  ·exact dz (iw Cq)
abbrev Kd:Stmt:=top 23
theorem Mp:ji afd adu (gq Kd):=⟨rfl,rfl,rfl,by decide +kernel,rfl,by decide +kernel,by decide +kernel⟩
theorem Wu (F:Fun K "is_rest" "is_rest" Kd f fd) (hmg:mg "is_rest" = some (.ref f)) (d_added_up:gw P w K mg base "added_up" 2 a4u (_root_.K.vd)) (d_is_rest_row:gw P w K mg base "is_rest_row" 4 a9s (_root_.K.lq)) (b_all:mg "all" = none):gw P w K mg base "is_rest" 5 adu _root_.K.Bv:=by
 refine ⟨f,fd,?_,F.binds (ps:=adu) fun _ _ _ _ _ _ us hl=>bd3 (fun _ _ _=>rfl) us hl,F.kp,hmg⟩
 have d_added_up:=d_added_up.mono (by decide:2≤4)
 have d_is_rest_row:=d_is_rest_row.mono (by decide:4≤4)
 refine jw (N:=afd) F Mp (by decide)  fun cdv A outer s H E B hr=>?_
 have hu:=uw hr
 have hq:=hr.units
 have nd:afd.Nodup:=Mp.nd
 refine cu ?_ ?_
 ·refine qw ?_ ?_ ?_
  ·refine PW.pt ?_
   ·refine Xo ?_ ?_
    ·exact m8 Mi (ak 1 (pv 1)) bw (j7 _)
    ·refine M9 ?_
     ·refine Ak ?_
      ·refine u9 ?_
       ·refine iu ?_
        ·refine jr (Di (by rfl)) ?_ ?_ PyProof.Rows.boot_all ?_
         ·exact by rfl
         ·exact b_all
         ·refine aj ?_ ?_
          ·refine v9 ?_
           ·refine Af (N:=["row","atoms","divisor"]) ?_ ?_ ?_ ?_ ?_ ?_ ?_ ?_
            ·exact ⟨rfl,fun j k h=>match j,h with | 0,h=>(by cases h; exact ⟨_,rfl,rfl,⟨.inl rfl,.inr (.inl rfl),.inl rfl⟩⟩) | 1,h=>(by cases h; exact ⟨_,rfl,rfl,⟨.inl rfl,.inr (.inl rfl),.inl rfl⟩⟩) | _+2,h=>(by cases h)⟩
            ·exact ⟨rfl,rfl,by decide +kernel,by decide +kernel⟩
            ·exact rfl
            ·exact uc (ak 2 (pv 2))
            ·exact su
            ·exact fun C s₀ H₀ ex pn=>pgE fun B=>(qm 0 (gn (show (["row","atoms","divisor"]:List Str).Nodup by decide +kernel) rfl (Or.inl rfl)))
            ·exact fun C s₀ H₀ ex pn=>vp
            ·exact fun C s₀ H₀ ex pn=>peE fun B=>(dg d_is_rest_row hr (by rfl) (aj (ak 1 (pv 1)) (aj (ak 2 (pv 2)) (aj (ak 0 (pv 0)) bh))) (bf (bf (bf eq_nil))))
          ·exact bh
  ·exact dz (iw Cq)
  ·exact m7
 ·refine cu ?_ ?_
  ·exact jy 3 (jg nd rfl (Or.inl rfl) (dg d_added_up hr (by rfl) (aj (ak 0 (pv 0)) (aj (ak 2 (pv 2)) bh)) (bf (bf eq_nil)))) (fun _ _ _ h=>h)
  ·refine dz ?_
   ·refine iw ?_
    ·refine Bo ?_ ?_
     ·exact v8 (G3 hq) (j6 m5 (fu hu (ak 3 (pv 3)) bw (fun _ _=>rfl)) (ak 1 (pv 1))) bw (j7 _)
     ·refine Du ?_
      ·refine iu ?_
       ·refine jr (Di (by rfl)) ?_ ?_ PyProof.Rows.boot_all ?_
        ·exact by rfl
        ·exact b_all
        ·refine aj ?_ ?_
         ·refine v9 ?_
          ·refine Af (N:=aeh) ?_ ?_ ?_ ?_ ?_ ?_ ?_ ?_
           ·exact ⟨rfl,fun j k h=>match j,h with | 0,h=>(by cases h; exact ⟨_,rfl,rfl,⟨.inl rfl,.inr (.inl rfl),.inl rfl⟩⟩) | _+1,h=>(by cases h)⟩
           ·exact ⟨rfl,rfl,by decide +kernel,by decide +kernel⟩
           ·exact rfl
           ·exact uc (fu hu (ak 3 (pv 3)) bw (fun _ _=>rfl))
           ·exact su
           ·exact fun C s₀ H₀ ex pn=>pgE fun B=>(Ag (is:=[0,1]) (Aj rfl (j9 (gn (show aeh.Nodup by decide +kernel) rfl (Or.inl rfl)) (j9 (gn (show aeh.Nodup by decide +kernel) rfl (Or.inl rfl)) vq))))
           ·exact fun C s₀ H₀ ex pn=>vp
           ·exact fun C s₀ H₀ ex pn=>peE fun B=>(v8 (nj hq) (j6 m5 (ak 1 (pv 1)) (ak 2 (pv 2))) bw (j7 _))
         ·exact bh
abbrev Fe:Stmt:=top 13
theorem Il:ji ["thing","parts"] Gd (gq Fe):=⟨rfl,rfl,rfl,by decide +kernel,rfl,by decide +kernel,by decide +kernel⟩
theorem Ou (F:Fun K "plain_row" "plain_row" Fe f fd) (hmg:mg "plain_row" = some (.ref f)) (d_is_whole:gw P w K mg base "is_whole" 1 Gd (_root_.K.ud)) (d_plain_tuple:gw P w K mg base "plain_tuple" 1 Gd (_root_.K.lg)) (b_all:mg "all" = none) (b_int:mg "int" = none) (b_tuple:mg "tuple" = none):gw P w K mg base "plain_row" 2 Gd _root_.K.yj:=by
 refine ⟨f,fd,?_,F.binds (ps:=Gd) fun _ _ _ _ _ _ us hl=>bd1 (fun _=>rfl) us hl,F.kp,hmg⟩
 have d_is_whole:=d_is_whole.mono (by decide:1≤1)
 have d_plain_tuple:=d_plain_tuple.mono (by decide:1≤1)
 refine jw (N:=["thing","parts"]) F Il (by decide)  fun cdv A outer s H E B hr=>?_
 have hu:=uw hr
 have hq:=hr.units
 have nd:(["thing","parts"]:List Str).Nodup:=Il.nd
 refine cu ?_ ?_
 ·exact jy 1 (jg nd rfl (Or.inl rfl) (dg d_plain_tuple hr (by rfl) (aj (ak 0 (pv 0)) bh) (bf eq_nil))) (fun _ _ _ h=>h)
 ·refine dz ?_
  ·refine iw ?_
   ·refine Vp ?_ ?_ ?_
    ·refine u9 ?_
     ·refine iu ?_
      ·refine jr (Di (by rfl)) ?_ ?_ PyProof.Rows.boot_all ?_
       ·exact by rfl
       ·exact b_all
       ·refine aj ?_ ?_
        ·refine v9 ?_
         ·refine Af (N:=["part"]) ?_ ?_ ?_ ?_ ?_ ?_ ?_ ?_
          ·exact ⟨rfl,fun j k h=>match j,h with | _+0,h=>(by cases h)⟩
          ·exact ⟨rfl,rfl,by decide +kernel,by decide +kernel⟩
          ·exact rfl
          ·exact uc (ak 1 (pv 1))
          ·exact su
          ·exact fun C s₀ H₀ ex pn=>pgE fun B=>(qm 0 (gn (show (["part"]:List Str).Nodup by decide +kernel) rfl (Or.inl rfl)))
          ·exact fun C s₀ H₀ ex pn=>vp
          ·exact fun C s₀ H₀ ex pn=>peE fun B=>(dg d_is_whole hr (by rfl) (aj (ak 0 (pv 0)) bh) (bf eq_nil))
        ·exact bh
    ·refine iu ?_
     ·refine mq v7 ?_ ?_ PyProof.Rows.boot_tuple ?_
      ·exact by rfl
      ·exact b_tuple
      ·refine aj ?_ ?_
       ·refine v9 ?_
        ·refine Af (N:=["part"]) ?_ ?_ ?_ ?_ ?_ ?_ ?_ ?_
         ·exact ⟨rfl,fun j k h=>match j,h with | _+0,h=>(by cases h)⟩
         ·exact ⟨rfl,rfl,by decide +kernel,by decide +kernel⟩
         ·exact rfl
         ·exact uc (ak 1 (pv 1))
         ·exact su
         ·exact fun C s₀ H₀ ex pn=>pgE fun B=>(qm 0 (gn (show (["part"]:List Str).Nodup by decide +kernel) rfl (Or.inl rfl)))
         ·exact fun C s₀ H₀ ex pn=>vp
         ·exact fun C s₀ H₀ ex pn=>peE fun B=>(iu (mq yx (by rfl) b_int PyProof.Rows.boot_int (aj (ak 0 (pv 0)) bh)))
       ·exact bh
    ·exact fj bh (dj cg (by decide))
abbrev Dk:Stmt:=top 12
theorem Gs:ji Gd Gd (gq Dk):=⟨rfl,rfl,rfl,by decide +kernel,rfl,by decide +kernel,by decide +kernel⟩
theorem O8 (F:Fun K "plain_rows" "plain_rows" Dk f fd) (hmg:mg "plain_rows" = some (.ref f)) (d_plain_row:gw P w K mg base "plain_row" 2 Gd (_root_.K.yj)) (d_plain_tuple:gw P w K mg base "plain_tuple" 1 Gd (_root_.K.lg)):gw P w K mg base "plain_rows" 3 Gd _root_.K.ql:=by
 refine ⟨f,fd,?_,F.binds (ps:=Gd) fun _ _ _ _ _ _ us hl=>bd1 (fun _=>rfl) us hl,F.kp,hmg⟩
 have d_plain_row:=d_plain_row.mono (by decide:2≤2)
 have d_plain_tuple:=d_plain_tuple.mono (by decide:1≤2)
 refine jw (N:=Gd) F Gs (by decide)  fun cdv A outer s H E B hr=>?_
 have hu:=uw hr
 have hq:=hr.units
 have nd:Gd.Nodup:=Gs.nd
 refine dz ?_
 ·refine iw ?_
  ·refine v9 ?_
   ·refine Af (N:=["row"]) ?_ ?_ ?_ ?_ ?_ ?_ ?_ ?_
    ·exact ⟨rfl,fun j k h=>match j,h with | _+0,h=>(by cases h)⟩
    ·exact ⟨rfl,rfl,by decide +kernel,by decide +kernel⟩
    ·exact rfl
    ·exact uc (dg d_plain_tuple hr (by rfl) (aj (ak 0 (pv 0)) bh) (bf eq_nil))
    ·exact su
    ·exact fun C s₀ H₀ ex pn=>pgE fun B=>(qm 0 (gn (show (["row"]:List Str).Nodup by decide +kernel) rfl (Or.inl rfl)))
    ·exact fun C s₀ H₀ ex pn=>vp
    ·exact fun C s₀ H₀ ex pn=>peE fun B=>(dg d_plain_row hr (by rfl) (aj (ak 0 (pv 0)) bh) (bf eq_nil))
abbrev Ay:Stmt:=top 10
theorem Cv:ji afe ae0 (gq Ay):=⟨rfl,rfl,rfl,by decide +kernel,rfl,by decide +kernel,by decide +kernel⟩
theorem J3 (F:Fun K "papers_within" "papers_within" Ay f fd) (hmg:mg "papers_within" = some (.ref f)) (d_is_kind:gw P w K mg base "is_kind" 1 a92 (_root_.K.je)) (d_is_rest:gw P w K mg base "is_rest" 5 adu (_root_.K.Bv)) (d_is_sum:gw P w K mg base "is_sum" 4 a4u (_root_.K.G5)) (d_is_whole:gw P w K mg base "is_whole" 1 Gd (_root_.K.ud)) (d_papers_of_cut:gw P w K mg base "papers_of_cut" 2 adv (_root_.K.tu)) (d_papers_of_or:gw P w K mg base "papers_of_or" 2 ady (_root_.K.ni)) (d_plain_rows:gw P w K mg base "plain_rows" 3 Gd (_root_.K.ql)) (d_plain_tuple:gw P w K mg base "plain_tuple" 1 Gd (_root_.K.lg)) (b_int:mg "int" = none):gw P w K mg base "papers_within" 6 ae0 _root_.K.gj:=by
 refine ⟨f,fd,?_,F.binds (ps:=ae0) fun _ _ _ _ _ _ us hl=>bd3 (fun _ _ _=>rfl) us hl,F.kp,hmg⟩
 have d_is_kind:=d_is_kind.mono (by decide:1≤5)
 have d_is_rest:=d_is_rest.mono (by decide:5≤5)
 have d_is_sum:=d_is_sum.mono (by decide:4≤5)
 have d_is_whole:=d_is_whole.mono (by decide:1≤5)
 have d_papers_of_cut:=d_papers_of_cut.mono (by decide:2≤5)
 have d_papers_of_or:=d_papers_of_or.mono (by decide:2≤5)
 have d_plain_rows:=d_plain_rows.mono (by decide:3≤5)
 have d_plain_tuple:=d_plain_tuple.mono (by decide:1≤5)
 refine jw (N:=afe) F Cv (by decide)  fun cdv A outer s H E B hr=>?_
 have hu:=uw hr
 have hq:=hr.units
 have nd:afe.Nodup:=Cv.nd
 refine cu ?_ ?_
 ·exact jy 3 (jg nd rfl (Or.inl rfl) (dg d_plain_tuple hr (by rfl) (aj (ak 2 (pv 2)) bh) (bf eq_nil))) (fun _ _ _ h=>h)
 ·refine cu ?_ ?_
  ·refine qw ?_ ?_ ?_
   ·refine PW.pt ?_
    ·exact Ew (u9 (dg d_is_kind hr (by rfl) (aj (ak 3 (pv 3)) (aj jc (aj bw bh))) (bf (bf (bf eq_nil))))) (Dh (u9 (dg d_is_whole hr (by rfl) (aj (fu hu (ak 3 (pv 3)) bw (fun _ _=>rfl)) bh) (bf eq_nil))))
   ·refine dz ?_
    ·refine iw ?_
     ·refine dg d_papers_of_or ?_ ?_ ?_ ?_
      ·exact hr
      ·exact by rfl
      ·exact aj (ak 1 (pv 1)) (aj (iu (mq yx (by rfl) b_int PyProof.Rows.boot_int (aj (fu hu (ak 3 (pv 3)) bw (fun _ _=>rfl)) bh))) (aj (fu hu (ak 3 (pv 3)) bw (fun _ _=>rfl)) bh))
      ·exact bf (bf (bf eq_nil))
   ·exact m7
  ·refine cu ?_ ?_
   ·refine qw ?_ ?_ ?_
    ·refine PW.pt ?_
     ·exact Ew (u9 (dg d_is_kind hr (by rfl) (aj (ak 3 (pv 3)) (aj jc (aj bw bh))) (bf (bf (bf eq_nil))))) (Dh (u9 (dg d_is_whole hr (by rfl) (aj (fu hu (ak 3 (pv 3)) bw (fun _ _=>rfl)) bh) (bf eq_nil))))
    ·refine dz ?_
     ·refine iw ?_
      ·refine dg d_papers_of_cut ?_ ?_ ?_ ?_
       ·exact hr
       ·exact by rfl
       ·refine aj ?_ ?_
        ·exact ak 0 (pv 0)
        ·refine aj ?_ ?_
         ·exact ak 1 (pv 1)
         ·exact aj (fu hu (ak 3 (pv 3)) bw (fun _ _=>rfl)) (aj (iu (mq yx (by rfl) b_int PyProof.Rows.boot_int (aj (fu hu (ak 3 (pv 3)) bw (fun _ _=>rfl)) bh))) (aj (yw (ak 3 (pv 3)) (zu bw) Dr) bh))
       ·exact bf (bf (bf (bf (bf eq_nil))))
    ·exact m7
   ·refine cu ?_ ?_
    ·refine qw ?_ ?_ ?_
     ·refine PW.pt ?_
      ·refine Ew ?_ ?_
       ·exact u9 (dg d_is_kind hr (by rfl) (aj (ak 3 (pv 3)) (aj jc (aj bw bh))) (bf (bf (bf eq_nil))))
       ·exact Dh (u9 (dg d_is_sum hr (by rfl) (aj (fu hu (ak 1 (pv 1)) bw (fun _ _=>rfl)) (aj (dg d_plain_rows hr (by rfl) (aj (fu hu (ak 3 (pv 3)) bw (fun _ _=>rfl)) bh) (bf eq_nil)) bh)) (bf (bf eq_nil))))
     ·exact dz (iw (qx bh (dj cg (by decide))))
     ·exact m7
    ·refine cu ?_ ?_
     ·refine qw ?_ ?_ ?_
      ·refine PW.pt ?_
       ·refine Ew ?_ ?_
        ·exact u9 (dg d_is_kind hr (by rfl) (aj (ak 3 (pv 3)) (aj jc (aj bw bh))) (bf (bf (bf eq_nil))))
        ·refine Ew ?_ ?_
         ·exact u9 (dg d_is_whole hr (by rfl) (aj (fu hu (ak 3 (pv 3)) bw (fun _ _=>rfl)) bh) (bf eq_nil))
         ·refine Dh ?_
          ·refine u9 ?_
           ·refine dg d_is_rest ?_ ?_ ?_ ?_
            ·exact hr
            ·exact by rfl
            ·refine aj ?_ ?_
             ·exact fu hu (ak 1 (pv 1)) bw (fun _ _=>rfl)
             ·exact aj (iu (mq yx (by rfl) b_int PyProof.Rows.boot_int (aj (fu hu (ak 3 (pv 3)) bw (fun _ _=>rfl)) bh))) (aj (dg d_plain_rows hr (by rfl) (aj (fu hu (ak 3 (pv 3)) bw (fun _ _=>rfl)) bh) (bf eq_nil)) bh)
            ·exact bf (bf (bf eq_nil))
      ·exact dz (iw (qx bh (dj cg (by decide))))
      ·exact m7
     ·exact dz (iw Er)
abbrev Cj:Stmt:=top 6
theorem Ep:ji aeu ["rows"] (gq Cj):=⟨rfl,rfl,rfl,by decide +kernel,rfl,by decide +kernel,by decide +kernel⟩
theorem Lr (F:Fun K "first_lists" "first_lists" Cj f fd) (hmg:mg "first_lists" = some (.ref f)) (d_at_least:gw P w K mg base "at_least" 1 Rr (_root_.K.yr)) (d_at_most:gw P w K mg base "at_most" 1 Rr (_root_.K.Aw)):gw P w K mg base "first_lists" 2 ["rows"] _root_.K.wz:=by
 refine ⟨f,fd,?_,F.binds (ps:=["rows"]) fun _ _ _ _ _ _ us hl=>bd1 (fun _=>rfl) us hl,F.kp,hmg⟩
 have d_at_least:=d_at_least.mono (by decide:1≤1)
 have d_at_most:=d_at_most.mono (by decide:1≤1)
 refine jw (N:=aeu) F Ep (by decide)  fun cdv A outer s H E B hr=>?_
 have hu:=uw hr
 have hq:=hr.units
 have nd:aeu.Nodup:=Ep.nd
 refine cu ?_ ?_
 ·exact Av 1 (jg nd rfl (Or.inl rfl) (Gx bh (dj cg (by decide)))) (fun _ _ _ h=>h)
 ·refine cu ?_ ?_
  ·refine xr ?_ ?_ ?_ ?_ ?_ ?_
   ·exact PassesOwn.never
   ·exact rfl
   ·exact uc (ak 0 (pv 0))
   ·exact Ag (is:=[2,3,4]) (Aj rfl (j9 (gn nd rfl (Or.inl rfl)) (j9 (gn nd rfl (Or.inl rfl)) (j9 (gn nd rfl (Or.inl rfl)) vq))))
   ·refine cu ?_ ?_
    ·exact uy 1 (xq (Ft PySem.F.plainAttrs_list PySem.F.slot_list_append PySem.F.type_list_append uo (pv 1) (nu (dg d_at_least hr (by rfl) (aj (ak 2 (pv 2)) (aj (ak 3 (pv 3)) bh)) (bf (bf eq_nil))) ux)))
    ·exact dz (uy 1 (xq (Ft PySem.F.plainAttrs_list PySem.F.slot_list_append PySem.F.type_list_append uo (pv 1) (nu (dg d_at_most hr (by rfl) (aj (ak 2 (pv 2)) (aj (ak 4 (pv 4)) bh)) (bf (bf eq_nil))) ux))))
   ·exact su
  ·exact dz (iw (fj (aj (ak 1 (pv 1)) (aj (qx bh (dj cg (by decide))) bh)) (dj (aq (aq cg)) (by decide))))
abbrev Oc:Stmt:=top 5
theorem Pz:ji afs adn (gq Oc):=⟨rfl,rfl,rfl,by decide +kernel,rfl,by decide +kernel,by decide +kernel⟩
theorem Zk (F:Fun K "let_by" "let_by" Oc f fd) (hmg:mg "let_by" = some (.ref f)) (d_first_lists:gw P w K mg base "first_lists" 2 ["rows"] (_root_.K.wz)) (d_laid_in:gw P w K mg base "laid_in" 1 aa8 (_root_.K.uz)) (d_papers_within:gw P w K mg base "papers_within" 6 ae0 (_root_.K.gj)) (b_len:mg "len" = none) (c_MOST_DEEP:∃ tk,mg "MOST_DEEP" = some (.int 90 tk)):gw P w K mg base "let_by" 7 adn _root_.K.wu:=by
 refine ⟨f,fd,?_,F.binds (ps:=adn) fun _ _ _ _ _ _ us hl=>bd3 (fun _ _ _=>rfl) us hl,F.kp,hmg⟩
 have d_first_lists:=d_first_lists.mono (by decide:2≤6)
 have d_laid_in:=d_laid_in.mono (by decide:1≤6)
 have d_papers_within:=d_papers_within.mono (by decide:6≤6)
 refine jw (N:=afs) F Pz (by decide)  fun cdv A outer s H E B hr=>?_
 have hu:=uw hr
 have hq:=hr.units
 have nd:afs.Nodup:=Pz.nd
 refine cu ?_ ?_
 ·exact jy 3 (Ng (N:=adk) ⟨rfl,rfl,by decide +kernel,by decide +kernel⟩ rfl (uc (ak 0 (pv 0))) (fun C s₀ H₀ ex pn=>pgE fun B=>(Ag (is:=[0,1,2]) (Aj rfl (j9 (gn (show adk.Nodup by decide +kernel) rfl (Or.inl rfl)) (j9 (gn (show adk.Nodup by decide +kernel) rfl (Or.inl rfl)) (j9 (gn (show adk.Nodup by decide +kernel) rfl (Or.inl rfl)) vq)))))) (fun C s₀ H₀ ex pn=>vp) (fun C s₀ H₀ ex pn=>peE fun B=>(ak 0 (pv 0))) (gn nd rfl (Or.inl rfl)) rfl) (fun σ H Q h=>Lz ⟨rfl,fun j k h=>match j,h with | _+0,h=>(by cases h)⟩ su (Mg h))
 ·refine cu ?_ ?_
  ·refine @Av _ _ _ _ (fOf _ _ _) _ ?_ (fun _ _ _ h=>h)
   ·refine jg ?_ ?_ ?_ ?_
    ·exact nd
    ·exact rfl
    ·exact Or.inl rfl
    ·refine Gx ?_ ?_
     ·refine aj ?_ ?_
      ·refine fj ?_ ?_
       ·exact aj (dg d_laid_in hr (by rfl) (aj (dg d_first_lists hr (by rfl) (aj (ak 0 (pv 0)) bh) (bf eq_nil)) (aj (ak 1 (pv 1)) bh)) (bf (bf eq_nil))) (aj (ak 2 (pv 2)) (aj bw bh))
       ·exact dj (aq (aq (aq cg))) (by decide)
      ·exact bh
     ·exact dj (aq cg) (by decide)
  ·refine cu ?_ ?_
   ·refine Wd _ ?_ ?_ ?_
    ·exact PassesOwn.never
    ·exact m8 Mv (Qc 4 b_len rfl (pv 4)) bw (j7 _)
    ·refine cu ?_ ?_
     ·exact a6y 4 5 (Q0 (a6a PySem.F.plainAttrs_list PySem.F.slot_list_pop PySem.F.type_list_pop a6l (pv 4)) (gn nd rfl (Or.inr rfl)))
     ·refine cu ?_ ?_
      ·exact jy 6 (jg nd rfl (Or.inl rfl) Er) (fun _ _ _ h=>h)
      ·refine cu ?_ ?_
       ·refine qw ?_ ?_ ?_
        ·exact m8 Yi (fu hu (ak 5 (pv 5)) bw (fun _ _=>rfl)) (a3c (by rfl) c_MOST_DEEP) (j7 _)
        ·refine dz ?_
         ·exact jy 6 (jg nd rfl (Or.inl rfl) (dg d_papers_within hr (by rfl) (aj (ak 3 (pv 3)) (aj (fu hu (ak 5 (pv 5)) bw (fun _ _=>rfl)) (aj (fu hu (ak 5 (pv 5)) bw (fun _ _=>rfl)) bh))) (bf (bf (bf eq_nil))))) (fun _ _ _ h=>h)
        ·exact m7
       ·refine cu ?_ ?_
        ·exact qw (m8 Zj (ak 6 (pv 6)) Er (j7 _))   (dz (iw Cq))   m7
        ·refine dz ?_
         ·refine K9 _ ?_
          ·refine xq ?_
           ·refine Ft PySem.F.plainAttrs_list PySem.F.slot_list_extend PySem.F.type_list_extend Hw ?_ ?_
            ·exact pv 4
            ·refine nu ?_ ?_
             ·refine v9 ?_
              ·refine Af (N:=aem) ?_ ?_ ?_ ?_ ?_ ?_ ?_ ?_
               ·exact ⟨rfl,fun j k h=>match j,h with | 0,h=>(by cases h; exact ⟨_,rfl,rfl,⟨.inl rfl,.inr (.inl rfl),.inl rfl⟩⟩) | _+1,h=>(by cases h)⟩
               ·exact ⟨rfl,rfl,by decide +kernel,by decide +kernel⟩
               ·exact rfl
               ·exact uc (ak 6 (pv 6))
               ·exact su
               ·exact fun C s₀ H₀ ex pn=>pgE fun B=>(Ag (is:=[0,1]) (Aj rfl (j9 (gn (show aem.Nodup by decide +kernel) rfl (Or.inl rfl)) (j9 (gn (show aem.Nodup by decide +kernel) rfl (Or.inl rfl)) vq))))
               ·exact fun C s₀ H₀ ex pn=>vp
               ·exact fun C s₀ H₀ ex pn=>peE fun B=>(fj (aj (ak 0 (pv 0)) (aj (ak 1 (pv 1)) (aj (j6 kj (fu hu (ak 2 (pv 2)) bw (fun _ _=>rfl)) bw) bh))) (dj (aq (aq (aq cg))) (by decide)))
             ·exact ux
   ·exact dz (iw Cq)
abbrev Ca:Stmt:=top 27
theorem Eu:ji a6b a6b (gq Ca):=⟨rfl,rfl,rfl,by decide +kernel,rfl,by decide +kernel,by decide +kernel⟩
theorem Lw (F:Fun K "_law_cell_at" "_law_cell_at" Ca f fd) (hmg:mg "_law_cell_at" = some (.ref f)) (b_len:mg "len" = none):gw P w K mg base "_law_cell_at" 1 a6b _root_.K.jx:=by
 refine ⟨f,fd,?_,F.binds (ps:=a6b) fun _ _ _ _ _ _ us hl=>bd2 (fun _ _=>rfl) us hl,F.kp,hmg⟩
 refine jw (N:=a6b) F Eu (by decide)  fun cdv A outer s H E B hr=>?_
 have hu:=uw hr
 have hq:=hr.units
 have nd:a6b.Nodup:=Eu.nd
 exact cu (qw (m8 Mi (ak 1 (pv 1)) (iu (jr qb (by rfl) b_len PySem.boot_len (aj (ak 0 (pv 0)) bh))) (j7 _))   (dz (iw (fu hu (ak 0 (pv 0)) (ak 1 (pv 1)) (fun _ _=>rfl))))   m7)   (dz (iw bw))
abbrev Hx:Stmt:=top 28
theorem Ji:ji ll9 a9o (gq Hx):=⟨rfl,rfl,rfl,by decide +kernel,rfl,by decide +kernel,by decide +kernel⟩
theorem Ti (F:Fun K "_law_rows" "_law_rows" Hx f fd) (hmg:mg "_law_rows" = some (.ref f)) (d_law_cell_at:gw P w K mg base "_law_cell_at" 1 a6b (_root_.K.jx)) (b_range:mg "range" = none):gw P w K mg base "_law_rows" 2 a9o _root_.K.Dy:=by
 refine ⟨f,fd,?_,F.binds (ps:=a9o) fun _ _ _ _ _ _ us hl=>bd1 (fun _=>rfl) us hl,F.kp,hmg⟩
 have d_law_cell_at:=d_law_cell_at.mono (by decide:1≤1)
 refine jw (N:=ll9) F Ji (by decide)  fun cdv A outer s H E B hr=>?_
 have hu:=uw hr
 have hq:=hr.units
 have nd:ll9.Nodup:=Ji.nd
 refine cu ?_ ?_
 ·exact Av 1 (jg nd rfl (Or.inl rfl) (Gx bh (dj cg (by decide)))) (fun _ _ _ h=>h)
 ·refine cu ?_ ?_
  ·refine xr ?_ ?_ ?_ ?_ ?_ ?_
   ·exact PassesOwn.never
   ·exact rfl
   ·exact Gm (by rfl) b_range (j6 kj bw (j6 m5 (dg d_law_cell_at hr (by rfl) (aj (ak 0 (pv 0)) (aj bw bh)) (bf (bf eq_nil))) bw))
   ·exact qm 2 (gn nd rfl (Or.inl rfl))
   ·refine cu ?_ ?_
    ·exact jy 3 (jg nd rfl (Or.inl rfl) (dg d_law_cell_at hr (by rfl) (aj (ak 0 (pv 0)) (aj (j6 kj bw (ak 2 (pv 2))) bh)) (bf (bf eq_nil)))) (fun _ _ _ h=>h)
    ·refine cu ?_ ?_
     ·exact jy 4 (jg nd rfl (Or.inl rfl) (j6 Fd (j6 m5 (j6 oh (ak 3 (pv 3)) bw) bw) bw)) (fun _ _ _ h=>h)
     ·refine cu ?_ ?_
      ·exact qw (m8 (nj hq) (j6 m5 (j6 oh (ak 3 (pv 3)) bw) bw) bw (j7 _))   (dz (jy 4 (jg nd rfl (Or.inl rfl) (j6 m5 (ak 3 (pv 3)) (j6 a8u bw bw))) (fun _ _ _ h=>h)))   m7
      ·refine dz ?_
       ·refine uy _ ?_
        ·refine xq ?_
         ·refine Ft PySem.F.plainAttrs_list PySem.F.slot_list_append PySem.F.type_list_append uo ?_ ?_
          ·exact pv 1
          ·refine nu ?_ ?_
           ·refine fj ?_ ?_
            ·refine aj ?_ ?_
             ·exact fu hu (qx (aj jc (aj jc (aj jc bh))) (dj (aq (aq (aq cg))) (by decide))) (ak 2 (pv 2)) (fun _ _=>rfl)
             ·exact aj (ak 4 (pv 4)) (aj (j6 kj (ak 4 (pv 4)) (j6 m5 (ak 3 (pv 3)) bw)) bh)
            ·exact dj (aq (aq (aq cg))) (by decide)
           ·exact ux
   ·exact Fz
  ·exact dz (iw (ak 1 (pv 1)))
abbrev Hu:Stmt:=top 29
theorem Lh:ji ll5 acp (gq Hu):=⟨rfl,rfl,rfl,by decide +kernel,rfl,by decide +kernel,by decide +kernel⟩
theorem Ub (F:Fun K "_law_atom" "_law_atom" Hu f fd) (hmg:mg "_law_atom" = some (.ref f)) (b_len:mg "len" = none) (b_range:mg "range" = none) (b_sorted:mg "sorted" = none) (b_tuple:mg "tuple" = none):gw P w K mg base "_law_atom" 1 acp _root_.K.uf:=by
 refine ⟨f,fd,?_,F.binds (ps:=acp) fun _ _ _ _ _ _ us hl=>bd2 (fun _ _=>rfl) us hl,F.kp,hmg⟩
 refine jw (N:=ll5) F Lh (by decide)  fun cdv A outer s H E B hr=>?_
 have hu:=uw hr
 have hq:=hr.units
 have nd:ll5.Nodup:=Lh.nd
 refine cu ?_ ?_
 ·exact jy 2 (jg nd rfl (Or.inl rfl) (j6 Fd (j6 m5 (j6 oh (ak 0 (pv 0)) bw) bw) bw)) (fun _ _ _ h=>h)
 ·refine cu ?_ ?_
  ·exact Av 3 (jg nd rfl (Or.inl rfl) (Gx bh (dj cg (by decide)))) (fun _ _ _ h=>h)
  ·refine cu ?_ ?_
   ·refine xr ?_ ?_ ?_ ?_ ?_ ?_
    ·exact PassesOwn.never
    ·exact rfl
    ·exact Gm (by rfl) b_range (iu (jr qb (by rfl) b_len PySem.boot_len (aj (ak 1 (pv 1)) bh)))
    ·exact qm 4 (gn nd rfl (Or.inl rfl))
    ·refine cu ?_ ?_
     ·refine @jy _ _ _ _ (tOf _ _ _) _ ?_ (fun _ _ _ h=>h)
      ·exact jg nd rfl (Or.inl rfl) (j6 Fd (j6 m5 (j6 oh (ak 0 (pv 0)) (fu hu (qx (aj bw (aj bw (aj bw bh))) (dj (aq (aq (aq cg))) (by decide))) (ak 4 (pv 4)) (fun _ _=>rfl))) bw) bw)
     ·refine dz ?_
      ·refine qw ?_ ?_ ?_
       ·exact m8 (G3 hq) (ak 5 (pv 5)) bw (j7 _)
       ·refine cu ?_ ?_
        ·refine uy _ ?_
         ·refine xq ?_
          ·refine Ft PySem.F.plainAttrs_list PySem.F.slot_list_append PySem.F.type_list_append uo ?_ ?_
           ·exact pv 3
           ·exact nu (fj (aj (fu hu (fu hu (ak 1 (pv 1)) (ak 4 (pv 4)) (fun _ _=>rfl)) bw (fun _ _=>rfl)) (aj (ak 5 (pv 5)) bh)) (dj (aq (aq cg)) (by decide))) ux
        ·exact dz (jy 2 (jg nd rfl (Or.inl rfl) (j6 Fd (ak 2 (pv 2)) (j6 Hj (ak 5 (pv 5)) (fu hu (fu hu (ak 1 (pv 1)) (ak 4 (pv 4)) (fun _ _=>rfl)) bw (fun _ _=>rfl))))) (fun _ _ _ h=>h))
       ·exact m7
    ·exact Fz
   ·refine cu ?_ ?_
    ·refine @jy _ _ _ _ (tOf _ _ _) _ ?_ (fun _ _ _ h=>h)
     ·refine jg ?_ ?_ ?_ ?_
      ·exact nd
      ·exact rfl
      ·exact Or.inl rfl
      ·refine fj ?_ ?_
       ·exact aj (ak 2 (pv 2)) (aj (iu (mq v7 (by rfl) b_tuple PyProof.Rows.boot_tuple (aj (iu (jr O5 (by rfl) b_sorted PyProof.Rows.boot_sorted (aj (ak 3 (pv 3)) bh))) bh))) bh)
       ·exact dj (aq (aq cg)) (by decide)
    ·refine cu ?_ ?_
     ·exact qw (m8 (nj hq) (j6 m5 (ak 0 (pv 0)) bw) bw (j7 _))   (dz (iw (fj (aj jc (aj (ak 6 (pv 6)) bh)) (dj (aq (aq cg)) (by decide)))))   m7
     ·exact dz (iw (fj (aj jc (aj (ak 6 (pv 6)) (aj (j6 kj bw (j6 m5 (j6 oh (ak 0 (pv 0)) bw) bw)) bh))) (dj (aq (aq (aq cg))) (by decide))))
abbrev Ec:Stmt:=top 30
theorem Kw:ji ll6 a8t (gq Ec):=⟨rfl,rfl,rfl,by decide +kernel,rfl,by decide +kernel,by decide +kernel⟩
theorem U3 (F:Fun K "_law_form" "_law_form" Ec f fd) (hmg:mg "_law_form" = some (.ref f)) {nn:Nat} (d_law_atom:gw P w K mg base "_law_atom" 1 acp (_root_.K.uf)) (d_law_form:gw P w K mg base "_law_form" (1+nn) a8t (_root_.K.jj nn)):gw P w K mg base "_law_form" (1+nn+1) a8t (_root_.K.jj (nn+1)):=by
 refine ⟨f,fd,?_,F.binds (ps:=a8t) fun _ _ _ _ _ _ us hl=>bd3 (fun _ _ _=>rfl) us hl,F.kp,hmg⟩
 have d_law_atom:=d_law_atom.mono (show 1≤(1+nn) by first | decide | omega)
 have d_law_form:=d_law_form.mono (show (1+nn)≤(1+nn) by first | decide | omega)
 refine jw (N:=ll6) F Kw (by decide)  fun cdv A outer s H E B hr=>?_
 have hu:=uw hr
 have hq:=hr.units
 have nd:ll6.Nodup:=Kw.nd
 refine cu ?_ ?_
 ·exact jy 3 (jg nd rfl (Or.inl rfl) (j6 m5 (ak 0 (pv 0)) bw)) (fun _ _ _ h=>h)
 ·refine cu ?_ ?_
  ·refine qw ?_ ?_ ?_
   ·exact PW.pt (Xo (m8 Mi (ak 3 (pv 3)) bw (j7 _)) (M9 (m8 (nj hq) (ak 2 (pv 2)) bw (j7 _))))
   ·exact dz (iw (dg d_law_atom hr (by rfl) (aj (j6 oh (ak 0 (pv 0)) bw) (aj (ak 1 (pv 1)) bh)) (bf (bf eq_nil))))
   ·exact m7
  ·refine cu ?_ ?_
   ·exact jy 4 (jg nd rfl (Or.inl rfl) (fu hu (qx (aj jc (aj jc bh)) (dj (aq (aq cg)) (by decide))) (j6 m5 (ak 3 (pv 3)) bw) (fun _ _=>rfl))) (fun _ _ _ h=>h)
   ·refine cu ?_ ?_
    ·refine qw ?_ ?_ ?_
     ·exact PW.pt (Ew (m8 (nj hq) (ak 3 (pv 3)) bw (j7 _)) (Dh (m8 (nj hq) (j6 m5 (j6 oh (ak 0 (pv 0)) bw) bw) bw (j7 _))))
     ·exact dz (iw (fj (aj (ak 4 (pv 4)) (aj (fj bh (dj cg (by decide))) bh)) (dj (aq (aq cg)) (by decide))))
     ·exact m7
    ·refine cu ?_ ?_
     ·refine @jy _ _ _ _ (tOf _ _ _) _ ?_ (fun _ _ _ h=>h)
      ·refine jg ?_ ?_ ?_ ?_
       ·exact nd
       ·exact rfl
       ·exact Or.inl rfl
       ·refine fj ?_ ?_
        ·refine aj ?_ ?_
         ·exact dg d_law_form hr (by rfl) (aj (j6 oh (ak 0 (pv 0)) bw) (aj (ak 1 (pv 1)) (aj (j6 Fd (ak 2 (pv 2)) bw) bh))) (bf (bf (bf eq_nil)))
         ·exact aj (dg d_law_form hr (by rfl) (aj (j6 oh (ak 0 (pv 0)) bw) (aj (ak 1 (pv 1)) (aj (j6 Fd (ak 2 (pv 2)) bw) bh))) (bf (bf (bf eq_nil)))) bh
        ·exact dj (aq (aq cg)) (by decide)
     ·refine cu ?_ ?_
      ·refine qw ?_ ?_ ?_
       ·exact m8 (nj hq) (ak 3 (pv 3)) bw (j7 _)
       ·refine dz ?_
        ·refine iw ?_
         ·refine fj ?_ ?_
          ·exact aj (ak 4 (pv 4)) (aj (j6 kj (ak 5 (pv 5)) (fj (aj (dg d_law_atom hr (by rfl) (aj (j6 oh (ak 0 (pv 0)) bw) (aj (ak 1 (pv 1)) bh)) (bf (bf eq_nil))) bh) (dj (aq cg) (by decide)))) bh)
          ·exact dj (aq (aq cg)) (by decide)
       ·exact m7
      ·exact dz (iw (fj (aj (ak 4 (pv 4)) (aj (ak 5 (pv 5)) bh)) (dj (aq (aq cg)) (by decide))))
theorem Iu {f_law_form:Addr} {fd_law_form:FuncData} (F_law_form:Fun K "_law_form" "_law_form" Ec f_law_form fd_law_form) (h_law_form:mg "_law_form" = some (.ref f_law_form)) (d_law_atom:gw P w K mg base "_law_atom" 1 acp _root_.K.uf):∀ nn:Nat,gw P w K mg base "_law_form" (1+nn) a8t (_root_.K.jj nn)
 | 0=>gw.zero F_law_form h_law_form (F_law_form.binds (ps:=a8t) fun _ _ _ _ _ _ us hl=>bd3 (fun _ _ _=>rfl) us hl)
 | nn+1=>by
  have ih:=Iu F_law_form h_law_form d_law_atom nn
  have d_law_form:=ih
  exact U3 F_law_form h_law_form d_law_atom d_law_form
abbrev Ef:Stmt:=top 31
theorem Km:ji afu a06 (gq Ef):=⟨rfl,rfl,rfl,by decide +kernel,rfl,by decide +kernel,by decide +kernel⟩
theorem Tw (F:Fun K "_law_true" "_law_true" Ef f fd) (hmg:mg "_law_true" = some (.ref f)) {nn:Nat} (d_law_true:gw P w K mg base "_law_true" (0+nn) a06 (_root_.K.j5 nn)) (b_all:mg "all" = none) (b_any:mg "any" = none) (b_int:mg "int" = none) (b_list:mg "list" = none) (b_sum:mg "sum" = none):gw P w K mg base "_law_true" (0+nn+1) a06 (_root_.K.j5 (nn+1)):=by
 refine ⟨f,fd,?_,F.binds (ps:=a06) fun _ _ _ _ _ _ us hl=>bd2 (fun _ _=>rfl) us hl,F.kp,hmg⟩
 have d_law_true:=d_law_true.mono (show (0+nn)≤(0+nn) by first | decide | omega)
 refine jw (N:=afu) F Km (by decide)  fun cdv A outer s H E B hr=>?_
 have hu:=uw hr
 have hq:=hr.units
 have nd:afu.Nodup:=Km.nd
 refine cu ?_ ?_
 ·refine qw ?_ ?_ ?_
  ·exact PW.pt (Xo (m8 (nj hq) (fu hu (ak 0 (pv 0)) bw (fun _ _=>rfl)) jc (j7 _)) (M9 (m8 (nj hq) (fu hu (ak 0 (pv 0)) bw (fun _ _=>rfl)) jc (j7 _))))
  ·refine cu ?_ ?_
   ·refine @jy _ _ _ _ (tOf _ _ _) _ ?_ (fun _ _ _ h=>h)
    ·refine jg ?_ ?_ ?_ ?_
     ·exact nd
     ·exact rfl
     ·exact Or.inl rfl
     ·refine j6 ?_ ?_ ?_
      ·exact kj
      ·exact fu hu (fu hu (ak 0 (pv 0)) bw (fun _ _=>rfl)) bw (fun _ _=>rfl)
      ·refine iu ?_
       ·refine jr (Y7 (by rfl)) ?_ ?_ PyProof.Rows.boot_sum ?_
        ·exact by rfl
        ·exact b_sum
        ·refine aj ?_ ?_
         ·refine v9 ?_
          ·refine Af (N:=aen) ?_ ?_ ?_ ?_ ?_ ?_ ?_ ?_
           ·exact ⟨rfl,fun j k h=>match j,h with | 0,h=>(by cases h; exact ⟨_,rfl,rfl,⟨.inl rfl,.inr (.inl rfl),.inl rfl⟩⟩) | _+1,h=>(by cases h)⟩
           ·exact ⟨rfl,rfl,by decide +kernel,by decide +kernel⟩
           ·exact rfl
           ·exact uc (fu hu (fu hu (ak 0 (pv 0)) bw (fun _ _=>rfl)) bw (fun _ _=>rfl))
           ·exact su
           ·intro C s₀ H₀ ex pn
            refine pgE ?_
            exact fun B=>(Ag (is:=[0,1]) (Aj rfl (j9 (gn (show aen.Nodup by decide +kernel) rfl (Or.inl rfl)) (j9 (gn (show aen.Nodup by decide +kernel) rfl (Or.inl rfl)) vq))))
           ·exact fun C s₀ H₀ ex pn=>vp
           ·exact fun C s₀ H₀ ex pn=>peE fun B=>(j6 Hj (ak 1 (pv 1)) (fu hu (ak 2 (pv 2)) (ak 0 (pv 0)) (fun _ _=>rfl)))
         ·exact bh
   ·refine dz ?_
    ·refine iw ?_
     ·refine fu ?_ ?_ ?_ ?_
      ·exact hu
      ·refine qx ?_ ?_
       ·refine aj ?_ ?_
        ·exact v8 Yi (ak 2 (pv 2)) bw (j7 _)
        ·refine aj ?_ ?_
         ·refine v8 (nj hq) ?_ ?_ ?_
          ·refine j6 ?_ ?_ ?_
           ·exact m5
           ·exact ak 2 (pv 2)
           ·exact fu hu (j6 kj (qx (aj bw bh) (dj (aq cg) (by decide))) (iu (mq M7 (by rfl) b_list PyProof.Rows.boot_list (aj (yw (ak 0 (pv 0)) (zu bw) Dr) bh)))) (Fv w6 bw) (fun _ _=>rfl)
          ·exact bw
          ·exact j7 _
         ·exact bh
       ·exact dj (aq (aq cg)) (by decide)
      ·exact iu (mq yx (by rfl) b_int PyProof.Rows.boot_int (aj (v8 (nj hq) (fu hu (ak 0 (pv 0)) bw (fun _ _=>rfl)) jc (j7 _)) bh))
      ·exact fun _ _=>rfl
  ·exact m7
 ·refine cu ?_ ?_
  ·exact jy 3 (Ng (N:=["_law_one","_law_book"]) ⟨rfl,rfl,by decide +kernel,by decide +kernel⟩ rfl (uc (fu hu (ak 0 (pv 0)) bw (fun _ _=>rfl))) (fun C s₀ H₀ ex pn=>pgE fun B=>(qm 0 (gn (show (["_law_one","_law_book"]:List Str).Nodup by decide +kernel) rfl (Or.inl rfl)))) (fun C s₀ H₀ ex pn=>vp) (fun C s₀ H₀ ex pn=>peE fun B=>(dg d_law_true hr (by rfl) (aj (ak 0 (pv 0)) (aj (ak 1 (pv 1)) bh)) (bf (bf eq_nil)))) (gn nd rfl (Or.inl rfl)) rfl) (fun σ H Q h=>Lz ⟨rfl,fun j k h=>match j,h with | 0,h=>(by cases h; exact ⟨_,rfl,rfl,⟨.inl rfl,.inr (.inl rfl),.inl rfl⟩⟩) | _+1,h=>(by cases h)⟩ su (Mg h))
  ·refine dz ?_
   ·refine iw ?_
    ·refine fu ?_ ?_ ?_ ?_
     ·exact hu
     ·refine qx ?_ ?_
      ·exact aj (iu (jr (Di (by rfl)) (by rfl) b_all PyProof.Rows.boot_all (aj (ak 3 (pv 3)) bh))) (aj (iu (jr (a1l (by rfl)) (by rfl) b_any PyProof.Rows.boot_any (aj (ak 3 (pv 3)) bh))) bh)
      ·exact dj (aq (aq cg)) (by decide)
     ·exact iu (mq yx (by rfl) b_int PyProof.Rows.boot_int (aj (v8 (nj hq) (fu hu (ak 0 (pv 0)) bw (fun _ _=>rfl)) jc (j7 _)) bh))
     ·exact fun _ _=>rfl
theorem Ih {f_law_true:Addr} {fd_law_true:FuncData} (F_law_true:Fun K "_law_true" "_law_true" Ef f_law_true fd_law_true) (h_law_true:mg "_law_true" = some (.ref f_law_true)) (b_all:mg "all" = none) (b_any:mg "any" = none) (b_int:mg "int" = none) (b_list:mg "list" = none) (b_sum:mg "sum" = none):∀ nn:Nat,gw P w K mg base "_law_true" (0+nn) a06 (_root_.K.j5 nn)
 | 0=>gw.zero F_law_true h_law_true (F_law_true.binds (ps:=a06) fun _ _ _ _ _ _ us hl=>bd2 (fun _ _=>rfl) us hl)
 | nn+1=>by
  have ih:=Ih F_law_true h_law_true b_all b_any b_int b_list b_sum nn
  have d_law_true:=ih
  exact Tw F_law_true h_law_true d_law_true b_all b_any b_int b_list b_sum
abbrev Gj:Stmt:=top 32
theorem Ml:ji af7 a4s (gq Gj):=⟨rfl,rfl,rfl,by decide +kernel,rfl,by decide +kernel,by decide +kernel⟩
theorem Xe (F:Fun K "_law_lay" "_law_lay" Gj f fd) (hmg:mg "_law_lay" = some (.ref f)) {nn:Nat} (d_law_lay:gw P w K mg base "_law_lay" (0+nn) a4s (_root_.K.m9 nn)):gw P w K mg base "_law_lay" (0+nn+1) a4s (_root_.K.m9 (nn+1)):=by
 refine ⟨f,fd,?_,F.binds (ps:=a4s) fun _ _ _ _ _ _ us hl=>bd3 (fun _ _ _=>rfl) us hl,F.kp,hmg⟩
 have d_law_lay:=d_law_lay.mono (show (0+nn)≤(0+nn) by first | decide | omega)
 refine jw (N:=af7) F Ml (by decide)  fun cdv A outer s H E B hr=>?_
 have hu:=uw hr
 have hq:=hr.units
 have nd:af7.Nodup:=Ml.nd
 refine cu ?_ ?_
 ·refine qw ?_ ?_ ?_
  ·exact m8 (nj hq) (fu hu (ak 0 (pv 0)) bw (fun _ _=>rfl)) jc (j7 _)
  ·exact dz (iw (fj (aj (ak 1 (pv 1)) (aj (j6 kj (ak 2 (pv 2)) (qx (aj (fu hu (ak 0 (pv 0)) bw (fun _ _=>rfl)) bh) (dj (aq cg) (by decide)))) bh)) (dj (aq (aq cg)) (by decide))))
  ·exact m7
 ·refine cu ?_ ?_
  ·refine qw ?_ ?_ ?_
   ·exact m8 (G3 hq) (fu hu (ak 0 (pv 0)) bw (fun _ _=>rfl)) jc (j7 _)
   ·exact dz (iw (fj (aj (j6 kj (ak 1 (pv 1)) (qx (aj (ak 0 (pv 0)) bh) (dj (aq cg) (by decide)))) (aj (ak 2 (pv 2)) bh)) (dj (aq (aq cg)) (by decide))))
   ·exact m7
  ·refine cu ?_ ?_
   ·refine xr ?_ ?_ ?_ ?_ ?_ ?_
    ·exact PassesOwn.never
    ·exact rfl
    ·exact uc (fu hu (ak 0 (pv 0)) bw (fun _ _=>rfl))
    ·exact qm 3 (gn nd rfl (Or.inl rfl))
    ·refine dz ?_
     ·refine a9i ?_
      ·exact Q0 (dg d_law_lay hr (by rfl) (aj (ak 3 (pv 3)) (aj (ak 1 (pv 1)) (aj (ak 2 (pv 2)) bh))) (bf (bf (bf eq_nil)))) (Ag (is:=[1,2]) (Aj rfl (j9 (gn nd rfl (Or.inl rfl)) (j9 (gn nd rfl (Or.inl rfl)) vq))))
    ·exact su
   ·exact dz (iw (fj (aj (ak 1 (pv 1)) (aj (ak 2 (pv 2)) bh)) (dj (aq (aq cg)) (by decide))))
theorem Jb {f_law_lay:Addr} {fd_law_lay:FuncData} (F_law_lay:Fun K "_law_lay" "_law_lay" Gj f_law_lay fd_law_lay) (h_law_lay:mg "_law_lay" = some (.ref f_law_lay)):∀ nn:Nat,gw P w K mg base "_law_lay" (0+nn) a4s (_root_.K.m9 nn)
 | 0=>gw.zero F_law_lay h_law_lay (F_law_lay.binds (ps:=a4s) fun _ _ _ _ _ _ us hl=>bd3 (fun _ _ _=>rfl) us hl)
 | nn+1=>by
  have ih:=Jb F_law_lay h_law_lay nn
  have d_law_lay:=ih
  exact Xe F_law_lay h_law_lay d_law_lay
abbrev Hy:Stmt:=top 33
theorem Jq:ji a5x a5x (gq Hy):=⟨rfl,rfl,rfl,by decide +kernel,rfl,by decide +kernel,by decide +kernel⟩
theorem Te (F:Fun K "_law_held" "_law_held" Hy f fd) (hmg:mg "_law_held" = some (.ref f)):gw P w K mg base "_law_held" 1 a5x _root_.K.u6:=by
 refine ⟨f,fd,?_,F.binds (ps:=a5x) fun _ _ _ _ _ _ us hl=>bd4 (fun _ _ _ _=>rfl) us hl,F.kp,hmg⟩
 refine jw (N:=a5x) F Jq (by decide)  fun cdv A outer s H E B hr=>?_
 have hu:=uw hr
 have hq:=hr.units
 have nd:a5x.Nodup:=Jq.nd
 refine dz ?_
 ·refine iw ?_
  ·refine a5v ?_ ?_ ?_
   ·exact hq
   ·exact ak 0 (pv 0)
   ·refine fj ?_ ?_
    ·refine aj ?_ ?_
     ·exact jc
     ·refine aj ?_ ?_
      ·refine fj ?_ ?_
       ·exact aj (j6 Hj (Fv w6 (ak 2 (pv 2))) (ak 3 (pv 3))) (aj (fj (aj (fj (aj (ak 1 (pv 1)) (aj (ak 2 (pv 2)) bh)) (dj (aq (aq cg)) (by decide))) bh) (dj (aq cg) (by decide))) bh)
       ·exact dj (aq (aq cg)) (by decide)
      ·exact bh
    ·exact dj (aq (aq cg)) (by decide)
abbrev Bg:Stmt:=top 34
theorem Gk:ji ll3 a5y (gq Bg):=⟨rfl,rfl,rfl,by decide +kernel,rfl,by decide +kernel,by decide +kernel⟩
theorem Ni (F:Fun K "_law_closed" "_law_closed" Bg f fd) (hmg:mg "_law_closed" = some (.ref f)) {nn:Nat} (d_law_closed:gw P w K mg base "_law_closed" (40+nn) a5y (_root_.K.jf nn)) (d_law_held:gw P w K mg base "_law_held" 1 a5x (_root_.K.u6)) (d_law_lay:gw P w K mg base "_law_lay" 40 a4s (_root_.K.m9 40)) (d_law_true:gw P w K mg base "_law_true" 40 a06 (_root_.K.j5 40)) (b_abs:mg "abs" = none) (b_int:mg "int" = none) (b_len:mg "len" = none) (b_range:mg "range" = none) (b_tuple:mg "tuple" = none):gw P w K mg base "_law_closed" (40+nn+1) a5y (_root_.K.jf (nn+1)):=by
 refine ⟨f,fd,?_,F.binds (ps:=a5y) fun _ _ _ _ _ _ us hl=>bd3 (fun _ _ _=>rfl) us hl,F.kp,hmg⟩
 have d_law_closed:=d_law_closed.mono (show (40+nn)≤(40+nn) by first | decide | omega)
 have d_law_held:=d_law_held.mono (show 1≤(40+nn) by first | decide | omega)
 have d_law_lay:=d_law_lay.mono (show 40≤(40+nn) by first | decide | omega)
 have d_law_true:=d_law_true.mono (show 40≤(40+nn) by first | decide | omega)
 refine jw (N:=ll3) F Gk (by decide)  fun cdv A outer s H E B hr=>?_
 have hu:=uw hr
 have hq:=hr.units
 have nd:ll3.Nodup:=Gk.nd
 refine cu ?_ ?_
 ·refine xr ?_ ?_ ?_ ?_ ?_ ?_
  ·exact PassesOwn.never
  ·exact rfl
  ·exact Gm (by rfl) b_range (iu (jr qb (by rfl) b_len PySem.boot_len (aj (ak 0 (pv 0)) bh)))
  ·exact qm 3 (gn nd rfl (Or.inl rfl))
  ·refine dz ?_
   ·refine qw ?_ ?_ ?_
    ·exact Ak (u9 (dg d_law_true hr (by rfl) (aj (fu hu (ak 0 (pv 0)) (ak 3 (pv 3)) (fun _ _=>rfl)) (aj (ak 2 (pv 2)) bh)) (bf (bf eq_nil))))
    ·refine cu ?_ ?_
     ·exact Av 4 (jg nd rfl (Or.inl rfl) (Gx (aj (fj (aj (ak 3 (pv 3)) (aj bw bh)) (dj (aq (aq cg)) (by decide))) bh) (dj (aq cg) (by decide)))) (fun _ _ _ h=>h)
     ·refine cu ?_ ?_
      ·refine xr ?_ ?_ ?_ ?_ ?_ ?_
       ·exact PassesOwn.never
       ·exact rfl
       ·exact uc (fu hu (fu hu (fu hu (ak 0 (pv 0)) (ak 3 (pv 3)) (fun _ _=>rfl)) bw (fun _ _=>rfl)) bw (fun _ _=>rfl))
       ·exact Ag (is:=[5,6]) (Aj rfl (j9 (gn nd rfl (Or.inl rfl)) (j9 (gn nd rfl (Or.inl rfl)) vq)))
       ·refine cu ?_ ?_
        ·refine @jy _ _ _ _ (tOf _ _ _) _ ?_ (fun _ _ _ h=>h)
         ·exact jg nd rfl (Or.inl rfl) (dg d_law_held hr (by rfl) (aj (ak 0 (pv 0)) (aj (ak 5 (pv 5)) (aj (Fv w6 bw) (aj (fu hu (ak 2 (pv 2)) (ak 5 (pv 5)) (fun _ _=>rfl)) bh)))) (bf (bf (bf (bf eq_nil)))))
        ·refine cu ?_ ?_
         ·exact jy 8 (jg nd rfl (Or.inl rfl) (dg d_law_held hr (by rfl) (aj (ak 0 (pv 0)) (aj (ak 5 (pv 5)) (aj bw (aj (fu hu (ak 2 (pv 2)) (ak 5 (pv 5)) (fun _ _=>rfl)) bh)))) (bf (bf (bf (bf eq_nil)))))) (fun _ _ _ h=>h)
         ·refine dz ?_
          ·refine qw ?_ ?_ ?_
           ·exact m8 (nj hq) (fu hu (fu hu (ak 0 (pv 0)) (ak 3 (pv 3)) (fun _ _=>rfl)) bw (fun _ _=>rfl)) jc (j7 _)
           ·refine dz ?_
            ·refine uy _ ?_
             ·refine xq ?_
              ·exact Ft PySem.F.plainAttrs_list PySem.F.slot_list_append PySem.F.type_list_append uo (pv 4) (nu (fj (aj (ak 8 (pv 8)) (aj (ak 7 (pv 7)) (aj (Fv w6 (ak 6 (pv 6))) bh))) (dj (aq (aq (aq cg))) (by decide))) ux)
           ·refine dz ?_
            ·refine uy _ ?_
             ·refine xq ?_
              ·refine Ft PySem.F.plainAttrs_list PySem.F.slot_list_append PySem.F.type_list_append uo ?_ ?_
               ·exact pv 4
               ·refine nu ?_ ?_
                ·refine fj ?_ ?_
                 ·refine aj ?_ ?_
                  ·exact fu hu (qx (aj (ak 7 (pv 7)) (aj (ak 8 (pv 8)) bh)) (dj (aq (aq cg)) (by decide))) (iu (mq yx (by rfl) b_int PyProof.Rows.boot_int (aj (v8 Mi (ak 6 (pv 6)) bw (j7 _)) bh))) (fun _ _=>rfl)
                  ·exact aj (iu (jr Yk (by rfl) b_abs PyProof.Rows.boot_abs (aj (ak 6 (pv 6)) bh))) bh
                 ·exact dj (aq (aq cg)) (by decide)
                ·exact ux
       ·exact su
      ·refine cu ?_ ?_
       ·refine qw ?_ ?_ ?_
        ·exact m8 (nj hq) (fu hu (fu hu (ak 0 (pv 0)) (ak 3 (pv 3)) (fun _ _=>rfl)) bw (fun _ _=>rfl)) jc (j7 _)
        ·refine dz ?_
         ·refine iw ?_
          ·refine fj ?_ ?_
           ·exact aj jc (aj (fu hu (fu hu (ak 0 (pv 0)) (ak 3 (pv 3)) (fun _ _=>rfl)) bw (fun _ _=>rfl)) (aj (iu (mq v7 (by rfl) b_tuple PyProof.Rows.boot_tuple (aj (ak 4 (pv 4)) bh))) bh))
           ·exact dj (aq (aq (aq cg))) (by decide)
        ·exact m7
       ·exact dz (iw (fj (aj jc (aj (iu (mq v7 (by rfl) b_tuple PyProof.Rows.boot_tuple (aj (ak 4 (pv 4)) bh))) bh)) (dj (aq (aq cg)) (by decide))))
    ·exact m7
  ·exact Fz
 ·refine cu ?_ ?_
  ·refine xr ?_ ?_ ?_ ?_ ?_ ?_
   ·exact PassesOwn.never
   ·exact rfl
   ·exact Yh (by rfl) b_range (j6 Fd (iu (jr qb (by rfl) b_len PySem.boot_len (aj (ak 1 (pv 1)) bh))) bw) (Fv w6 bw) (Fv w6 bw)
   ·exact qm 3 (gn nd rfl (Or.inl rfl))
   ·refine dz ?_
    ·refine qw ?_ ?_ ?_
     ·exact Ak (u9 (dg d_law_true hr (by rfl) (aj (fj (aj jc (aj (fu hu (ak 1 (pv 1)) (ak 3 (pv 3)) (fun _ _=>rfl)) bh)) (dj (aq (aq cg)) (by decide))) (aj (ak 2 (pv 2)) bh)) (bf (bf eq_nil))))
     ·refine cu ?_ ?_
      ·exact Av 9 (jg nd rfl (Or.inl rfl) (Gx bh (dj cg (by decide)))) (fun _ _ _ h=>h)
      ·refine cu ?_ ?_
       ·refine xr ?_ ?_ ?_ ?_ ?_ ?_
        ·exact PassesOwn.never
        ·exact rfl
        ·exact uc (fu hu (ak 1 (pv 1)) (ak 3 (pv 3)) (fun _ _=>rfl))
        ·exact qm 10 (gn nd rfl (Or.inl rfl))
        ·refine cu ?_ ?_
         ·exact jy 11 (jg nd rfl (Or.inl rfl) (dg d_law_lay hr (by rfl) (aj (ak 10 (pv 10)) (aj (ak 0 (pv 0)) (aj (ak 1 (pv 1)) bh))) (bf (bf (bf eq_nil))))) (fun _ _ _ h=>h)
         ·refine dz ?_
          ·refine uy _ ?_
           ·refine xq ?_
            ·refine Ft PySem.F.plainAttrs_list PySem.F.slot_list_append PySem.F.type_list_append uo ?_ ?_
             ·exact pv 9
             ·exact nu (dg d_law_closed hr (by rfl) (aj (fu hu (ak 11 (pv 11)) bw (fun _ _=>rfl)) (aj (fu hu (ak 11 (pv 11)) bw (fun _ _=>rfl)) (aj (ak 2 (pv 2)) bh))) (bf (bf (bf eq_nil)))) ux
        ·exact su
       ·exact dz (iw (fj (aj jc (aj (ak 3 (pv 3)) (aj (iu (mq v7 (by rfl) b_tuple PyProof.Rows.boot_tuple (aj (ak 9 (pv 9)) bh))) bh))) (dj (aq (aq (aq cg))) (by decide))))
     ·exact m7
   ·exact a0a
  ·exact dz (iw Er)
theorem En {f_law_closed:Addr} {fd_law_closed:FuncData} (F_law_closed:Fun K "_law_closed" "_law_closed" Bg f_law_closed fd_law_closed) (h_law_closed:mg "_law_closed" = some (.ref f_law_closed)) (d_law_held:gw P w K mg base "_law_held" 1 a5x _root_.K.u6) (d_law_lay:gw P w K mg base "_law_lay" 40 a4s (_root_.K.m9 40)) (d_law_true:gw P w K mg base "_law_true" 40 a06 (_root_.K.j5 40)) (b_abs:mg "abs" = none) (b_int:mg "int" = none) (b_len:mg "len" = none) (b_range:mg "range" = none) (b_tuple:mg "tuple" = none):∀ nn:Nat,gw P w K mg base "_law_closed" (40+nn) a5y (_root_.K.jf nn)
 | 0=>gw.zero F_law_closed h_law_closed (F_law_closed.binds (ps:=a5y) fun _ _ _ _ _ _ us hl=>bd3 (fun _ _ _=>rfl) us hl)
 | nn+1=>by
  have ih:=En F_law_closed h_law_closed d_law_held d_law_lay d_law_true b_abs b_int b_len b_range b_tuple nn
  have d_law_closed:=ih
  exact Ni F_law_closed h_law_closed d_law_closed d_law_held d_law_lay d_law_true b_abs b_int b_len b_range b_tuple
abbrev Cr:Stmt:=top 35
theorem Ib:ji ll2 a9d (gq Cr):=⟨rfl,rfl,rfl,by decide +kernel,rfl,by decide +kernel,by decide +kernel⟩
theorem Rg (F:Fun K "_law_paper" "_law_paper" Cr f fd) (hmg:mg "_law_paper" = some (.ref f)) {nn:Nat} (d_law_closed:gw P w K mg base "_law_closed" 80 a5y (_root_.K.jf 40)) (d_law_paper:gw P w K mg base "_law_paper" (80+nn) a9d (_root_.K.kh nn)) (b_int:mg "int" = none) (b_len:mg "len" = none) (b_range:mg "range" = none):gw P w K mg base "_law_paper" (80+nn+1) a9d (_root_.K.kh (nn+1)):=by
 refine ⟨f,fd,?_,F.binds (ps:=a9d) fun _ _ _ _ _ _ us hl=>bd4 (fun _ _ _ _=>rfl) us hl,F.kp,hmg⟩
 have d_law_closed:=d_law_closed.mono (show 80≤(80+nn) by first | decide | omega)
 have d_law_paper:=d_law_paper.mono (show (80+nn)≤(80+nn) by first | decide | omega)
 refine jw (N:=ll2) F Ib (by decide)  fun cdv A outer s H E B hr=>?_
 have hu:=uw hr
 have hq:=hr.units
 have nd:ll2.Nodup:=Ib.nd
 refine cu ?_ ?_
 ·refine xr ?_ ?_ ?_ ?_ ?_ ?_
  ·exact PassesOwn.never
  ·exact rfl
  ·exact Gm (by rfl) b_range (iu (jr qb (by rfl) b_len PySem.boot_len (aj (ak 0 (pv 0)) bh)))
  ·exact qm 4 (gn nd rfl (Or.inl rfl))
  ·refine cu ?_ ?_
   ·exact a9i (Q0 (fu hu (ak 0 (pv 0)) (ak 4 (pv 4)) (fun _ _=>rfl)) (Ag (is:=[5,6,7]) (Aj rfl (j9 (gn nd rfl (Or.inl rfl)) (j9 (gn nd rfl (Or.inl rfl)) (j9 (gn nd rfl (Or.inl rfl)) vq))))))
   ·refine dz ?_
    ·refine qw ?_ ?_ ?_
     ·exact m8 Mi (ak 6 (pv 6)) (ak 7 (pv 7)) (j7 _)
     ·refine cu ?_ ?_
      ·refine @jy _ _ _ _ (tOf _ _ _) _ ?_ (fun _ _ _ h=>h)
       ·refine jg ?_ ?_ ?_ ?_
        ·exact nd
        ·exact rfl
        ·exact Or.inl rfl
        ·refine j6 ?_ ?_ ?_
         ·exact kj
         ·exact ak 1 (pv 1)
         ·refine qx ?_ ?_
          ·refine aj ?_ ?_
           ·refine fj ?_ ?_
            ·refine aj ?_ ?_
             ·exact jc
             ·refine aj ?_ ?_
              ·exact fj (aj (Fv w6 (ak 6 (pv 6))) (aj (fj (aj (fj (aj (ak 5 (pv 5)) (aj bw bh)) (dj (aq (aq cg)) (by decide))) bh) (dj (aq cg) (by decide))) bh)) (dj (aq (aq cg)) (by decide))
              ·exact bh
            ·exact dj (aq (aq cg)) (by decide)
           ·exact bh
          ·exact dj (aq cg) (by decide)
      ·refine cu ?_ ?_
       ·refine @jy _ _ _ _ (tOf _ _ _) _ ?_ (fun _ _ _ h=>h)
        ·refine jg ?_ ?_ ?_ ?_
         ·exact nd
         ·exact rfl
         ·exact Or.inl rfl
         ·refine dg d_law_paper ?_ ?_ ?_ ?_
          ·exact hr
          ·exact by rfl
          ·refine aj ?_ ?_
           ·refine j6 ?_ ?_ ?_
            ·exact kj
            ·refine j6 ?_ ?_ ?_
             ·exact kj
             ·exact yw (ak 0 (pv 0)) Dr (zu (ak 4 (pv 4)))
             ·exact qx (aj (fj (aj (ak 5 (pv 5)) (aj (ak 6 (pv 6)) (aj (ak 6 (pv 6)) bh))) (dj (aq (aq (aq cg))) (by decide))) bh) (dj (aq cg) (by decide))
            ·exact yw (ak 0 (pv 0)) (zu (j6 kj (ak 4 (pv 4)) bw)) Dr
           ·exact aj (ak 8 (pv 8)) (aj (ak 2 (pv 2)) (aj (ak 3 (pv 3)) bh))
          ·exact bf (bf (bf (bf eq_nil)))
       ·refine cu ?_ ?_
        ·refine @jy _ _ _ _ (tOf _ _ _) _ ?_ (fun _ _ _ h=>h)
         ·refine jg ?_ ?_ ?_ ?_
          ·exact nd
          ·exact rfl
          ·exact Or.inl rfl
          ·refine j6 ?_ ?_ ?_
           ·exact kj
           ·exact ak 1 (pv 1)
           ·refine qx ?_ ?_
            ·refine aj ?_ ?_
             ·refine fj ?_ ?_
              ·refine aj ?_ ?_
               ·exact jc
               ·refine aj ?_ ?_
                ·refine fj ?_ ?_
                 ·exact aj (j6 kj (ak 6 (pv 6)) bw) (aj (fj (aj (fj (aj (ak 5 (pv 5)) (aj (Fv w6 bw) bh)) (dj (aq (aq cg)) (by decide))) bh) (dj (aq cg) (by decide))) bh)
                 ·exact dj (aq (aq cg)) (by decide)
                ·exact bh
              ·exact dj (aq (aq cg)) (by decide)
             ·exact bh
            ·exact dj (aq cg) (by decide)
        ·refine cu ?_ ?_
         ·refine @jy _ _ _ _ (tOf _ _ _) _ ?_ (fun _ _ _ h=>h)
          ·refine jg ?_ ?_ ?_ ?_
           ·exact nd
           ·exact rfl
           ·exact Or.inl rfl
           ·refine dg d_law_paper ?_ ?_ ?_ ?_
            ·exact hr
            ·exact by rfl
            ·refine aj ?_ ?_
             ·refine j6 ?_ ?_ ?_
              ·exact kj
              ·refine j6 ?_ ?_ ?_
               ·exact kj
               ·exact yw (ak 0 (pv 0)) Dr (zu (ak 4 (pv 4)))
               ·exact qx (aj (fj (aj (ak 5 (pv 5)) (aj (j6 kj (ak 6 (pv 6)) bw) (aj (ak 7 (pv 7)) bh))) (dj (aq (aq (aq cg))) (by decide))) bh) (dj (aq cg) (by decide))
              ·exact yw (ak 0 (pv 0)) (zu (j6 kj (ak 4 (pv 4)) bw)) Dr
             ·exact aj (ak 8 (pv 8)) (aj (ak 2 (pv 2)) (aj (ak 3 (pv 3)) bh))
            ·exact bf (bf (bf (bf eq_nil)))
         ·exact dz (iw (fj (aj jc (aj (ak 5 (pv 5)) (aj (ak 6 (pv 6)) (aj (ak 9 (pv 9)) (aj (ak 10 (pv 10)) bh))))) (dj (aq (aq (aq (aq (aq cg))))) (by decide))))
     ·exact m7
  ·exact Fz
 ·refine cu ?_ ?_
  ·exact Av 11 (jg nd rfl (Or.inl rfl) Sd) (fun _ _ _ h=>h)
  ·refine cu ?_ ?_
   ·refine xr ?_ ?_ ?_ ?_ ?_ ?_
    ·exact PassesOwn.never
    ·exact rfl
    ·exact uc (ak 0 (pv 0))
    ·exact Ag (is:=[5,6,7]) (Aj rfl (j9 (gn nd rfl (Or.inl rfl)) (j9 (gn nd rfl (Or.inl rfl)) (j9 (gn nd rfl (Or.inl rfl)) vq))))
    ·exact dz (Kl 11 hu (pv 11) (ak 5 (pv 5)) (ak 6 (pv 6)) rfl)
    ·exact su
   ·refine cu ?_ ?_
    ·exact jy 12 (jg nd rfl (Or.inl rfl) (dg d_law_closed hr (by rfl) (aj (ak 1 (pv 1)) (aj (ak 2 (pv 2)) (aj (ak 11 (pv 11)) bh))) (bf (bf (bf eq_nil))))) (fun _ _ _ h=>h)
    ·refine dz ?_
     ·exact iw (fu hu (qx (aj (ak 12 (pv 12)) (aj (ak 3 (pv 3)) bh)) (dj (aq (aq cg)) (by decide))) (iu (mq yx (by rfl) b_int PyProof.Rows.boot_int (aj (v8 Zj (ak 12 (pv 12)) Er (j7 _)) bh))) (fun _ _=>rfl))
theorem Gi {f_law_paper:Addr} {fd_law_paper:FuncData} (F_law_paper:Fun K "_law_paper" "_law_paper" Cr f_law_paper fd_law_paper) (h_law_paper:mg "_law_paper" = some (.ref f_law_paper)) (d_law_closed:gw P w K mg base "_law_closed" 80 a5y (_root_.K.jf 40)) (b_int:mg "int" = none) (b_len:mg "len" = none) (b_range:mg "range" = none):∀ nn:Nat,gw P w K mg base "_law_paper" (80+nn) a9d (_root_.K.kh nn)
 | 0=>gw.zero F_law_paper h_law_paper (F_law_paper.binds (ps:=a9d) fun _ _ _ _ _ _ us hl=>bd4 (fun _ _ _ _=>rfl) us hl)
 | nn+1=>by
  have ih:=Gi F_law_paper h_law_paper d_law_closed b_int b_len b_range nn
  have d_law_paper:=ih
  exact Rg F_law_paper h_law_paper d_law_closed d_law_paper b_int b_len b_range
abbrev Ea:Stmt:=top 36
theorem K5:ji Qa Qa (gq Ea):=⟨rfl,rfl,rfl,by decide +kernel,rfl,by decide +kernel,by decide +kernel⟩
theorem Ui (F:Fun K "_law_bent" "_law_bent" Ea f fd) (hmg:mg "_law_bent" = some (.ref f)) {nn:Nat} (d_law_bent:gw P w K mg base "_law_bent" (0+nn) Qa (_root_.K.jh nn)):gw P w K mg base "_law_bent" (0+nn+1) Qa (_root_.K.jh (nn+1)):=by
 refine ⟨f,fd,?_,F.binds (ps:=Qa) fun _ _ _ _ _ _ us hl=>bd2 (fun _ _=>rfl) us hl,F.kp,hmg⟩
 have d_law_bent:=d_law_bent.mono (show (0+nn)≤(0+nn) by first | decide | omega)
 refine jw (N:=Qa) F K5 (by decide)  fun cdv A outer s H E B hr=>?_
 have hu:=uw hr
 have hq:=hr.units
 have nd:Qa.Nodup:=K5.nd
 refine cu ?_ ?_
 ·refine qw ?_ ?_ ?_
  ·exact PW.pt (Xo (m8 (G3 hq) (fu hu (ak 0 (pv 0)) bw (fun _ _=>rfl)) jc (j7 _)) (M9 (m8 (nj hq) (j6 m5 (ak 1 (pv 1)) bw) bw (j7 _))))
  ·refine dz ?_
   ·refine iw ?_
    ·refine fu ?_ ?_ ?_ ?_
     ·exact hu
     ·refine qx ?_ ?_
      ·refine aj ?_ ?_
       ·exact fj (aj jc (aj (fj bh (dj cg (by decide))) bh)) (dj (aq (aq cg)) (by decide))
       ·refine aj ?_ ?_
        ·exact fj (aj jc (aj bw (aj (fj bh (dj cg (by decide))) bh))) (dj (aq (aq (aq cg))) (by decide))
        ·refine aj ?_ ?_
         ·refine fj ?_ ?_
          ·refine aj ?_ ?_
           ·exact jc
           ·refine aj ?_ ?_
            ·exact fj (aj (fj (aj bw (aj bw bh)) (dj (aq (aq cg)) (by decide))) (aj (fj (aj bw (aj bw bh)) (dj (aq (aq cg)) (by decide))) bh)) (dj (aq (aq cg)) (by decide))
            ·exact bh
          ·exact dj (aq (aq cg)) (by decide)
         ·refine aj ?_ ?_
          ·exact fj (aj jc (aj bw (aj (fj (aj (fj (aj bw (aj bw bh)) (dj (aq (aq cg)) (by decide))) bh) (dj (aq cg) (by decide))) bh))) (dj (aq (aq (aq cg))) (by decide))
          ·exact bh
      ·exact dj (aq (aq (aq (aq cg)))) (by decide)
     ·exact j6 m5 (j6 oh (ak 1 (pv 1)) bw) bw
     ·exact fun _ _=>rfl
  ·exact m7
 ·refine cu ?_ ?_
  ·refine qw ?_ ?_ ?_
   ·exact m8 (nj hq) (j6 m5 (ak 1 (pv 1)) bw) bw (j7 _)
   ·refine dz ?_
    ·refine iw ?_
     ·refine fj ?_ ?_
      ·refine aj ?_ ?_
       ·exact jc
       ·refine aj ?_ ?_
        ·exact fu hu (ak 0 (pv 0)) bw (fun _ _=>rfl)
        ·refine aj ?_ ?_
         ·exact j6 kj (fu hu (ak 0 (pv 0)) bw (fun _ _=>rfl)) (fu hu (qx (aj bw (aj (Fv w6 bw) bh)) (dj (aq (aq cg)) (by decide))) (j6 m5 (j6 oh (ak 1 (pv 1)) bw) bw) (fun _ _=>rfl))
         ·exact aj (fu hu (ak 0 (pv 0)) bw (fun _ _=>rfl)) (aj (fu hu (ak 0 (pv 0)) bw (fun _ _=>rfl)) bh)
      ·exact dj (aq (aq (aq (aq (aq cg))))) (by decide)
   ·exact m7
  ·refine cu ?_ ?_
   ·refine qw ?_ ?_ ?_
    ·exact m8 (nj hq) (j6 m5 (ak 1 (pv 1)) bw) bw (j7 _)
    ·refine dz ?_
     ·refine iw ?_
      ·refine fj ?_ ?_
       ·exact aj jc (aj (fu hu (ak 0 (pv 0)) bw (fun _ _=>rfl)) (aj (fu hu (ak 0 (pv 0)) bw (fun _ _=>rfl)) (aj (fu hu (ak 0 (pv 0)) bw (fun _ _=>rfl)) (aj (fu hu (ak 0 (pv 0)) bw (fun _ _=>rfl)) bh))))
       ·exact dj (aq (aq (aq (aq (aq cg))))) (by decide)
    ·exact m7
   ·refine cu ?_ ?_
    ·exact qw (m8 (nj hq) (j6 m5 (ak 1 (pv 1)) bw) bw (j7 _))   (dz (iw (fu hu (ak 0 (pv 0)) bw (fun _ _=>rfl))))   m7
    ·refine cu ?_ ?_
     ·refine qw ?_ ?_ ?_
      ·exact m8 (nj hq) (j6 m5 (ak 1 (pv 1)) bw) bw (j7 _)
      ·refine dz ?_
       ·refine iw ?_
        ·refine fj ?_ ?_
         ·refine aj ?_ ?_
          ·exact jc
          ·refine aj ?_ ?_
           ·exact fu hu (ak 0 (pv 0)) bw (fun _ _=>rfl)
           ·refine aj ?_ ?_
            ·exact fu hu (ak 0 (pv 0)) bw (fun _ _=>rfl)
            ·exact aj (dg d_law_bent hr (by rfl) (aj (fu hu (ak 0 (pv 0)) bw (fun _ _=>rfl)) (aj (j6 oh (ak 1 (pv 1)) bw) bh)) (bf (bf eq_nil))) (aj (fu hu (ak 0 (pv 0)) bw (fun _ _=>rfl)) bh)
         ·exact dj (aq (aq (aq (aq (aq cg))))) (by decide)
      ·exact m7
     ·refine dz ?_
      ·refine iw ?_
       ·refine fj ?_ ?_
        ·refine aj ?_ ?_
         ·exact jc
         ·refine aj ?_ ?_
          ·exact fu hu (ak 0 (pv 0)) bw (fun _ _=>rfl)
          ·refine aj ?_ ?_
           ·exact fu hu (ak 0 (pv 0)) bw (fun _ _=>rfl)
           ·exact aj (fu hu (ak 0 (pv 0)) bw (fun _ _=>rfl)) (aj (dg d_law_bent hr (by rfl) (aj (fu hu (ak 0 (pv 0)) bw (fun _ _=>rfl)) (aj (j6 oh (ak 1 (pv 1)) bw) bh)) (bf (bf eq_nil))) bh)
        ·exact dj (aq (aq (aq (aq (aq cg))))) (by decide)
theorem Ig {f_law_bent:Addr} {fd_law_bent:FuncData} (F_law_bent:Fun K "_law_bent" "_law_bent" Ea f_law_bent fd_law_bent) (h_law_bent:mg "_law_bent" = some (.ref f_law_bent)):∀ nn:Nat,gw P w K mg base "_law_bent" (0+nn) Qa (_root_.K.jh nn)
 | 0=>gw.zero F_law_bent h_law_bent (F_law_bent.binds (ps:=Qa) fun _ _ _ _ _ _ us hl=>bd2 (fun _ _=>rfl) us hl)
 | nn+1=>by
  have ih:=Ig F_law_bent h_law_bent nn
  have d_law_bent:=ih
  exact Ui F_law_bent h_law_bent d_law_bent
abbrev Ce:Stmt:=top 37
theorem Ij:ji afz Qa (gq Ce):=⟨rfl,rfl,rfl,by decide +kernel,rfl,by decide +kernel,by decide +kernel⟩
theorem Oo (F:Fun K "_law_holed" "_law_holed" Ce f fd) (hmg:mg "_law_holed" = some (.ref f)) {nn:Nat} (d_law_holed:gw P w K mg base "_law_holed" (0+nn) Qa (_root_.K.jk nn)) (b_len:mg "len" = none):gw P w K mg base "_law_holed" (0+nn+1) Qa (_root_.K.jk (nn+1)):=by
 refine ⟨f,fd,?_,F.binds (ps:=Qa) fun _ _ _ _ _ _ us hl=>bd2 (fun _ _=>rfl) us hl,F.kp,hmg⟩
 have d_law_holed:=d_law_holed.mono (show (0+nn)≤(0+nn) by first | decide | omega)
 refine jw (N:=afz) F Ij (by decide)  fun cdv A outer s H E B hr=>?_
 have hu:=uw hr
 have hq:=hr.units
 have nd:afz.Nodup:=Ij.nd
 refine cu ?_ ?_
 ·refine qw ?_ ?_ ?_
  ·exact PW.pt (Ew (m8 (nj hq) (fu hu (ak 0 (pv 0)) bw (fun _ _=>rfl)) jc (j7 _)) (Dh (m8 (nj hq) (j6 m5 (ak 1 (pv 1)) bw) bw (j7 _))))
  ·refine dz ?_
   ·refine iw ?_
    ·refine fj ?_ ?_
     ·refine aj ?_ ?_
      ·exact jc
      ·refine aj ?_ ?_
       ·exact fu hu (ak 0 (pv 0)) bw (fun _ _=>rfl)
       ·refine aj ?_ ?_
        ·exact fu hu (ak 0 (pv 0)) bw (fun _ _=>rfl)
        ·exact aj (dg d_law_holed hr (by rfl) (aj (fu hu (ak 0 (pv 0)) bw (fun _ _=>rfl)) (aj (j6 oh (ak 1 (pv 1)) bw) bh)) (bf (bf eq_nil))) (aj (fu hu (ak 0 (pv 0)) bw (fun _ _=>rfl)) bh)
     ·exact dj (aq (aq (aq (aq (aq cg))))) (by decide)
  ·exact m7
 ·refine cu ?_ ?_
  ·refine qw ?_ ?_ ?_
   ·exact m8 (nj hq) (fu hu (ak 0 (pv 0)) bw (fun _ _=>rfl)) jc (j7 _)
   ·refine dz ?_
    ·refine iw ?_
     ·refine fj ?_ ?_
      ·refine aj ?_ ?_
       ·exact jc
       ·refine aj ?_ ?_
        ·exact fu hu (ak 0 (pv 0)) bw (fun _ _=>rfl)
        ·refine aj ?_ ?_
         ·exact fu hu (ak 0 (pv 0)) bw (fun _ _=>rfl)
         ·exact aj (fu hu (ak 0 (pv 0)) bw (fun _ _=>rfl)) (aj (dg d_law_holed hr (by rfl) (aj (fu hu (ak 0 (pv 0)) bw (fun _ _=>rfl)) (aj (j6 oh (ak 1 (pv 1)) bw) bh)) (bf (bf eq_nil))) bh)
      ·exact dj (aq (aq (aq (aq (aq cg))))) (by decide)
   ·exact m7
  ·refine cu ?_ ?_
   ·refine qw ?_ ?_ ?_
    ·refine PW.pt ?_
     ·refine Ew ?_ ?_
      ·exact m8 (nj hq) (fu hu (ak 0 (pv 0)) bw (fun _ _=>rfl)) jc (j7 _)
      ·exact Ew (m8 Mv (iu (jr qb (by rfl) b_len PySem.boot_len (aj (fu hu (ak 0 (pv 0)) bw (fun _ _=>rfl)) bh))) bw (j7 _)) (Dh (m8 Mv (j6 m5 (ak 1 (pv 1)) bw) bw (j7 _)))
    ·refine cu ?_ ?_
     ·exact jy 2 (jg nd rfl (Or.inl rfl) (j6 m5 (j6 oh (ak 1 (pv 1)) bw) (iu (jr qb (by rfl) b_len PySem.boot_len (aj (fu hu (ak 0 (pv 0)) bw (fun _ _=>rfl)) bh))))) (fun _ _ _ h=>h)
     ·refine dz ?_
      ·refine iw ?_
       ·refine fj ?_ ?_
        ·refine aj ?_ ?_
         ·exact jc
         ·refine aj ?_ ?_
          ·exact fu hu (ak 0 (pv 0)) bw (fun _ _=>rfl)
          ·refine aj ?_ ?_
           ·refine j6 ?_ ?_ ?_
            ·exact kj
            ·refine j6 ?_ ?_ ?_
             ·exact kj
             ·exact yw (fu hu (ak 0 (pv 0)) bw (fun _ _=>rfl)) Dr (zu (ak 2 (pv 2)))
             ·exact fj (aj (dg d_law_holed hr (by rfl) (aj (fu hu (fu hu (ak 0 (pv 0)) bw (fun _ _=>rfl)) (ak 2 (pv 2)) (fun _ _=>rfl)) (aj (j6 oh (ak 1 (pv 1)) bw) bh)) (bf (bf eq_nil))) bh) (dj (aq cg) (by decide))
            ·exact yw (fu hu (ak 0 (pv 0)) bw (fun _ _=>rfl)) (zu (j6 kj (ak 2 (pv 2)) bw)) Dr
           ·exact bh
        ·exact dj (aq (aq (aq cg))) (by decide)
    ·exact m7
   ·exact dz (iw (fj (aj jc (aj (fj bh (dj cg (by decide))) bh)) (dj (aq (aq cg)) (by decide))))
theorem Fy {f_law_holed:Addr} {fd_law_holed:FuncData} (F_law_holed:Fun K "_law_holed" "_law_holed" Ce f_law_holed fd_law_holed) (h_law_holed:mg "_law_holed" = some (.ref f_law_holed)) (b_len:mg "len" = none):∀ nn:Nat,gw P w K mg base "_law_holed" (0+nn) Qa (_root_.K.jk nn)
 | 0=>gw.zero F_law_holed h_law_holed (F_law_holed.binds (ps:=Qa) fun _ _ _ _ _ _ us hl=>bd2 (fun _ _=>rfl) us hl)
 | nn+1=>by
  have ih:=Fy F_law_holed h_law_holed b_len nn
  have d_law_holed:=ih
  exact Oo F_law_holed h_law_holed d_law_holed b_len
abbrev Fw:Stmt:=top 38
theorem Im:ji ll4 adw (gq Fw):=⟨rfl,rfl,rfl,by decide +kernel,rfl,by decide +kernel,by decide +kernel⟩
theorem Ot (F:Fun K "_law_books" "_law_books" Fw f fd) (hmg:mg "_law_books" = some (.ref f)) (b_dict:mg "dict" = none) (b_range:mg "range" = none):gw P w K mg base "_law_books" 1 adw _root_.K.Ah:=by
 refine ⟨f,fd,?_,F.binds (ps:=adw) fun _ _ _ _ _ _ us hl=>bd1 (fun _=>rfl) us hl,F.kp,hmg⟩
 refine jw (N:=ll4) F Im (by decide)  fun cdv A outer s H E B hr=>?_
 have hu:=uw hr
 have hq:=hr.units
 have nd:ll4.Nodup:=Im.nd
 refine cu ?_ ?_
 ·exact jy 1 (jg nd rfl (Or.inl rfl) (qx (aj (v9 Sd) bh) (dj (aq cg) (by decide)))) (fun _ _ _ h=>h)
 ·refine cu ?_ ?_
  ·refine xr ?_ ?_ ?_ ?_ ?_ ?_
   ·exact PassesOwn.never
   ·exact rfl
   ·exact uc (ak 0 (pv 0))
   ·exact Ag (is:=[2,3,4]) (Aj rfl (j9 (gn nd rfl (Or.inl rfl)) (j9 (gn nd rfl (Or.inl rfl)) (j9 (gn nd rfl (Or.inl rfl)) vq))))
   ·refine cu ?_ ?_
    ·exact Av 5 (jg nd rfl (Or.inl rfl) (Gx bh (dj cg (by decide)))) (fun _ _ _ h=>h)
    ·refine cu ?_ ?_
     ·refine xr ?_ ?_ ?_ ?_ ?_ ?_
      ·exact PassesOwn.never
      ·exact rfl
      ·exact uc (ak 1 (pv 1))
      ·exact qm 6 (gn nd rfl (Or.inl rfl))
      ·refine dz ?_
       ·refine xr ?_ ?_ ?_ ?_ ?_ ?_
        ·exact PassesOwn.never
        ·exact rfl
        ·exact a0u (by rfl) b_range (ak 3 (pv 3)) (j6 kj (ak 4 (pv 4)) bw)
        ·exact qm 7 (gn nd rfl (Or.inl rfl))
        ·refine cu ?_ ?_
         ·exact Av 8 (jg nd rfl (Or.inl rfl) (a3f (by rfl) b_dict (ak 6 (pv 6)))) (fun _ _ _ h=>h)
         ·exact cu (Kl 8 hu (pv 8) (ak 2 (pv 2)) (ak 7 (pv 7)) rfl)   (dz (uy 5 (xq (Ft PySem.F.plainAttrs_list PySem.F.slot_list_append PySem.F.type_list_append uo (pv 5) (nu (ak 8 (pv 8)) ux)))))
        ·exact a0p
      ·exact su
     ·exact dz (jy 1 (jg nd rfl (Or.inl rfl) (ak 5 (pv 5))) (fun _ _ _ h=>h))
   ·exact su
  ·exact dz (iw (ak 1 (pv 1)))
abbrev Hl:Stmt:=top 39
theorem Kc:ji ll7 adf (gq Hl):=⟨rfl,rfl,rfl,by decide +kernel,rfl,by decide +kernel,by decide +kernel⟩
theorem Ux (F:Fun K "_law_told" "_law_told" Hl f fd) (hmg:mg "_law_told" = some (.ref f)) (d_let_by:gw P w K mg base "let_by" 7 adn (_root_.K.wu)) (b_bool:mg "bool" = none) (b_isinstance:mg "isinstance" = none):gw P w K mg base "_law_told" 8 adf _root_.K.mz:=by
 refine ⟨f,fd,?_,F.binds (ps:=adf) fun _ _ _ _ _ _ us hl=>bd4 (fun _ _ _ _=>rfl) us hl,F.kp,hmg⟩
 have d_let_by:=d_let_by.mono (by decide:7≤7)
 refine jw (N:=ll7) F Kc (by decide)  fun cdv A outer s H E B hr=>?_
 have hu:=uw hr
 have hq:=hr.units
 have nd:ll7.Nodup:=Kc.nd
 refine cu ?_ ?_
 ·exact jy 4 (jg nd rfl (Or.inl rfl) (dg d_let_by hr (by rfl) (aj (ak 0 (pv 0)) (aj (ak 1 (pv 1)) (aj (ak 2 (pv 2)) bh))) (bf (bf (bf eq_nil))))) (fun _ _ _ h=>h)
 ·exact dz (iw (Bo (Kp (by rfl) b_isinstance (by rfl) b_bool (ak 4 (pv 4))) (Du (aek (v8 Zj (ak 3 (pv 3)) Er (j7 _)) (Du (v8 (nj hq) (ak 4 (pv 4)) (ak 3 (pv 3)) (j7 _)))))))
abbrev Mx:Stmt:=top 40
theorem a6r:ji ll1 a9o (gq Mx):=⟨rfl,rfl,rfl,by decide +kernel,rfl,by decide +kernel,by decide +kernel⟩
theorem abd (F:Fun K "law" "law" Mx f fd) (d_law_bent:gw P w K mg base "_law_bent" 40 Qa (_root_.K.jh 40)) (d_law_books:gw P w K mg base "_law_books" 1 adw (_root_.K.Ah)) (d_law_cell_at:gw P w K mg base "_law_cell_at" 1 a6b (_root_.K.jx)) (d_law_form:gw P w K mg base "_law_form" 41 a8t (_root_.K.jj 40)) (d_law_holed:gw P w K mg base "_law_holed" 40 Qa (_root_.K.jk 40)) (d_law_lay:gw P w K mg base "_law_lay" 40 a4s (_root_.K.m9 40)) (d_law_paper:gw P w K mg base "_law_paper" 120 a9d (_root_.K.kh 40)) (d_law_rows:gw P w K mg base "_law_rows" 2 a9o (_root_.K.Dy)) (d_law_told:gw P w K mg base "_law_told" 8 adf (_root_.K.mz)) (d_law_true:gw P w K mg base "_law_true" 40 a06 (_root_.K.j5 40)) (b_len:mg "len" = none) (b_range:mg "range" = none) (b_tuple:mg "tuple" = none):Nj P w K mg base CX0 121 f fd a9o (spF K a9o.length _root_.K.Ul):=by
 have d_law_bent:=d_law_bent.mono (by decide:40≤120)
 have d_law_books:=d_law_books.mono (by decide:1≤120)
 have d_law_cell_at:=d_law_cell_at.mono (by decide:1≤120)
 have d_law_form:=d_law_form.mono (by decide:41≤120)
 have d_law_holed:=d_law_holed.mono (by decide:40≤120)
 have d_law_lay:=d_law_lay.mono (by decide:40≤120)
 have d_law_paper:=d_law_paper.mono (by decide:120≤120)
 have d_law_rows:=d_law_rows.mono (by decide:2≤120)
 have d_law_told:=d_law_told.mono (by decide:8≤120)
 have d_law_true:=d_law_true.mono (by decide:40≤120)
 refine jw (N:=ll1) F a6r (by decide)  fun cdv A outer s H E B hr=>?_
 have hu:=uw hr
 have hq:=hr.units
 have nd:ll1.Nodup:=a6r.nd
 refine cu ?_ ?_
 ·exact jy 1 (jg nd rfl (Or.inl rfl) (dg d_law_rows hr (by rfl) (aj (ak 0 (pv 0)) bh) (bf eq_nil))) (fun _ _ _ h=>h)
 ·refine cu ?_ ?_
  ·exact Av 2 (jg nd rfl (Or.inr rfl) (Gx bh (dj cg (by decide)))) (fun _ _ _ h=>h)
  ·refine cu ?_ ?_
   ·refine xr ?_ ?_ ?_ ?_ ?_ ?_
    ·exact PassesOwn.never
    ·exact rfl
    ·exact Gm (by rfl) b_range (j6 kj bw (j6 m5 (j6 oh (dg d_law_cell_at hr (by rfl) (aj (ak 0 (pv 0)) (aj bw bh)) (bf (bf eq_nil))) bw) bw))
    ·exact qm 3 (gn nd rfl (Or.inl rfl))
    ·refine dz ?_
     ·refine uy _ ?_
      ·refine xq ?_
       ·refine Ft PySem.F.plainAttrs_list PySem.F.slot_list_append PySem.F.type_list_append uo ?_ ?_
        ·exact pv 2
        ·exact nu (dg d_law_form hr (by rfl) (aj (dg d_law_cell_at hr (by rfl) (aj (ak 0 (pv 0)) (aj (j6 kj bw (ak 3 (pv 3))) bh)) (bf (bf eq_nil))) (aj (ak 1 (pv 1)) (aj bw bh))) (bf (bf (bf eq_nil)))) ux
    ·exact Fz
   ·refine cu ?_ ?_
    ·exact jy 4 (jg nd rfl (Or.inl rfl) (qx bh (dj cg (by decide)))) (fun _ _ _ h=>h)
    ·refine cu ?_ ?_
     ·refine xr ?_ ?_ ?_ ?_ ?_ ?_
      ·exact PassesOwn.never
      ·exact rfl
      ·exact uc (ak 1 (pv 1))
      ·exact Ag (is:=[5,6,7]) (Aj rfl (j9 (gn nd rfl (Or.inl rfl)) (j9 (gn nd rfl (Or.inl rfl)) (j9 (gn nd rfl (Or.inl rfl)) vq))))
      ·refine dz ?_
       ·refine @jy _ _ _ _ (tOf _ _ _) _ ?_ (fun _ _ _ h=>h)
        ·refine jg ?_ ?_ ?_ ?_
         ·exact nd
         ·exact rfl
         ·exact Or.inl rfl
         ·refine j6 ?_ ?_ ?_
          ·exact kj
          ·exact ak 4 (pv 4)
          ·refine qx ?_ ?_
           ·refine aj ?_ ?_
            ·refine fj ?_ ?_
             ·refine aj ?_ ?_
              ·exact jc
              ·refine aj ?_ ?_
               ·exact fj (aj (ak 6 (pv 6)) (aj (fj (aj (fj (aj (ak 5 (pv 5)) (aj (Fv w6 bw) bh)) (dj (aq (aq cg)) (by decide))) bh) (dj (aq cg) (by decide))) bh)) (dj (aq (aq cg)) (by decide))
               ·exact bh
             ·exact dj (aq (aq cg)) (by decide)
            ·refine aj ?_ ?_
             ·refine fj ?_ ?_
              ·refine aj ?_ ?_
               ·exact jc
               ·refine aj ?_ ?_
                ·exact fj (aj (Fv w6 (ak 7 (pv 7))) (aj (fj (aj (fj (aj (ak 5 (pv 5)) (aj bw bh)) (dj (aq (aq cg)) (by decide))) bh) (dj (aq cg) (by decide))) bh)) (dj (aq (aq cg)) (by decide))
                ·exact bh
              ·exact dj (aq (aq cg)) (by decide)
             ·exact bh
           ·exact dj (aq (aq cg)) (by decide)
      ·exact su
     ·refine cu ?_ ?_
      ·refine a9i ?_
       ·refine Q0 ?_ ?_
        ·refine dg d_law_lay ?_ ?_ ?_ ?_
         ·exact hr
         ·exact by rfl
         ·refine aj ?_ ?_
          ·exact fj (aj jc (aj (iu (mq v7 (by rfl) b_tuple PyProof.Rows.boot_tuple (aj (ak 2 (pv 2)) bh))) bh)) (dj (aq (aq cg)) (by decide))
          ·exact aj (ak 4 (pv 4)) (aj (qx bh (dj cg (by decide))) bh)
         ·exact bf (bf (bf eq_nil))
        ·exact Ag (is:=[4,8]) (Aj rfl (j9 (gn nd rfl (Or.inl rfl)) (j9 (gn nd rfl (Or.inl rfl)) vq)))
      ·refine cu ?_ ?_
       ·exact jy 9 (Wc (N:=["_law_book","_law_forms"]) (o:=some "_law_book") ⟨rfl,rfl,rfl,by decide +kernel,fun y e=>by cases e; rfl⟩ rfl (uc (dg d_law_books hr (by rfl) (aj (ak 1 (pv 1)) bh) (bf eq_nil))) (fun cy C s₀ H₀ ex pn=>pgE fun B=>(qm 0 (gn (show (["_law_book","_law_forms"]:List Str).Nodup by decide +kernel) rfl (Or.inr rfl)))) (fun cy C s₀ H₀ ex pn=>(J7 fun B=>by exact (m8 (nj hq) (iu (jr qb (by rfl) b_len PySem.boot_len (aj (v9 (Af (N:=a06) ⟨rfl,fun j k h=>match j,h with | 0,h=>(by cases h; exact ⟨_,rfl,rfl,⟨.inl rfl,.inr (.inl rfl),.inl rfl⟩⟩) | _+1,h=>(by cases h)⟩ ⟨rfl,rfl,by decide +kernel,by decide +kernel⟩ rfl (uc (ak 1 (pv 1))) su (fun C s₀ H₀ ex pn=>pgE fun B=>(qm 0 (gn (show a06.Nodup by decide +kernel) rfl (Or.inl rfl)))) (fun C s₀ H₀ ex pn=>(J7 fun B=>by exact (Ak (u9 (dg d_law_true hr (by rfl) (aj (ak 0 (pv 0)) (aj (ak 1 (pv 1)) bh)) (bf (bf eq_nil))))))) (fun C s₀ H₀ ex pn=>peE fun B=>bw))) bh))) bw (j7 _)))) (fun cy C s₀ H₀ ex pn=>peE fun B=>(ak 0 (pv 0))) (gn nd rfl (Or.inl rfl)) rfl) (fun σ H Q h=>Lz ⟨rfl,fun j k h=>match j,h with | 0,h=>(by cases h; exact ⟨_,rfl,rfl,⟨.inl rfl,.inr (.inl rfl),.inl rfl⟩⟩) | _+1,h=>(by cases h)⟩ su (Mg h))
       ·refine cu ?_ ?_
        ·refine @jy _ _ _ _ (tOf _ _ _) _ ?_ (fun _ _ _ h=>h)
         ·refine jg ?_ ?_ ?_ ?_
          ·exact nd
          ·exact rfl
          ·exact Or.inl rfl
          ·refine dg d_law_paper ?_ ?_ ?_ ?_
           ·exact hr
           ·exact by rfl
           ·exact aj (ak 1 (pv 1)) (aj (ak 4 (pv 4)) (aj (ak 8 (pv 8)) (aj (fj (aj jc (aj bw (aj (fj bh (dj cg (by decide))) bh))) (dj (aq (aq (aq cg))) (by decide))) bh)))
           ·exact bf (bf (bf (bf eq_nil)))
        ·refine cu ?_ ?_
         ·refine qw ?_ ?_ ?_
          ·exact m8 (nj hq) (iu (jr qb (by rfl) b_len PySem.boot_len (aj (ak 9 (pv 9)) bh))) bw (j7 _)
          ·refine cu ?_ ?_
           ·exact qw (Ak (u9 (dg d_law_told hr (by rfl) (aj (ak 1 (pv 1)) (aj (ak 2 (pv 2)) (aj (ak 10 (pv 10)) (aj Cq bh)))) (bf (bf (bf (bf eq_nil)))))))   (dz (iw Cq))   m7
           ·refine cu ?_ ?_
            ·refine qw ?_ ?_ ?_
             ·refine Ak ?_
              ·refine u9 ?_
               ·refine dg d_law_told ?_ ?_ ?_ ?_
                ·exact hr
                ·exact by rfl
                ·refine aj ?_ ?_
                 ·exact ak 1 (pv 1)
                 ·refine aj ?_ ?_
                  ·exact v9 (Z6 2 (pv 2) (qx (aj (fj (aj jc (aj (fj bh (dj cg (by decide))) bh)) (dj (aq (aq cg)) (by decide))) bh) (dj (aq cg) (by decide))))
                  ·exact aj (fj (aj jc (aj (iu (jr qb (by rfl) b_len PySem.boot_len (aj (ak 8 (pv 8)) bh))) (aj (fj bh (dj cg (by decide))) bh))) (dj (aq (aq (aq cg))) (by decide))) (aj Cq bh)
                ·exact bf (bf (bf (bf eq_nil)))
             ·exact dz (iw Cq)
             ·exact m7
            ·refine cu ?_ ?_
             ·refine xr ?_ ?_ ?_ ?_ ?_ ?_
              ·exact PassesOwn.never
              ·exact rfl
              ·exact uc (yw (ak 0 (pv 0)) (zu bw) (zu bw))
              ·exact qm 11 (gn nd rfl (Or.inl rfl))
              ·refine cu ?_ ?_
               ·refine qw ?_ ?_ ?_
                ·refine Ak ?_
                 ·refine u9 ?_
                  ·exact dg d_law_told hr (by rfl) (aj (ak 1 (pv 1)) (aj (ak 2 (pv 2)) (aj (dg d_law_bent hr (by rfl) (aj (ak 10 (pv 10)) (aj (ak 11 (pv 11)) bh)) (bf (bf eq_nil))) (aj Er bh)))) (bf (bf (bf (bf eq_nil))))
                ·exact dz (iw Cq)
                ·exact m7
               ·refine dz ?_
                ·refine qw ?_ ?_ ?_
                 ·refine Ak ?_
                  ·refine u9 ?_
                   ·exact dg d_law_told hr (by rfl) (aj (ak 1 (pv 1)) (aj (ak 2 (pv 2)) (aj (dg d_law_holed hr (by rfl) (aj (ak 10 (pv 10)) (aj (ak 11 (pv 11)) bh)) (bf (bf eq_nil))) (aj Cq bh)))) (bf (bf (bf (bf eq_nil))))
                 ·exact dz (iw Cq)
                 ·exact m7
              ·exact su
             ·exact dz (iw Cq)
          ·exact m7
         ·refine cu ?_ ?_
          ·refine xr ?_ ?_ ?_ ?_ ?_ ?_
           ·exact PassesOwn.never
           ·exact rfl
           ·exact uc (yw (ak 0 (pv 0)) (zu bw) (zu bw))
           ·exact qm 11 (gn nd rfl (Or.inl rfl))
           ·refine cu ?_ ?_
            ·refine @jy _ _ _ _ (tOf _ _ _) _ ?_ (fun _ _ _ h=>h)
             ·refine jg ?_ ?_ ?_ ?_
              ·exact nd
              ·exact rfl
              ·exact Or.inl rfl
              ·refine fj ?_ ?_
               ·refine aj ?_ ?_
                ·exact jc
                ·refine aj ?_ ?_
                 ·refine fj ?_ ?_
                  ·refine aj ?_ ?_
                   ·exact fj (aj (j6 m5 (ak 11 (pv 11)) bw) (aj bw bh)) (dj (aq (aq cg)) (by decide))
                   ·exact aj (fj (aj (j6 m5 (j6 oh (ak 11 (pv 11)) bw) bw) (aj (j6 kj bw (j6 m5 (j6 oh (ak 11 (pv 11)) bw) bw)) bh)) (dj (aq (aq cg)) (by decide))) bh
                  ·exact dj (aq (aq cg)) (by decide)
                 ·exact bh
               ·exact dj (aq (aq cg)) (by decide)
            ·refine cu ?_ ?_
             ·refine @jy _ _ _ _ (tOf _ _ _) _ ?_ (fun _ _ _ h=>h)
              ·refine jg ?_ ?_ ?_ ?_
               ·exact nd
               ·exact rfl
               ·exact Or.inl rfl
               ·refine fu ?_ ?_ ?_ ?_
                ·exact hu
                ·refine qx ?_ ?_
                 ·refine aj ?_ ?_
                  ·exact fj (aj jc (aj (fj bh (dj cg (by decide))) bh)) (dj (aq (aq cg)) (by decide))
                  ·refine aj ?_ ?_
                   ·exact ak 12 (pv 12)
                   ·exact aj (fj (aj jc (aj (j6 m5 (ak 11 (pv 11)) bw) (aj (fj bh (dj cg (by decide))) (aj (fj bh (dj cg (by decide))) bh)))) (dj (aq (aq (aq (aq cg)))) (by decide))) bh
                 ·exact dj (aq (aq (aq cg))) (by decide)
                ·exact j6 m5 (j6 oh (ak 11 (pv 11)) bw) bw
                ·exact fun _ _=>rfl
             ·refine cu ?_ ?_
              ·exact jy 14 (jg nd rfl (Or.inl rfl) (dg d_law_paper hr (by rfl) (aj (ak 1 (pv 1)) (aj (ak 4 (pv 4)) (aj (ak 8 (pv 8)) (aj (ak 13 (pv 13)) bh)))) (bf (bf (bf (bf eq_nil)))))) (fun _ _ _ h=>h)
              ·refine cu ?_ ?_
               ·exact qw (Ak (u9 (dg d_law_told hr (by rfl) (aj (ak 1 (pv 1)) (aj (ak 2 (pv 2)) (aj (ak 14 (pv 14)) (aj Cq bh)))) (bf (bf (bf (bf eq_nil)))))))   (dz (iw Cq))   m7
               ·refine dz ?_
                ·refine qw ?_ ?_ ?_
                 ·refine Ak ?_
                  ·refine u9 ?_
                   ·refine dg d_law_told ?_ ?_ ?_ ?_
                    ·exact hr
                    ·exact by rfl
                    ·exact aj (ak 1 (pv 1)) (aj (ak 2 (pv 2)) (aj (dg d_law_bent hr (by rfl) (aj (ak 14 (pv 14)) (aj (j6 oh (ak 11 (pv 11)) bw) bh)) (bf (bf eq_nil))) (aj Cq bh)))
                    ·exact bf (bf (bf (bf eq_nil)))
                 ·exact dz (iw Cq)
                 ·exact m7
           ·exact su
          ·exact dz (iw (dg d_law_told hr (by rfl) (aj (ak 1 (pv 1)) (aj (ak 2 (pv 2)) (aj (ak 10 (pv 10)) (aj Cq bh)))) (bf (bf (bf (bf eq_nil))))))
end
end D
end
section
namespace C
open PySem
theorem R7 {α:Type} {h f:α→T} {g:G} {c:M Bool} {e:M T} {nv:Nat} {cap:List Slot} {sto:List SO} (hcap:cap.map Va=cap) :
  ∀ (l:List α) (acc:List T) (pre:List Slot),pre.length=nv→acc.length+l.length≤lim →
   (∀ a∈l,∀ pre:List Slot,pre.length=nv→∃ pre',pre'.length=nv∧g (h a) ⟨pre++cap,sto⟩=some ⟨pre'++cap,sto⟩∧c ⟨pre'++cap,sto⟩=some (true,⟨pre'++cap,sto⟩)∧e ⟨pre'++cap,sto⟩=some (f a,⟨pre'++cap,sto⟩)) →
   ∃ s',El g c e (l.map h) ⟨pre++cap,sto⟩ acc=some (acc++l.map f,s')∧s'.sto=sto
 | [],acc,pre,hp,hl,H=>⟨⟨pre++cap,sto⟩,by simp [El],rfl⟩
 | a::l,acc,pre,hp,hl,H=>by
  obtain ⟨pre',p1,p2,p3,p4⟩:=H a List.mem_cons_self pre hp
  have hlen:acc.length<lim:=by simp at hl ⊢; (clear p4 p3 p2 p1 H hp hcap; omega)
  obtain ⟨s',q1,q2⟩:=R7 hcap l (acc++[f a]) (pre'.map Va) (by simpa using p1) (by simp at hl ⊢; (clear hlen p4 p3 p2 p1 H hp hcap; omega)) fun b hb=>H b (List.mem_cons_of_mem _ hb)
  refine ⟨s',?_,q2⟩
  rw [List.map_cons,El,p2]
  dsimp only
  rw [p3]
  dsimp only
  rw [p4]
  dsimp only
  rw [if_pos hlen,qt]
  dsimp only
  rw [List.map_append,hcap,q1]
  simp
theorem Dn {α:Type} (h f:α→T) (l:List α) {g:G} {c:M Bool} {e:M T} {nv:Nat} {ci:List Nat} {it:M (List T)} {s s1:Sta} (env:List Slot) (cap:List Slot) (hit:it s=some (l.map h,s1)) (henv:qg ci s1.env=env) (hci:ci.map (fun i=>(env[i]?).getD none)=cap) (hcap:cap.map Va=cap) (hl:l.length≤lim)
  (H:∀ a∈l,∀ pre:List Slot,pre.length=nv→∃ pre',pre'.length=nv∧g (h a) ⟨pre++cap,s1.sto⟩=some ⟨pre'++cap,s1.sto⟩∧c ⟨pre'++cap,s1.sto⟩=some (true,⟨pre'++cap,s1.sto⟩)∧e ⟨pre'++cap,s1.sto⟩=some (f a,⟨pre'++cap,s1.sto⟩)) :
  pq nv ci g it c e s=some (.lst (l.map f),⟨env,s1.sto⟩):=by
 obtain ⟨s',q1,q2⟩:=R7 hcap l [] (List.replicate nv none) (by simp) (by simpa using hl) H
 unfold pq
 rw [hit]
 dsimp only
 rw [henv,hci,q1]
 dsimp only
 rw [q2]; rfl
def okS (x:Str):Prop:=PyData.canLay0 (.str x)=true
theorem K1 {x:Str} (h:okS x):dat (.str x)=some (.str x):=by
 unfold okS at h
 simp [dat,h]
theorem a8k {a b:Str} (ha:okS a) (hb:okS b):neO (.str a) (.str b)=some (.bl (!(a==b))):=by
 simp [neO,eqT,eqD,K1 ha,K1 hb,PyData.depth,PyData.eqv]
def Pl (n:Nat) (t:T):Prop:=∃ d,dat t=some d∧d.depth≤n
theorem acu (n:Nat) (i:Int):Pl n (.int i):=⟨.int i,by simp [dat],by simp [PyData.depth]⟩
theorem a75 (n:Nat) {x:Str} (h:okS x):Pl n (.str x):=⟨.str x,K1 h,by simp [PyData.depth]⟩
theorem pls {n:Nat}:∀ ts:List T,(∀ t∈ts,Pl n t)→∃ ds,Eh ts=some ds∧PyData.depthAll ds≤n
 | [],_=>⟨[],by simp [Eh],by simp [PyData.depthAll]⟩
 | t::r,h=>by
  obtain ⟨d,d1,d2⟩:=h t List.mem_cons_self
  obtain ⟨ds,e1,e2⟩:=pls r fun x hx=>h x (List.mem_cons_of_mem _ hx)
  exact ⟨d::ds,by simp [Eh,d1,e1],by simp only [PyData.depthAll]; (clear e1 d1 h; omega)⟩
theorem a6k {n:Nat} {ts:List T} (h:∀ t∈ts,Pl n t):Pl (n+1) (.tup ts):=by
 obtain ⟨ds,e1,e2⟩:=pls ts h
 exact ⟨.tuple ds,by simp [dat,e1],by simp only [PyData.depth]; (clear e1 h; omega)⟩
mutual
theorem Wg:∀ d:PyData,d.canLay0=true→PyData.eqv d d=true
 | .none,_=>by simp [PyData.eqv]
 | .bool b,_=>by simp [PyData.eqv] -- here
 | .int i,_=>by simp [PyData.eqv] -- here
 | .str x,_=>by simp [PyData.eqv] -- here
 | .list xs,h=>by simp only [PyData.eqv]; exact Jv xs (by simpa [PyData.canLay0] using h)
 | .tuple xs,h=>by simp only [PyData.eqv]; exact Jv xs (by simpa [PyData.canLay0] using h)
 | .dict _,h=>by simp [PyData.canLay0] at h
theorem Jv:∀ xs:List PyData,PyData.canLayAll0 xs=true→PyData.eqvAll xs xs=true
 | [],_=>by simp [PyData.eqvAll]
 | x::xs,h=>by
  simp only [PyData.canLayAll0,Bool.and_eq_true] at h
  simp only [PyData.eqvAll,Wg x h.1,Jv xs h.2,Bool.and_self]
end
end C
namespace C
open PySem
theorem a1e {g:G} {b:S} (P:List T→Sta→Prop) (H:∀ t r s,P (t::r) s→∃ s1 s2,g t s=some s1∧b s1=some (.next,s2)∧P r s2):∀ (ts:List T) (s:Sta),P ts s→∃ s',forL g b ts s=some (.next,s')∧P [] s'
 | [],s,h=>⟨s,by simp [forL],h⟩
 | t::r,s,h=>by
  obtain ⟨s1,s2,h1,h2,h3⟩:=H t r s h
  obtain ⟨s',e,p⟩:=a1e P H r s2 h3
  refine ⟨s',?_,p⟩
  rw [forL]; dsimp only; rw [h1]; dsimp only; rw [h2]; dsimp only; exact e
theorem Ud {g:G} {b:S} {ts:List T} {s:Sta} {r:Option (Flow × Sta)} (hF:forL g b ts s=r) (P:List T→Sta→Prop) (hP:P ts s) (H:∀ t r s,P (t::r) s→∃ s1 s2,g t s=some s1∧b s1=some (.next,s2)∧P r s2):∃ s',r=some (.next,s')∧P [] s':=by
 obtain ⟨s',e,p⟩:=a1e P H ts s hP
 exact ⟨s',hF.symm.trans e,p⟩
end C
namespace C
open PySem
theorem wk {α:Type} {g:G} {c:M Bool} {e:M T} {nv:Nat} {ci:List Nat} {it:M (List T)} {s:Sta} {r:Option (T × Sta)} (hF:pq nv ci g it c e s=r) (h f:α→T) (l:List α) (s1:Sta) (env cap:List Slot) (hit:it s=some (l.map h,s1)) (henv:qg ci s1.env=env) (hci:ci.map (fun i=>(env[i]?).getD none)=cap) (hcap:cap.map Va=cap) (hl:l.length≤lim)
  (H:∀ a∈l,∀ pre:List Slot,pre.length=nv→∃ pre',pre'.length=nv∧g (h a) ⟨pre++cap,s1.sto⟩=some ⟨pre'++cap,s1.sto⟩∧c ⟨pre'++cap,s1.sto⟩=some (true,⟨pre'++cap,s1.sto⟩)∧e ⟨pre'++cap,s1.sto⟩=some (f a,⟨pre'++cap,s1.sto⟩)) :
  r=some (.lst (l.map f),⟨env,s1.sto⟩):=hF.symm.trans (Dn h f l env cap hit henv hci hcap hl H)
theorem Ka {α:Type} (h:α→T) (l:List α) {i:Int} (h0:0≤i) (h1:i<l.length):∃ a∈l,cj (.lst (l.map h)) (.int i)=some (h a):=by
 have hi:i.toNat<l.length:=by omega
 refine ⟨l[i.toNat],List.getElem_mem hi,?_⟩
 simp [cj,ixI,h0,h1,List.getElem?_eq_getElem hi]
theorem Bc {α:Type} (h:α→T) (l:List α) {k:Nat} (hk:k<l.length):cj (.lst (l.map h)) (.int (k:Int))=some (h l[k]):=by
 have h1:(k:Int)<(l.length:Int):=by omega
 simp [cj,ixI,h1,List.getElem?_eq_getElem hk]
end C
end
open C
local macro_rules | `(tactic| simp! [$ls,*])=>`(tactic| simp [qp,jz,sIf,vf,sNew,rm,Ab,sNx,a86,sGo,a4b,Fq,qj,yu,Ei,gb,J2,Ba,mOr,Ad,mIf,mOp,mUn,bx,gk,ao,dw,au,ad9,iy,jo,hName,Cw,yh,yd,ltT,leT,Bw,vo,Rt,Al,vh,Jw,aey,Iz,zy,qg,Va,$ls,*])
section
namespace C
open PySem
theorem Pq {α σ:Type} {g:G} {b:S} (h:α→T) (R:σ→Sta) (step:σ→α→σ) (P:List α→σ→Prop)
  (H:∀ a r x,P (a::r) x→(∃ s1,g (h a) (R x)=some s1∧b s1=some (.next,R (step x a)))∧P r (step x a)) :
  ∀ (l:List α) (x:σ),P l x→forL g b (l.map h) (R x)=some (.next,R (l.foldl step x))∧P [] (l.foldl step x)
 | [],x,p=>⟨by simp [forL],p⟩
 | a::l,x,p=>by
  obtain ⟨⟨s1,h1,h2⟩,h3⟩:=H a l x p
  obtain ⟨e,q⟩:=Pq h R step P H l (step x a) h3
  refine ⟨?_,q⟩
  rw [List.map_cons,forL]; dsimp only; rw [h1]; dsimp only; rw [h2]; dsimp only; exact e
theorem a5g {α σ:Type} {g:G} {b:S} {ts:List T} {s:Sta} {r:Option (Flow × Sta)} (hF:forL g b ts s=r) (h:α→T) (l:List α) (R:σ→Sta) (x0:σ) (step:σ→α→σ) (P:List α→σ→Prop) (ht:ts=l.map h) (hs:s=R x0) (hP:P l x0)
  (H:∀ a r x,P (a::r) x→(∃ s1,g (h a) (R x)=some s1∧b s1=some (.next,R (step x a)))∧P r (step x a)) :
  r=some (.next,R (l.foldl step x0))∧P [] (l.foldl step x0):=by
 subst ht hs
 obtain ⟨e,p⟩:=Pq h R step P H l x0 hP
 exact ⟨hF.symm.trans e,p⟩
theorem Dg {α:Type} {h f:α→T} {q:α→Bool} {g:G} {c:M Bool} {e:M T} {nv:Nat} {cap:List Slot} {sto:List SO} (hcap:cap.map Va=cap) :
  ∀ (l:List α) (acc:List T) (pre:List Slot),pre.length=nv→acc.length+l.length≤lim →
   (∀ a∈l,∀ pre:List Slot,pre.length=nv→∃ pre',pre'.length=nv∧g (h a) ⟨pre++cap,sto⟩=some ⟨pre'++cap,sto⟩∧c ⟨pre'++cap,sto⟩=some (q a,⟨pre'++cap,sto⟩)∧(q a=true→e ⟨pre'++cap,sto⟩=some (f a,⟨pre'++cap,sto⟩))) →
   ∃ s',El g c e (l.map h) ⟨pre++cap,sto⟩ acc=some (acc++(l.filter q).map f,s')∧s'.sto=sto
 | [],acc,pre,hp,hl,H=>⟨⟨pre++cap,sto⟩,by simp [El],rfl⟩
 | a::l,acc,pre,hp,hl,H=>by
  obtain ⟨pre',p1,p2,p3,p4⟩:=H a List.mem_cons_self pre hp
  have hlen:acc.length<lim:=by simp at hl ⊢; (clear p4 p3 p2 p1 H hp hcap; omega)
  rw [List.map_cons,El,p2]
  dsimp only
  rw [p3]
  cases hq:q a with
  | true =>
   obtain ⟨s',q1,q2⟩:=Dg hcap l (acc++[f a]) (pre'.map Va) (by simpa using p1) (by simp at hl ⊢; (clear hq hlen p4 p3 p2 p1 H hp hcap; omega)) fun b hb=>H b (List.mem_cons_of_mem _ hb)
   refine ⟨s',?_,q2⟩
   dsimp only
   rw [p4 hq]
   dsimp only
   rw [if_pos hlen,qt]
   dsimp only
   rw [List.map_append,hcap,q1]
   simp [hq]
  | false =>
   obtain ⟨s',q1,q2⟩:=Dg hcap l acc (pre'.map Va) (by simpa using p1) (by simp at hl ⊢; (clear hq hlen p4 p3 p2 p1 H hp hcap; omega)) fun b hb=>H b (List.mem_cons_of_mem _ hb)
   refine ⟨s',?_,q2⟩
   dsimp only
   rw [qt]
   dsimp only
   rw [List.map_append,hcap,q1]
   simp [hq]
theorem Gb {α:Type} {g:G} {c:M Bool} {e:M T} {nv:Nat} {ci:List Nat} {it:M (List T)} {s:Sta} {r:Option (T × Sta)} (hF:pq nv ci g it c e s=r) (h f:α→T) (q:α→Bool) (l:List α) (s1:Sta) (env cap:List Slot) (hit:it s=some (l.map h,s1)) (henv:qg ci s1.env=env) (hci:ci.map (fun i=>(env[i]?).getD none)=cap) (hcap:cap.map Va=cap) (hl:l.length≤lim)
  (H:∀ a∈l,∀ pre:List Slot,pre.length=nv→∃ pre',pre'.length=nv∧g (h a) ⟨pre++cap,s1.sto⟩=some ⟨pre'++cap,s1.sto⟩∧c ⟨pre'++cap,s1.sto⟩=some (q a,⟨pre'++cap,s1.sto⟩)∧(q a=true→e ⟨pre'++cap,s1.sto⟩=some (f a,⟨pre'++cap,s1.sto⟩))) :
  r=some (.lst ((l.filter q).map f),⟨env,s1.sto⟩):=by
 obtain ⟨s',q1,q2⟩:=Dg hcap l [] (List.replicate nv none) (by simp) (by simpa using hl) H
 rw [← hF]
 unfold pq
 rw [hit]
 dsimp only
 rw [henv,hci,q1]
 dsimp only
 rw [q2]; rfl
theorem V5 {n:Nat} {t:T} (h:Pl n t) (hn:n≤40):eqD t t=some true:=by
 obtain ⟨d,e1,e2⟩:=h
 have:d.depth≤40:=Nat.le_trans e2 hn
 simp [eqD,e1,this,Wg d (Aq _ e1)]
theorem a3x {n:Nat} {t:T} (h:Pl n t) (hn:n≤40):eqT t t=some true:=by
 cases t with
 | dic k=>obtain ⟨d,e1,_⟩:=h; simp [dat] at e1
 | _=>exact V5 h hn
theorem a5q {n:Nat} {t:T} (h:Pl n t) (hn:n≤40):neO t t=some (.bl false):=by simp [neO,a3x h hn]
theorem qd {a b:Int}:eqO (.int a) (.int b)=some (.bl (a==b)):=rfl
theorem Ao {a b:Int}:neO (.int a) (.int b)=some (.bl (!(a==b))):=by simp [neO,eqT,eqD,dat,PyData.depth,PyData.eqv]
theorem Ae {a b:Str} (ha:okS a) (hb:okS b):eqO (.str a) (.str b)=some (.bl (a==b)):=by
 simp [eqO,eqT,eqD,K1 ha,K1 hb,PyData.depth,PyData.eqv]
theorem Hv {xs:List T} {k:Nat} {t:T} (h:xs[k]? = some t):cj (.lst xs) (.int (k:Int))=some t:=by
 have hk:k<xs.length:=(List.getElem?_eq_some_iff.mp h).1
 have h1:(k:Int)<(xs.length:Int):=by omega
 simp [cj,ixI,h1,h]
theorem O4 {xs:List T} {k:Nat} {t:T} (h:xs[k]? = some t):cj (.tup xs) (.int (k:Int))=some t:=by
 have hk:k<xs.length:=(List.getElem?_eq_some_iff.mp h).1
 have h1:(k:Int)<(xs.length:Int):=by omega
 simp [cj,ixI,h1,h]
theorem ju {a:T} {r:List T}:cj (.tup (a::r)) (.int 0)=some a:=O4 (k:=0) rfl
theorem lu {a b:T} {r:List T}:cj (.tup (a::b::r)) (.int 1)=some b:=O4 (k:=1) rfl
theorem Ir {a b c:T} {r:List T}:cj (.tup (a::b::c::r)) (.int 2)=some c:=O4 (k:=2) rfl
theorem Q5 {i j:Nat} {x y:T} {s:Sta}:Cw [i,j] (.tup [x,y]) s=some (jo j y false (jo i x false s)):=by simp [Cw]
theorem o9 {a b:S} {s s':Sta} (h:a s=some (.next,s')):jz a b s=b s':=by unfold jz; rw [h]
def Out (r:Option (T × List SO)) (P:T→List SO→Prop):Prop:=∃ t s,r=some (t,s)∧P t s
theorem Out.of {t:T} {s:List SO} {P:T→List SO→Prop} (h:P t s):Out (some (t,s)) P:=⟨t,s,rfl,h⟩
theorem Eb {n:Nat} {c:M Bool} {b:S} {s s1 s2:Sta} (hc:c s=some (true,s1)) (hb:b s1=some (.next,s2)):vg (n+1) c b s=vg n c b s2:=by
 rw [vg]; dsimp only; rw [hc]; dsimp only; rw [hb]
theorem Xc {n:Nat} {c:M Bool} {b:S} {s s1:Sta} (hc:c s=some (false,s1)):vg (n+1) c b s=some (.next,s1):=by
 rw [vg]; dsimp only; rw [hc]
theorem Qo {n:Nat} {c:M Bool} {b:S} {s s1 s2:Sta} {v:T} (hc:c s=some (true,s1)) (hb:b s1=some (.ret v,s2)):vg (n+1) c b s=some (.ret v,s2):=by
 rw [vg]; dsimp only; rw [hc]; dsimp only; rw [hb]
end C
end
section
namespace K
open C PySem
section
variable {a b:M T} {l r:M (List T)} {s s1 s2:Sta} {t u v:T} {ts:List T} {i:Nat} {F:Fn} {z:List SO} {x y:S}
theorem zo {f:T→T→Option T} (h1:a s=some (t,s1)) (h2:b s1=some (u,s2)) (h3:f t u=some v):mOp f a b s=some (v,s2):=by
 unfold mOp; rw [h1]; dsimp only; rw [h2]; dsimp only; rw [h3]
theorem zm {f:List T→Option T} (h:l s=some (ts,s1)) (h2:f ts=some u):gk f l s=some (u,s1):=by
 unfold gk; rw [h]; dsimp only; rw [h2]
theorem zc (h:a s=some (t,s1)) (h2:l s1=some (ts,s2)):ao a l s=some (t::ts,s2):=by
 unfold ao; rw [h]; dsimp only; rw [h2]
theorem zf (h:l s=some (ts,s1)) (h2:F ts s1.sto=some (t,z)):iy F l s=some (t,⟨s1.env,z⟩):=by
 unfold iy; rw [h]; dsimp only; rw [h2]
theorem zs (h:a s=some (t,s1)):vf i a s=some (.next,jo i t false s1):=by unfold vf; rw [h]
theorem zn (h:a s=some (t,s1)):sNew i a s=some (.next,jo i t true s1):=by unfold sNew; rw [h]
theorem zr (h:a s=some (t,s1)):rm a s=some (.ret t,s1):=by unfold rm; rw [h]
theorem zq {q:Option (C.Flow × Sta)} (h:x s=some (.next,s1)) (h2:y s1=q):jz x y s=q:=by unfold jz; rw [h]; exact h2
theorem zt {k:Bool} (h:a s=some (.bl k,s1)):gb a s=some (k,s1):=by unfold gb; rw [h]
theorem zk {c:M Bool} (h:c s=some (true,s1)) {q:Option (C.Flow × Sta)} (h2:x s1=q):sIf c x y s=q:=by unfold sIf; rw [h]; exact h2
theorem ze {c:M Bool} (h:c s=some (false,s1)) {q:Option (C.Flow × Sta)} (h2:y s1=q):sIf c x y s=q:=by unfold sIf; rw [h]; exact h2
theorem ys {s':Sta} (h:a s=some (t,s1)) (e:jo i t false s1=s'):vf i a s=some (.next,s'):=by unfold vf; rw [h,← e]
theorem md {i j:Int} (h:0<j):Al (.int i) (.int j)=some (.int (i%j)):=if_pos h
theorem a2s {α:Type} {f:α→T} {l:List α}:Bw [.lst (l.map f)]=some (.int l.length):=by show some (T.int ((l.map f).length:Int))=_; rw [List.length_map]
theorem ad {p q:Str} (h:p.length+q.length<lim):vo (.str p) (.str q)=some (.str (p++q)):=if_pos h
theorem zun {f:T→Option T} (h:a s=some (t,s1)) (h2:f t=some u):mUn f a s=some (u,s1):=by unfold mUn; rw [h]; dsimp only; rw [h2]
theorem zis {α:Type} {f:α→T} {k:List α} (h:a s=some (.lst (k.map f),s1)) (hl:k.length<lim):yd a s=some (k.map f,s1):=by
 unfold yd; rw [h]; dsimp only; rw [List.length_map,if_pos hl]
theorem zqr (h:x s=some (.ret t,s1)):jz x y s=some (.ret t,s1):=by unfold jz; rw [h]
theorem a0z {c:M Bool} {k:Bool} (h:c s=some (k,s1)):J2 c s=some (!k,s1):=by unfold J2; rw [h]
theorem adt {c d:M Bool} (h:c s=some (true,s1)):mOr c d s=some (true,s1):=by unfold mOr; rw [h]
theorem a6n {c d:M Bool} {q:Option (Bool × Sta)} (h:c s=some (false,s1)) (h2:d s1=q):mOr c d s=q:=by unfold mOr; rw [h]; exact h2
theorem zb {c:M Bool} {k:Bool} (h:c s=some (k,s1)):Ad c s=some (.bl k,s1):=by unfold Ad; rw [h]
theorem zgo {g:G} (h:a s=some (t,s1)) (h2:g t s1=some s2):sGo g a s=some (.next,s2):=by unfold sGo; rw [h]; dsimp only; rw [h2]
theorem za {s':Sta} {xs:List T} (h:a s=some (t,s1)) (hx:s1.env[i]? = some (some (.lst xs,true))) (hl:xs.length<lim) (hs:Ei i s=true) (e:jo i (.lst (xs++[t])) true s1=s'):qj i a s=some (.next,s'):=by
 unfold qj; rw [if_pos hs,h]; dsimp only; rw [hx]; dsimp only; rw [if_pos hl,e]
theorem zw {s':Sta} {kv:List (C.Key × T)} {q:C.Key} (h:b s=some (t,s1)) (hd:Pj i s1=true) (h2:a s1=some (u,s2)) (hx:s2.env[i]? = some (some (.dic kv,true))) (hq:keyOf u=some q) (hl:kv.length<lim) (e:jo i (.dic (a6m q t kv)) true s2=s'):Ai i a b s=some (.next,s'):=by
 unfold Ai; rw [h]; dsimp only; rw [if_pos hd,h2]; dsimp only; rw [hx,hq]; dsimp only; rw [if_pos hl,e]
theorem a3a {α:Type} {f:α→Bool}:∀ {l:List α},a05 [.lst (l.map fun r=>.bl (f r))]=some (.bl (l.all f))∧afh [.lst (l.map fun r=>.bl (f r))]=some (.bl (l.any f)):=fun {l}=>by
 have q:∀ l:List α,Es (l.map fun r=>.bl (f r))=some (l.map f):=fun l=>by
  induction l with
  | nil=>rfl
  | cons a l ih=>rw [List.map_cons,Es,ih]; rfl
 refine ⟨?_,?_⟩
 ·show (Es (l.map fun r=>.bl (f r))).map _=_
  rw [q]; simp
 ·show (Es (l.map fun r=>.bl (f r))).map _=_
  rw [q]; simp
theorem adz {p q:Int} (h:p<q):ltT (.int p) (.int q)=some (.bl true):=by show some (T.bl (decide (p<q)))=_; rw [decide_eq_true h]
theorem ac5 {p q:Int} (h:¬ p<q):ltT (.int p) (.int q)=some (.bl false):=by show some (T.bl (decide (p<q)))=_; rw [decide_eq_false h]
theorem agf {c d:M Bool} {j k:Bool} (h1:c s=some (j,s)) (h2:d s=some (k,s)):Ba c d s=some (j&&k,s):=by
 unfold Ba; rw [h1]
 cases j
 ·rfl
 ·exact h2
theorem eq_i {p q:Int} {k:Bool} (h:(p==q)=k):eqO (.int p) (.int q)=some (.bl k):=by rw [qd,h]
theorem mu {p q:Int} (h:zx p=true):Rq (.int p) (.int q)=some (.int (p * q)):=if_pos (by rw [h]; rfl)
theorem zf0 (h:l s=some (ts,s1)) (h2:F ts s1.sto=some (t,s1.sto)):iy F l s=some (t,s1):=by
 unfold iy; rw [h]; dsimp only; rw [h2]
theorem zex {s':Sta} {xs zs:List T} (h:a s=some (t,s1)) (hq:Iz t=some zs) (hx:s1.env[i]? = some (some (.lst xs,true))) (hl:xs.length+zs.length<lim) (hs:Ei i s=true) (e:jo i (.lst (xs++zs)) true s1=s'):yu i a s=some (.next,s'):=by
 unfold yu; rw [if_pos hs,h]; dsimp only; rw [hq,hx]; dsimp only; rw [if_pos hl,e]
theorem Dd {g:G} {q:S} {w:List T} (h:g t s=some s1) (hb:q s1=some (.next,s2)):forL g q (t::w) s=forL g q w s2:=by
 rw [forL]; dsimp only; rw [h]; dsimp only; rw [hb]
theorem Io {g:G} {q:S} {m:M (List T)} {r0:Option (C.Flow × Sta)} (h:m s=some (ts,s1)) (h2:forL g q ts s1=r0):Fq g m q s=r0:=by
 unfold Fq; rw [h]; exact h2
theorem zrun {n:Nat} {A:List T} {z0:List SO} (h:x ⟨A.map (fun t=>some (t,false))++List.replicate (n - A.length) none,z0⟩=some (.ret t,s1)) (h2:s1.sto=z):qp n x A z0=some (t,z):=by
 unfold qp; rw [h]; dsimp only; rw [h2]
end
theorem zan {c d:M Bool} {s s1:Sta} (h:c s=some (false,s1)):Ba c d s=some (false,s1):=by unfold Ba; rw [h]
end K
namespace K
open C PySem
theorem aa0 {α:Type} {a:M T} {s s1:Sta} {f:α→T} {k:List α} (h:a s=some (.tup (k.map f),s1)) (hl:k.length<lim):yd a s=some (k.map f,s1):=by
 unfold yd; rw [h]; dsimp only; rw [List.length_map,if_pos hl]
theorem ah1 {α:Type} {f:α→Int} {l:List α}:ade [.lst (l.map fun a=>T.int (f a))]=some (.int (l.map f).sum):=by
 have q:∀ l:List α,Xh (l.map fun a=>T.int (f a))=some (l.map f):=fun l=>by
  induction l with
  | nil=>rfl
  | cons a l ih=>rw [List.map_cons,Xh,ih]; rfl
 show (Xh _).map _=_
 rw [q]; rfl
end K
namespace K
open C PySem
theorem zrg {a:M T} {s s1:Sta} {m:Nat} (h:a s=some (.int (m:Int),s1)) (hl:m<lim):yh a s=some ((List.range m).map (fun (k:Nat)=>T.int (k:Int)),s1):=by
 unfold yh; rw [h]; dsimp only; unfold rangeT; simp [hl]
abbrev Pr:=Str × Int
def pT (p:Pr):T:=.tup [.str p.1,.int p.2]
abbrev Sm:=Int × List Pr
def smT (s:Sm):T:=.tup [.int s.1,.tup (s.2.map pT)]
def dd (d:List Pr):List (C.Key × T):=d.map fun p=>(.inr p.1,.int p.2)
def gt:List Pr→Str→Int
 | [],_=>0
 | (k,v)::r,b=>if k=b then v else gt r b
def ks (d:List Pr):List Str:=d.map (·.1)
def pt (d:List Pr) (b:Str) (v:Int):List Pr:=if b∈ks d then d.map fun p=>if p.1=b then (p.1,v) else p else d++[(b,v)]
theorem Yn (b:Str):∀ d:List Pr,(Ww (.inr b) (dd d)).getD (.int 0)=.int (gt d b)
 | []=>rfl
 | (k,v)::r=>by
  have ih:=Yn b r
  unfold dd at ih ⊢
  simp only [List.map_cons,Ww,gt]
  by_cases h:k=b
  ·simp [h]
  ·rw [if_neg (by simpa using h),if_neg h,ih]
theorem Gw {b:Str}:∀ {d:List Pr},b∈ks d→Ww (.inr b) (dd d)=some (.int (gt d b))
 | [],h=>by simp [ks] at h
 | (k,v)::r,h=>by
  unfold dd
  simp only [List.map_cons,Ww,gt]
  by_cases e:k=b
  ·simp [e]
  ·rw [if_neg (by simpa using e),if_neg e]
   simp only [ks,List.map_cons,List.mem_cons] at h
   rcases h with h | h
   ·exact absurd h.symm e
   ·exact Gw (d:=r) h
theorem Rp {b:Str}:∀ {d:List Pr},b∉ks d→gt d b=0
 | [],_=>rfl
 | (k,v)::r,h=>by
  simp only [ks,List.map_cons,List.mem_cons,not_or] at h
  rw [gt,if_neg (fun e=>h.1 e.symm)]
  exact Rp (d:=r) h.2
theorem a97 (b:Str) (v:Int) (d:List Pr):a6m (.inr b) (.int v) (dd d)=dd (pt d b v):=by
 have any:((dd d).any fun p=>decide (p.1=Sum.inr b))=decide (b∈ks d):=by
  rw [Bool.eq_iff_iff]
  simp only [List.any_eq_true,decide_eq_true_eq,dd,ks,List.mem_map]
  constructor
  ·rintro ⟨x,⟨p,hp,rfl⟩,h⟩
   simp only [Sum.inr.injEq] at h
   exact ⟨p,hp,h⟩
  ·rintro ⟨p,hp,h⟩
   exact ⟨_,⟨p,hp,rfl⟩,by simp [h]⟩
 unfold a6m pt
 rw [any]
 by_cases h:b∈ks d
 ·rw [if_pos (by simpa using h),if_pos h] -- here
  unfold dd
  rw [List.map_map,List.map_map] -- here
  apply List.map_congr_left
  intro p _
  simp only [Function.comp,Sum.inr.injEq]
  split <;> rfl
 ·rw [if_neg (by simpa using h),if_neg h] -- here
  unfold dd
  rw [List.map_append]; rfl
theorem aaz (d:List Pr) (b:Str) (v:Int):ks (pt d b v)=if b∈ks d then ks d else ks d++[b]:=by
 unfold pt
 split
 ·unfold ks
  rw [List.map_map]
  apply List.map_congr_left
  intro p _
  simp only [Function.comp]
  split <;> rfl
 ·unfold ks; rw [List.map_append]; rfl
theorem Ol {b k:Str} {v:Int} {r:List Pr}:b∈ks ((k,v)::r)↔b=k∨b∈ks r:=by simp [ks]
theorem a76 {b:Str} {e:List Pr}:∀ {d:List Pr},gt (d++e) b=if b∈ks d then gt d b else gt e b
 | []=>by simp [ks]
 | (k,v)::r=>by
  simp only [List.cons_append,gt]
  by_cases h:k=b
  ·rw [if_pos h,if_pos h,if_pos (Ol.mpr (.inl h.symm))]
  ·rw [if_neg h,if_neg h,a76 (d:=r)]
   have hiff:(b∈ks ((k,v)::r))↔b∈ks r:=Ol.trans ⟨fun z=>z.resolve_left fun z=>h z.symm,.inr⟩
   by_cases hr:b∈ks r
   ·rw [if_pos hr,if_pos (hiff.mpr hr)]
   ·rw [if_neg hr,if_neg (fun z=>hr (hiff.mp z))]
theorem a6s {b c:Str} {v:Int}:∀ {d:List Pr},gt (d.map fun p=>if p.1=b then (p.1,v) else p) c=if c=b∧c∈ks d then v else gt d c
 | []=>by simp [ks,gt]
 | (k,w)::r=>by
  have ih:=a6s (b:=b) (c:=c) (v:=v) (d:=r)
  rw [List.map_cons]
  by_cases h:k=b
  ·rw [if_pos h]
   simp only [gt]
   by_cases hc:k=c
   ·rw [if_pos hc,if_pos ⟨by rw [← hc,h],Ol.mpr (.inl hc.symm)⟩]
   ·rw [if_neg hc,if_neg hc,ih]
    have hb:¬ c=b:=fun z=>hc (by rw [h,z])
    rw [if_neg (fun z=>hb z.1),if_neg (fun z=>hb z.1)]
  ·rw [if_neg h]
   simp only [gt]
   by_cases hc:k=c
   ·rw [if_pos hc,if_pos hc]
    have hb:¬ c=b:=fun z=>h (by rw [hc,z])
    rw [if_neg (fun z=>hb z.1)]
   ·rw [if_neg hc,if_neg hc,ih]
    have hiff:(c∈ks ((k,w)::r))↔c∈ks r:=Ol.trans ⟨fun z=>z.resolve_left fun z=>hc z.symm,.inr⟩
    by_cases hr:c=b∧c∈ks r
    ·rw [if_pos hr,if_pos ⟨hr.1,hiff.mpr hr.2⟩]
    ·rw [if_neg hr,if_neg (fun z=>hr ⟨z.1,hiff.mp z.2⟩)]
theorem af0 {d:List Pr} {b c:Str} {v:Int}:gt (pt d b v) c=if c=b then v else gt d c:=by
 unfold pt
 split
 ·rename_i h
  rw [a6s]
  by_cases e:c=b
  ·rw [if_pos ⟨e,by rw [e]; exact h⟩,if_pos e]
  ·rw [if_neg (fun z=>e z.1),if_neg e]
 ·rename_i h
  rw [a76]
  by_cases e:c=b
  ·subst e
   rw [if_neg h,if_pos rfl]; simp [gt]
  ·rw [if_neg e]
   split
   ·rfl
   ·rename_i h2
    have:¬ b=c:=fun z=>e z.symm
    rw [Rp h2]
    simp [gt,this]
def tot:List Pr→Str→Int
 | [],_=>0
 | (k,v)::r,b=>(if k=b then v else 0)+tot r b
def a2d (l:List Pr) (d:List Pr):List Pr:=l.foldl (fun d p=>pt d p.1 (gt d p.1+p.2)) d
theorem a2j (b:Str):∀ (l d:List Pr),gt (a2d l d) b=gt d b+tot l b
 | [],d=>by simp [a2d,tot]
 | (k,v)::r,d=>by
  have ih:=a2j b r (pt d k (gt d k+v))
  unfold a2d at ih ⊢
  rw [List.foldl_cons,ih,af0,tot]
  by_cases h:b=k
  ·subst h; simp; omega
  ·have h2:¬ k=b:=fun z=>h z.symm
   rw [if_neg h,if_neg h2]; omega
theorem a1x:∀ (l d:List Pr),(ks d).Nodup→(ks (a2d l d)).Nodup∧(∀ b,b∈ks (a2d l d)↔b∈ks d∨b∈ks l)
 | [],d,h=>⟨h,fun b=>by simp [a2d,ks]⟩
 | (k,v)::r,d,h=>by
  have h1:(ks (pt d k (gt d k+v))).Nodup:=by
   rw [aaz]
   split
   ·exact h
   ·rename_i hn
    rw [List.nodup_append]
    exact ⟨h,by simp,fun a ha b hb=>by simp at hb; subst hb; exact fun z=>hn (by rw [← z]; exact ha)⟩
  obtain ⟨a1,a2⟩:=a1x r (pt d k (gt d k+v)) h1
  unfold a2d at a1 a2 ⊢
  rw [List.foldl_cons]
  refine ⟨a1,fun b=>?_⟩
  rw [a2 b,aaz,Ol]
  by_cases hk:k∈ks d
  ·rw [if_pos hk]
   constructor
   ·rintro (z | z)
    ·exact .inl z
    ·exact .inr (.inr z)
   ·rintro (z | z | z)
    ·exact .inl z
    ·subst z; exact .inl hk
    ·exact .inr z
  ·rw [if_neg hk]
   constructor
   ·rintro (z | z)
    ·rcases List.mem_append.mp z with z | z
     ·exact .inl z
     ·simp at z; exact .inr (.inl z)
    ·exact .inr (.inr z)
   ·rintro (z | z | z)
    ·exact .inl (List.mem_append_left _ z)
    ·subst z; exact .inl (List.mem_append_right _ (by simp))
    ·exact .inr z
structure Uni (U:List Str):Prop where
 len:U.length≤8
 ok:∀ x∈U,okS x
 ins:∀ x∈U,∀ P:Str→Bool,P x=false→Xy x (U.filter P)=U.filter fun b=>P b||b==x
def canon (U:List Str) (f:Str→Int):List Pr:=(U.filter fun b=>f b != 0).map fun b=>(b,f b)
theorem Q7 {U:List Str} (u:Uni U):∀ (l:List Str) (P:Str→Bool),l.Nodup→(∀ b∈l,b∈U∧P b=false)→l.foldl (fun acc x=>Xy x acc) (U.filter P)=U.filter fun b=>P b||l.contains b
 | [],P,_,_=>by simp
 | x::l,P,hn,h=>by
  obtain ⟨h1,h2⟩:=List.nodup_cons.mp hn
  rw [List.foldl_cons,u.ins x (h x List.mem_cons_self).1 P (h x List.mem_cons_self).2,Q7 u l _ h2 fun b hb=>⟨(h b (List.mem_cons_of_mem _ hb)).1,by
   rw [(h b (List.mem_cons_of_mem _ hb)).2,Bool.false_or]
   exact beq_eq_false_iff_ne.mpr fun z=>h1 (by rw [← z]; exact hb)⟩]
  congr 1
  funext b
  rw [List.contains_cons,Bool.or_assoc]
theorem Le {U l:List Str} (u:Uni U) (hn:l.Nodup) (h:∀ b∈l,b∈U):Bt l=U.filter fun b=>l.contains b:=by
 have:=Q7 u l (fun _=>false) hn fun b hb=>⟨h b hb,rfl⟩
 unfold Bt
 rw [show U.filter (fun _=>false)=[] by simp] at this
 rw [this]
 apply List.filter_congr
 intro b _
 simp
theorem Sw {U:List Str} {d:List Pr} (u:Uni U) (hn:(ks d).Nodup) (h:∀ b∈ks d,b∈U):((Bt (ks d)).filter fun b=>gt d b != 0)=U.filter fun b=>gt d b != 0:=by
 rw [Le u hn h,List.filter_filter]
 apply List.filter_congr
 intro b hb
 by_cases e:b∈ks d
 ·simp [e]
 ·simp [Rp e]
theorem Vl {U:List Str} {d:List Pr} (u:Uni U) (hn:(ks d).Nodup) (h:∀ b∈ks d,b∈U):d.length≤U.length:=by
 have h1:=List.Nodup.length_le_of_subset hn h
 simpa [ks] using h1
def U4:List Str:=["@p","x","y","z1"]
theorem af9:Uni U4 where
 len:=by decide
 ok:=by unfold okS; decide +kernel
 ins:=by
  intro x hx P hP
  simp only [U4,List.mem_cons,List.not_mem_nil,or_false] at hx
  unfold U4
  rcases hx with rfl | rfl | rfl | rfl
  ·cases h1:P "x" <;> cases h2:P "y" <;> cases h3:P "z1" <;> simp only [List.filter_cons,List.filter_nil,hP,h1,h2,h3] <;> decide +kernel
  ·cases h1:P "@p" <;> cases h2:P "y" <;> cases h3:P "z1" <;> simp only [List.filter_cons,List.filter_nil,hP,h1,h2,h3] <;> decide +kernel
  ·cases h1:P "@p" <;> cases h2:P "x" <;> cases h3:P "z1" <;> simp only [List.filter_cons,List.filter_nil,hP,h1,h2,h3] <;> decide +kernel
  ·cases h1:P "@p" <;> cases h2:P "x" <;> cases h3:P "y" <;> simp only [List.filter_cons,List.filter_nil,hP,h1,h2,h3] <;> decide +kernel
section
variable {U:List Str} {sto:List SO}
theorem keys_str:∀ d:List Pr,Ky ((dd d).map fun p=>Xl p.1)=some (ks d)
 | []=>rfl
 | (k,v)::r=>by
  have ih:=keys_str r
  show (Ky ((dd r).map fun p=>Xl p.1)).map (k :: ·)=_
  rw [ih]; rfl
theorem Zm {d:List Pr} (h:d.length<64):Nt [.dic (dd d)]=some (.lst ((Bt (ks d)).map T.str)):=by
 have h2:(dd d).length<64:=by simpa [dd] using h
 simp only [Nt,if_pos h2,keys_str,Option.map_some]
def prs (l:List Pr) (s:T):Prop:=s=.lst (l.map pT)∨s=.tup (l.map pT)
theorem a8e {l:List Pr} {s:T} (h:prs l s) (hl:l.length<1000000) {m:M T} {st st':Sta} (e:m st=some (s,st')):yd m st=some (l.map pT,st'):=by
 have h1:l.length<lim:=hl
 rcases h with rfl | rfl <;> simp [yd,e,h1]
theorem a1z {b:Str} {v:Int} {d:List Pr}:a6m (.inr b) (.int v) (dd d)=dd (pt d b v):=a97 b v d
theorem a88 {v:Int}:neO (.int v) (.int 0)=some (.bl (v != 0)):=by
 rw [Ao]; rfl
theorem a1g {n:Int} {l:List Pr} {s:T} (u:Uni U) (hs:prs l s) (hl:l.length<1000) (hU:∀ b∈ks l,b∈U):Cp [.int n,s] sto=some (smT (n,canon U (tot l)),sto):=by
 have e1:bx 1 ⟨[some (.int n,false),some (s,false),some (.dic (dd []),true),none,none,none],sto⟩=some (s,⟨[some (.int n,false),some (s,false),some (.dic (dd []),true),none,none,none],sto⟩):=rfl
 have is:=a8e hs (by omega) e1
 obtain ⟨hn,hk⟩:=a1x l [] (by simp [ks])
 have hkU:∀ b∈ks (a2d l []),b∈U:=fun b hb=>by
  rcases (hk b).mp hb with z | z
  ·simp [ks] at z
  ·exact hU b z
 have hlen:=Vl u hn hkU
 have ul:=u.len
 unfold Cp qp
 rw [show ([T.int n,s].map (fun t=>some (t,false))++List.replicate (6 - [T.int n,s].length) none:List Slot)=[some (.int n,false),some (s,false),none,none,none,none] from rfl]
 rw [o9 (s':=⟨[some (.int n,false),some (s,false),some (.dic (dd []),true),none,none,none],sto⟩) rfl]
 have loop:(Fq (Cw [3,4]) (yd (bx 1)) (Ai 2 (bx 3) (mOp vo (Hh 2 (bx 3) (au (.int 0))) (bx 4)))) ⟨[some (.int n,false),some (s,false),some (.dic (dd []),true),none,none,none],sto⟩
   = some (.next,⟨[some (.int n,false),some (s,false),some (.dic (dd (a2d l [])),true),(l.foldl (fun (x:List Pr × Slot × Slot) p=>(pt x.1 p.1 (gt x.1 p.1+p.2),some (.str p.1,false),some (.int p.2,false))) ([],none,none)).2.1,(l.foldl (fun (x:List Pr × Slot × Slot) p=>(pt x.1 p.1 (gt x.1 p.1+p.2),some (.str p.1,false),some (.int p.2,false))) ([],none,none)).2.2,none],sto⟩):=by
  unfold Fq
  rw [is]
  dsimp only
  generalize hF:forL _ _ _ _=r
  obtain ⟨rfl,_⟩:=a5g hF pT l (fun (x:List Pr × Slot × Slot)=>(⟨[some (.int n,false),some (s,false),some (.dic (dd x.1),true),x.2.1,x.2.2,none],sto⟩:Sta)) ([],none,none)
   (fun x p=>(pt x.1 p.1 (gt x.1 p.1+p.2),some (.str p.1,false),some (.int p.2,false))) (fun r x=>x.1.length+r.length≤l.length) rfl rfl (by simp) (by
    rintro p r x h1
    simp only [List.length_cons] at h1
    have hlt:(dd x.1).length<lim:=by simp only [dd,List.length_map]; show _<1000000; omega
    refine ⟨⟨_,by unfold pT; exact Q5,?_⟩,?_⟩
    ·simp! [Ai,Hh,Pj,keyOf,Yn,hlt,a1z]
    ·have:(pt x.1 p.1 (gt x.1 p.1+p.2)).length≤x.1.length+1:=by
      unfold pt
      split
      ·rw [List.length_map]; omega
      ·rw [List.length_append,List.length_singleton]; exact Nat.le_refl _
     dsimp only
     omega)
  have fst:∀ (l:List Pr) (x:List Pr × Slot × Slot),(l.foldl (fun (x:List Pr × Slot × Slot) p=>(pt x.1 p.1 (gt x.1 p.1+p.2),some (T.str p.1,false),some (T.int p.2,false))) x).1=a2d l x.1:=fun l=>by
   induction l with
   | nil=>intro x; rfl
   | cons p l ih=>intro x; rw [List.foldl_cons,ih]; rfl
  rw [fst]
 rw [o9 loop]
 generalize (l.foldl (fun (x:List Pr × Slot × Slot) p=>(pt x.1 p.1 (gt x.1 p.1+p.2),some (T.str p.1,false),some (T.int p.2,false))) ([],none,none)).2.1=o3
 generalize (l.foldl (fun (x:List Pr × Slot × Slot) p=>(pt x.1 p.1 (gt x.1 p.1+p.2),some (T.str p.1,false),some (T.int p.2,false))) ([],none,none)).2.2=o4
 generalize hd:a2d l []=d at *
 have hso:=Zm (d:=d) (by omega)
 have il:(Bt (ks d)).length<lim:=by
  rw [Le u hn hkU]
  exact Nat.lt_of_le_of_lt (List.length_filter_le _ _) (by show _<1000000; omega)
 simp! []
 generalize hF:pq 1 _ _ _ _ _ _=r
 have e:=Gb hF T.str (fun b=>pT (b,gt d b)) (fun b=>gt d b != 0) (Bt (ks d)) ⟨[some (.int n,false),some (s,false),some (.dic (dd d),false),o3,o4,none],sto⟩ [some (.int n,false),some (s,false),some (.dic (dd d),false),o3,o4,none] [some (.dic (dd d),false)] (by first | exact rfl | simp! [hso,il]) rfl rfl rfl (Nat.le_of_lt il) (fun b hb pre hp=>by
  have hb2:b∈ks d:=by
   rw [Le u hn hkU] at hb
   have:=(List.mem_filter.mp hb).2
   simpa using this
  have hg:=Gw hb2
  match pre,hp with
  | [p0],_=>exact ⟨[some (.str b,false)],rfl,by first | exact rfl | simp! [],by first | exact rfl | simp! [cj,keyOf,hg,a88],fun _=>by first | exact rfl | simp! [cj,keyOf,hg,pT]⟩)
 subst e
 rw [Sw u hn hkU]
 have hg:∀ b,gt d b=tot l b:=fun b=>by rw [← hd,a2j]; simp [gt]
 simp! [yg,smT,canon]
 simp only [hg]
 rfl
end
section
variable {U:List Str} {sto:List SO}
structure Xp (U:List Str) (s:Sm):Prop where
 nd:(ks s.2).Nodup
 sub:∀ b∈ks s.2,b∈U
theorem Vi {f:Str→Int}:ks (canon U f)=U.filter fun b=>f b != 0:=by
 unfold ks canon
 rw [List.map_map]
 exact List.map_id' _
theorem Oa {f:Str→Int} {n:Int} (hU:U.Nodup):Xp U (n,canon U f):=⟨by
 show (ks (canon U f)).Nodup
 rw [Vi]; exact hU.filter _,fun b hb=>by
 have hb:b∈ks (canon U f):=hb
 rw [Vi] at hb; exact (List.mem_filter.mp hb).1⟩
theorem Ql {b:Str}:∀ {l:List Pr},(ks l).Nodup→tot l b=gt l b
 | [],_=>rfl
 | (k,v)::r,h=>by
  obtain ⟨h1,h2⟩:=List.nodup_cons.mp (show (k::ks r).Nodup from h)
  rw [tot,gt,Ql h2]
  by_cases e:k=b
  ·subst e; rw [if_pos rfl,if_pos rfl,Rp h1]; omega
  ·rw [if_neg e,if_neg e]; omega
theorem Li {s:Sm} (u:Uni U) (h:Xp U s):s.2.length≤8:=Nat.le_trans (Vl u h.nd h.sub) u.len
end
inductive Fm where
 | atom (k:Str) (r:List T) | all (l:List Fm) | any (ms:List T)
mutual
def fmT:Fm→T
 | .atom k r=>.tup (.str k::r)
 | .all l=>.tup [.str "and",.tup (ac6 l)]
 | .any ms=>.tup [.str "or",.tup ms]
def ac6:List Fm→List T
 | []=>[]
 | f::l=>fmT f::ac6 l
end
mutual
def fsz:Fm→Nat
 | .atom _ _=>1
 | .all l=>1+K4 l
 | .any _=>1
def K4:List Fm→Nat
 | []=>0
 | f::l=>fsz f+K4 l
end
mutual
def flA:Fm→List T
 | .atom k r=>[.tup (.str k::r)]
 | .all l=>Lj l
 | .any _=>[]
def Lj:List Fm→List T
 | []=>[]
 | f::l=>flA f++Lj l
end
mutual
def flO:Fm→List T
 | .atom _ _=>[]
 | .all l=>Lk l
 | .any ms=>[.tup ms]
def Lk:List Fm→List T
 | []=>[]
 | f::l=>flO f++Lk l
end
def okA (k:Str):Prop:=okS k∧(k==("and" : Str))=false∧(k==("or" : Str))=false
mutual
def okF:Fm→Prop
 | .atom k _=>okA k
 | .all l=>Xw l
 | .any _=>True
def Xw:List Fm→Prop
 | []=>True
 | f::l=>okF f∧Xw l
end
theorem Gq:∀ l:List Fm,ac6 l=l.map fmT
 | []=>rfl
 | f::l=>by rw [ac6,Gq l]; rfl
theorem J6:∀ l r:List Fm,K4 (l++r)=K4 l+K4 r
 | [],r=>by simp [K4]
 | f::l,r=>by rw [List.cons_append,K4,K4,J6 l r]; omega
theorem Wb:∀ l r:List Fm,Lj (l++r)=Lj l++Lj r
 | [],r=>by simp [Lj]
 | f::l,r=>by rw [List.cons_append,Lj,Lj,Wb l r,List.append_assoc]
theorem Vs:∀ l r:List Fm,Lk (l++r)=Lk l++Lk r
 | [],r=>by simp [Lk]
 | f::l,r=>by rw [List.cons_append,Lk,Lk,Vs l r,List.append_assoc]
theorem Wf:∀ l r:List Fm,Xw l→Xw r→Xw (l++r)
 | [],r,_,h=>h
 | f::l,r,h1,h2=>by rw [List.cons_append,Xw]; exact ⟨h1.1,Wf l r h1.2 h2⟩
theorem Sg:∀ l:List Fm,l.length≤K4 l
 | []=>by simp [K4]
 | f::l=>by
  have:=Sg l
  have:1≤fsz f:=by cases f <;> simp [fsz] <;> omega
  rw [K4,List.length_cons]; omega
theorem a2z {f:Fm} {r:List Fm}:((f::r).reverse.map fmT)[((f::r).reverse.map fmT).length - 1]? = some (fmT f):=by
 rw [List.reverse_cons,List.map_append,List.length_append]
 simp
theorem a5p {f:Fm} {r:List Fm}:((f::r).reverse.map fmT).dropLast=r.reverse.map fmT:=by
 rw [List.reverse_cons,List.map_append]
 simp
theorem Fx:okS "and" := by unfold okS; decide +kernel
theorem Dv:okS "or" := by unfold okS; decide +kernel
theorem ab1:(("or" : Str)==("and" : Str))=false:=by decide +kernel
section
variable {sto:List SO} {L F:T}
theorem G9:∀ (n:Nat) (l:List Fm) (A O:List T) (o5:Slot),K4 l<n→Xw l→A.length+K4 l<900000→O.length+K4 l<900000→∃ o5',vg n a7m ac0 ⟨[some (L,false),some (F,false),some (.lst A,true),some (.lst O,true),some (.lst (l.reverse.map fmT),true),o5],sto⟩=some (.next,⟨[some (L,false),some (F,false),some (.lst (A++Lj l),true),some (.lst (O++Lk l),true),some (.lst [],true),o5'],sto⟩)
 | 0,l,A,O,o5,h,_,_,_=>by omega
 | n+1,[],A,O,o5,h,ok,h1,h2=>⟨o5,by
  rw [vg]
  simp! [Ck,gtT,Lj,Lk]⟩
 | n+1,f::r,A,O,o5,h,ok,h1,h2=>by
  have f1:1≤fsz f:=by cases f <;> simp [fsz] <;> omega
  rw [K4] at h h1 h2
  have c1:a7m ⟨[some (L,false),some (F,false),some (.lst A,true),some (.lst O,true),some (.lst ((f::r).reverse.map fmT),true),o5],sto⟩=some (true,⟨[some (L,false),some (F,false),some (.lst A,true),some (.lst O,true),some (.lst ((f::r).reverse.map fmT),true),o5],sto⟩):=by
   simp! [Ck,gtT]
  have pop:a4c 4 5 ⟨[some (L,false),some (F,false),some (.lst A,true),some (.lst O,true),some (.lst ((f::r).reverse.map fmT),true),o5],sto⟩=some (.next,⟨[some (L,false),some (F,false),some (.lst A,true),some (.lst O,true),some (.lst (r.reverse.map fmT),true),some (fmT f,false)],sto⟩):=by
   unfold a4c
   dsimp only [List.getElem?_cons_succ,List.getElem?_cons_zero]
   rw [a2z]
   dsimp only
   rw [a5p]; rfl
  have la:A.length<lim:=by show _<1000000; omega
  have lo:O.length<lim:=by show _<1000000; omega
  have hr:=Sg r
  cases f with
  | atom k xs =>
   obtain ⟨a1,a2,a3⟩:=ok.1
   obtain ⟨o5',ih⟩:=G9 n r (A++[.tup (.str k::xs)]) O (some (.tup (.str k::xs),false)) (by omega) ok.2 (by rw [List.length_append,List.length_singleton]; omega) (by omega)
   refine ⟨o5',?_⟩
   have e1:=Ae a1 Fx
   have e2:=Ae a1 Dv
   rw [a2] at e1
   rw [a3] at e2
   have body:(sIf (gb (mOp eqO (mOp cj (bx 5) (au (.int 0))) (au (.str "and")))) (yu 4 (mUn a77 (mOp cj (bx 5) (au (.int 1))))) (sIf (gb (mOp eqO (mOp cj (bx 5) (au (.int 0))) (au (.str "or")))) (qj 3 (mOp cj (bx 5) (au (.int 1)))) (qj 2 (bx 5)))) ⟨[some (L,false),some (F,false),some (.lst A,true),some (.lst O,true),some (.lst (r.reverse.map fmT),true),some (fmT (.atom k xs),false)],sto⟩=some (.next,⟨[some (L,false),some (F,false),some (.lst (A++[.tup (.str k::xs)]),true),some (.lst O,true),some (.lst (r.reverse.map fmT),true),some (.tup (.str k::xs),false)],sto⟩):=by
    simp! [fmT,ju,e1,e2,la]
   rw [Eb c1 ((o9 pop).trans body),ih,Lj,Lk,flA,flO]
   simp
  | any ms =>
   obtain ⟨o5',ih⟩:=G9 n r A (O++[.tup ms]) (some (.tup [.str "or",.tup ms],false)) (by omega) ok.2 (by omega) (by rw [List.length_append,List.length_singleton]; omega)
   refine ⟨o5',?_⟩
   have e1:=Ae Dv Fx
   have e2:=Ae Dv Dv
   rw [ab1] at e1
   rw [beq_self_eq_true] at e2
   have body:(sIf (gb (mOp eqO (mOp cj (bx 5) (au (.int 0))) (au (.str "and")))) (yu 4 (mUn a77 (mOp cj (bx 5) (au (.int 1))))) (sIf (gb (mOp eqO (mOp cj (bx 5) (au (.int 0))) (au (.str "or")))) (qj 3 (mOp cj (bx 5) (au (.int 1)))) (qj 2 (bx 5)))) ⟨[some (L,false),some (F,false),some (.lst A,true),some (.lst O,true),some (.lst (r.reverse.map fmT),true),some (fmT (.any ms),false)],sto⟩=some (.next,⟨[some (L,false),some (F,false),some (.lst A,true),some (.lst (O++[.tup ms]),true),some (.lst (r.reverse.map fmT),true),some (.tup [.str "or",.tup ms],false)],sto⟩):=by
    simp! [fmT,ju,lu,e1,e2,lo]
   rw [Eb c1 ((o9 pop).trans body),ih,Lj,Lk,flA,flO]
   simp
  | all ms =>
   rw [fsz] at h h1 h2
   have hm:=Sg ms
   obtain ⟨o5',ih⟩:=G9 n (ms++r) A O (some (.tup [.str "and",.tup (ms.map fmT)],false)) (by rw [J6]; omega) (Wf ms r ok.1 ok.2) (by rw [J6]; omega) (by rw [J6]; omega)
   refine ⟨o5',?_⟩
   have e1:=Ae Fx Fx
   rw [beq_self_eq_true] at e1
   have lw:r.length+ms.length<lim:=by show _<1000000; omega
   have body:(sIf (gb (mOp eqO (mOp cj (bx 5) (au (.int 0))) (au (.str "and")))) (yu 4 (mUn a77 (mOp cj (bx 5) (au (.int 1))))) (sIf (gb (mOp eqO (mOp cj (bx 5) (au (.int 0))) (au (.str "or")))) (qj 3 (mOp cj (bx 5) (au (.int 1)))) (qj 2 (bx 5)))) ⟨[some (L,false),some (F,false),some (.lst A,true),some (.lst O,true),some (.lst (r.reverse.map fmT),true),some (fmT (.all ms),false)],sto⟩=some (.next,⟨[some (L,false),some (F,false),some (.lst A,true),some (.lst O,true),some (.lst ((ms++r).reverse.map fmT),true),some (.tup [.str "and",.tup (ms.map fmT)],false)],sto⟩):=by
    simp! [fmT,Gq,ju,lu,e1,a77,lw]
   rw [Eb c1 ((o9 pop).trans body),ih,Wb,Vs,Lj,Lk,flA,flO]
theorem Nz {A O:List T} {l:List Fm} (hs:K4 l<1000) (ok:Xw l) (ha:A.length<800000) (ho:O.length<800000) :
  uz [.tup [.lst A,.lst O],.lst (l.map fmT)] sto=some (.tup [.lst (A++Lj l),.lst (O++Lk l)],sto):=by
 obtain ⟨o5',e⟩:=G9 (sto:=sto) (L:=.tup [.lst A,.lst O]) (F:=.lst (l.map fmT)) 1000 l A O none hs ok (by omega) (by omega)
 unfold uz qp
 rw [show ([T.tup [.lst A,.lst O],T.lst (l.map fmT)].map (fun t=>some (t,false))++List.replicate (6 - [T.tup [.lst A,.lst O],T.lst (l.map fmT)].length) none:List Slot)=[some (.tup [.lst A,.lst O],false),some (.lst (l.map fmT),false),none,none,none,none] from rfl]
 rw [o9 (s':=⟨[some (.tup [.lst A,.lst O],false),some (.lst (l.map fmT),false),some (.lst A,true),none,none,none],sto⟩) (by first | exact rfl | simp! [ju,Dt])]
 rw [o9 (s':=⟨[some (.tup [.lst A,.lst O],false),some (.lst (l.map fmT),false),some (.lst A,true),some (.lst O,true),none,none],sto⟩) (by first | exact rfl | simp! [lu,Dt])]
 rw [o9 (s':=⟨[some (.tup [.lst A,.lst O],false),some (.lst (l.map fmT),false),some (.lst A,true),some (.lst O,true),some (.lst (l.reverse.map fmT),true),none],sto⟩) (by first | exact rfl | simp! [Dt,adp])]
 rw [o9 e]
 simp! []
end
inductive Cl where
 | i (n:Int) | b (k:Bool)
def clT:Cl→T
 | .i n=>.int n
 | .b k=>.bl k
def isI:Cl→Bool
 | .i _=>true
 | .b _=>false
def vI:Cl→Int
 | .i n=>n
 | .b _=>0
abbrev Rw:=List Cl
def rwT (r:Rw):T:=.tup (r.map clT)
def pr (r:Rw):List Int:=if r.all isI then r.map vI else []
def ilT (l:List Int):T:=.tup (l.map .int)
structure At where
 k:Str
 s:Sm
 more:List T
def atT (a:At):T:=.tup (.str a.k::smT a.s::a.more)
def fac (a:At):Int:=match a.more with
 | [.int f]=>f
 | _=>0
def Vm (U:List Str) (a:At):Prop:=okS a.k∧Xp U a.s∧((a.k==("rest" : Str))=true→∃ f,a.more=[.int f])
def cN (gs:List (Sm × Int)):Int:=(gs.map fun g=>g.2 * g.1.1).sum
def cF (gs:List (Sm × Int)) (b:Str):Int:=(gs.map fun g=>g.2 * gt g.1.2 b).sum
def zrU (U:List Str) (s1 s2:Sm):Bool:=(s1.1+s2.1==0)&&(canon U fun b=>gt s1.2 b+gt s2.2 b).isEmpty
def isA (A:List At) (n:Int) (w:Str):Bool:=decide (0≤n)&&(match A[n.toNat]? with | some a=>a.k==w | none=>false)
def sA (A:List At) (n:Int):At:=A.getD n.toNat ⟨"",(0,[]),[]⟩
def yc (U:List Str) (m:Int) (A:List At):List Int→Bool
 | [n,t]=>isA A n "rest" && ((t != 0)&&(t * fac (sA A n)%m==0))
 | [n,o,t]=>isA A n "most" && (isA A o "most" && (zrU U (sA A n).s (sA A o).s&&(t != 0)))
 | _=>false
def gv (A:List At) (l:List Int):Sm × Int:=((sA A (l.headD 0)).s,l.getLastD 0)
def ad5 (m:Int) (s:Sm):Bool:=(s.1%m != 0)&&s.2.all fun p=>p.2%m==0
def Ac (U:List Str) (A:List At) (m:Int) (rows:List (List Int)):Bool:=decide (2≤m)&&(rows.all (yc U m A)&&ad5 m (cN (rows.map (gv A)),canon U (cF (rows.map (gv A)))))
theorem yt:okS "most" := by unfold okS; decide +kernel
theorem wj:okS "rest" := by unfold okS; decide +kernel
section
variable {U:List Str} {sto:List SO} {A:List At}
theorem N8 {c:Cl}:ud [clT c] sto=some (.bl (isI c),sto):=by
 cases c <;> simp! [ud,clT,isInt,aa6,isI]
theorem qe {l:List T}:lg [.tup l] sto=some (.tup l,sto):=by first | exact rfl | simp! [lg,isTup,yg]
theorem Ov {α:Type} (f:α→Bool):∀ l:List α,Es (l.map fun a=>T.bl (f a))=some (l.map f)
 | []=>rfl
 | a::l=>by simp [Es,Ov f l]
theorem all_map {α:Type} (f:α→Bool) (l:List α):a05 [.lst (l.map fun a=>T.bl (f a))]=some (.bl (l.all f)):=by
 simp [a05,Ov,List.all_map]
theorem Qj {r:Rw} (hl:r.length<1000):yj [rwT r] sto=some (ilT (pr r),sto):=by
 have l1:r.length<lim:=by show _<1000000; omega
 unfold yj
 simp! [rwT,qe]
 generalize hF:pq 1 _ _ _ _ (iy ud _) _=q
 have e:=wk hF clT (fun c=>T.bl (isI c)) r ⟨[some (rwT r,false),some (rwT r,false)],sto⟩ [some (rwT r,false),some (rwT r,false)] [] (by first | exact rfl | simp! [rwT,l1]) rfl rfl rfl (Nat.le_of_lt l1) (fun c hc pre hp=>by
  match pre,hp with
  | [p0],_=>exact ⟨[some (clT c,false)],rfl,by first | exact rfl | simp! [],rfl,by first | exact rfl | simp! [N8]⟩)
 subst e
 by_cases h:r.all isI=true
 ·have ha:=all_map isI r
  rw [h] at ha
  simp! [ha]
  generalize hG:pq 1 _ _ _ _ _ _=q
  have e:=wk hG clT (fun c=>T.int (vI c)) r ⟨[some (rwT r,false),some (rwT r,false)],sto⟩ [some (rwT r,false),some (rwT r,false)] [] (by first | exact rfl | simp! [rwT,l1]) rfl rfl rfl (Nat.le_of_lt l1) (fun c hc pre hp=>by
   have hi:=List.all_eq_true.mp h c hc
   match pre,hp with
   | [p0],_=>exact ⟨[some (clT c,false)],rfl,by first | exact rfl | simp! [],rfl,by
     cases c with
     | i n=>simp! [clT,Vv,vI]
     | b k=>cases hi⟩)
  subst e
  simp! [yg,ilT,pr,h]
 ·have hf:r.all isI=false:=by simpa using h
  have ha:=all_map isI r
  rw [hf] at ha
  simp! [ha,ilT,pr,hf]
theorem aa5 {rs:List Rw} (hr:rs.length<1000) (hl:∀ r∈rs,r.length<1000):ql [.tup (rs.map rwT)] sto=some (.lst ((rs.map pr).map ilT),sto):=by
 have l1:rs.length<lim:=by show _<1000000; omega
 unfold ql
 simp! []
 generalize hF:pq 1 _ _ _ _ _ _=q
 have e:=wk hF rwT (fun r=>ilT (pr r)) rs ⟨[some (.tup (rs.map rwT),false)],sto⟩ [some (.tup (rs.map rwT),false)] [] (by first | exact rfl | simp! [qe,l1]) rfl rfl rfl (Nat.le_of_lt l1) (fun r hr' pre hp=>by
  have:=Qj (sto:=sto) (hl r hr')
  match pre,hp with
  | [p0],_=>exact ⟨[some (rwT r,false)],rfl,by first | exact rfl | simp! [],rfl,by first | exact rfl | simp! [this]⟩)
 subst e
 simp
theorem Dz {α:Type} {f:α→T} {n:Int} {l:List α}:yq [.int n,.lst (l.map f)] sto=some (.bl (decide (0≤n)&&decide (n<l.length)),sto):=by
 by_cases h:0≤n <;> simp! [yq,h]
theorem Nf {n:Int} {w:Str} (hw:okS w) (ok:∀ a∈A,Vm U a):uq [.lst (A.map atT),.int n,.str w] sto=some (.bl (isA A n w),sto):=by
 unfold isA
 by_cases h:0≤n
 ·by_cases h2:n<A.length
  ·have hn:n.toNat<A.length:=by omega
   have hi:cj (.lst (A.map atT)) (.int n)=some (atT A[n.toNat]):=by
    have:=Hv (xs:=A.map atT) (k:=n.toNat) (t:=atT A[n.toNat]) (by rw [List.getElem?_map,List.getElem?_eq_getElem hn]; rfl)
    rw [Int.toNat_of_nonneg h] at this
    exact this
   have he:=Ae (ok _ (List.getElem_mem hn)).1 hw
   simp! [uq,Dz,h,h2,hi,atT,ju,he,List.getElem?_eq_getElem hn]
  ·have hn:A[n.toNat]? = none:=List.getElem?_eq_none_iff.mpr (by omega)
   simp! [uq,Dz,h,h2,hn]
 ·simp! [uq,Dz,h]
theorem item_at {n:Int} {a:At} (h0:0≤n) (h:A[n.toNat]? = some a):cj (.lst (A.map atT)) (.int n)=some (atT a):=by
 have:=Hv (xs:=A.map atT) (k:=n.toNat) (t:=atT a) (by rw [List.getElem?_map,h]; rfl)
 rw [Int.toNat_of_nonneg h0] at this
 exact this
theorem Bb {n:Int} {w:Str} (h:isA A n w=true):0≤n∧A[n.toNat]? = some (sA A n)∧((sA A n).k==w)=true:=by
 unfold isA at h
 simp only [Bool.and_eq_true,decide_eq_true_eq] at h
 obtain ⟨h0,h1⟩:=h
 cases e:A[n.toNat]? with
 | none=>rw [e] at h1; cases h1
 | some a =>
  rw [e] at h1
  have:sA A n=a:=by unfold sA; rw [List.getD_eq_getElem?_getD,e]; rfl
  rw [this]
  exact ⟨h0,rfl,h1⟩
def xg (gs:List (Sm × Int)):List Pr:=gs.flatMap fun g=>g.1.2.map fun p=>(p.1,g.2 * p.2)
theorem Sx {b:Str}:∀ l r:List Pr,tot (l++r) b=tot l b+tot r b
 | [],r=>by simp [tot]
 | (k,v)::l,r=>by rw [List.cons_append,tot,tot,Sx l r]; omega
theorem Wn {t:Int} {b:Str}:∀ l:List Pr,tot (l.map fun p=>(p.1,t * p.2)) b=t * tot l b
 | []=>by simp [tot]
 | (k,v)::r=>by
  rw [List.map_cons,tot,tot,Wn r,Int.mul_add]
  by_cases e:k=b <;> simp [e]
theorem U5 {b:Str}:∀ {gs:List (Sm × Int)},(∀ g∈gs,Xp U g.1)→tot (xg gs) b=cF gs b
 | [],_=>rfl
 | g::gs,h=>by
  have ih:=U5 (b:=b) (gs:=gs) fun x hx=>h x (List.mem_cons_of_mem _ hx)
  unfold xg cF at ih ⊢
  rw [List.flatMap_cons,Sx,ih,Wn,Ql (h g List.mem_cons_self).nd,List.map_cons,List.sum_cons]
theorem Jx (u:Uni U):∀ {gs:List (Sm × Int)},(∀ g∈gs,Xp U g.1)→(xg gs).length≤8 * gs.length
 | [],_=>by simp [xg]
 | g::gs,h=>by
  have ih:=Jx u (gs:=gs) fun x hx=>h x (List.mem_cons_of_mem _ hx)
  have:=Li u (h g List.mem_cons_self)
  unfold xg at ih ⊢
  rw [List.flatMap_cons,List.length_append,List.length_map,List.length_cons]
  omega
theorem a74 {U:List Str} {l:List Pr} (u:Uni U) (h:∀ b∈ks l,b∈U):Pl 2 (.tup (l.map pT)):=a6k (n:=1) fun t ht=>by
 obtain ⟨p,hp,rfl⟩:=List.mem_map.mp ht
 refine a6k (n:=0) fun t ht=>?_
 simp only [List.mem_cons,List.not_mem_nil,or_false] at ht
 rcases ht with rfl | rfl
 ·exact a75 0 (u.ok _ (h _ (List.mem_map.mpr ⟨p,hp,rfl⟩)))
 ·exact acu 0 _
theorem eq_nil {l:List Pr} (u:Uni U) (h:∀ b∈ks l,b∈U):eqO (.tup (l.map pT)) (.tup [])=some (.bl l.isEmpty):=by
 obtain ⟨d,e1,e2⟩:=a74 u h
 have e0:dat (.tup [])=some (.tuple []):=by simp [dat,Eh]
 have h40:d.depth≤40:=by omega
 cases l with
 | nil=>simp [eqO,eqT,eqD,e0,PyData.depth,PyData.depthAll,PyData.eqv,PyData.eqvAll]
 | cons p l =>
  simp only [dat,List.map_cons,Option.map_eq_some_iff] at e1
  obtain ⟨ds,e3,rfl⟩:=e1
  cases ds with
  | nil =>
   simp only [Eh] at e3
   split at e3
   ·obtain ⟨_,_,z⟩:=Option.map_eq_some_iff.mp e3; cases z
   ·cases e3
  | cons x ds =>
   have e1:dat (.tup (pT p::l.map pT))=some (.tuple (x::ds)):=by simp only [dat,e3]; rfl
   simp [eqO,eqT,eqD,e1,e0,h40,PyData.eqv,PyData.eqvAll]
theorem a2n {a b:S} {s s':Sta} {v:T} (h:a s=some (.ret v,s')):jz a b s=some (.ret v,s'):=by unfold jz; rw [h]
theorem Uh {f g:Str→Int} (h:∀ b∈U,f b=g b):canon U f=canon U g:=by
 unfold canon
 rw [List.filter_congr (q:=fun b=>g b != 0) fun b hb=>by rw [h b hb]]
 exact List.map_congr_left fun b hb=>by rw [h b (List.mem_filter.mp hb).1]
theorem a85 {s:Sm} (u:Uni U) (h:∀ b∈ks s.2,b∈U):eqO (smT s) (.tup [.int 0,.tup []])=some (.bl ((s.1==0)&&s.2.isEmpty)):=by
 obtain ⟨n,l⟩:=s
 obtain ⟨d,e1,e2⟩:=a74 u h
 have e0:dat (.tup [.int 0,.tup []])=some (.tuple [.int 0,.tuple []]):=by simp [dat,Eh]
 simp only [dat,Option.map_eq_some_iff] at e1
 obtain ⟨ds,e3,rfl⟩:=e1
 have e4:dat (smT (n,l))=some (.tuple [.int n,.tuple ds]):=by simp only [smT,dat,Eh,e3]; rfl
 have h40:(PyData.tuple [.int n,.tuple ds]).depth≤40:=by
  simp only [PyData.depth,PyData.depthAll] at e2 ⊢
  omega
 have eE:PyData.eqvAll ds []=l.isEmpty:=by
  cases l with
  | nil=>simp only [List.map_nil,Eh] at e3; cases e3; rfl
  | cons p l =>
   cases ds with
   | nil =>
    simp only [List.map_cons,Eh] at e3
    split at e3
    ·obtain ⟨_,_,z⟩:=Option.map_eq_some_iff.mp e3; cases z
    ·cases e3
   | cons x ds=>simp [PyData.eqvAll]
 have nd:∀ b,smT (n,l)≠.dic b:=fun b z=>by cases z
 unfold eqO eqT
 simp only [smT] at e4 ⊢
 simp [eqD,e4,e0,h40,PyData.eqv,PyData.eqvAll,eE]
theorem a8z {s1 s2:Sm} (u:Uni U) (h1:Xp U s1) (h2:Xp U s2):R9 [smT s1,smT s2] sto=some (smT (s1.1+s2.1,canon U fun b=>gt s1.2 b+gt s2.2 b),sto):=by
 have l1:=Li u h1
 have l2:=Li u h2
 have lm:s1.2.length+s2.2.length<lim:=by show _<1000000; omega
 have so:=a1g (sto:=sto) (n:=s1.1+s2.1) (l:=s1.2++s2.2) (s:=.tup ((s1.2++s2.2).map pT)) u (.inr rfl) (by rw [List.length_append]; omega) (fun b hb=>by
  unfold ks at hb
  rw [List.map_append] at hb
  rcases List.mem_append.mp hb with z | z
  ·exact h1.sub b z
  ·exact h2.sub b z)
 rw [Uh (g:=fun b=>gt s1.2 b+gt s2.2 b) (fun b _=>by rw [Sx,Ql h1.nd,Ql h2.nd]),List.map_append] at so
 unfold R9
 rw [show smT s1=.tup [.int s1.1,.tup (s1.2.map pT)] from rfl,show smT s2=.tup [.int s2.1,.tup (s2.2.map pT)] from rfl]
 simp! [ju,lu,lm,so]
theorem Q6 {n o:Int} (u:Uni U) (hU:U.Nodup) (ok:∀ a∈A,Vm U a):qy [.lst (A.map atT),.int n,.int o] sto=some (.bl (isA A n "most" && (isA A o "most" && zrU U (sA A n).s (sA A o).s)),sto):=by
 have a1:=Nf (sto:=sto) (n:=n) yt ok
 have a2:=Nf (sto:=sto) (n:=o) yt ok
 cases e1:isA A n "most" with
 | false=>rw [e1] at a1; unfold qy; simp! [a1]
 | true =>
  rw [e1] at a1
  cases e2:isA A o "most" with
  | false=>rw [e2] at a2; unfold qy; simp! [a1,a2]
  | true =>
   rw [e2] at a2
   obtain ⟨n0,n1,n2⟩:=Bb e1
   obtain ⟨o0,o1,o2⟩:=Bb e2
   have pl:=a8z (sto:=sto) u (ok _ (List.mem_of_getElem? n1)).2.1 (ok _ (List.mem_of_getElem? o1)).2.1
   have ez:=a85 (s:=((sA A n).s.1+(sA A o).s.1,canon U fun b=>gt (sA A n).s.2 b+gt (sA A o).s.2 b)) u (Oa (n:=0) hU).sub
   unfold qy
   simp! [a1,a2,item_at n0 n1,item_at o0 o1,atT,lu,pl,ez,zrU]
theorem Ug {m:Int} {l:List Int} (hm:2≤m) (u:Uni U) (hU:U.Nodup) (ok:∀ a∈A,Vm U a) (hb:∀ n∈l,zx n=true):lq [.lst (A.map atT),.int m,ilT l] sto=some (.bl (yc U m A l),sto):=by
 have hm0:0<m:=by omega
 match l,hb with
 | [n,t],hb =>
  have a1:=Nf (sto:=sto) (n:=n) wj ok
  have ht:zx t=true:=hb t (by simp)
  cases e1:isA A n "rest" with
  | false=>rw [e1] at a1; unfold lq; simp! [ilT,qd,ju,lu,a1,yc,e1]
  | true =>
   rw [e1] at a1
   obtain ⟨n0,n1,n2⟩:=Bb e1
   obtain ⟨f,hf⟩:=(ok _ (List.mem_of_getElem? n1)).2.2 n2
   have ii:=item_at n0 n1
   have i2:cj (atT (sA A n)) (.int 2)=some (.int f):=by unfold atT; rw [hf]; exact Ir
   have ef:fac (sA A n)=f:=by unfold fac; rw [hf]
   by_cases h0:t=0
   ·subst h0
    unfold lq
    simp! [ilT,qd,Ao,ju,lu,a1,yc,e1]
   ·have hz:(t==0)=false:=by simpa using h0
    unfold lq
    simp! [ilT,qd,Ao,ju,lu,a1,yc,e1,hz,h0,ii,i2,Rq,ht,hm0,ef]
 | [n,o,t],hb =>
  have zp:=Q6 (sto:=sto) (n:=n) (o:=o) u hU ok
  cases e1:(isA A n "most" && (isA A o "most" && zrU U (sA A n).s (sA A o).s)) with
  | false =>
   rw [e1] at zp
   have:yc U m A [n,o,t]=false:=by
    show (isA A n "most" && (isA A o "most" && (zrU U (sA A n).s (sA A o).s&&(t != 0))))=_
    rw [show (isA A n "most" && (isA A o "most" && (zrU U (sA A n).s (sA A o).s&&(t != 0))))=((isA A n "most" && (isA A o "most" && zrU U (sA A n).s (sA A o).s))&&(t != 0)) by simp only [Bool.and_assoc],e1]; rfl
   rw [this]
   unfold lq
   simp! [ilT,qd,ju,lu,zp]
  | true =>
   rw [e1] at zp
   have:yc U m A [n,o,t]=(t != 0):=by
    show (isA A n "most" && (isA A o "most" && (zrU U (sA A n).s (sA A o).s&&(t != 0))))=_
    rw [show (isA A n "most" && (isA A o "most" && (zrU U (sA A n).s (sA A o).s&&(t != 0))))=((isA A n "most" && (isA A o "most" && zrU U (sA A n).s (sA A o).s))&&(t != 0)) by simp only [Bool.and_assoc],e1]; rfl
   rw [this]
   unfold lq
   simp! [ilT,qd,Ao,ju,lu,Ir,zp,bne]
 | [],_=>unfold lq; simp! [ilT,qd,yc]
 | [n],_=>unfold lq; simp! [ilT,qd,yc]
 | a::b::c::d::r,_ =>
  have h3:(((r.length:Int)+1+1+1+1)==3)=false:=beq_eq_false_iff_ne.mpr (by omega)
  have h2:(((r.length:Int)+1+1+1+1)==2)=false:=beq_eq_false_iff_ne.mpr (by omega)
  unfold lq
  simp! [ilT,qd,yc,h3,h2]
end
section
variable {U:List Str} {sto:List SO} {A:List At} {m:Int}
structure Bq (A:List At) (l:List Int) (n t:Int):Prop where
 fst:cj (ilT l) (.int 0)=some (.int n)
 lst:cj (ilT l) (.int (-1))=some (.int t)
 pos:0≤n
 at':A[n.toNat]? = some (sA A n)
 gv:gv A l=((sA A n).s,t)
 mem:t∈l
 nz:t≠0
theorem a67 {l:List Int} (h:yc U m A l=true):∃ n t,Bq A l n t:=by
 match l,h with
 | [n,t],h =>
  simp only [yc,Bool.and_eq_true] at h
  obtain ⟨a,b,_⟩:=Bb h.1
  exact ⟨n,t,rfl,rfl,a,b,rfl,by simp,by simpa using h.2.1⟩
 | [n,o,t],h =>
  simp only [yc,Bool.and_eq_true] at h
  obtain ⟨a,b,_⟩:=Bb h.1
  exact ⟨n,t,rfl,rfl,a,b,rfl,by simp,by simpa using h.2.2.2⟩
theorem a4x {rows:List (List Int)} (u:Uni U) (ok:∀ a∈A,Vm U a) (hr:∀ l∈rows,yc U m A l=true) (hB:∀ l∈rows,∀ n∈l,zx n=true) (hl:rows.length≤100) :
  vd [.lst (A.map atT),.lst (rows.map ilT)] sto=some (smT (cN (rows.map (gv A)),canon U (cF (rows.map (gv A)))),sto):=by
 have l1:rows.length<lim:=by show _<1000000; omega
 have allg:∀ {rs:List (List Int)},(∀ l∈rs,l∈rows)→∀ g∈rs.map (gv A),Xp U g.1:=fun {rs} hs g hg=>by
  obtain ⟨l,hl,rfl⟩:=List.mem_map.mp hg
  obtain ⟨n,t,R⟩:=a67 (hr l (hs l hl))
  rw [R.gv]
  exact (ok _ (List.mem_of_getElem? R.at')).2.1
 unfold vd
 simp! [l1]
 generalize hF:forL _ _ _ _=r
 obtain ⟨s',rfl,P⟩:=Ud hF (fun ts s=>∃ (l done:List (List Int)) (o4 o5:Slot),ts=l.map ilT∧rows=done++l∧s=⟨[some (.lst (A.map atT),false),some (.lst (rows.map ilT),false),some (.int (cN (done.map (gv A))),false),some (.lst ((xg (done.map (gv A))).map pT),true),o4,o5],sto⟩)
  ⟨rows,[],none,none,rfl,rfl,rfl⟩ (by
   rintro t r s ⟨l,done,o4,o5,e1,e2,rfl⟩
   cases l with
   | nil=>cases e1
   | cons x l =>
    cases e1
    have hx:x∈rows:=by rw [e2]; simp
    obtain ⟨n,t,R⟩:=a67 (hr x hx)
    have hb:zx t=true:=hB x hx t R.mem
    have sa:=(ok _ (List.mem_of_getElem? R.at')).2.1
    have la:=Li u sa
    have ii:=item_at R.pos R.at'
    have hg:=R.gv
    have e0:=R.fst
    have e9:=R.lst
    clear R
    generalize sA A n=a at *
    have hd:∀ l∈done,l∈rows:=fun y hy=>by rw [e2]; exact List.mem_append_left _ hy
    have lp:=Jx u (allg hd)
    have ld:(done.map (gv A)).length=done.length:=List.length_map _
    have lr:done.length≤rows.length:=by rw [e2,List.length_append]; omega
    have ls:a.s.2.length<lim:=by show _<1000000; omega
    have lt:(xg (done.map (gv A))).length+a.s.2.length<lim:=by show _<1000000; omega
    have ef:(done++[x]).map (gv A)=done.map (gv A)++[(a.s,t)]:=by rw [List.map_append,List.map_cons,List.map_nil,hg]
    refine ⟨⟨[some (.lst (A.map atT),false),some (.lst (rows.map ilT),false),some (.int (cN (done.map (gv A))),false),some (.lst ((xg (done.map (gv A))).map pT),true),some (ilT x,false),o5],sto⟩,⟨[some (.lst (A.map atT),false),some (.lst (rows.map ilT),false),some (.int (cN ((done++[x]).map (gv A))),false),some (.lst ((xg ((done++[x]).map (gv A))).map pT),true),some (ilT x,false),some (smT a.s,false)],sto⟩,rfl,?_,l,done++[x],_,_,rfl,by rw [e2]; simp,rfl⟩
    have en:cN ((done++[x]).map (gv A))=cN (done.map (gv A))+t * a.s.1:=by
     rw [ef]; unfold cN; rw [List.map_append,List.sum_append]; simp
    have ep:xg ((done++[x]).map (gv A))=xg (done.map (gv A))++a.s.2.map fun p=>(p.1,t * p.2):=by
     rw [ef]; unfold xg; rw [List.flatMap_append]; simp
    rw [en,ep]
    generalize ilT x=X at *
    simp! [e0,ii,atT,lu,e9,smT,ju,Rq,hb]
    generalize hG:pq 2 _ _ _ _ _ _=q
    have e:=wk hG pT (fun p=>pT (p.1,t * p.2)) a.s.2 ⟨[some (.lst (A.map atT),false),some (.lst (rows.map ilT),false),some (.int (cN (done.map (gv A))+t * a.s.1),false),some (.lst ((xg (done.map (gv A))).map pT),true),some (X,false),some (smT a.s,false)],sto⟩ [some (.lst (A.map atT),false),some (.lst (rows.map ilT),false),some (.int (cN (done.map (gv A))+t * a.s.1),false),some (.lst ((xg (done.map (gv A))).map pT),true),some (X,false),some (smT a.s,false)] [some (X,false)] (by first | exact rfl | simp! [smT,lu,ls]) rfl rfl rfl (Nat.le_of_lt ls) (fun p hp pre hl=>by
     match pre,hl with
     | [p0,p1],_=>exact ⟨[some (.str p.1,false),some (.int p.2,false)],rfl,by first | exact rfl | simp! [pT],rfl,by first | exact rfl | simp! [e9,Rq,hb,pT]⟩)
    subst e
    simp! [lt]
    rfl)
 obtain ⟨l,done,o4,o5,e1,e2,rfl⟩:=P
 cases l with
 | cons _ _=>cases e1
 | nil =>
  rw [List.append_nil] at e2
  subst e2
  have ag:=allg (rs:=rows) fun _ h=>h
  have lp:=Jx u ag
  have ld:(rows.map (gv A)).length=rows.length:=List.length_map _
  have so:=a1g (sto:=sto) (n:=cN (rows.map (gv A))) (l:=xg (rows.map (gv A))) u (.inl rfl) (by omega) (fun b hb=>by
   unfold ks xg at hb
   rw [List.map_flatMap] at hb
   obtain ⟨g,hg,h⟩:=List.mem_flatMap.mp hb
   refine (ag g hg).sub b ?_
   unfold ks
   simpa using h)
  simp! [so]
  rw [show tot (xg (rows.map (gv A)))=cF (rows.map (gv A)) from funext fun b=>U5 ag]
theorem a4g {m:Int} {s:Sm} {o0 o1 o2:Slot} (hm:0<m) (hl:s.2.length≤100):gk a05 (ao (pq 2 [1] (Cw [0,1]) (yd (mOp cj (bx 3) (au (.int 1)))) zy (mOp eqO (mOp Al (bx 1) (bx 2)) (au (.int 0)))) dw) ⟨[o0,some (.int m,false),o2,some (smT s,false)],sto⟩
  = some (.bl (s.2.all fun p=>p.2%m==0),⟨[o0,some (.int m,false),o2,some (smT s,false)],sto⟩):=by
 have l1:s.2.length<lim:=by show _<1000000; omega
 have co:pq 2 [1] (Cw [0,1]) (yd (mOp cj (bx 3) (au (.int 1)))) zy (mOp eqO (mOp Al (bx 1) (bx 2)) (au (.int 0))) ⟨[o0,some (.int m,false),o2,some (smT s,false)],sto⟩=some (.lst (s.2.map fun p=>T.bl (p.2%m==0)),⟨[o0,some (.int m,false),o2,some (smT s,false)],sto⟩):=by
  generalize hF:pq 2 _ _ _ _ _ _=q
  exact wk hF pT (fun p=>T.bl (p.2%m==0)) s.2 ⟨[o0,some (.int m,false),o2,some (smT s,false)],sto⟩ [o0,some (.int m,false),o2,some (smT s,false)] [some (.int m,false)] (by unfold smT; simp! [lu,l1]) rfl rfl rfl (Nat.le_of_lt l1) (fun p hp pre hq=>by
   match pre,hq with
   | [p0,p1],_=>exact ⟨[some (.str p.1,false),some (.int p.2,false)],rfl,by first | exact rfl | simp! [pT],rfl,by simp! [hm,qd]⟩)
 have ha:=all_map (fun p:Pr=>p.2%m==0) s.2
 simp! [co,ha]
theorem a8n {rows:List (List Int)} (u:Uni U) (hU:U.Nodup) (ok:∀ a∈A,Vm U a) (hb:∀ l∈rows,∀ n∈l,zx n=true) (hl:rows.length≤100) :
  Bv [.lst (A.map atT),.int m,.lst (rows.map ilT)] sto=some (.bl (Ac U A m rows),sto):=by
 have l1:rows.length<lim:=by show _<1000000; omega
 by_cases hm:m<2
 ·have:decide (2≤m)=false:=by simp; omega
  unfold Bv
  simp! [hm,Ac,this]
 ·have hd:decide (2≤m)=true:=by simp; omega
  have hm2:2≤m:=by omega
  have hm0:0<m:=by omega
  have co:pq 1 [0,1] (hName 0) (yd (bx 2)) zy (iy lq (ao (bx 1) (ao (bx 2) (ao (bx 0) dw)))) ⟨[some (.lst (A.map atT),false),some (.int m,false),some (.lst (rows.map ilT),false),none],sto⟩=some (.lst (rows.map fun l=>T.bl (yc U m A l)),⟨[some (.lst (A.map atT),false),some (.int m,false),some (.lst (rows.map ilT),false),none],sto⟩):=by
   generalize hF:pq 1 _ _ _ _ _ _=q
   exact wk hF ilT (fun l=>T.bl (yc U m A l)) rows ⟨[some (.lst (A.map atT),false),some (.int m,false),some (.lst (rows.map ilT),false),none],sto⟩ [some (.lst (A.map atT),false),some (.int m,false),some (.lst (rows.map ilT),false),none] [some (.lst (A.map atT),false),some (.int m,false)] (by first | exact rfl | simp! [l1]) rfl rfl rfl (Nat.le_of_lt l1) (fun l hl' pre hp=>by
    have:=Ug (sto:=sto) (l:=l) hm2 u hU ok (hb l hl')
    match pre,hp with
    | [p0],_=>exact ⟨[some (ilT l,false)],rfl,by first | exact rfl | simp! [],rfl,by first | exact rfl | simp! [this]⟩)
  have ha:=all_map (fun l=>yc U m A l) rows
  unfold Bv qp
  rw [show ([T.lst (A.map atT),T.int m,T.lst (rows.map ilT)].map (fun t=>some (t,false))++List.replicate (4 - [T.lst (A.map atT),T.int m,T.lst (rows.map ilT)].length) none:List Slot)=[some (.lst (A.map atT),false),some (.int m,false),some (.lst (rows.map ilT),false),none] from rfl]
  by_cases h:(rows.all fun l=>yc U m A l)=true
  ·rw [h] at ha
   have ad:=a4x (sto:=sto) u ok (List.all_eq_true.mp h) hb hl
   have h':rows.all (yc U m A)=true:=h
   generalize hS:((cN (rows.map (gv A)),canon U (cF (rows.map (gv A)))):Sm)=S at ad
   have sl:S.2.length≤100:=by
    have:=Li u (Oa (n:=cN (rows.map (gv A))) (f:=cF (rows.map (gv A))) hU)
    rw [hS] at this
    omega
   rw [o9 (s':=⟨[some (.lst (A.map atT),false),some (.int m,false),some (.lst (rows.map ilT),false),none],sto⟩) (by simp! [hm,co,ha])]
   rw [o9 (s':=⟨[some (.lst (A.map atT),false),some (.int m,false),some (.lst (rows.map ilT),false),some (smT S,false)],sto⟩) (by first | exact rfl | simp! [ad])]
   have ar:=a4g (s:=S) (sto:=sto) (o0:=some (.lst (A.map atT),false)) (o1:=none) (o2:=some (.lst (rows.map ilT),false)) hm0 sl
   have isr:Ac U A m rows=ad5 m S:=by unfold Ac; rw [hd,h',hS]; rfl
   rw [isr]
   unfold ad5
   have i0:cj (smT S) (.int 0)=some (.int S.1):=ju
   generalize hM:gk a05 _=MM at ar ⊢
   by_cases hz:S.1%m=0
   ·have e1:(S.1%m==0)=true:=by simpa using hz
    simp! [i0,hm0,Ao,e1,hz]
   ·have e1:(S.1%m==0)=false:=by simpa using hz
    have e2:(S.1%m != 0)=true:=by simpa using hz
    simp! [i0,hm0,Ao,e1,e2,ar]
  ·have hf:(rows.all fun l=>yc U m A l)=false:=by simpa using h
   have hf':rows.all (yc U m A)=false:=hf
   rw [hf] at ha
   simp! [hm,co,ha,Ac,hf',hd]
end
abbrev Bd:=Str × Int × Int
def bdT (r:Bd):T:=.tup [.str r.1,.int r.2.1,.int r.2.2]
def aL (b:Str) (n:Int):At:=⟨"most",(n,[(b,-1)]),[]⟩
def aM (b:Str) (n:Int):At:=⟨"most",(-n,[(b,1)]),[]⟩
def bounds (bs:List Bd):List At:=bs.flatMap fun r=>[aL r.1 r.2.1,aM r.1 r.2.2]
section
variable {U:List Str} {sto:List SO} {A:List At}
theorem Xd {i j k:Nat} {x y z:T} {s:Sta}:Cw [i,j,k] (.tup [x,y,z]) s=some (jo k z false (jo j y false (jo i x false s))):=by simp [Cw]
theorem Vg {b:Str} {n:Int}:yr [.str b,.int n] sto=some (atT (aL b n),sto):=by first | exact rfl | simp! [yr,atT,aL,smT,pT]
theorem a2a {b:Str} {n:Int}:Aw [.str b,.int n] sto=some (atT (aM b n),sto):=by first | exact rfl | simp! [Aw,atT,aM,smT,pT]
theorem Bp (bs:List Bd):(bounds bs).length=2 * bs.length:=by
 unfold bounds
 induction bs with
 | nil=>rfl
 | cons a l ih=>rw [List.flatMap_cons,List.length_append,ih]; simp; omega
theorem a1w {bs:List Bd} (h:∀ r∈bs,r.1∈U):∀ a∈bounds bs,Vm U a:=fun a ha=>by
 obtain ⟨r,hr,e⟩:=List.mem_flatMap.mp ha
 simp only [List.mem_cons,List.not_mem_nil,or_false] at e
 rcases e with rfl | rfl
 ·exact ⟨yt,⟨by simp [aL,ks],fun b hb=>by simp [aL,ks] at hb; rw [hb]; exact h r hr⟩,fun z=>by exact absurd z (by show ¬ (("most" : Str)==("rest" : Str))=true; decide)⟩
 ·exact ⟨yt,⟨by simp [aM,ks],fun b hb=>by simp [aM,ks] at hb; rw [hb]; exact h r hr⟩,fun z=>by exact absurd z (by show ¬ (("most" : Str)==("rest" : Str))=true; decide)⟩
theorem Wx (l:List Bd) (r:Bd):bounds (l++[r])=bounds l++[aL r.1 r.2.1,aM r.1 r.2.2]:=by
 unfold bounds; rw [List.flatMap_append]; simp
theorem T8 {bs:List Bd} (hl:bs.length≤100):wz [.lst (bs.map bdT)] sto=some (.tup [.lst ((bounds bs).map atT),.lst []],sto):=by
 have l1:bs.length<lim:=by show _<1000000; omega
 unfold wz
 simp! [l1]
 generalize hF:forL _ _ _ _=r
 obtain ⟨s',rfl,P⟩:=Ud hF (fun ts s=>∃ (l done:List Bd) (o2 o3 o4:Slot),ts=l.map bdT∧bs=done++l∧s=⟨[some (.lst (bs.map bdT),false),some (.lst ((bounds done).map atT),true),o2,o3,o4],sto⟩)
  ⟨bs,[],none,none,none,rfl,rfl,rfl⟩ (by
   rintro t r s ⟨l,done,o2,o3,o4,e1,e2,rfl⟩
   cases l with
   | nil=>cases e1
   | cons x l =>
    cases e1
    have ld:done.length+l.length+1=bs.length:=by rw [e2]; simp; omega
    have hd:=Bp done
    have lt:(bounds done).length<lim:=by show _<1000000; omega
    have lt1:(bounds done).length+1<lim:=by show _<1000000; omega
    refine ⟨⟨[some (.lst (bs.map bdT),false),some (.lst ((bounds done).map atT),true),some (.str x.1,false),some (.int x.2.1,false),some (.int x.2.2,false)],sto⟩,⟨[some (.lst (bs.map bdT),false),some (.lst ((bounds (done++[x])).map atT),true),some (.str x.1,false),some (.int x.2.1,false),some (.int x.2.2,false)],sto⟩,by rw [bdT,Xd]; rfl,?_,l,done++[x],_,_,_,rfl,by rw [e2]; simp,rfl⟩
    rw [Wx]
    simp! [Vg,a2a,lt,lt1])
 obtain ⟨l,done,o2,o3,o4,e1,e2,rfl⟩:=P
 cases l with
 | cons _ _=>cases e1
 | nil =>
  rw [List.append_nil] at e2
  subst e2
  simp! []
def PR (x:T × List Int):Prop:=∀ sto:List SO,yj [x.1] sto=some (ilT x.2,sto)
theorem ae7 {r:Rw} (h:r.length≤100):PR (rwT r,pr r):=fun sto=>Qj (by omega)
theorem Us {xs:List (T × List Int)} (hl:xs.length≤100) (h:∀ x∈xs,PR x):ql [.tup (xs.map (·.1))] sto=some (.lst ((xs.map (·.2)).map ilT),sto):=by
 have l1:xs.length<lim:=by show _<1000000; omega
 unfold ql
 simp! []
 generalize hF:pq 1 _ _ _ _ _ _=q
 have e:=wk hF (fun x:T × List Int=>x.1) (fun x=>ilT x.2) xs ⟨[some (.tup (xs.map (·.1)),false)],sto⟩ [some (.tup (xs.map (·.1)),false)] [] (by first | exact rfl | simp! [qe,l1]) rfl rfl rfl (Nat.le_of_lt l1) (fun x hx pre hp=>by
  have:=h x hx sto
  match pre,hp with
  | [p0],_=>exact ⟨[some (x.1,false)],rfl,by first | exact rfl | simp! [],rfl,by first | exact rfl | simp! [this]⟩)
 subst e
 simp
def leaf (xs:List (T × List Int)) (P:T):Prop:=P=.tup (xs.map (·.1))∨(∃ l,P=.lst l)∧xs=[]
theorem Qk {xs:List (T × List Int)} {P:T} (h:leaf xs P) (hl:xs.length≤100) (h2:∀ x∈xs,PR x):ql [P] sto=some (.lst ((xs.map (·.2)).map ilT),sto):=by
 rcases h with rfl | ⟨⟨l,rfl⟩,rfl⟩
 ·exact Us hl h2
 ·have pt:lg [.lst l] sto=some (.tup [],sto):=by first | exact rfl | simp! [lg,isTup]
  unfold ql
  simp! []
  generalize hF:pq 1 _ _ _ _ _ _=q
  have e:=wk hF rwT (fun r=>ilT (pr r)) [] ⟨[some (.lst l,false)],sto⟩ [some (.lst l,false)] [] (by first | exact rfl | simp! [pt,lim]) rfl rfl rfl (by simp) (fun r hr' pre hp=>by cases hr')
  subst e
  simp
def restV (U:List Str) (A:List At) (c:Cl) (rows:List (List Int)):Bool:=match c with
 | .i m=>Ac U A m rows
 | .b _=>false
theorem O9 {c:Cl} {xs:List (T × List Int)} {P N O:T} (u:Uni U) (hU:U.Nodup) (ok:∀ a∈A,Vm U a) (h:leaf xs P) (hb:∀ x∈xs,∀ n∈x.2,zx n=true) (hl:xs.length≤100) (h2:∀ x∈xs,PR x) :
  gj [N,.tup [.lst (A.map atT),O],.tup [.str "rest",clT c,P]] sto=some (if restV U A c (xs.map (·.2)) then .lst [] else .non,sto):=by
 have ro:eqO (.str "rest") (.str "or")=some (.bl false):=by
  have:=Ae wj Dv
  rw [show (("rest" : Str)==("or" : Str))=false by decide +kernel] at this; exact this
 have k1:je [.tup [.str "rest",clT c,P],.str "or",.int 3] sto=some (.bl false,sto):=by simp! [je,qd,isStr,ju,ro]
 have k2:je [.tup [.str "rest",clT c,P],.str "cut",.int 5] sto=some (.bl false,sto):=by first | exact rfl | simp! [je,qd]
 have k3:je [.tup [.str "rest",clT c,P],.str "sum",.int 2] sto=some (.bl false,sto):=by first | exact rfl | simp! [je,qd]
 have k4:je [.tup [.str "rest",clT c,P],.str "rest",.int 3] sto=some (.bl true,sto):=by
  have e:=Ae wj wj
  rw [beq_self_eq_true] at e
  simp! [je,qd,isStr,ju,e]
 have wh:=N8 (sto:=sto) (c:=c)
 have lr:=Qk (sto:=sto) h hl h2
 cases c with
 | b k =>
  simp only [clT,isI] at wh k1 k2 k3 k4 ⊢
  unfold restV
  simp! [gj,qe,k1,k2,k3,k4,ju,lu,wh]
 | i m =>
  have is:=a8n (sto:=sto) (m:=m) (rows:=xs.map (·.2)) u hU ok (fun l hl' n hn=>by
   obtain ⟨x,hx,rfl⟩:=List.mem_map.mp hl'
   exact hb x hx n hn) (by simpa using hl)
  simp only [clT,isI] at wh k1 k2 k3 k4 ⊢
  unfold restV
  rw [List.map_map] at lr is
  cases hs:Ac U A m (xs.map (·.2)) with
  | true =>
   rw [hs] at is
   simp! [gj,qe,k1,k2,k3,k4,ju,lu,Ir,wh,Vv,lr,is,hs]
  | false =>
   rw [hs] at is
   simp! [gj,qe,k1,k2,k3,k4,ju,lu,Ir,wh,Vv,lr,is,hs]
structure ag8 (U:List Str) (bs:List Bd) (A2:List At):Prop where
 bd:∀ r∈bs,r.1∈U
 bl:bs.length≤10
 ok:∀ a∈A2,Vm U a
 kd:∀ a∈A2,okA a.k
 len:A2.length≤100
theorem ag8.all {bs:List Bd} {A2:List At} (h:ag8 U bs A2):∀ a∈bounds bs++A2,Vm U a:=fun a ha=>by
 rcases List.mem_append.mp ha with ha | ha -- here
 ·exact a1w h.bd a ha
 ·exact h.ok a ha
end
def look (A:List At):List Int→Option (Sm × Int)
 | [n,t]=>if 0≤n∧0<t then (match A[n.toNat]? with
  | some a=>if a.k==("most" : Str) then some (a.s,t) else none
  | none=>none) else none
 | _=>none
def fin (s:Sm):Bool:=s.2.isEmpty&&decide (0<s.1)
def G8 (U:List Str) (A:List At) (rows:List (List Int)):Bool:=rows.all (fun l=>(look A l).isSome)&&fin (cN (rows.filterMap (look A)),canon U (cF (rows.filterMap (look A))))
section
variable {U:List Str} {sto:List SO} {A:List At} {N L:T}
theorem Xg {l:List Int} (ok:∀ a∈A,Vm U a):mj [.lst (A.map atT),ilT l] sto=some (.bl (look A l).isSome,sto):=by
 match l with
 | [n,t] =>
  have ia:=Nf (sto:=sto) (n:=n) yt ok
  unfold isA at ia
  by_cases h:0≤n
  ·cases hA:A[n.toNat]? with
   | none =>
    rw [hA] at ia
    simp! [mj,ilT,qd,ju,lu,ia,h,look,hA]
   | some a =>
    rw [hA] at ia
    dsimp only at ia
    by_cases hk:(a.k==("most" : Str))=true
    ·rw [hk] at ia
     by_cases ht:0<t
     ·simp! [mj,ilT,qd,ju,lu,ia,h,look,hA,hk,gtT,ht]
     ·simp! [mj,ilT,qd,ju,lu,ia,h,look,hA,hk,gtT,ht]
    ·have hf:(a.k==("most" : Str))=false:=by simpa using hk
     rw [hf] at ia
     simp! [mj,ilT,qd,ju,lu,ia,h,look,hA,hf]
  ·simp! [mj,ilT,qd,ju,lu,ia,h,look]
 | []=>simp! [mj,ilT,qd,look]
 | [n]=>simp! [mj,ilT,qd,look]
 | a::b::c::r =>
  have hb:(((r.length:Int)+1+1+1)==2)=false:=beq_eq_false_iff_ne.mpr (by omega)
  simp! [mj,ilT,qd,look,hb]
theorem Gg {l:List Int} {g:Sm × Int} (h:look A l=some g):∃ n t a,l=[n,t]∧0≤n∧0<t∧A[n.toNat]? = some a∧(a.k==("most" : Str))=true∧g=(a.s,t):=by
 match l,h with
 | [n,t],h =>
  by_cases hc:0≤n∧0<t
  ·cases hA:A[n.toNat]? with
   | none=>simp [look,hA] at h
   | some a =>
    by_cases hk:(a.k==("most" : Str))=true
    ·simp only [look,hA,hk,hc.1,hc.2,and_self,if_true,Option.some.injEq] at h
     exact ⟨n,t,a,rfl,hc.1,hc.2,hA,hk,h.symm⟩
    ·simp [look,hA,hk] at h
  ·simp [look,hc] at h
def a7a (A:List At) (rows:List (List Int)):Prop:=∀ l∈rows,∃ g,look A l=some g∧zx g.2=true
theorem item_last {n t:Int}:cj (ilT [n,t]) (.int (-1))=some (.int t):=rfl
theorem Wr {n t:Int}:cj (ilT [n,t]) (.int 0)=some (.int n):=rfl
theorem Yq {rows:List (List Int)} (u:Uni U) (ok:∀ a∈A,Vm U a) (hr:a7a A rows) (hl:rows.length≤100) :
  vd [.lst (A.map atT),.lst (rows.map ilT)] sto=some (smT (cN (rows.filterMap (look A)),canon U (cF (rows.filterMap (look A)))),sto):=by
 have l1:rows.length<lim:=by show _<1000000; omega
 have allg:∀ {rs:List (List Int)},(∀ l∈rs,l∈rows)→∀ g∈rs.filterMap (look A),Xp U g.1:=fun {rs} hs g hg=>by
  obtain ⟨l,hl,e⟩:=List.mem_filterMap.mp hg
  obtain ⟨n,t,a,_,_,_,ha,_,rfl⟩:=Gg e
  exact (ok a (List.mem_of_getElem? ha)).2.1
 unfold vd
 simp! [l1]
 generalize hF:forL _ _ _ _=r
 obtain ⟨s',rfl,P⟩:=Ud hF (fun ts s=>∃ (l done:List (List Int)) (o4 o5:Slot),ts=l.map ilT∧rows=done++l∧s=⟨[some (.lst (A.map atT),false),some (.lst (rows.map ilT),false),some (.int (cN (done.filterMap (look A))),false),some (.lst ((xg (done.filterMap (look A))).map pT),true),o4,o5],sto⟩)
  ⟨rows,[],none,none,rfl,rfl,rfl⟩ (by
   rintro t r s ⟨l,done,o4,o5,e1,e2,rfl⟩
   cases l with
   | nil=>cases e1
   | cons x l =>
    cases e1
    obtain ⟨g,hg,hb⟩:=hr x (by rw [e2]; simp)
    obtain ⟨n,t,a,rfl,h0,h1,ha,hk,rfl⟩:=Gg hg
    have hb:zx t=true:=hb
    have sa:=(ok a (List.mem_of_getElem? ha)).2.1
    have la:=Li u sa
    have ii:=item_at h0 ha
    have hd:∀ l∈done,l∈rows:=fun y hy=>by rw [e2]; exact List.mem_append_left _ hy
    have lp:=Jx u (allg hd)
    have ld:(done.filterMap (look A)).length≤done.length:=List.length_filterMap_le _ _
    have lr:done.length≤rows.length:=by rw [e2,List.length_append]; omega
    have ls:a.s.2.length<lim:=by show _<1000000; omega
    have lt:(xg (done.filterMap (look A))).length+a.s.2.length<lim:=by show _<1000000; omega
    have ef:(done++[[n,t]]).filterMap (look A)=done.filterMap (look A)++[(a.s,t)]:=by rw [List.filterMap_append]; simp [hg]
    refine ⟨⟨[some (.lst (A.map atT),false),some (.lst (rows.map ilT),false),some (.int (cN (done.filterMap (look A))),false),some (.lst ((xg (done.filterMap (look A))).map pT),true),some (ilT [n,t],false),o5],sto⟩,⟨[some (.lst (A.map atT),false),some (.lst (rows.map ilT),false),some (.int (cN ((done++[[n,t]]).filterMap (look A))),false),some (.lst ((xg ((done++[[n,t]]).filterMap (look A))).map pT),true),some (ilT [n,t],false),some (smT a.s,false)],sto⟩,rfl,?_,l,done++[[n,t]],_,_,rfl,by rw [e2]; simp,rfl⟩
    have en:cN ((done++[[n,t]]).filterMap (look A))=cN (done.filterMap (look A))+t * a.s.1:=by
     rw [ef]; unfold cN; rw [List.map_append,List.sum_append]; simp
    have ep:xg ((done++[[n,t]]).filterMap (look A))=xg (done.filterMap (look A))++a.s.2.map fun p=>(p.1,t * p.2):=by
     rw [ef]; unfold xg; rw [List.flatMap_append]; simp
    rw [en,ep]
    simp! [Wr,ii,atT,lu,item_last,smT,ju,Rq,hb]
    generalize hG:pq 2 _ _ _ _ _ _=q
    have e:=wk hG pT (fun p=>pT (p.1,t * p.2)) a.s.2 ⟨[some (.lst (A.map atT),false),some (.lst (rows.map ilT),false),some (.int (cN (done.filterMap (look A))+t * a.s.1),false),some (.lst ((xg (done.filterMap (look A))).map pT),true),some (ilT [n,t],false),some (smT a.s,false)],sto⟩ [some (.lst (A.map atT),false),some (.lst (rows.map ilT),false),some (.int (cN (done.filterMap (look A))+t * a.s.1),false),some (.lst ((xg (done.filterMap (look A))).map pT),true),some (ilT [n,t],false),some (smT a.s,false)] [some (ilT [n,t],false)] (by first | exact rfl | simp! [smT,lu,ls]) rfl rfl rfl (Nat.le_of_lt ls) (fun p hp pre hl=>by
     match pre,hl with
     | [p0,p1],_=>exact ⟨[some (.str p.1,false),some (.int p.2,false)],rfl,by first | exact rfl | simp! [pT],rfl,by first | exact rfl | simp! [item_last,Rq,hb,pT]⟩)
    subst e
    simp! [lt]
    rfl)
 obtain ⟨l,done,o4,o5,e1,e2,rfl⟩:=P
 cases l with
 | cons _ _=>cases e1
 | nil =>
  rw [List.append_nil] at e2
  subst e2
  have ag:=allg (rs:=rows) fun _ h=>h
  have lp:=Jx u ag
  have ld:(rows.filterMap (look A)).length≤rows.length:=List.length_filterMap_le _ _
  have so:=a1g (sto:=sto) (n:=cN (rows.filterMap (look A))) (l:=xg (rows.filterMap (look A))) u (.inl rfl) (by omega) (fun b hb=>by
   unfold ks xg at hb
   rw [List.map_flatMap] at hb
   obtain ⟨g,hg,h⟩:=List.mem_flatMap.mp hb
   refine (ag g hg).sub b ?_
   unfold ks
   simpa using h)
  simp! [so]
  rw [show tot (xg (rows.filterMap (look A)))=cF (rows.filterMap (look A)) from funext fun b=>U5 ag]
theorem a8v {s:Sm} {T1 T2:Prop} (u:Uni U) (h:Xp U s) {env:List Slot} {i:Nat} (hi:env[i]? = some (some (smT s,false))) :
  Ad (Ba (gb (mOp eqO (mOp cj (bx i) (au (.int 1))) (gk (fun l=>some (.tup l)) dw))) (gb (mOp gtT (mOp cj (bx i) (au (.int 0))) (au (.int 0))))) ⟨env,sto⟩=some (.bl (fin s),⟨env,sto⟩):=by
 have en:=eq_nil u h.sub
 cases hs:s.2.isEmpty with
 | true =>
  rw [hs] at en
  simp! [hi,smT,lu,ju,en,gtT,fin,hs]
 | false =>
  rw [hs] at en
  simp! [hi,smT,lu,en,fin,hs]
theorem ab4 {rows:List (List Int)} (u:Uni U) (hU:U.Nodup) (ok:∀ a∈A,Vm U a) (hb:∀ l∈rows,∀ n∈l,zx n=true) (hl:rows.length≤100) :
  G5 [.lst (A.map atT),.lst (rows.map ilT)] sto=some (.bl (G8 U A rows),sto):=by
 have l1:rows.length<lim:=by show _<1000000; omega
 have co:pq 1 [0] (hName 0) (yd (bx 1)) zy (iy mj (ao (bx 1) (ao (bx 0) dw))) ⟨[some (.lst (A.map atT),false),some (.lst (rows.map ilT),false),none],sto⟩=some (.lst (rows.map fun l=>T.bl (look A l).isSome),⟨[some (.lst (A.map atT),false),some (.lst (rows.map ilT),false),none],sto⟩):=by
  generalize hF:pq 1 _ _ _ _ _ _=q
  exact wk hF ilT (fun l=>T.bl (look A l).isSome) rows ⟨[some (.lst (A.map atT),false),some (.lst (rows.map ilT),false),none],sto⟩ [some (.lst (A.map atT),false),some (.lst (rows.map ilT),false),none] [some (.lst (A.map atT),false)] (by first | exact rfl | simp! [l1]) rfl rfl rfl (Nat.le_of_lt l1) (fun l hl' pre hp=>by
   have:=Xg (sto:=sto) (l:=l) ok
   match pre,hp with
   | [p0],_=>exact ⟨[some (ilT l,false)],rfl,by first | exact rfl | simp! [],rfl,by first | exact rfl | simp! [this]⟩)
 have ha:=all_map (fun l=>(look A l).isSome) rows
 unfold G5 qp
 rw [show ([T.lst (A.map atT),T.lst (rows.map ilT)].map (fun t=>some (t,false))++List.replicate (3 - [T.lst (A.map atT),T.lst (rows.map ilT)].length) none:List Slot)=[some (.lst (A.map atT),false),some (.lst (rows.map ilT),false),none] from rfl]
 by_cases h:(rows.all fun l=>(look A l).isSome)=true
 ·rw [h] at ha
  have hr:a7a A rows:=fun l hl'=>by
   have:=List.all_eq_true.mp h l hl'
   obtain ⟨g,hg⟩:=Option.isSome_iff_exists.mp this
   obtain ⟨n,t,a,rfl,h0,h1,h2,h3,rfl⟩:=Gg hg
   exact ⟨_,hg,hb _ hl' t (by simp)⟩
  have ad:=Yq (sto:=sto) u ok hr hl
  rw [o9 (s':=⟨[some (.lst (A.map atT),false),some (.lst (rows.map ilT),false),none],sto⟩) (by first | exact rfl | simp! [co,ha])]
  rw [o9 (s':=⟨[some (.lst (A.map atT),false),some (.lst (rows.map ilT),false),some (smT (cN (rows.filterMap (look A)),canon U (cF (rows.filterMap (look A)))),false)],sto⟩) (by first | exact rfl | simp! [ad])]
  simp only [rm]
  rw [a8v (T1:=True) (T2:=True) (s:=(cN (rows.filterMap (look A)),canon U (cF (rows.filterMap (look A))))) u (Oa hU) rfl]
  simp [G8,h]
 ·have hf:(rows.all fun l=>(look A l).isSome)=false:=by simpa using h
  rw [hf] at ha
  simp! [co,ha,G8,hf]
end
section
variable {U:List Str} {sto:List SO} {A:List At} {N L:T}
theorem a1u:okS "sum" := by unfold okS; decide +kernel
theorem Cy:okS "cut" := by unfold okS; decide +kernel
theorem eqW {a b:Str} {c:Bool} (h:(PyData.canLay0 (.str a)&&PyData.canLay0 (.str b)&&((a==b)==c))=true):eqO (.str a) (.str b)=some (.bl c):=by
 simp only [Bool.and_eq_true,beq_iff_eq] at h
 rw [Ae h.1.1 h.1.2,h.2]
theorem kind_len {l:List T} {k:Str} {n:Int} (h:((l.length:Int)==n)=false):je [.tup l,.str k,.int n] sto=some (.bl false,sto):=by
 unfold je
 simp! [qd,h]
theorem Nq {w k:Str} {r:List T} {n:Int} {c:Bool} (h:(((r.length:Int)+1)==n)=true) (e:eqO (.str w) (.str k)=some (.bl c)):je [.tup (.str w::r),.str k,.int n] sto=some (.bl c,sto):=by
 unfold je
 simp! [qd,h,isStr,ju,e]
theorem Qy {n:Int}:ud [.int n] sto=some (.bl true,sto):=N8 (c:=.i n)
theorem a7s:eqO (.str "or") (.str "or")=some (.bl true):=eqW (by decide +kernel)
theorem Y9:eqO (.str "sum") (.str "sum")=some (.bl true):=eqW (by decide +kernel)
theorem Zh:eqO (.str "cut") (.str "cut")=some (.bl true):=eqW (by decide +kernel)
theorem pw_sum {xs:List (T × List Int)} {P O:T} (u:Uni U) (hU:U.Nodup) (ok:∀ a∈A,Vm U a) (h:leaf xs P) (hb:∀ x∈xs,∀ n∈x.2,zx n=true) (hl:xs.length≤100) (h2:∀ x∈xs,PR x) :
  gj [N,.tup [.lst (A.map atT),O],.tup [.str "sum",P]] sto=some (if G8 U A (xs.map (·.2)) then .lst [] else .non,sto):=by
 have k1:je [.tup [.str "sum",P],.str "or",.int 3] sto=some (.bl false,sto):=kind_len (by simp)
 have k2:je [.tup [.str "sum",P],.str "cut",.int 5] sto=some (.bl false,sto):=kind_len (by simp)
 have k3:je [.tup [.str "sum",P],.str "sum",.int 2] sto=some (.bl true,sto):=Nq (by simp) Y9
 have k4:je [.tup [.str "sum",P],.str "rest",.int 3] sto=some (.bl false,sto):=kind_len (by simp)
 have lr:=Qk (sto:=sto) h hl h2
 have is:=ab4 (sto:=sto) (rows:=xs.map (·.2)) u hU ok (fun l hl' n hn=>by
  obtain ⟨x,hx,rfl⟩:=List.mem_map.mp hl'
  exact hb x hx n hn) (by simpa using hl)
 rw [List.map_map] at lr is
 cases hs:G8 U A (xs.map (·.2)) with
 | true =>
  rw [hs] at is
  simp! [gj,qe,k1,k2,k3,ju,lu,lr,is,hs]
 | false =>
  rw [hs] at is
  simp! [gj,qe,k1,k2,k3,k4,ju,lu,lr,is,hs]
theorem pw_or {n:Int} {b r:T} (h:ni [L,.int n,b] sto=some (r,sto)):gj [N,L,.tup [.str "or",.int n,b]] sto=some (r,sto):=by
 have k1:je [.tup [.str "or",.int n,b],.str "or",.int 3] sto=some (.bl true,sto):=Nq (by simp) a7s
 unfold gj
 simp! [qe,k1,lu,Ir,Qy,Vv,h]
theorem a3i {n:Int} {b X:T} {O:List (List T)} (h:(decide (0≤n)&&decide (n<O.length))=false):ni [.tup [X,.lst (O.map T.tup)],.int n,b] sto=some (.non,sto):=by
 have ip:=Dz (sto:=sto) (f:=T.tup) (n:=n) (l:=O)
 rw [h] at ip
 unfold ni
 simp! [lu,ip]
theorem sl3 {a b c d e:T} {s:Sta} {i:Nat} (h:bx i s=some (.tup [a,b,c,d,e],s)):qu (bx i) (wg (au (.int 3))) Az s=some (.tup [d,e],s):=by
 unfold qu
 rw [h]
 rfl
theorem pw_cut {a c d r:T} {k:Int} (h:tu [N,L,a,.int k,.tup [c,d]] sto=some (r,sto)):gj [N,L,.tup [.str "cut",a,.int k,c,d]] sto=some (r,sto):=by
 have k1:je [.tup [.str "cut",a,.int k,c,d],.str "or",.int 3] sto=some (.bl false,sto):=kind_len (by simp)
 have k2:je [.tup [.str "cut",a,.int k,c,d],.str "cut",.int 5] sto=some (.bl true,sto):=Nq (by simp) Zh
 have s3:=sl3 (a:=.str "cut") (b:=a) (c:=.int k) (d:=c) (e:=d) (i:=3) (s:=⟨[some (N,false),some (L,false),some (.tup [.str "cut",a,.int k,c,d],false),some (.tup [.str "cut",a,.int k,c,d],false)],sto⟩) rfl
 unfold gj
 simp! [qe,k1,k2,lu,Ir,Qy,Vv,s3,h]
theorem Zd {ns:List Str} {a:T} {q:Str→Bool} {k:Int} {P:T} {o5 o6 o7:Slot} (hl:ns.length≤100)
  (hq:∀ x∈ns,(Ba (gb (gk isStr (ao (bx 1) dw))) (gb (mOp eqO (bx 0) (bx 1)))) ⟨[some (.str x,false),some (a,false)],sto⟩=some (q x,⟨[some (.str x,false),some (a,false)],sto⟩)) :
  pq 1 [2] (hName 0) (yd (bx 0)) (Ba (gb (gk isStr (ao (bx 1) dw))) (gb (mOp eqO (bx 0) (bx 1)))) (bx 0) ⟨[some (.lst (ns.map T.str),false),some (L,false),some (a,false),some (.int k,false),some (P,false),o5,o6,o7],sto⟩
   = some (.lst ((ns.filter q).map T.str),⟨[some (.lst (ns.map T.str),false),some (L,false),some (a,false),some (.int k,false),some (P,false),o5,o6,o7],sto⟩):=by
 have lm:ns.length<lim:=by show _<1000000; omega
 generalize hF:pq 1 _ _ _ _ _ _=res
 exact Gb hF T.str T.str q ns ⟨[some (.lst (ns.map T.str),false),some (L,false),some (a,false),some (.int k,false),some (P,false),o5,o6,o7],sto⟩ _ [some (a,false)] (by simp! [lm]) rfl rfl rfl (Nat.le_of_lt lm) (fun x hx pre hp=>by
  match pre,hp with
  | [p0],_=>exact ⟨[some (.str x,false)],rfl,rfl,hq x hx,fun _=>rfl⟩)
theorem cut_str {x a:Str} (hx:okS x) (ha:okS a):(Ba (gb (gk isStr (ao (bx 1) dw))) (gb (mOp eqO (bx 0) (bx 1)))) ⟨[some (.str x,false),some (.str a,false)],sto⟩=some (x==a,⟨[some (.str x,false),some (.str a,false)],sto⟩):=by
 simp! [isStr,Ae hx ha]
def fA (a:At):Fm:=.atom a.k (smT a.s::a.more)
theorem agi {a:At}:fmT (fA a)=atT a:=by simp [fA,fmT,atT]
theorem Nu:okA "most" := ⟨yt,by decide +kernel,by decide +kernel⟩
def oT (ms:List Fm):T:=.tup (ms.map fmT)
theorem a8g {A:List T} {O:List (List Fm)} {n:Nat} {ms:List Fm} {ps:List T} (hn:O[n]? = some ms) (hl:¬ ps.length=ms.length) :
  ni [.tup [.lst A,.lst (O.map oT)],.int (n:Int),.tup ps] sto=some (.non,sto):=by
 have hlt:n<O.length:=(List.getElem?_eq_some_iff.mp hn).1
 have ip:=Dz (sto:=sto) (f:=oT) (n:=(n:Int)) (l:=O)
 rw [decide_eq_true (show (0:Int)≤(n:Int) by omega),decide_eq_true (show (n:Int)<(O.length:Int) by omega)] at ip
 have i0:cj (.lst (O.map oT)) (.int (n:Int))=some (.tup (ms.map fmT)):=by
  have:=Bc oT O hlt
  rw [(List.getElem?_eq_some_iff.mp hn).2] at this
  exact this
 have hne:(((ps.length:Int))==((ms.length:Int)))=false:=by rw [beq_eq_false_iff_ne]; omega
 unfold ni
 simp! [lu,ip,isTup,i0,qe,Ao,hne]
theorem aco {A:List T} {O:List (List Fm)} {n:Nat} {ms:List Fm} {ps:List T} (hn:O[n]? = some ms) (hl:ps.length=ms.length) (lm:ms.length≤100) (ok:∀ f∈ms,okF f∧fsz f<900) (hA:A.length<1000) (hO:O.length<1000) :
  ni [.tup [.lst A,.lst (O.map oT)],.int (n:Int),.tup ps] sto=some (.lst ((ms.zip ps).map fun x=>.tup [.tup [.lst (A++flA x.1),.lst (O.map oT++flO x.1)],x.2]),sto):=by
 have hlt:n<O.length:=(List.getElem?_eq_some_iff.mp hn).1
 have ip:=Dz (sto:=sto) (f:=oT) (n:=(n:Int)) (l:=O)
 rw [decide_eq_true (show (0:Int)≤(n:Int) by omega),decide_eq_true (show (n:Int)<(O.length:Int) by omega)] at ip
 have i0:cj (.lst (O.map oT)) (.int (n:Int))=some (.tup (ms.map fmT)):=by
  have:=Bc oT O hlt
  rw [(List.getElem?_eq_some_iff.mp hn).2] at this
  exact this
 have hne:(((ps.length:Int))==((ms.length:Int)))=true:=by rw [beq_iff_eq]; omega
 obtain ⟨LL,hLL⟩:∃ LL:T,LL=.tup [.lst A,.lst (O.map oT)]:=⟨_,rfl⟩
 have l1:ms.length<lim:=by show _<1000000; omega
 have l2:ps.length<lim:=by show _<1000000; omega
 have co:pq 2 [0] (Cw [0,1]) (a7f (bx 3) (bx 4)) zy (gk (fun l=>some (.tup l)) (ao (iy uz (ao (bx 2) (ao (gk (fun l=>some (.lst l)) (ao (bx 0) dw)) dw))) (ao (bx 1) dw))) ⟨[some (LL,false),some (.int (n:Int),false),some (.tup ps,false),some (.tup (ms.map fmT),false),some (.tup ps,false)],sto⟩
   = some (.lst ((ms.zip ps).map fun x=>.tup [.tup [.lst (A++flA x.1),.lst (O.map oT++flO x.1)],x.2]),⟨[some (LL,false),some (.int (n:Int),false),some (.tup ps,false),some (.tup (ms.map fmT),false),some (.tup ps,false)],sto⟩):=by
  have iz:a7f (bx 3) (bx 4) ⟨[some (LL,false),some (.int (n:Int),false),some (.tup ps,false),some (.tup (ms.map fmT),false),some (.tup ps,false)],sto⟩=some ((ms.zip ps).map (fun x:Fm × T=>T.tup [fmT x.1,x.2]),⟨[some (LL,false),some (.int (n:Int),false),some (.tup ps,false),some (.tup (ms.map fmT),false),some (.tup ps,false)],sto⟩):=by
   have e:a6p (ms.map fmT) ps=(ms.zip ps).map (fun x:Fm × T=>T.tup [fmT x.1,x.2]):=by
    unfold a6p
    rw [List.zip_map_left,List.map_map]
    rfl
   have h1:(ms.map fmT).length<lim∧ps.length<lim:=⟨by rw [List.length_map]; exact l1,l2⟩
   rw [← e]
   exact if_pos h1
  refine Dn (fun x:Fm × T=>T.tup [fmT x.1,x.2]) _ (ms.zip ps) (s1:=⟨[some (LL,false),some (.int (n:Int),false),some (.tup ps,false),some (.tup (ms.map fmT),false),some (.tup ps,false)],sto⟩) _ [some (LL,false)] iz rfl rfl rfl (by rw [List.length_zip]; show _≤1000000; omega) ?_
  intro x hx pre hp
  have hm:x.1∈ms:=(List.of_mem_zip (a:=x.1) (b:=x.2) hx).1
  obtain ⟨o1,o2⟩:=ok x.1 hm
  have la:=Nz (sto:=sto) (A:=A) (O:=O.map oT) (l:=[x.1]) (by simp only [K4]; omega) ⟨o1,trivial⟩ (by omega) (by rw [List.length_map]; omega)
  simp only [List.map_cons,List.map_nil,Lj,Lk,List.append_nil] at la
  rw [← hLL] at la
  match pre,hp with
  | [p0,p1],_=>exact ⟨[some (fmT x.1,false),some (x.2,false)],rfl,Q5,rfl,zm (zc (zf0 (zc rfl (zc (zm (zc rfl rfl) rfl) rfl)) la) (zc rfl rfl)) rfl⟩
 rw [← hLL]
 have e0:cj LL (.int 1)=some (.lst (O.map oT)):=by rw [hLL]; exact lu
 unfold ni
 generalize hm:pq 2 [0] _ _ _ _=M1 at co ⊢
 simp! [e0,ip,isTup,i0,qe,Ao,hne,co]
theorem a7q {ns:List Str} {A O:List T} {k:Int} {p q:T} {b:Str} (hl:ns.length≤100) (ok:∀ x∈ns,okS x) (ob:okS b) (h1:ns.filter (fun x=>x==b)=[b]) (hA:A.length<1000) (hO:O.length<1000) :
  tu [.lst (ns.map T.str),.tup [.lst A,.lst O],.str b,.int k,.tup [p,q]] sto
   = some (.lst [.tup [.tup [.lst (A++[atT (aM b k)]),.lst O],p],.tup [.tup [.lst (A++[atT (aL b (k+1))]),.lst O],q]],sto):=by
 have cb:=Zd (L:=.tup [.lst A,.lst O]) (k:=k) (P:=.tup [p,q]) (o5:=none) (o6:=none) (o7:=none) hl (fun x hx=>cut_str (sto:=sto) (ok x hx) ob)
 rw [h1] at cb
 have la:=Nz (sto:=sto) (A:=A) (O:=O) (l:=[fA (aM b k)]) (by simp [K4,fA,fsz]) ⟨Nu,trivial⟩ (by omega) (by omega)
 have lb:=Nz (sto:=sto) (A:=A) (O:=O) (l:=[fA (aL b (k+1))]) (by simp [K4,fA,fsz]) ⟨Nu,trivial⟩ (by omega) (by omega)
 have e1:∀ a:At,Lj [fA a]=[atT a]:=fun a=>by simp [Lj,flA,fA,atT]
 have e2:∀ a:At,Lk [fA a]=[]:=fun a=>by simp [Lk,flO,fA]
 simp only [List.map_cons,List.map_nil,e1,e2,agi,List.append_nil] at la lb
 have i0:cj (.lst [.str b]) (.int 0)=some (.str b):=rfl
 unfold tu
 generalize hm:pq 1 [2] _ _ _ _=M1 at cb ⊢
 simp! [cb,Ao,i0,a2a,Vg,la,lb,ju,lu]
end
def cT (c:T × T):T:=.tup [c.1,c.2]
def wT (x:T × T × Nat):T:=.tup [x.1,x.2.1,.int (x.2.2:Int)]
def dn (d:Nat) (cs:List (T × T)):List (T × T × Nat):=cs.map fun c=>(c.1,c.2,d)
mutual
inductive J (sto:List SO) (N:T):T→T→Nat→Bool→Nat→Prop where
 | none {L p:T} {d:Nat}:gj [N,L,p] sto=some (.non,sto)→J sto N L p d false 1
 | many {L p:T} {d:Nat} {cs:List (T × T)} {b:Bool} {n:Nat}:d≤90→cs.length≤100→gj [N,L,p] sto=some (.lst (cs.map cT),sto)→WJ sto N (dn (d+1) cs) b n→J sto N L p d b (n+1)
inductive WJ (sto:List SO) (N:T):List (T × T × Nat)→Bool→Nat→Prop where
 | nil:WJ sto N [] true 0
 | cons {L p:T} {d:Nat} {W:List (T × T × Nat)} {b b':Bool} {n n':Nat}:J sto N L p d b n→WJ sto N W b' n'→WJ sto N ((L,p,d)::W) (b&&b') (n+n')
end
section
variable {U:List Str} {sto:List SO} {A:List At} {N L:T}
abbrev sE (o0 o1 o2:Slot) (N:T) (W:List (T × T × Nat)) (o5 o6:Slot):List Slot:=[o0,o1,o2,some (N,false),some (.lst (W.reverse.map wT),true),o5,o6]
theorem aci:∀ {W:List (T × T × Nat)} {b:Bool} {n:Nat},WJ sto N W b n→W.length≤n
 | [],_,_,_=>Nat.zero_le _
 | x::W,_,_,.cons hj hr=>by
  have:=aci hr
  rw [List.length_cons]
  cases hj <;> omega
theorem WJ.app:∀ {W V:List (T × T × Nat)} {b c:Bool} {n m:Nat},WJ sto N W b n→WJ sto N V c m→WJ sto N (W++V) (b&&c) (n+m)
 | [],V,_,c,_,m,.nil,h=>by rw [Bool.true_and,Nat.zero_add]; exact h
 | x::W,V,_,c,_,m,.cons hj hr,h=>by
  rw [Bool.and_assoc,Nat.add_assoc]
  exact .cons hj (WJ.app hr h)
theorem WJ.rev:∀ {W:List (T × T × Nat)} {b:Bool} {n:Nat},WJ sto N W b n→WJ sto N W.reverse b n
 | [],_,_,.nil=>.nil
 | (L,p,d)::W,_,_,.cons hj hr=>by
  rw [List.reverse_cons,Bool.and_comm,Nat.add_comm]
  have:=WJ.app (WJ.rev hr) (.cons hj .nil)
  rwa [Bool.and_true,Nat.add_zero] at this
theorem pop_at {o0 o1 o2 o5 o6:Slot} {x:T × T × Nat} {W:List (T × T × Nat)}:a4c 4 5 ⟨sE o0 o1 o2 N (x::W) o5 o6,sto⟩=some (.next,⟨sE o0 o1 o2 N W (some (wT x,false)) o6,sto⟩):=by
 simp [a4c,jo]
theorem a94 {o0 o1 o2:Slot} {L p:T} {d:Nat} {W:List (T × T × Nat)} {cs:List (T × T)} (hW:W.length<90000) (hc:cs.length≤100) :
  yu 4 (pq 2 [5] (Cw [0,1]) (yd (bx 6)) zy (gk (fun l=>some (.tup l)) (ao (bx 0) (ao (bx 1) (ao (mOp vo (mOp cj (bx 2) (au (.int 2))) (au (.int 1))) dw))))) ⟨sE o0 o1 o2 N W (some (wT (L,p,d),false)) (some (.lst (cs.map cT),false)),sto⟩
   = some (.next,⟨sE o0 o1 o2 N ((dn (d+1) cs).reverse++W) (some (wT (L,p,d),false)) (some (.lst (cs.map cT),false)),sto⟩):=by
 have co:pq 2 [5] (Cw [0,1]) (yd (bx 6)) zy (gk (fun l=>some (.tup l)) (ao (bx 0) (ao (bx 1) (ao (mOp vo (mOp cj (bx 2) (au (.int 2))) (au (.int 1))) dw)))) ⟨sE o0 o1 o2 N W (some (wT (L,p,d),false)) (some (.lst (cs.map cT),false)),sto⟩
   = some (.lst (cs.map fun c=>wT (c.1,c.2,d+1)),⟨sE o0 o1 o2 N W (some (wT (L,p,d),false)) (some (.lst (cs.map cT),false)),sto⟩):=by
  refine Dn cT _ cs (s1:=⟨sE o0 o1 o2 N W (some (wT (L,p,d),false)) (some (.lst (cs.map cT),false)),sto⟩) _ [some (wT (L,p,d),false)] (zis rfl (by show _<1000000; omega)) rfl rfl rfl (by show _≤1000000; omega) ?_
  intro c hc pre hp
  match pre,hp with
  | [p0,p1],_=>exact ⟨[some (c.1,false),some (c.2,false)],rfl,Q5,rfl,zm (zc rfl (zc rfl (zc (zo (zo rfl rfl Ir) rfl rfl) rfl))) rfl⟩
 refine zex co rfl rfl ?_ rfl ?_
 ·rw [List.length_map,List.length_map,List.length_reverse]; show _<1000000; omega
 ·unfold sE dn
  rw [List.reverse_append,List.reverse_reverse,List.map_append,List.map_map]
  rfl
theorem a0b {o0 o1 o2:Slot} {L p r:T} {d:Nat} {W:List (T × T × Nat)} (hd:d≤90) (h:gj [N,L,p] sto=some (r,sto)) :
  (sIf (gb (mOp leT (mOp cj (bx 5) (au (.int 2))) (au (.int 90)))) (vf 6 (iy gj (ao (bx 3) (ao (mOp cj (bx 5) (au (.int 0))) (ao (mOp cj (bx 5) (au (.int 1))) dw))))) Ab) ⟨sE o0 o1 o2 N W (some (wT (L,p,d),false)) (some (.non,false)),sto⟩=some (.next,⟨sE o0 o1 o2 N W (some (wT (L,p,d),false)) (some (r,false)),sto⟩):=by
 have h90:(d:Int)≤90:=by omega
 have i2:cj (wT (L,p,d)) (.int 2)=some (.int (d:Int)):=rfl
 have i0:cj (wT (L,p,d)) (.int 0)=some L:=rfl
 have i1:cj (wT (L,p,d)) (.int 1)=some p:=rfl
 simp! [i2,h90,i0,i1,h]
theorem a7h {o0 o1 o2:Slot} {L p:T} {d:Nat} {W:List (T × T × Nat)} (hd:90<d) :
  (sIf (gb (mOp leT (mOp cj (bx 5) (au (.int 2))) (au (.int 90)))) (vf 6 (iy gj (ao (bx 3) (ao (mOp cj (bx 5) (au (.int 0))) (ao (mOp cj (bx 5) (au (.int 1))) dw))))) Ab) ⟨sE o0 o1 o2 N W (some (wT (L,p,d),false)) (some (.non,false)),sto⟩=some (.next,⟨sE o0 o1 o2 N W (some (wT (L,p,d),false)) (some (.non,false)),sto⟩):=by
 have h90:¬ (d:Int)≤90:=by omega
 have i2:cj (wT (L,p,d)) (.int 2)=some (.int (d:Int)):=rfl
 simp! [i2,h90]
theorem a8o {l:List T}:a73 (.lst l) .non=some (.bl false):=rfl
theorem Zu:a73 .non .non=some (.bl true):=rfl
theorem loop {o0 o1 o2:Slot}:∀ (fuel:Nat) (W:List (T × T × Nat)) (b:Bool) (n:Nat) (o5 o6:Slot),WJ sto N W b n→n<fuel→n<50000 →
  ∃ fl s',vg fuel lC lB ⟨sE o0 o1 o2 N W o5 o6,sto⟩=some (fl,s')∧s'.sto=sto∧(b=true→fl=.next)∧(b=false→fl=.ret (.bl false))
 | 0,W,b,n,o5,o6,_,h,_=>by omega
 | fuel+1,W,b,n,o5,o6,hW,hf,hn=>by
  have lw:=aci hW
  cases hW with
  | nil =>
   refine ⟨.next,_,Xc (s1:=⟨sE o0 o1 o2 N [] o5 o6,sto⟩) (by simp! [Ck,gtT]),rfl,fun _=>rfl,fun h=>by cases h⟩
  | @cons L p d W b1 b2 n1 n2 hj hr =>
   have c1:lC ⟨sE o0 o1 o2 N ((L,p,d)::W) o5 o6,sto⟩=some (true,⟨sE o0 o1 o2 N ((L,p,d)::W) o5 o6,sto⟩):=by
    simp! [Ck,gtT]
    try omega
   have s0:(vf 6 (au .non)) ⟨sE o0 o1 o2 N W (some (wT (L,p,d),false)) o6,sto⟩=some (.next,⟨sE o0 o1 o2 N W (some (wT (L,p,d),false)) (some (.non,false)),sto⟩):=rfl
   have bad:∀ {x:Slot},(sIf (gb (mOp leT (mOp cj (bx 5) (au (.int 2))) (au (.int 90)))) (vf 6 (iy gj (ao (bx 3) (ao (mOp cj (bx 5) (au (.int 0))) (ao (mOp cj (bx 5) (au (.int 1))) dw))))) Ab) ⟨sE o0 o1 o2 N W (some (wT (L,p,d),false)) (some (.non,false)),sto⟩=some (.next,⟨sE o0 o1 o2 N W (some (wT (L,p,d),false)) (some (.non,false)),sto⟩)→lB ⟨sE o0 o1 o2 N ((L,p,d)::W) o5 o6,sto⟩=some (.ret (.bl false),⟨sE o0 o1 o2 N W (some (wT (L,p,d),false)) (some (.non,false)),sto⟩):=fun {x} h=>by
    unfold lB
    rw [o9 pop_at,o9 s0,o9 h]
    rw [a2n (s':=⟨sE o0 o1 o2 N W (some (wT (L,p,d),false)) (some (.non,false)),sto⟩) (v:=.bl false) (by simp! [Zu])]
   cases hj with
   | none hp =>
    by_cases hd:d≤90
    ·exact ⟨_,_,Qo c1 (bad (x:=none) (a0b hd hp)),rfl,(fun h=>by cases h),fun _=>rfl⟩
    ·exact ⟨_,_,Qo c1 (bad (x:=none) (a7h (by omega))),rfl,(fun h=>by cases h),fun _=>rfl⟩
   | @many _ _ _ cs _ m hd hc hp hw =>
    have hz:=WJ.app hw.rev hr
    obtain ⟨fl,s',e,h1,h2,h3⟩:=loop (o0:=o0) (o1:=o1) (o2:=o2) fuel ((dn (d+1) cs).reverse++W) (b1&&b2) (m+n2) (some (wT (L,p,d),false)) (some (.lst (cs.map cT),false)) hz (by omega) (by omega)
    refine ⟨fl,s',?_,h1,h2,h3⟩
    rw [Eb c1 (s2:=⟨sE o0 o1 o2 N ((dn (d+1) cs).reverse++W) (some (wT (L,p,d),false)) (some (.lst (cs.map cT),false)),sto⟩) ?_,e]
    unfold lB
    simp only [List.length_cons] at lw
    rw [o9 pop_at,o9 s0,o9 (a0b hd hp)]
    rw [o9 (s':=⟨sE o0 o1 o2 N W (some (wT (L,p,d),false)) (some (.lst (cs.map cT),false)),sto⟩) (by simp! [a8o]),a94 (by omega) hc]
end
section
variable {sto:List SO} {bs:List Bd}
theorem a8r {f:List Fm} {Q:T} {b:Bool} {n:Nat} (hf:Xw f) (hz:K4 f<1000) (h3:bs.length≤100)
  (j:J sto (.lst ((bs.map (·.1)).map T.str)) (.tup [.lst ((bounds bs).map atT++Lj f),.lst ([]++Lk f)]) Q 1 b n) (hn:n<1000) :
  wu [.lst (bs.map bdT),.lst (f.map fmT),Q] sto=some (.bl b,sto):=by
 have l1:bs.length<lim:=by show _<1000000; omega
 have fl:=T8 (sto:=sto) h3
 have bl:=Bp bs
 have li:=Nz (sto:=sto) (A:=(bounds bs).map atT) (O:=[]) hz hf (by rw [List.length_map]; omega) (by simp)
 have co:pq 3 [] (Cw [0,1,2]) (yd (bx 0)) zy (bx 0) ⟨[some (.lst (bs.map bdT),false),some (.lst (f.map fmT),false),some (Q,false),none,none,none,none],sto⟩=some (.lst ((bs.map (·.1)).map T.str),⟨[some (.lst (bs.map bdT),false),some (.lst (f.map fmT),false),some (Q,false),none,none,none,none],sto⟩):=by
  rw [List.map_map]
  generalize hF:pq 3 _ _ _ _ _ _=q
  exact wk hF bdT (fun r=>T.str r.1) bs ⟨[some (.lst (bs.map bdT),false),some (.lst (f.map fmT),false),some (Q,false),none,none,none,none],sto⟩ [some (.lst (bs.map bdT),false),some (.lst (f.map fmT),false),some (Q,false),none,none,none,none] [] (by first | exact rfl | simp! [l1]) rfl rfl rfl (Nat.le_of_lt l1) (fun r hr pre hp=>by
   match pre,hp with
   | [p0,p1,p2],_=>exact ⟨[some (.str r.1,false),some (.int r.2.1,false),some (.int r.2.2,false)],rfl,by rw [bdT,Xd]; rfl,rfl,by first | exact rfl | simp! []⟩)
 obtain ⟨fl',s',e,h1,h2,h3'⟩:=loop (sto:=sto) (N:=.lst ((bs.map (·.1)).map T.str)) (o0:=some (.lst (bs.map bdT),false)) (o1:=some (.lst (f.map fmT),false)) (o2:=some (Q,false)) 1000 [(.tup [.lst ((bounds bs).map atT++Lj f),.lst ([]++Lk f)],Q,1)] (b&&true) (n+0) none none (.cons j .nil) (by omega) (by omega)
 unfold wu qp
 rw [show ([T.lst (bs.map bdT),.lst (f.map fmT),Q].map (fun t=>some (t,false))++List.replicate (7 - [T.lst (bs.map bdT),.lst (f.map fmT),Q].length) none:List Slot)=[some (.lst (bs.map bdT),false),some (.lst (f.map fmT),false),some (Q,false),none,none,none,none] from rfl]
 rw [o9 (s':=⟨[some (.lst (bs.map bdT),false),some (.lst (f.map fmT),false),some (Q,false),some (.lst ((bs.map (·.1)).map T.str),false),none,none,none],sto⟩) (by unfold vf; rw [co]; rfl)]
 rw [o9 (s':=⟨sE (some (.lst (bs.map bdT),false)) (some (.lst (f.map fmT),false)) (some (Q,false)) (.lst ((bs.map (·.1)).map T.str)) [(.tup [.lst ((bounds bs).map atT++Lj f),.lst ([]++Lk f)],Q,1)] none none,sto⟩) (by
  generalize T.lst ((bs.map (·.1)).map T.str)=NN'
  simp! [fl,li,wT])]
 cases b with
 | true =>
  have z:=h2 rfl
  subst z
  rw [o9 e]
  show some (T.bl true,s'.sto)=_
  rw [h1]
 | false =>
  have z:=h3' rfl
  subst z
  rw [a2n e]
  show some (T.bl false,s'.sto)=_
  rw [h1]
end
def val (B:Str→Int) (s:Sm):Int:=s.1+(U4.map fun b=>gt s.2 b * B b).sum
structure TrA (B:Str→Int) (a:At):Prop where
 m:(a.k==("most" : Str))=true→val B a.s≤0
 r:(a.k==("rest" : Str))=true→val B a.s%fac a=0
theorem nd4:U4.Nodup:=by decide +kernel
section
variable {B:Str→Int} {A:List At}
theorem Xx {f:Str→Int}:(U4.map f).sum=f "@p" + (f "x" + (f "y" + (f "z1" + 0))):=by unfold U4; simp only [List.map_cons,List.map_nil,List.sum_cons,List.sum_nil]
theorem lin:∀ gs:List (Sm × Int),(gs.map fun g=>g.2 * val B g.1).sum=cN gs+(U4.map fun b=>cF gs b * B b).sum
 | []=>by unfold cN cF; rw [Xx]; simp
 | g::gs=>by
  have ih:=lin gs
  rw [List.map_cons,List.sum_cons,ih]
  have e1:cN (g::gs)=g.2 * g.1.1+cN gs:=by unfold cN; rw [List.map_cons,List.sum_cons]
  have e2:∀ b,cF (g::gs) b=g.2 * gt g.1.2 b+cF gs b:=fun b=>by unfold cF; rw [List.map_cons,List.sum_cons]
  unfold val
  rw [Xx,Xx,Xx,e1,e2,e2,e2,e2]
  simp only [Int.mul_add,Int.add_mul,Int.mul_assoc,Int.mul_zero]
  omega
theorem Pk {f:Str→Int} (h:(canon U4 f).isEmpty=true):∀ b∈U4,f b=0:=fun b hb=>by
 have e:canon U4 f=[]:=List.isEmpty_iff.mp h
 unfold canon at e
 have e2:=List.map_eq_nil_iff.mp e
 have:=List.filter_eq_nil_iff.mp e2 b hb
 simpa using this
theorem a5u {f:Str→Int} (h:∀ b∈U4,f b=0):(U4.map fun b=>f b * B b).sum=0:=by
 rw [Xx,h "@p" (by decide +kernel),h "x" (by decide +kernel),h "y" (by decide +kernel),h "z1" (by decide +kernel)]
 simp
theorem abe {gs:List (Sm × Int)}:(∀ g∈gs,g.2 * val B g.1≤0)→(gs.map fun g=>g.2 * val B g.1).sum≤0:=by
 induction gs with
 | nil=>intro _; simp
 | cons g gs ih =>
  intro h
  rw [List.map_cons,List.sum_cons] -- here
  have:=h g List.mem_cons_self
  have:=ih fun x hx=>h x (List.mem_cons_of_mem _ hx)
  omega
theorem a7n {m:Int} {gs:List (Sm × Int)}:(∀ g∈gs,m ∣ g.2 * val B g.1)→m ∣ (gs.map fun g=>g.2 * val B g.1).sum:=by
 induction gs with
 | nil=>intro _; exact Int.dvd_zero _
 | cons g gs ih =>
  intro h
  rw [List.map_cons,List.sum_cons] -- here
  exact Int.dvd_add (h g List.mem_cons_self) (ih fun x hx=>h x (List.mem_cons_of_mem _ hx))
theorem a0t {rows:List (List Int)} (h:G8 U4 A rows=true) (t:∀ a∈A,TrA B a):False:=by
 unfold G8 fin at h
 rw [Bool.and_eq_true,Bool.and_eq_true,decide_eq_true_eq] at h
 obtain ⟨_,h2,h3⟩:=h
 have z:=a5u (B:=B) (Pk h2)
 have l:=lin (B:=B) (rows.filterMap (look A))
 have s:=abe (B:=B) (gs:=rows.filterMap (look A)) fun g hg=>by
  obtain ⟨r,_,e⟩:=List.mem_filterMap.mp hg
  obtain ⟨n,t',a,_,_,ht,ha,hk,rfl⟩:=Gg e
  have:=(t a (List.mem_of_getElem? ha)).m hk
  exact Int.mul_nonpos_of_nonneg_of_nonpos (Int.le_of_lt ht) this
 have h3':0<cN (rows.filterMap (look A)):=h3
 omega
theorem Xm {rows:List (List Int)} {m:Int} (h:Ac U4 A m rows=true) (t:∀ a∈A,TrA B a):False:=by
 unfold Ac ad5 at h
 rw [Bool.and_eq_true,Bool.and_eq_true,Bool.and_eq_true,decide_eq_true_eq] at h
 obtain ⟨hm,h1,h2,h3⟩:=h
 have l:=lin (B:=B) (rows.map (gv A))
 have d1:=a7n (B:=B) (m:=m) (gs:=rows.map (gv A)) fun g hg=>by
  obtain ⟨r,hr,rfl⟩:=List.mem_map.mp hg
  have ro:=List.all_eq_true.mp h1 r hr
  match r,ro with
  | [n,v],ro =>
   simp only [yc,Bool.and_eq_true] at ro
   obtain ⟨r1,_,r3⟩:=ro
   obtain ⟨_,e1,e2⟩:=Bb r1
   have tr:=(t (sA A n) (List.mem_of_getElem? e1)).r e2
   have r3':v * fac (sA A n)%m=0:=by simpa using r3
   show m ∣ v * val B (sA A n).s
   obtain ⟨q,hq⟩:=Int.dvd_of_emod_eq_zero tr
   rw [hq,← Int.mul_assoc]
   exact Int.dvd_mul_of_dvd_left (Int.dvd_of_emod_eq_zero r3')
  | [n,o,v],ro =>
   simp only [yc,Bool.and_eq_true] at ro
   obtain ⟨r1,r2,r3,_⟩:=ro
   obtain ⟨_,e1,e2⟩:=Bb r1
   obtain ⟨_,f1,f2⟩:=Bb r2
   have t1:=(t (sA A n) (List.mem_of_getElem? e1)).m e2
   have t2:=(t (sA A o) (List.mem_of_getElem? f1)).m f2
   unfold zrU at r3
   rw [Bool.and_eq_true] at r3
   have z:=Pk r3.2
   have z1:(sA A n).s.1+(sA A o).s.1=0:=by simpa using r3.1
   have e:val B (sA A n).s+val B (sA A o).s=0:=by
    unfold val
    rw [Xx,Xx]
    have z2:=z "@p" (by decide +kernel)
    have z3:=z "x" (by decide +kernel)
    have z4:=z "y" (by decide +kernel)
    have z5:=z "z1" (by decide +kernel)
    have g2:gt (sA A o).s.2 "@p" = -(gt (sA A n).s.2 "@p"):=by omega
    have g3:gt (sA A o).s.2 "x" = -(gt (sA A n).s.2 "x"):=by omega
    have g4:gt (sA A o).s.2 "y" = -(gt (sA A n).s.2 "y"):=by omega
    have g5:gt (sA A o).s.2 "z1" = -(gt (sA A n).s.2 "z1"):=by omega
    rw [g2,g3,g4,g5]
    simp only [Int.neg_mul]
    omega
   have v0:val B (sA A n).s=0:=by omega
   show m ∣ v * val B (sA A n).s
   rw [v0,Int.mul_zero]
   exact Int.dvd_zero _
  | [],ro=>simp [yc] at ro
  | [_],ro=>simp [yc] at ro
  | _::_::_::_::_,ro=>simp [yc] at ro
 have d2:m ∣ (U4.map fun b=>cF (rows.map (gv A)) b * B b).sum:=by
  have each:∀ b∈U4,m ∣ cF (rows.map (gv A)) b * B b:=fun b hb=>by
   by_cases hz:cF (rows.map (gv A)) b=0
   ·rw [hz,Int.zero_mul]; exact Int.dvd_zero _
   ·have:=List.all_eq_true.mp h3 (b,cF (rows.map (gv A)) b) (List.mem_map.mpr ⟨b,List.mem_filter.mpr ⟨hb,by simpa using hz⟩,rfl⟩)
    have h':cF (rows.map (gv A)) b%m=0:=by simpa using this
    exact Int.dvd_mul_of_dvd_left (Int.dvd_of_emod_eq_zero h')
  rw [Xx]
  exact Int.dvd_add (each "@p" (by decide +kernel)) (Int.dvd_add (each "x" (by decide +kernel)) (Int.dvd_add (each "y" (by decide +kernel)) (Int.dvd_add (each "z1" (by decide +kernel)) (Int.dvd_zero _))))
 rw [l] at d1
 have d3:m ∣ cN (rows.map (gv A)):=(Int.dvd_iff_dvd_of_dvd_add d1).mpr d2
 have:cN (rows.map (gv A))%m=0:=Int.emod_eq_zero_of_dvd d3
 have h2':(cN (rows.map (gv A))%m != 0)=true:=h2
 rw [this] at h2'
 cases h2'
end
inductive Fo where
 | at (a:At) | all (l:List Fo) | any (l:List Fo)
mutual
def foF:Fo→Fm
 | .at a=>fA a
 | .all l=>.all (Ru l)
 | .any l=>.any (ac6 (Ru l))
def Ru:List Fo→List Fm
 | []=>[]
 | f::l=>foF f::Ru l
end
theorem Gy:∀ l:List Fo,Ru l=l.map foF
 | []=>rfl
 | f::l=>by rw [Ru,Gy l]; rfl
def foT (f:Fo):T:=fmT (foF f)
def agj (a:At):Prop:=Vm U4 a∧okA a.k
structure AtN (ns:List Str) (a:At):Prop where
 ok:agj a
 k:(a.k = "most" ∧ a.more=[])∨(a.k = "rest" ∧ ∃ f:Int,a.more=[.int f]∧2≤f∧f<100)
 s:∀ b∈ks a.s.2,b∈ns
 b:∀ p∈a.s.2,-2≤p.2∧p.2≤2∧¬ p.2=0
mutual
def Nr (ns:List Str):Fo→Prop
 | .at a=>AtN ns a
 | .all l=>l.length≤5∧Dc ns l
 | .any l=>l.length≤3∧Dc ns l
def Dc (ns:List Str):List Fo→Prop
 | []=>True
 | f::l=>Nr ns f∧Dc ns l
end
theorem Dc.mem {ns:List Str}:∀ {l:List Fo},Dc ns l→∀ f∈l,Nr ns f
 | [],_,f,h=>by cases h
 | g::l,h,f,hf=>by
  rcases List.mem_cons.mp hf with rfl | hf
  ·exact h.1
  ·exact Dc.mem h.2 f hf
mutual
def fz:Fo→Nat
 | .at _=>1
 | .all l=>1+fzs l
 | .any l=>1+fzs l
def fzs:List Fo→Nat
 | []=>0
 | f::l=>fz f+fzs l
end
theorem Nk:∀ {l:List Fo} {f:Fo},f∈l→fz f≤fzs l
 | [],f,h=>by cases h
 | g::l,f,hf=>by
  rw [fzs]
  rcases List.mem_cons.mp hf with rfl | hf
  ·omega
  ·have:=Nk hf; omega
mutual
def foA:Fo→List At
 | .at a=>[a]
 | .all l=>Am l
 | .any _=>[]
def Am:List Fo→List At
 | []=>[]
 | f::l=>foA f++Am l
end
mutual
def foO:Fo→List (List Fo)
 | .at _=>[]
 | .all l=>vm l
 | .any l=>[l]
def vm:List Fo→List (List Fo)
 | []=>[]
 | f::l=>foO f++vm l
end
def oF (O:List (List Fo)):List (List Fm):=O.map fun ms=>ms.map foF
def LT (A:List At) (O:List (List Fo)):T:=.tup [.lst (A.map atT),.lst ((oF O).map oT)]
theorem a1y {O O2:List (List Fo)}:oF (O++O2)=oF O++oF O2:=List.map_append
mutual
theorem ag1:∀ f:Fo,flA (foF f)=(foA f).map atT
 | .at a=>by simp [foF,fA,flA,foA,atT]
 | .all l=>by rw [foF,flA,foA,a8s l]
 | .any l=>by rw [foF,flA,foA]; rfl
theorem a8s:∀ l:List Fo,Lj (Ru l)=(Am l).map atT
 | []=>rfl
 | f::l=>by rw [Ru,Lj,Am,ag1 f,a8s l,List.map_append]
end
mutual
theorem ag6:∀ f:Fo,flO (foF f)=(oF (foO f)).map oT
 | .at a=>by simp [foF,fA,flO,foO,oF]
 | .all l=>by rw [foF,flO,foO,a89 l]
 | .any l=>by rw [foF,flO,foO,Gq,Gy]; rfl
theorem a89:∀ l:List Fo,Lk (Ru l)=(oF (vm l)).map oT
 | []=>rfl
 | f::l=>by rw [Ru,Lk,vm,ag6 f,a89 l,a1y,List.map_append]
end
mutual
theorem aap {ns:List Str}:∀ f:Fo,Nr ns f→okF (foF f)
 | .at a,h=>by rw [foF,fA,okF]; exact h.ok.2
 | .all l,h=>by rw [foF,okF]; exact a0c l h.2
 | .any l,h=>by rw [foF,okF]; trivial
theorem a0c {ns:List Str}:∀ l:List Fo,Dc ns l→Xw (Ru l)
 | [],_=>by rw [Ru,Xw]; trivial
 | f::l,h=>by rw [Ru,Xw]; exact ⟨aap f h.1,a0c l h.2⟩
end
mutual
theorem ad0:∀ f:Fo,fsz (foF f)≤fz f
 | .at a=>by simp [foF,fA,fsz,fz]
 | .all l=>by have:=a1r l; rw [foF,fsz,fz]; omega
 | .any l=>by rw [foF,fsz,fz]; omega
theorem a1r:∀ l:List Fo,K4 (Ru l)≤fzs l
 | []=>by rw [Ru,K4,fzs]; omega
 | f::l=>by have h1:=ad0 f; have h2:=a1r l; rw [Ru,K4,fzs]; omega
end
mutual
theorem Oe:∀ f:Fo,(foA f).length≤fz f
 | .at a=>by simp [foA,fz]
 | .all l=>by have:=J4 l; rw [foA,fz]; omega
 | .any l=>by simp [foA]
theorem J4:∀ l:List Fo,(Am l).length≤fzs l
 | []=>by simp [Am]
 | f::l=>by have h1:=Oe f; have h2:=J4 l; rw [Am,fzs,List.length_append]; omega
end
mutual
theorem O7:∀ f:Fo,(foO f).length≤fz f
 | .at a=>by simp [foO]
 | .all l=>by have:=J5 l; rw [foO,fz]; omega
 | .any l=>by simp [foO,fz]
theorem J5:∀ l:List Fo,(vm l).length≤fzs l
 | []=>by simp [vm]
 | f::l=>by have h1:=O7 f; have h2:=J5 l; rw [vm,fzs,List.length_append]; omega
end
theorem acr {A:List At} {O:List (List Fo)} {f:Fo}:(.tup [.lst (A.map atT++flA (foF f)),.lst ((oF O).map oT++flO (foF f))]:T)=LT (A++foA f) (O++foO f):=by
 unfold LT
 rw [ag1,ag6,List.map_append,a1y,List.map_append]
def trB (B:Str→Int) (a:At):Bool:=if a.k==("rest" : Str) then val B a.s%fac a==0 else decide (val B a.s≤0)
mutual
def trF (B:Str→Int):Fo→Bool
 | .at a=>trB B a
 | .all l=>Aa B l
 | .any l=>Bj B l
def Aa (B:Str→Int):List Fo→Bool
 | []=>true
 | f::l=>trF B f&&Aa B l
def Bj (B:Str→Int):List Fo→Bool
 | []=>false
 | f::l=>trF B f||Bj B l
end
mutual
theorem a9w {B:Str→Int}:∀ f:Fo,trF B f=((foA f).all (trB B)&&(foO f).all (Bj B))
 | .at a=>by simp [trF,foA,foO]
 | .all l=>by rw [trF,foA,foO,W7 l]
 | .any l=>by simp [trF,foA,foO]
theorem W7 {B:Str→Int}:∀ l:List Fo,Aa B l=((Am l).all (trB B)&&(vm l).all (Bj B))
 | []=>by simp [Aa,Am,vm]
 | f::l=>by
  rw [Aa,Am,vm,a9w f,W7 l,List.all_append,List.all_append]
  cases (foA f).all (trB B) <;> cases (foO f).all (Bj B) <;> cases (Am l).all (trB B) <;> simp
end
theorem a0f {B:Str→Int}:∀ {l:List Fo},Bj B l=true→∃ f∈l,trF B f=true
 | [],h=>by rw [Bj] at h; cases h
 | f::l,h=>by
  rw [Bj,Bool.or_eq_true] at h
  rcases h with h | h
  ·exact ⟨f,List.mem_cons_self,h⟩
  ·obtain ⟨g,hg,e⟩:=a0f h; exact ⟨g,List.mem_cons_of_mem _ hg,e⟩
theorem any_false {B:Str→Int}:∀ {l:List Fo},Bj B l=false→∀ f∈l,trF B f=false
 | [],_,f,h=>by cases h
 | g::l,h,f,hf=>by
  rw [Bj,Bool.or_eq_false_iff] at h
  rcases List.mem_cons.mp hf with rfl | hf
  ·exact h.1
  ·exact any_false h.2 f hf
theorem kmr:(("most" : Str)==("rest" : Str))=false:=by decide +kernel
theorem krm:(("rest" : Str)==("most" : Str))=false:=by decide +kernel
theorem a0j {B:Str→Int} {ns:List Str} {a:At} (h:AtN ns a) (t:trB B a=true):TrA B a:=by
 unfold trB at t
 rcases h.k with ⟨e,_⟩ | ⟨e,_⟩
 ·rw [e,kmr,if_neg (by simp),decide_eq_true_eq] at t
  exact ⟨fun _=>t,fun z=>by rw [e,kmr] at z; cases z⟩
 ·rw [e,if_pos (by simp),beq_iff_eq] at t
  exact ⟨fun z=>(by rw [e,krm] at z; cases z),fun _=>t⟩
inductive P where
 | sum (rows:List (List Int)) | rest (m:Int) (rows:List (List Int)) | cut (b:Str) (k:Int) (p q:P) | orp (n:Nat) (ps:List P) | no (n:Int)
def rsT (rows:List (List Int)):T:=.tup (rows.map ilT)
mutual
def paT:P→T
 | .sum rows=>.tup [.str "sum",rsT rows]
 | .rest m rows=>.tup [.str "rest",.int m,rsT rows]
 | .cut b k p q=>.tup [.str "cut",.str b,.int k,paT p,paT q]
 | .orp n ps=>.tup [.str "or",.int (n:Int),.tup (a7z ps)]
 | .no n=>.tup [.str "or",.int n,.tup [],.tup []]
def a7z:List P→List T
 | []=>[]
 | p::ps=>paT p::a7z ps
end
mutual
def sz:P→Nat
 | .sum _=>1
 | .rest _ _=>1
 | .cut _ _ p q=>1+sz p+sz q
 | .orp _ ps=>1+szs ps
 | .no _=>1
def szs:List P→Nat
 | []=>0
 | p::ps=>sz p+szs ps
end
mutual
def dep:P→Nat
 | .sum _=>0
 | .rest _ _=>0
 | .cut _ _ p q=>1+max (dep p) (dep q)
 | .orp _ ps=>1+deps ps
 | .no _=>0
def deps:List P→Nat
 | []=>0
 | p::ps=>max (dep p) (deps ps)
end
def aa7 (rows:List (List Int)):Prop:=rows.length≤100∧∀ l∈rows,l.length≤100∧∀ n∈l,zx n=true
mutual
def okP (ns:List Str):P→Prop
 | .sum rows=>aa7 rows
 | .rest _ rows=>aa7 rows
 | .cut b _ p q=>b∈ns∧okP ns p∧okP ns q
 | .orp _ ps=>ps.length≤100∧a5w ns ps
 | .no _=>True
def a5w (ns:List Str):List P→Prop
 | []=>True
 | p::ps=>okP ns p∧a5w ns ps
end
theorem Gp:∀ l:List P,a7z l=l.map paT
 | []=>rfl
 | p::l=>by rw [a7z,Gp l]; rfl
theorem W0 {p:P}:1≤sz p:=by cases p <;> simp only [sz] <;> omega
theorem S7:∀ {l:List P} {q:P},q∈l→sz q≤szs l
 | [],q,h=>by cases h
 | p::l,q,h=>by
  rw [szs]
  rcases List.mem_cons.mp h with rfl | h -- here
  ·omega
  ·have:=S7 h; omega
structure Sat (B:Str→Int) (A:List At) (O:List (List Fo)):Prop where
 a:∀ a∈A,trB B a=true
 o:∀ ms∈O,Bj B ms=true
structure LOk (ns:List Str) (A:List At) (O:List (List Fo)):Prop where
 a:∀ a∈A,AtN ns a
 o:∀ ms∈O,ms.length≤3∧∀ f∈ms,Nr ns f∧fz f≤10
mutual
theorem Uz {ns:List Str}:∀ f:Fo,Nr ns f→∀ a∈foA f,AtN ns a
 | .at a,h,x,hx=>by rw [foA,List.mem_singleton] at hx; subst hx; exact h
 | .all l,h,x,hx=>by rw [foA] at hx; exact Ke l h.2 x hx
 | .any l,h,x,hx=>by rw [foA] at hx; cases hx
theorem Ke {ns:List Str}:∀ l:List Fo,Dc ns l→∀ a∈Am l,AtN ns a
 | [],_,x,hx=>by rw [Am] at hx; cases hx
 | f::l,h,x,hx=>by
  rw [Am] at hx
  rcases List.mem_append.mp hx with z | z
  ·exact Uz f h.1 x z
  ·exact Ke l h.2 x z
end
mutual
theorem Z0 {ns:List Str}:∀ f:Fo,Nr ns f→∀ ms∈foO f,ms.length≤3∧∀ g∈ms,Nr ns g∧fz g<fz f
 | .at a,h,ms,hm=>by rw [foO] at hm; cases hm
 | .all l,h,ms,hm=>by
  rw [foO] at hm
  have:=Yj l h.2 ms hm
  refine ⟨this.1,fun g hg=>⟨(this.2 g hg).1,?_⟩⟩
  have:=(this.2 g hg).2
  rw [fz]; omega
 | .any l,h,ms,hm=>by
  rw [foO,List.mem_singleton] at hm
  subst hm
  refine ⟨h.1,fun g hg=>⟨h.2.mem g hg,?_⟩⟩
  have:=Nk hg
  rw [fz]; omega
theorem Yj {ns:List Str}:∀ l:List Fo,Dc ns l→∀ ms∈vm l,ms.length≤3∧∀ g∈ms,Nr ns g∧fz g<fzs l
 | [],_,ms,hm=>by rw [vm] at hm; cases hm
 | f::l,h,ms,hm=>by
  rw [vm] at hm
  rw [fzs]
  rcases List.mem_append.mp hm with z | z
  ·have:=Z0 f h.1 ms z
   exact ⟨this.1,fun g hg=>⟨(this.2 g hg).1,by have:=(this.2 g hg).2; omega⟩⟩
  ·have:=Yj l h.2 ms z
   exact ⟨this.1,fun g hg=>⟨(this.2 g hg).1,by have:=(this.2 g hg).2; omega⟩⟩
end
section
variable {B:Str→Int} {A:List At} {O:List (List Fo)} {sto:List SO} {ns:List Str}
theorem LOk.add {f:Fo} (h:LOk ns A O) (hf:Nr ns f) (hz:fz f≤10):LOk ns (A++foA f) (O++foO f):=by
 refine ⟨fun x hx=>?_,fun ms hm=>?_⟩
 ·rcases List.mem_append.mp hx with z | z
  ·exact h.a x z
  ·exact Uz f hf x z
 ·rcases List.mem_append.mp hm with z | z
  ·exact h.o ms z
  ·have:=Z0 f hf ms z
   exact ⟨this.1,fun g hg=>⟨(this.2 g hg).1,by have:=(this.2 g hg).2; omega⟩⟩
theorem LOk.push {a:At} (h:LOk ns A O) (ha:AtN ns a):LOk ns (A++[a]) O:=by
 refine ⟨fun x hx=>?_,h.o⟩
 rcases List.mem_append.mp hx with z | z
 ·exact h.a x z
 ·rw [List.mem_singleton] at z; subst z; exact ha
theorem Sat.add {f:Fo} (h:Sat B A O) (hf:trF B f=true):Sat B (A++foA f) (O++foO f):=by
 rw [a9w,Bool.and_eq_true,List.all_eq_true,List.all_eq_true] at hf
 refine ⟨fun x hx=>?_,fun ms hm=>?_⟩
 ·rcases List.mem_append.mp hx with z | z
  ·exact h.a x z
  ·exact hf.1 x z
 ·rcases List.mem_append.mp hm with z | z
  ·exact h.o ms z
  ·exact hf.2 ms z
theorem Sat.push {a:At} (h:Sat B A O) (ha:trB B a=true):Sat B (A++[a]) O:=by
 refine ⟨fun x hx=>?_,h.o⟩
 rcases List.mem_append.mp hx with z | z
 ·exact h.a x z
 ·rw [List.mem_singleton] at z; subst z; exact ha
theorem agt {b:Str} {n v:Int} (hb:b∈U4):val B (n,[(b,v)])=n+v * B b:=by
 unfold val
 simp only [U4,List.mem_cons,List.not_mem_nil,or_false] at hb
 have n1:¬ (Str.ofString "@p" = Str.ofString "x"):=by decide +kernel
 have n2:¬ (Str.ofString "@p" = Str.ofString "y"):=by decide +kernel
 have n3:¬ (Str.ofString "@p" = Str.ofString "z1"):=by decide +kernel
 have n4:¬ (Str.ofString "x" = Str.ofString "y"):=by decide +kernel
 have n5:¬ (Str.ofString "x" = Str.ofString "z1"):=by decide +kernel
 have n6:¬ (Str.ofString "y" = Str.ofString "z1"):=by decide +kernel
 rw [Xx]
 rcases hb with rfl | rfl | rfl | rfl <;> simp [gt,n1,n2,n3,n4,n5,n6,Ne.symm n1,Ne.symm n2,Ne.symm n3,Ne.symm n4,Ne.symm n5,Ne.symm n6]
theorem acw {b:Str} {n v:Int} (hb:b∈U4):Xp U4 (n,[(b,v)]):=⟨by simp [ks],fun x hx=>by simp [ks] at hx; rw [hx]; exact hb⟩
theorem Za:(("most" : Str)==("rest" : Str))=false:=by decide +kernel
theorem a2b {s:Sm} (h:Xp U4 s):agj ⟨"most",s,[]⟩:=⟨⟨yt,h,fun h'=>by rw [Za] at h'; cases h'⟩,Nu⟩
theorem aev (l:List Int):rwT (l.map Cl.i)=ilT l:=by unfold rwT ilT; rw [List.map_map]; rfl
theorem afn (l:List Int):pr (l.map Cl.i)=l:=by
 unfold pr
 have:(l.map Cl.i).all isI=true:=by rw [List.all_map]; exact List.all_eq_true.mpr fun x _=>rfl
 rw [if_pos this,List.map_map]
 exact (List.map_congr_left (g:=id) fun x _=>rfl).trans (List.map_id _)
theorem ab9 {l:List Int} (h:l.length≤100):PR (ilT l,l):=by
 have:=ae7 (r:=l.map Cl.i) (by simpa using h)
 rwa [aev,afn] at this
theorem Ym {rows:List (List Int)}:leaf (rows.map fun l=>(ilT l,l)) (rsT rows):=.inl (by unfold rsT; rw [List.map_map]; rfl)
theorem a6x {rows:List (List Int)}:(rows.map fun l=>(ilT l,l)).map (·.2)=rows:=by
 rw [List.map_map]; exact (List.map_congr_left (g:=id) fun x _=>rfl).trans (List.map_id _)
abbrev nsT (ns:List Str):T:=.lst (ns.map T.str)
theorem ae4 {rows:List (List Int)} {d:Nat} (h:LOk ns A O) (hr:aa7 rows) (hd:d≤90):∃ b n,J sto (nsT ns) (LT A O) (paT (.sum rows)) d b n∧n≤1∧b=G8 U4 A rows:=by
 have e:=pw_sum (sto:=sto) (N:=nsT ns) (O:=.lst ((oF O).map oT)) af9 nd4 (A:=A) (fun a ha=>(h.a a ha).ok.1) (Ym (rows:=rows)) (fun x hx n hn=>by
  obtain ⟨l,hl,rfl⟩:=List.mem_map.mp hx
  exact (hr.2 l hl).2 n hn) (by rw [List.length_map]; exact hr.1) (fun x hx=>by
  obtain ⟨l,hl,rfl⟩:=List.mem_map.mp hx
  exact ab9 (hr.2 l hl).1)
 rw [a6x] at e
 have pe:paT (.sum rows)=.tup [.str "sum",rsT rows]:=by simp only [paT]
 rw [pe]
 cases hs:G8 U4 A rows with
 | true =>
  rw [hs,if_pos rfl] at e
  exact ⟨true,1,.many (cs:=[]) hd (by simp) e .nil,Nat.le_refl _,rfl⟩
 | false =>
  rw [hs,if_neg (by simp)] at e
  exact ⟨false,1,.none e,Nat.le_refl _,rfl⟩
theorem ab3 {rows:List (List Int)} {m:Int} {d:Nat} (h:LOk ns A O) (hr:aa7 rows) (hd:d≤90):∃ b n,J sto (nsT ns) (LT A O) (paT (.rest m rows)) d b n∧n≤1∧b=Ac U4 A m rows:=by
 have e:=O9 (sto:=sto) (N:=nsT ns) (O:=.lst ((oF O).map oT)) af9 nd4 (c:=.i m) (A:=A) (fun a ha=>(h.a a ha).ok.1) (Ym (rows:=rows)) (fun x hx n hn=>by
  obtain ⟨l,hl,rfl⟩:=List.mem_map.mp hx
  exact (hr.2 l hl).2 n hn) (by rw [List.length_map]; exact hr.1) (fun x hx=>by
  obtain ⟨l,hl,rfl⟩:=List.mem_map.mp hx
  exact ab9 (hr.2 l hl).1)
 rw [a6x,show restV U4 A (.i m) rows=Ac U4 A m rows from rfl] at e
 have pe:paT (.rest m rows)=.tup [.str "rest",clT (.i m),rsT rows]:=by simp only [paT]; rfl
 rw [pe]
 cases hs:Ac U4 A m rows with
 | true =>
  rw [hs,if_pos rfl] at e
  exact ⟨true,1,.many (cs:=[]) hd (by simp) e .nil,Nat.le_refl _,rfl⟩
 | false =>
  rw [hs,if_neg (by simp)] at e
  exact ⟨false,1,.none e,Nat.le_refl _,rfl⟩
structure Fp (ns:List Str):Prop where
 l:ns.length≤100
 n:ns.Nodup
 u:∀ x∈ns,x∈U4
theorem ok4:∀ x∈U4,okS x:=by unfold okS; decide +kernel
theorem Mf {b:Str}:∀ {l:List Str},l.Nodup→b∈l→l.filter (fun x=>x==b)=[b]
 | [],_,h=>by cases h
 | x::l,nd,h=>by
  have nd':=List.nodup_cons.mp nd
  by_cases e:x=b
  ·subst e
   rw [List.filter_cons,if_pos (by simp)]
   congr 1
   exact List.filter_eq_nil_iff.mpr fun y hy=>by
    intro z
    have:y=x:=by simpa using z
    exact nd'.1 (this ▸ hy)
  ·rw [List.filter_cons,if_neg (by simpa using e)]
   rcases List.mem_cons.mp h with z | z
   ·exact absurd z.symm e
   ·exact Mf nd'.2 z
theorem Ra {b:Str} {n v:Int} (hN:Fp ns) (hb:b∈ns) (hv:-2≤v∧v≤2∧¬ v=0):AtN ns ⟨"most",(n,[(b,v)]),[]⟩ :=
 ⟨a2b (acw (hN.u b hb)),.inl ⟨rfl,rfl⟩,fun x hx=>by
  have:x=b:=by simpa [ks] using hx
  subst this; exact hb,fun p hp=>by rw [List.mem_singleton] at hp; subst hp; exact hv⟩
theorem adx {b:Str} {k:Int} (hN:Fp ns) (hb:b∈ns):AtN ns (aM b k):=Ra hN hb (by omega)
theorem ado {b:Str} {k:Int} (hN:Fp ns) (hb:b∈ns):AtN ns (aL b k):=Ra hN hb (by omega)
theorem V2 {n v:Int} {b:Str} (hb:b∈U4):trB B ⟨"most",(n,[(b,v)]),[]⟩=decide (n+v * B b≤0):=by
 unfold trB
 dsimp only
 rw [kmr,if_neg (by simp),agt hb]
theorem a72 {b:Str} {k:Int} (hb:b∈U4):trB B (aM b k)=decide (B b≤k):=by
 unfold aM
 rw [V2 hb]
 exact decide_eq_decide.mpr (by omega)
theorem a6g {b:Str} {k:Int} (hb:b∈U4):trB B (aL b k)=decide (k≤B b):=by
 unfold aL
 rw [V2 hb]
 exact decide_eq_decide.mpr (by omega)
end
mutual
def jd (A:List At) (O:List (List Fo)):P→Bool
 | .sum rows=>G8 U4 A rows
 | .rest m rows=>Ac U4 A m rows
 | .cut b k p q=>jd (A++[aM b k]) O p&&jd (A++[aL b (k+1)]) O q
 | .orp n ps=>match O[n]? with
  | some ms=>if ps.length=ms.length then jds A O ms ps else false
  | none=>false
 | .no _=>false
def jds (A:List At) (O:List (List Fo)) (ms:List Fo):List P→Bool
 | []=>true
 | p::ps=>match ms with
  | f::ms=>jd (A++foA f) (O++foO f) p&&jds A O ms ps
  | []=>true
end
section
variable {B:Str→Int} {sto:List SO} {ns:List Str}
def Jd (sto:List SO) (ns:List Str) (p:P):Prop:=∀ (A:List At) (O:List (List Fo)) (d:Nat),LOk ns A O→okP ns p→A.length+20 * dep p<900→O.length+20 * dep p<900→d+dep p≤90→∃ n,J sto (nsT ns) (LT A O) (paT p) d (jd A O p) n∧n≤sz p
theorem a70 {A:List At} {O:List (List Fo)} (h:LOk ns A O):∀ (ms:List Fo) (ps:List P) (d:Nat),(∀ p∈ps,Jd sto ns p)→ms.length=ps.length→(∀ f∈ms,Nr ns f∧fz f≤10)→a5w ns ps→A.length+20 * deps ps<880→O.length+20 * deps ps<880→d+deps ps≤90 →
  ∃ n,WJ sto (nsT ns) (dn d ((ms.zip ps).map fun x=>(LT (A++foA x.1) (O++foO x.1),paT x.2))) (jds A O ms ps) n∧n≤szs ps
 | [],[],d,_,_,_,_,_,_,_=>⟨0,by rw [jds]; exact .nil,Nat.zero_le _⟩
 | [],p::ps,d,_,hl,_,_,_,_,_=>by simp at hl
 | f::ms,[],d,_,hl,_,_,_,_,_=>by simp at hl
 | f::ms,p::ps,d,ih,hl,hf,hp,z1,z2,hd=>by
  rw [deps] at z1 z2 hd
  have f1:=hf f List.mem_cons_self
  have fa:=Oe f
  have fo:=O7 f
  have d1:dep p≤max (dep p) (deps ps):=Nat.le_max_left _ _
  have d2:deps ps≤max (dep p) (deps ps):=Nat.le_max_right _ _
  obtain ⟨n1,j1,l1⟩:=ih p List.mem_cons_self (A++foA f) (O++foO f) d (h.add f1.1 f1.2) hp.1 (by rw [List.length_append]; omega) (by rw [List.length_append]; omega) (by omega)
  obtain ⟨n2,j2,l2⟩:=a70 h ms ps d (fun q hq=>ih q (List.mem_cons_of_mem _ hq)) (by simpa using hl) (fun g hg=>hf g (List.mem_cons_of_mem _ hg)) hp.2 (by omega) (by omega) (by omega)
  refine ⟨n1+n2,?_,by rw [szs]; omega⟩
  rw [jds]
  exact .cons j1 j2
theorem a9g {n:Int} {a b:T} {N L:T}:gj [N,L,.tup [.str "or",.int n,a,b]] sto=some (.non,sto):=by
 have k1:je [.tup [.str "or",.int n,a,b],.str "or",.int 3] sto=some (.bl false,sto):=kind_len (by simp)
 have k2:je [.tup [.str "or",.int n,a,b],.str "cut",.int 5] sto=some (.bl false,sto):=kind_len (by simp)
 have k3:je [.tup [.str "or",.int n,a,b],.str "sum",.int 2] sto=some (.bl false,sto):=kind_len (by simp)
 have k4:je [.tup [.str "or",.int n,a,b],.str "rest",.int 3] sto=some (.bl false,sto):=kind_len (by simp)
 unfold gj
 simp! [qe,k1,k2,k3,k4]
theorem a4q (hN:Fp ns):∀ (k:Nat) (p:P),sz p≤k→Jd sto ns p
 | 0,p,h=>by have:=W0 (p:=p); omega
 | k+1,p,hk=>by
  intro A O d h hp z1 z2 hd
  cases p with
  | sum rows =>
   obtain ⟨b,n,j,hn,hb⟩:=ae4 (sto:=sto) (rows:=rows) (d:=d) h (by simpa only [okP] using hp) (by omega)
   subst hb
   exact ⟨n,by rw [jd]; exact j,by simp only [sz]; exact hn⟩
  | rest m rows =>
   obtain ⟨b,n,j,hn,hb⟩:=ab3 (sto:=sto) (rows:=rows) (m:=m) (d:=d) h (by simpa only [okP] using hp) (by omega)
   subst hb
   exact ⟨n,by rw [jd]; exact j,by simp only [sz]; exact hn⟩
  | no n =>
   refine ⟨1,?_,by simp only [sz]; omega⟩
   rw [jd,paT]
   exact .none a9g
  | cut b c p q =>
   rw [okP] at hp
   rw [sz] at hk
   rw [dep] at hd z1 z2
   obtain ⟨hb,hp1,hp2⟩:=hp
   have hu:=hN.u b hb
   have d1:dep p≤max (dep p) (dep q):=Nat.le_max_left _ _
   have d2:dep q≤max (dep p) (dep q):=Nat.le_max_right _ _
   obtain ⟨n1,j1,l1⟩:=a4q hN k p (by omega) (A++[aM b c]) O (d+1) (h.push (adx hN hb)) hp1 (by rw [List.length_append,List.length_singleton]; omega) (by omega) (by omega)
   obtain ⟨n2,j2,l2⟩:=a4q hN k q (by omega) (A++[aL b (c+1)]) O (d+1) (h.push (ado hN hb)) hp2 (by rw [List.length_append,List.length_singleton]; omega) (by omega) (by omega)
   have e:=a7q (sto:=sto) (A:=A.map atT) (O:=(oF O).map oT) (k:=c) (p:=paT p) (q:=paT q) hN.l (fun x hx=>ok4 x (hN.u x hx)) (ok4 b hu) (Mf hN.n hb) (by rw [List.length_map]; omega) (by unfold oF; rw [List.length_map,List.length_map]; omega)
   have e2:=pw_cut (N:=nsT ns) e
   have pe:paT (.cut b c p q)=.tup [.str "cut",.str b,.int c,paT p,paT q]:=by simp only [paT]
   refine ⟨n1+(n2+0)+1,?_,by rw [sz]; omega⟩
   rw [pe,jd,← Bool.and_true (jd (A++[aL b (c+1)]) O q)]
   refine .many (cs:=[(LT (A++[aM b c]) O,paT p),(LT (A++[aL b (c+1)]) O,paT q)]) (by omega) (by simp) ?_ (.cons j1 (.cons j2 .nil))
   rw [show LT A O=.tup [.lst (A.map atT),.lst ((oF O).map oT)] from rfl,e2]
   unfold LT
   simp only [List.map_append,List.map_cons,List.map_nil,cT]
  | orp n ps =>
   rw [okP] at hp
   rw [sz] at hk
   rw [dep] at hd z1 z2
   have pe:paT (.orp n ps)=.tup [.str "or",.int (n:Int),.tup (ps.map paT)]:=by simp only [paT]; rw [Gp]
   rw [pe,jd]
   cases hO:O[n]? with
   | none =>
    refine ⟨1,.none (pw_or ?_),by rw [sz]; omega⟩
    have hn:¬ n<O.length:=by
     intro z; rw [List.getElem?_eq_getElem z] at hO; cases hO
    have:=a3i (sto:=sto) (X:=.lst (A.map atT)) (n:=(n:Int)) (b:=.tup (ps.map paT)) (O:=(oF O).map fun ms=>ms.map fmT) (by
     rw [decide_eq_false (p:=(n:Int)<_) (by unfold oF; rw [List.length_map,List.length_map]; omega),Bool.and_false])
    rw [List.map_map] at this
    exact this
   | some ms =>
    have hm:=List.mem_of_getElem? hO
    have hF:(oF O)[n]? = some (ms.map foF):=by unfold oF; rw [List.getElem?_map,hO]; rfl
    dsimp only
    by_cases hl:ps.length=ms.length
    ·rw [if_pos hl]
     have e:=aco (sto:=sto) (A:=A.map atT) (O:=oF O) (n:=n) (ps:=ps.map paT) hF (by rw [List.length_map,List.length_map]; exact hl) (by rw [List.length_map]; have:=(h.o ms hm).1; omega) (fun f hf=>by
      obtain ⟨g,hg,rfl⟩:=List.mem_map.mp hf
      have:=(h.o ms hm).2 g hg
      have z:=ad0 g
      exact ⟨aap g this.1,by omega⟩) (by rw [List.length_map]; omega) (by unfold oF; rw [List.length_map]; omega)
     have ihs:∀ q∈ps,Jd sto ns q:=fun q hq=>a4q hN k q (by have:=S7 hq; omega)
     obtain ⟨m,w,hm2⟩:=a70 (sto:=sto) (ns:=ns) h ms ps (d+1) ihs hl.symm (h.o ms hm).2 hp.2 (by omega) (by omega) (by omega)
     refine ⟨m+1,.many (cs:=(ms.zip ps).map fun x=>(LT (A++foA x.1) (O++foO x.1),paT x.2)) (by omega) (by rw [List.length_map,List.length_zip]; have:=hp.1; omega) ?_ w,by rw [sz]; omega⟩
     rw [show LT A O=.tup [.lst (A.map atT),.lst ((oF O).map oT)] from rfl,pw_or e]
     congr 3
     rw [List.zip_map,List.map_map,List.map_map]
     refine List.map_congr_left fun x hx=>?_
     show (.tup [.tup [.lst (A.map atT++flA (foF x.1)),.lst ((oF O).map oT++flO (foF x.1))],paT x.2]:T)=cT (LT (A++foA x.1) (O++foO x.1),paT x.2)
     rw [acr]; rfl
    ·rw [if_neg hl]
     exact ⟨1,.none (pw_or (a8g hF (by rw [List.length_map,List.length_map]; exact hl))),by rw [sz]; omega⟩
theorem W3 (hN:Fp ns):∀ (k:Nat) (p:P) (A:List At) (O:List (List Fo)),sz p≤k→LOk ns A O→okP ns p→Sat B A O→jd A O p=false
 | 0,p,A,O,hk,_,_,_=>by have:=W0 (p:=p); omega
 | k+1,p,A,O,hk,h,hp,s=>by
  cases p with
  | sum rows =>
   rw [jd]
   cases hs:G8 U4 A rows with
   | false=>rfl
   | true=>exact (a0t hs fun a ha=>a0j (h.a a ha) (s.a a ha)).elim
  | rest m rows =>
   rw [jd]
   cases hs:Ac U4 A m rows with
   | false=>rfl
   | true=>exact (Xm hs fun a ha=>a0j (h.a a ha) (s.a a ha)).elim
  | no n=>rw [jd]
  | cut b c p q =>
   rw [okP] at hp
   rw [sz] at hk
   have hu:=hN.u b hp.1
   rw [jd]
   by_cases hc:B b≤c
   ·rw [W3 hN k p _ O (by omega) (h.push (adx hN hp.1)) hp.2.1 (s.push (by rw [a72 hu]; simpa using hc))]; rfl
   ·rw [W3 hN k q _ O (by omega) (h.push (ado hN hp.1)) hp.2.2 (s.push (by rw [a6g hu]; simp; omega)),Bool.and_false]
  | orp n ps =>
   rw [okP] at hp
   rw [sz] at hk
   rw [jd]
   cases hO:O[n]? with
   | none=>rfl
   | some ms =>
    dsimp only
    by_cases hl:ps.length=ms.length
    ·rw [if_pos hl]
     have hm:=List.mem_of_getElem? hO
     have key:∀ (ms:List Fo) (ps:List P),ps.length=ms.length→(∀ f∈ms,Nr ns f∧fz f≤10)→a5w ns ps→(∀ q∈ps,sz q≤k)→(∃ f∈ms,trF B f=true)→jds A O ms ps=false:=by
      intro ms
      induction ms with
      | nil=>rintro ps _ _ _ _ ⟨f,hf,_⟩; cases hf
      | cons g ms ih =>
       intro ps hl hf hp hk2 z8
       obtain ⟨f,hfm,hft⟩:=z8
       cases ps with
       | nil=>simp at hl
       | cons q ps =>
        rw [jds]
        rcases List.mem_cons.mp hfm with rfl | hfm
        ·have f1:=hf f List.mem_cons_self
         rw [W3 hN k q _ _ (hk2 q List.mem_cons_self) (h.add f1.1 f1.2) hp.1 (s.add hft)]; rfl
        ·rw [ih ps (by simpa using hl) (fun x hx=>hf x (List.mem_cons_of_mem _ hx)) hp.2 (fun x hx=>hk2 x (List.mem_cons_of_mem _ hx)) ⟨f,hfm,hft⟩,Bool.and_false]
     exact key ms ps hl (h.o ms hm).2 hp.2 (fun q hq=>by have:=S7 hq; omega) (a0f (s.o ms hm))
    ·rw [if_neg hl]
end
theorem a9n (l:List Fo):(Ru l).map fmT=l.map foT:=by rw [Gy,List.map_map]; rfl
theorem Yy:∀ {l:List Fo} {ms:List Fo},ms∈vm l→∃ f∈l,ms∈foO f
 | [],ms,h=>by rw [vm] at h; cases h
 | f::l,ms,h=>by
  rw [vm] at h
  rcases List.mem_append.mp h with z | z
  ·exact ⟨f,List.mem_cons_self,z⟩
  ·obtain ⟨g,hg,e⟩:=Yy z; exact ⟨g,List.mem_cons_of_mem _ hg,e⟩
section
variable {sto:List SO} {bs:List Bd} {fs:List Fo} {B:Str→Int}
abbrev nsB (bs:List Bd):List Str:=bs.map (·.1)
theorem aga (hN:Fp (nsB bs)) (hf:Dc (nsB bs) fs) (hz:∀ f∈fs,fz f≤10):LOk (nsB bs) (bounds bs++Am fs) (vm fs):=by
 refine ⟨fun a ha=>?_,fun ms hm=>?_⟩
 ·rcases List.mem_append.mp ha with z | z
  ·obtain ⟨r,hr,e⟩:=List.mem_flatMap.mp z
   have hu:r.1∈nsB bs:=List.mem_map.mpr ⟨r,hr,rfl⟩
   simp only [List.mem_cons,List.not_mem_nil,or_false] at e
   rcases e with rfl | rfl
   ·exact ado hN hu
   ·exact adx hN hu
  ·exact Ke fs hf a z
 ·obtain ⟨f,hfm,e⟩:=Yy hm
  have:=Z0 f (hf.mem f hfm) ms e
  have z:=hz f hfm
  exact ⟨this.1,fun g hg=>⟨(this.2 g hg).1,by have:=(this.2 g hg).2; omega⟩⟩
theorem a6v {p:P} (hN:Fp (nsB bs)) (lb:bs.length≤10) (hf:Dc (nsB bs) fs) (hz:∀ f∈fs,fz f≤10) (lf:fzs fs≤200) (hp:okP (nsB bs) p) (h1:sz p<900) (h2:dep p≤20) :
  wu [.lst (bs.map bdT),.lst (fs.map foT),paT p] sto=some (.bl (jd (bounds bs++Am fs) (vm fs) p),sto):=by
 have a1:=J4 fs
 have a2:=J5 fs
 have a3:=Bp bs
 obtain ⟨n,j,hn⟩:=a4q (sto:=sto) hN (sz p) p (Nat.le_refl _) (bounds bs++Am fs) (vm fs) 1 (aga hN hf hz) hp (by rw [List.length_append]; omega) (by omega) (by omega)
 rw [← a9n]
 refine a8r (n:=n) (a0c fs hf) (by have:=a1r fs; omega) (by omega) ?_ (by omega)
 rw [a8s,a89,List.nil_append]
 unfold LT at j
 rw [List.map_append] at j
 exact j
theorem afg (hN:Fp (nsB bs)) (hb:∀ r∈bs,r.2.1≤B r.1∧B r.1≤r.2.2) (ht:Aa B fs=true):Sat B (bounds bs++Am fs) (vm fs):=by
 rw [W7,Bool.and_eq_true,List.all_eq_true,List.all_eq_true] at ht
 refine ⟨fun a ha=>?_,ht.2⟩
 rcases List.mem_append.mp ha with z | z
 ·obtain ⟨r,hr,e⟩:=List.mem_flatMap.mp z
  have hu:=hN.u r.1 (List.mem_map.mpr ⟨r,hr,rfl⟩)
  simp only [List.mem_cons,List.not_mem_nil,or_false] at e
  rcases e with rfl | rfl
  ·rw [a6g hu]; simpa using (hb r hr).1
  ·rw [a72 hu]; simpa using (hb r hr).2
 ·exact ht.1 a z
end
def prD (p:Pr):PyData:=.tuple [.str p.1,.int p.2]
def smD (s:Sm):PyData:=.tuple [.int s.1,.tuple (s.2.map prD)]
theorem a1h:∀ {l:List Pr},(∀ b∈ks l,okS b)→Eh (l.map pT)=some (l.map prD)
 | [],_=>rfl
 | p::l,h=>by
  have h1:okS p.1:=h p.1 List.mem_cons_self
  have ih:=a1h (l:=l) fun b hb=>h b (List.mem_cons_of_mem _ hb)
  rw [List.map_cons,Eh,ih]
  have:dat (pT p)=some (prD p):=by unfold pT prD; have h2:(PyData.str p.1).canLay0=true:=h1; simp [dat,Eh,h2]
  rw [this]; rfl
theorem ab7 {s:Sm} (h:∀ b∈ks s.2,okS b):dat (smT s)=some (smD s):=by
 unfold smT smD
 simp only [dat,Eh,a1h h,Option.map_some]
theorem Rh:∀ l:List Pr,PyData.depthAll (l.map prD)≤1
 | []=>by simp [PyData.depthAll] -- here
 | p::l=>by
  have:=Rh l
  rw [List.map_cons,PyData.depthAll]
  have:(prD p).depth≤1:=by simp [prD,PyData.depth,PyData.depthAll]
  omega
section
variable {ns:List Str} {a:At} {A:List At} {b:Str} {n v:Int}
theorem AtN.oks (hN:Fp ns) (h:AtN ns a):∀ b∈ks a.s.2,okS b:=fun b hb=>ok4 b (hN.u b (h.s b hb))
def mD (a:At):List PyData:=match a.more with
 | [.int f]=>[.int f]
 | _=>[]
theorem Vw (hN:Fp ns) (h:AtN ns a):dat (atT a)=some (.tuple (.str a.k::smD a.s::mD a))∧(PyData.tuple (.str a.k::smD a.s::mD a)).depth≤40:=by
 have hk:(PyData.str a.k).canLay0=true:=h.ok.1.1
 have e1:=ab7 (s:=a.s) (h.oks hN)
 have d:=Rh a.s.2
 rcases h.k with ⟨_,e⟩ | ⟨_,f,e,_⟩
 ·unfold atT mD
  rw [e]
  refine ⟨by simp only [dat,Eh,hk,if_true,e1,Option.map_some],?_⟩
  simp only [PyData.depth,PyData.depthAll,smD]
  omega
 ·unfold atT mD
  rw [e]
  refine ⟨by simp only [dat,Eh,hk,if_true,e1,Option.map_some],?_⟩
  simp only [PyData.depth,PyData.depthAll,smD]
  omega
theorem a7b {l:List Pr}:PyData.eqvAll (l.map prD) [prD (b,v)]=true→l=[(b,v)]:=by
 match l with
 | []=>intro h; simp [PyData.eqvAll] at h
 | [p] =>
  intro h
  simp [PyData.eqvAll,PyData.eqv,prD] at h
  rw [← h.1,← h.2]
 | p::q::r=>intro h; simp [PyData.eqvAll] at h
theorem abn (hN:Fp ns) (h:AtN ns a) (hb:b∈ns) (hv:-2≤v∧v≤2∧¬ v=0):∃ c:Bool,eqD (atT a) (atT ⟨"most",(n,[(b,v)]),[]⟩)=some c∧(c=true→(a.k==("most" : Str))=true∧a.s=(n,[(b,v)])):=by
 obtain ⟨e1,d1⟩:=Vw hN h
 obtain ⟨e2,_⟩:=Vw hN (Ra (n:=n) hN hb hv)
 refine ⟨_,by unfold eqD; rw [e1,e2]; dsimp only; rw [if_pos d1],fun hc=>?_⟩
 simp only [PyData.eqv,PyData.eqvAll,smD,Bool.and_eq_true] at hc
 obtain ⟨h1,⟨h2,h3⟩,h4⟩:=hc
 have q1:a.k = "most" := by simpa using h1
 refine ⟨by rw [q1]; decide +kernel,Prod.ext (by simpa using h2) ?_⟩
 exact a7b (by simpa using h3)
theorem aa9 (hN:Fp ns) (hb:b∈ns) (hv:-2≤v∧v≤2∧¬ v=0):∀ (A:List At) (d:Nat),(∀ a∈A,AtN ns a)→(⟨"most",(n,[(b,v)]),[]⟩:At)∈A →
  ∃ (i:Nat) (a:At),a3n (atT ⟨"most",(n,[(b,v)]),[]⟩) (A.map atT) d=some (i+d)∧A[i]? = some a∧(a.k==("most" : Str))=true∧a.s=(n,[(b,v)])
 | [],d,_,h=>by cases h
 | x::A,d,ok,h=>by
  obtain ⟨c,e,hc⟩:=abn (n:=n) hN (ok x List.mem_cons_self) hb hv
  rw [List.map_cons,a3n,e]
  cases c with
  | true =>
   obtain ⟨h1,h2⟩:=hc rfl
   exact ⟨0,x,by simp,rfl,h1,h2⟩
  | false =>
   have hm:(⟨"most",(n,[(b,v)]),[]⟩:At)∈A:=by
    rcases List.mem_cons.mp h with z | z
    ·subst z
     have s:=V5 (n:=40) (t:=atT ⟨"most",(n,[(b,v)]),[]⟩) (by
      obtain ⟨e2,d2⟩:=Vw hN (Ra (n:=n) hN hb hv)
      exact ⟨_,e2,d2⟩) (Nat.le_refl _)
     rw [s] at e; cases e
    ·exact z
   obtain ⟨i,a,e1,e2,e3⟩:=aa9 hN hb hv A (d+1) (fun y hy=>ok y (List.mem_cons_of_mem _ hy)) hm
   refine ⟨i+1,a,?_,e2,e3⟩
   dsimp only
   rw [e1,show i+(d+1)=i+1+d by omega]
theorem aan (hN:Fp ns) (hb:b∈ns) (hv:-2≤v∧v≤2∧¬ v=0):∀ (A:List At),(∀ a∈A,AtN ns a)→(inL (atT ⟨"most",(n,[(b,v)]),[]⟩) (A.map atT)).isSome=true
 | [],_=>rfl
 | x::A,ok=>by
  obtain ⟨c,hc⟩:=Option.isSome_iff_exists.mp (aan hN hb hv A fun y hy=>ok y (List.mem_cons_of_mem _ hy))
  obtain ⟨k,e,_⟩:=abn (n:=n) hN (ok x List.mem_cons_self) hb hv
  rw [List.map_cons,inL,e,hc]; rfl
theorem Wa {sto:List SO} (hN:Fp ns) (hb:b∈ns) (hv:v=1∨v = -1) (hA:A.length<1000) (ok:∀ a∈A,AtN ns a) (hm:(⟨"most",(-v * n,[(b,v)]),[]⟩:At)∈A) :
  ∃ (i:Nat) (a:At),u6 [.lst (A.map atT),.str b,.int v,.int n] sto=some (.int (i:Int),sto)∧A[i]? = some a∧(a.k==("most" : Str))=true∧a.s=(-v * n,[(b,v)]):=by
 have hv2:-2≤v∧v≤2∧¬ v=0:=by omega
 obtain ⟨i,a,e1,e2,e3,e4⟩:=aa9 (n:=-v * n) hN hb hv2 A 0 ok hm
 have e5:=aan (n:=-v * n) hN hb hv2 A ok
 refine ⟨i,a,?_,e2,e3,e4⟩
 have hd:(dat (atT ⟨"most",(-v * n,[(b,v)]),[]⟩)).isSome=true:=by rw [(Vw hN (Ra (n:=-v * n) hN hb hv2)).1]; rfl
 have ix:Mq (.lst (A.map atT)) (.tup [.str "most",.tup [.int (-v * n),.tup [.tup [.str b,.int v]]]])=some (.int (i:Int)):=by
  unfold Mq
  dsimp only
  rw [if_pos ⟨by rw [List.length_map]; show _<1000000; omega,hd,e5⟩]
  rw [show (.tup [.str "most",.tup [.int (-v * n),.tup [.tup [.str b,.int v]]]]:T)=atT ⟨"most",(-v * n,[(b,v)]),[]⟩ from rfl,e1]
  rfl
 have bb:zx (-v)=true:=by unfold zx; rw [decide_eq_true_eq]; omega
 exact zrun (n:=4) (zr (zo rfl (zm (zc rfl (zc (zm (zc (zo (zun rfl rfl) rfl (mu bb)) (zc (zm (zc (zm (zc rfl (zc rfl rfl)) rfl) rfl) rfl) rfl)) rfl) rfl)) rfl) ix)) rfl
end
theorem wq {a b:Str} {k:Bool} (ha:okS a) (hb:okS b) (h:(a==b)=k):eqO (.str a) (.str b)=some (.bl k):=(Ae ha hb).trans (congrArg (fun b=>some (T.bl b)) h)
theorem agm:eqO (.str "most") (.str "most")=some (.bl true):=wq yt yt (by decide +kernel)
theorem adi:eqO (.str "most") (.str "rest")=some (.bl false):=wq yt wj (by decide +kernel)
theorem ahc:eqO (.str "rest") (.str "most")=some (.bl false):=wq wj yt (by decide +kernel)
theorem adg:eqO (.str "rest") (.str "rest")=some (.bl true):=wq wj wj (by decide +kernel)
theorem agq:eqO (.str "and") (.str "most")=some (.bl false):=wq Fx yt (by decide +kernel)
theorem ah0:eqO (.str "and") (.str "rest")=some (.bl false):=wq Fx wj (by decide +kernel)
theorem aha:eqO (.str "or") (.str "most")=some (.bl false):=wq Dv yt (by decide +kernel)
theorem ah9:eqO (.str "or") (.str "rest")=some (.bl false):=wq Dv wj (by decide +kernel)
theorem aa1:eqO (.str "or") (.str "or")=some (.bl true):=wq Dv Dv (by decide +kernel)
theorem ag2:eqO (.str "and") (.str "or")=some (.bl false):=wq Fx Dv (by decide +kernel)
theorem Vj {a:At}:foT (.at a)=atT a:=by unfold foT; rw [foF]; exact agi
theorem N7 {l:List Fo}:foT (.all l)=.tup [.str "and",.tup (l.map foT)]:=by unfold foT; rw [foF,fmT,Gq,Gy,List.map_map]; rfl
theorem Fj {l:List Fo}:foT (.any l)=.tup [.str "or",.tup (l.map foT)]:=by unfold foT; rw [foF,fmT,Gq,Gy,List.map_map]; rfl
theorem a5z {B:Str→Int}:∀ l:List Fo,Aa B l=l.all (trF B)
 | []=>rfl
 | f::l=>by rw [Aa,a5z l,List.all_cons]
theorem a6c {B:Str→Int}:∀ l:List Fo,Bj B l=l.any (trF B)
 | []=>rfl
 | f::l=>by rw [Bj,a6c l,List.any_cons]
mutual
def dl:Fo→Nat
 | .at _=>1
 | .all l=>1+dls l
 | .any _=>1
def dls:List Fo→Nat
 | []=>0
 | f::l=>max (dl f) (dls l)
end
mutual
theorem a8d:∀ f:Fo,dl f≤fz f
 | .at a=>by rw [dl,fz]; omega
 | .all l=>by have:=a6e l; rw [dl,fz]; omega
 | .any l=>by rw [dl,fz]; omega
theorem a6e:∀ l:List Fo,dls l≤fzs l
 | []=>by rw [dls,fzs]; omega
 | f::l=>by have h1:=a8d f; have h2:=a6e l; rw [dls,fzs]; omega
end
def at' (bk l:List Pr):Int:=(l.map fun p=>p.2 * gt bk p.1).sum
theorem agk {B:Str→Int}:∀ {l:List Pr},(ks l).Nodup→(∀ b∈ks l,b∈U4)→(U4.map fun b=>gt l b * B b).sum=(l.map fun p=>p.2 * B p.1).sum
 | [],_,_=>by rw [Xx]; simp [gt]
 | (k,v)::l,nd,hu=>by
  have nd':k∉ks l∧(ks l).Nodup:=List.nodup_cons.mp nd
  have ih:=agk (B:=B) nd'.2 fun b hb=>hu b (List.mem_cons_of_mem _ hb)
  have g0:=Rp nd'.1
  have hk:=hu k List.mem_cons_self
  rw [List.map_cons,List.sum_cons,← ih,Xx,Xx]
  simp only [U4,List.mem_cons,List.not_mem_nil,or_false] at hk
  have n1:¬ (Str.ofString "@p" = Str.ofString "x"):=by decide +kernel
  have n2:¬ (Str.ofString "@p" = Str.ofString "y"):=by decide +kernel
  have n3:¬ (Str.ofString "@p" = Str.ofString "z1"):=by decide +kernel
  have n4:¬ (Str.ofString "x" = Str.ofString "y"):=by decide +kernel
  have n5:¬ (Str.ofString "x" = Str.ofString "z1"):=by decide +kernel
  have n6:¬ (Str.ofString "y" = Str.ofString "z1"):=by decide +kernel
  rcases hk with rfl | rfl | rfl | rfl
  ·simp only [gt,if_true,if_neg n1,if_neg n2,if_neg n3,g0]; omega
  ·simp only [gt,if_true,if_neg (Ne.symm n1),if_neg n4,if_neg n5,g0]; omega
  ·simp only [gt,if_true,if_neg (Ne.symm n2),if_neg (Ne.symm n4),if_neg n6,g0]; omega
  ·simp only [gt,if_true,if_neg (Ne.symm n3),if_neg (Ne.symm n5),if_neg (Ne.symm n6),g0]; omega
section
variable {ns:List Str} {bk:List Pr} {sto:List SO} {A:List At} {O:List (List Fo)}
theorem AtN.val {a:At} (hN:Fp ns) (h:AtN ns a):val (gt bk) a.s=a.s.1+at' bk a.s.2:=by
 unfold K.val at'
 rw [agk h.ok.1.2.1.nd fun b hb=>hN.u b (h.s b hb)]
theorem AtN.len {a:At} (hN:Fp ns) (h:AtN ns a):a.s.2.length≤8:=Li af9 h.ok.1.2.1
abbrev qT (f:T) (bk:List Pr) (o2 o3:Slot) (sto:List SO):Sta:=⟨[some (f,false),some (.dic (dd bk),false),o2,o3],sto⟩
theorem a4a {a:At} (hN:Fp ns) (hb:∀ b∈ns,b∈ks bk) (h:AtN ns a) :
  gk ade (ao (pq 2 [1] (Cw [0,1]) (yd (mOp cj (mOp cj (bx 0) (au (.int 1))) (au (.int 1)))) zy (mOp Rq (bx 1) (mOp cj (bx 2) (bx 0)))) dw) (qT (atT a) bk none none sto)=some (.int (at' bk a.s.2),qT (atT a) bk none none sto):=by
 have ll:a.s.2.length<lim:=by have:=h.len hN; show _<1000000; omega
 have co:pq 2 [1] (Cw [0,1]) (yd (mOp cj (mOp cj (bx 0) (au (.int 1))) (au (.int 1)))) zy (mOp Rq (bx 1) (mOp cj (bx 2) (bx 0))) (qT (atT a) bk none none sto)=some (.lst (a.s.2.map fun p=>T.int (p.2 * gt bk p.1)),qT (atT a) bk none none sto):=by
  refine Dn pT _ a.s.2 (s1:=qT (atT a) bk none none sto) _ [some (.dic (dd bk),false)] (aa0 (zo (zo rfl rfl lu) rfl lu) ll) rfl rfl rfl (Nat.le_of_lt ll) ?_
  intro p hp pre hpre
  have b0:=h.b p hp
  have bb:zx p.2=true:=by unfold zx; rw [decide_eq_true_eq]; omega
  have ig:cj (.dic (dd bk)) (.str p.1)=some (.int (gt bk p.1)):=Gw (hb _ (h.s _ (List.mem_map.mpr ⟨p,hp,rfl⟩)))
  match pre,hpre with
  | [a,b],_=>exact ⟨[some (.str p.1,false),some (.int p.2,false)],rfl,Q5,rfl,zo rfl (zo rfl rfl ig) (mu bb)⟩
 exact zm (zc co rfl) ah1
theorem a0m {a:At} {n:Nat} (hN:Fp ns) (hb:∀ b∈ns,b∈ks bk) (h:AtN ns a):j5 (n+1) [atT a,.dic (dd bk)] sto=some (.bl (trB (gt bk) a),sto):=by
 have ts:=a4a (sto:=sto) hN hb h
 have hv:=h.val (bk:=bk) hN
 rw [j5]
 rcases h.k with ⟨ek,em⟩ | ⟨ek,f,em,hf,_⟩
 ·have i0:cj (atT a) (.int 0)=some (.str "most"):=by unfold atT; rw [ek]; exact ju
  have i1:cj (atT a) (.int 1)=some (smT a.s):=lu
  have sl:qu (bx 0) (wg (au (.int 2))) Az (qT (atT a) bk (some (.int (a.s.1+at' bk a.s.2),false)) none sto)=some (.tup [],qT (atT a) bk (some (.int (a.s.1+at' bk a.s.2),false)) none sto):=by
   unfold atT; rw [em]; rfl
  have tv:trB (gt bk) a=decide (a.s.1+at' bk a.s.2≤0):=by
   unfold trB; rw [ek,kmr,if_neg (by simp),hv]
  rw [tv]
  exact zrun (n:=4) (zqr (zk (adt (zt (zo (zo rfl rfl i0) rfl agm))) (zq (zs (zo (zo (zo rfl rfl i1) rfl ju) ts rfl)) (zr (zo (zm (zc (zo rfl rfl rfl) (zc (zo (zo rfl (zo (zo (zm (zc rfl rfl) rfl) (zm (zc sl rfl) rfl) rfl) (zun rfl rfl) rfl) (md (by decide))) rfl qd) rfl)) rfl) (zm (zc (zo (zo rfl rfl i0) rfl adi) rfl) rfl) rfl))))) rfl
 ·have i0:cj (atT a) (.int 0)=some (.str "rest"):=by unfold atT; rw [ek]; exact ju
  have i1:cj (atT a) (.int 1)=some (smT a.s):=lu
  have sl:qu (bx 0) (wg (au (.int 2))) Az (qT (atT a) bk (some (.int (a.s.1+at' bk a.s.2),false)) none sto)=some (.tup [.int f],qT (atT a) bk (some (.int (a.s.1+at' bk a.s.2),false)) none sto):=by
   unfold atT; rw [em]; rfl
  have tv:trB (gt bk) a=((a.s.1+at' bk a.s.2)%f==0):=by
   unfold trB fac; rw [ek,if_pos (by simp),hv,em]
  rw [tv]
  exact zrun (n:=4) (zqr (zk (a6n (zt (zo (zo rfl rfl i0) rfl ahc)) (zt (zo (zo rfl rfl i0) rfl adg))) (zq (zs (zo (zo (zo rfl rfl i1) rfl ju) ts rfl)) (zr (zo (zm (zc (zo rfl rfl rfl) (zc (zo (zo rfl (zo (zo (zm (zc rfl rfl) rfl) (zm (zc sl rfl) rfl) rfl) (zun rfl rfl) rfl) (md (by omega))) rfl qd) rfl)) rfl) (zm (zc (zo (zo rfl rfl i0) rfl adg) rfl) rfl) rfl))))) rfl
theorem Py {n:Nat} {l:List Fo} {w:Str} (hl:l.length≤100) (ih:∀ f∈l,j5 n [foT f,.dic (dd bk)] sto=some (.bl (trF (gt bk) f),sto)) :
  pq 1 [1] (hName 0) (yd (mOp cj (bx 0) (au (.int 1)))) zy (iy (j5 n) (ao (bx 0) (ao (bx 1) dw))) (qT (.tup [.str w,.tup (l.map foT)]) bk none none sto)=some (.lst (l.map fun f=>T.bl (trF (gt bk) f)),qT (.tup [.str w,.tup (l.map foT)]) bk none none sto):=by
 have ll:l.length<lim:=by show _<1000000; omega
 refine Dn foT _ l (s1:=qT (.tup [.str w,.tup (l.map foT)]) bk none none sto) _ [some (.dic (dd bk),false)] (aa0 (zo rfl rfl lu) ll) rfl rfl rfl (Nat.le_of_lt ll) ?_
 intro f hf pre hpre
 have e:=ih f hf
 generalize j5 n=F at *
 match pre,hpre with
 | [a],_=>exact ⟨[some (foT f,false)],rfl,rfl,rfl,zf0 (zc rfl (zc rfl rfl)) e⟩
theorem Vo (hN:Fp ns) (hb:∀ b∈ns,b∈ks bk):∀ (n:Nat) (f:Fo),fz f≤n→Nr ns f→j5 n [foT f,.dic (dd bk)] sto=some (.bl (trF (gt bk) f),sto)
 | 0,f,h,_=>by cases f <;> rw [fz] at h <;> omega
 | n+1,.at a,h,ok=>by rw [Vj,trF]; exact a0m hN hb ok
 | n+1,.all l,h,ok=>by
  rw [fz] at h
  have tl:=Py (n:=n) (l:=l) (w := "and") (bk:=bk) (sto:=sto) (by have:=ok.1; omega) fun f hf=>Vo hN hb n f (by have:=Nk hf; omega) (ok.2.mem f hf)
  rw [N7,trF,a5z,j5]
  generalize j5 n=F at *
  exact zrun (n:=4) (zq (ze (a6n (zt (zo (zo rfl rfl ju) rfl agq)) (zt (zo (zo rfl rfl ju) rfl ah0))) rfl) (zq (zs tl) (zr (zo (zm (zc (zm (zc rfl rfl) a3a.1) (zc (zm (zc rfl rfl) a3a.2) rfl)) rfl) (zm (zc (zo (zo rfl rfl ju) rfl ag2) rfl) rfl) rfl)))) rfl
 | n+1,.any l,h,ok=>by
  rw [fz] at h
  have tl:=Py (n:=n) (l:=l) (w := "or") (bk:=bk) (sto:=sto) (by have:=ok.1; omega) fun f hf=>Vo hN hb n f (by have:=Nk hf; omega) (ok.2.mem f hf)
  rw [Fj,trF,a6c,j5]
  generalize j5 n=F at *
  exact zrun (n:=4) (zq (ze (a6n (zt (zo (zo rfl rfl ju) rfl aha)) (zt (zo (zo rfl rfl ju) rfl ah9))) rfl) (zq (zs tl) (zr (zo (zm (zc (zm (zc rfl rfl) a3a.1) (zc (zm (zc rfl rfl) a3a.2) rfl)) rfl) (zm (zc (zo (zo rfl rfl ju) rfl aa1) rfl) rfl) rfl)))) rfl
theorem ahg {a:At} (h:AtN ns a):∃ k:Str,cj (atT a) (.int 0)=some (.str k)∧eqO (.str k) (.str "or")=some (.bl false)∧neO (.str k) (.str "and")=some (.bl true):=by
 have ok:=h.ok.2
 refine ⟨a.k,by unfold atT; exact ju,wq ok.1 Dv ok.2.2,?_⟩
 have:=wq ok.1 Fx ok.2.1
 unfold eqO at this
 unfold neO
 cases e:eqT (.str a.k) (.str "and") with
 | none=>rw [e] at this; cases this
 | some b=>rw [e] at this; simp only [Option.some.injEq,T.bl.injEq] at this; rw [this]; rfl
theorem af3:neO (.str "and") (.str "and")=some (.bl false):=a5q (n:=0) (a75 0 Fx) (by decide)
abbrev qY (f:T) (A:List At) (O:List (List Fo)) (o3:Slot) (sto:List SO):Sta:=⟨[some (f,false),some (.lst (A.map atT),false),some (.lst ((oF O).map oT),false),o3],sto⟩
theorem ag5 {l:List Fo}:(.tup (l.map foT):T)=oT (l.map foF):=by unfold oT; rw [List.map_map]; rfl
theorem Td:∀ (n:Nat) (f:Fo) (A:List At) (O:List (List Fo)),dl f≤n→Nr ns f→A.length+fz f<1000→O.length+fz f<1000→m9 n [foT f,.lst (A.map atT),.lst ((oF O).map oT)] sto=some (LT (A++foA f) (O++foO f),sto)
 | 0,f,A,O,h,_,_,_=>by cases f <;> rw [dl] at h <;> omega
 | n+1,.at a,A,O,h,ok,h1,h2=>by
  obtain ⟨k,i0,e1,e2⟩:=ahg ok
  rw [fz] at h1 h2
  have la:(A.map atT).length+[atT a].length<lim:=by rw [List.length_map]; show _+1<1000000; omega
  rw [Vj,m9]
  generalize m9 n=F at *
  refine zrun (n:=4) (zq (ze (zt (zo (zo rfl rfl i0) rfl e1)) rfl) (zqr (zk (zt (zo (zo rfl rfl i0) rfl e2)) (zr (t:=LT (A++foA (.at a)) (O++foO (.at a))) (zm (zc (zo rfl (zm (zc rfl rfl) rfl) (if_pos la)) (zc rfl rfl)) ?_))))) rfl
  rw [foA,foO,List.append_nil]
  unfold LT
  rw [List.map_append]
  rfl
 | n+1,.any l,A,O,h,ok,h1,h2=>by
  rw [fz] at h1 h2
  have la:((oF O).map oT).length+[T.tup (l.map foT)].length<lim:=by unfold oF; rw [List.length_map,List.length_map]; show _+1<1000000; omega
  rw [Fj,m9]
  generalize m9 n=F at *
  refine zrun (n:=4) (zqr (zk (zt (zo (zo rfl rfl ju) rfl aa1)) (zr (t:=LT (A++foA (.any l)) (O++foO (.any l))) (zm (zc rfl (zc (zo rfl (zm (zc (zo rfl rfl lu) rfl) rfl) (if_pos la)) rfl)) ?_)))) rfl
  rw [foA,foO,List.append_nil,ag5]
  unfold LT
  rw [a1y,List.map_append]
  rfl
 | n+1,.all l,A,O,h,ok,h1,h2=>by
  rw [fz] at h1 h2
  rw [dl] at h
  have ll:l.length<lim:=by have:=ok.1; show _<1000000; omega
  have loop:∀ (l:List Fo) (A:List At) (O:List (List Fo)) (o3:Slot),Dc ns l→dls l≤n→A.length+fzs l<1000→O.length+fzs l<1000→∀ {Z:T},∃ o3':Slot,forL (hName 3) (sGo (Cw [1,2]) (iy (m9 n) (ao (bx 3) (ao (bx 1) (ao (bx 2) dw))))) (l.map foT) (qY Z A O o3 sto)=some (.next,qY Z (A++Am l) (O++vm l) o3' sto):=by
   intro l
   induction l with
   | nil=>intro A O o3 _ _ _ _ Z; exact ⟨o3,by rw [Am,vm,List.append_nil,List.append_nil]; rfl⟩
   | cons f l ih =>
    intro A O o3 ok2 hz z1 z2 Z
    rw [fzs] at z1 z2
    rw [dls] at hz
    have m1:dl f≤max (dl f) (dls l):=Nat.le_max_left _ _
    have m2:dls l≤max (dl f) (dls l):=Nat.le_max_right _ _
    have fa:=Oe f
    have fo:=O7 f
    have e:=Td n f A O (by omega) ok2.1 (by omega) (by omega)
    obtain ⟨o3',e2⟩:=ih (A++foA f) (O++foO f) (some (foT f,false)) ok2.2 (by omega) (by rw [List.length_append]; omega) (by rw [List.length_append]; omega) (Z:=Z)
    refine ⟨o3',?_⟩
    rw [Am,vm,← List.append_assoc,← List.append_assoc,← e2,List.map_cons]
    generalize m9 n=F at *
    refine Dd (s1:=qY Z A O (some (foT f,false)) sto) rfl (zgo (zf0 (zc rfl (zc rfl (zc rfl rfl))) e) ?_)
    unfold LT
    rw [Q5]
    rfl
  obtain ⟨o3',e⟩:=loop l A O none ok.2 (by omega) (by omega) (by omega) (Z:=.tup [.str "and",.tup (l.map foT)])
  rw [N7,m9]
  generalize m9 n=F at *
  refine zrun (n:=4) (zq (ze (zt (zo (zo rfl rfl ju) rfl ag2)) rfl) (zq (ze (zt (zo (zo rfl rfl ju) rfl af3)) rfl) (zq (Io (aa0 (zo rfl rfl lu) ll) e) (zr (t:=LT (A++foA (.all l)) (O++foO (.all l))) (zm (zc rfl (zc rfl rfl)) ?_))))) rfl
  rw [foA,foO]
  rfl
end
end K
end
section
namespace K
open C PySem PySem.W PyProof.Rows
def Uu {α:Type} (P:α→Bool):KasT α→Bool
 | .ret a=>P a
 | .ask i j k=>Uu P (k true)&&Uu P (k false)
theorem Vc {α:Type} {P:α→Bool} {lt:Nat→Nat→Bool}:∀ t:KasT α,Uu P t=true→P (K8 lt t)=true
 | .ret a,h=>h
 | .ask i j k,h=>by
  simp only [Uu,Bool.and_eq_true] at h
  refine Vc (k (lt i j)) ?_
  cases lt i j
  ·exact h.2
  ·exact h.1
theorem Sy:Uu (fun p:Array Nat=>p.toList.isPerm (List.range 2)) (kas_sort 2)=true∧Uu (fun p:Array Nat=>p.toList.isPerm (List.range 3)) (kas_sort 3)=true∧Uu (fun p:Array Nat=>p.toList.isPerm (List.range 4)) (kas_sort 4)=true:=by decide +kernel
theorem Xj {l:List Str} (h:l.length≤4):(order l).Perm (List.range l.length):=by
 unfold order
 split
 ·exact List.Perm.refl _
 ·have:l.length=2∨l.length=3∨l.length=4:=by omega
  rcases this with e | e | e
  ·rw [e]; exact List.isPerm_iff.mp (Vc _ Sy.1)
  ·rw [e]; exact List.isPerm_iff.mp (Vc _ Sy.2.1)
  ·rw [e]; exact List.isPerm_iff.mp (Vc _ Sy.2.2)
theorem Qp:∀ l:List Pr,firsts (l.map pT)=some (ks l)
 | []=>rfl
 | p::l=>by
  show (firsts (l.map pT)).map (p.1 :: ·)=_
  rw [Qp l]; rfl
theorem a9b {l:List Pr} (hl:l.length≤4) (nd:(ks l).Nodup):∃ l':List Pr,Fg [.lst (l.map pT)]=some (.lst (l'.map pT))∧l'.Perm l:=by
 have kl:(ks l).length=l.length:=by unfold ks; rw [List.length_map]
 have op:=Xj (l:=ks l) (by omega)
 rw [kl] at op
 refine ⟨(order (ks l)).map fun i=>l.getD i (("" : Str),0),?_,?_⟩
 ·show (match firsts (l.map pT) with | some k=>if k.length≤4∧k.Nodup then some (T.lst ((order k).map fun i=>(l.map pT).getD i .non)) else none | none=>none)=_
  rw [Qp]
  dsimp only
  rw [if_pos ⟨by omega,nd⟩,List.map_map]
  congr 2
  refine List.map_congr_left fun i hi=>?_
  have hi':i<l.length:=List.mem_range.mp (op.mem_iff.mp hi)
  show (l.map pT).getD i .non=pT (l.getD i (("" : Str),0))
  rw [List.getD_eq_getElem?_getD,List.getD_eq_getElem?_getD,List.getElem?_map,List.getElem?_eq_getElem hi']
  rfl
 ·refine (op.map _).trans (List.Perm.of_eq ?_)
  refine List.ext_getElem (by simp) fun i h1 h2=>?_
  simp only [List.getElem_map,List.getElem_range]
  rw [List.getD_eq_getElem?_getD,List.getElem?_eq_getElem h2]
  rfl
abbrev scr (cs:List Int):T:=.lst (cs.map .int)
def cell (cs:List Int) (k:Nat):Int:=cs.getD k 0
theorem a8b {cs:List Int} {k:Nat} {sto:List SO}:jx [scr cs,.int (k:Int)] sto=some (.int (cell cs k),sto):=by
 unfold cell
 by_cases h:k<cs.length
 ·have h':(k:Int)<(cs.length:Int):=by omega
  have e:=Bc T.int cs h
  rw [List.getD_eq_getElem?_getD,List.getElem?_eq_getElem h]
  exact zrun (n:=2) (zqr (zk (zt (zo rfl (zm (zc rfl rfl) a2s) (adz h'))) (zr (zo rfl rfl e)))) rfl
 ·have h':¬ (k:Int)<(cs.length:Int):=by omega
  rw [List.getD_eq_getElem?_getD,List.getElem?_eq_none (Nat.le_of_not_lt h)]
  exact zrun (n:=2) (zq (ze (zt (zo rfl (zm (zc rfl rfl) a2s) (ac5 h'))) rfl) (zr rfl)) rfl
theorem W2 {cs:List Int} {k:Nat} {i:Int} {sto:List SO} (h:i=(k:Int)):jx [scr cs,.int i] sto=some (.int (cell cs k),sto):=by
 subst h; exact a8b
def nm3:List Str:=["x","y","@p"]
theorem ab6:nm3.Nodup:=by decide +kernel
theorem afj:∀ x∈nm3,x∈U4:=by decide +kernel
structure Rk (bs:List Bd):Prop where
 n:bs.map (·.1)=nm3.take bs.length
 l:bs.length≤3
 w:∀ r∈bs,r.2.1≤r.2.2∧r.2.2≤r.2.1+2
theorem Rk.ns {bs:List Bd} (h:Rk bs):Fp (nsB bs):=by
 have:=h.l
 refine ⟨by rw [List.length_map]; omega,?_,fun x hx=>?_⟩
 ·show (bs.map (·.1)).Nodup
  rw [h.n]; exact List.Nodup.sublist (List.take_sublist _ _) ab6
 ·have hx:x∈bs.map (·.1):=hx
  rw [h.n] at hx; exact afj x (List.mem_of_mem_take hx)
section
variable {sto:List SO} {cs:List Int} {bs:List Bd} {v:Int}
abbrev qR (cs:List Int) (bs:List Bd) (o2 o3 o4:Slot) (sto:List SO):Sta:=⟨[some (scr cs,false),some (.lst (bs.map bdT),true),o2,o3,o4],sto⟩
theorem p25:abm (.int 10) (.int 25)=some (.int 10000000000000000000000000):=by simp [abm]
theorem a3g {o3 o4:Slot} (h:Rk bs) (hk:bs.length<3) :
  ∃ (bs':List Bd) (o3' o4':Slot),Rk bs'∧bs'.length=bs.length+1∧ab8 (qR cs bs (some (.int (bs.length:Int),false)) o3 o4 sto)=some (.next,qR cs bs' (some (.int (bs.length:Int),false)) o3' o4' sto):=by
 have ex:=W2 (cs:=cs) (k:=1+bs.length) (i:=1+(bs.length:Int)) (sto:=sto) (by omega)
 generalize cell cs (1+bs.length)=v at *
 have hk4:bs.length<nm3.length:=hk
 have i3:=Bc T.str nm3 hk4
 generalize hb:nm3[bs.length]=b at *
 have lb:bs.length<lim:=by show _<1000000; omega
 have mk:∀ lo:Int,Rk (bs++[(b,lo,lo+v%3)]):=fun lo=>by
  refine ⟨?_,by rw [List.length_append,List.length_singleton]; omega,fun r hr=>?_⟩
  ·rw [List.map_append,h.n,List.length_append,List.length_singleton,List.take_succ,List.getElem?_eq_getElem hk4,hb]; rfl
  ·rcases List.mem_append.mp hr with z | z
   ·exact h.w r z
   ·rw [List.mem_singleton] at z; subst z; dsimp only; omega
 have fin:∀ (lo:Int),qj 1 (gk (fun l=>some (.tup l)) (ao (mOp cj (gk (fun l=>some (.lst l)) (ao (au (.str "x")) (ao (au (.str "y")) (ao (au (.str "@p")) dw)))) (bx 2)) (ao (bx 4) (ao (mOp vo (bx 4) (mOp Al (bx 3) (au (.int 3)))) dw)))) (qR cs bs (some (.int (bs.length:Int),false)) (some (.int v,false)) (some (.int lo,false)) sto)=some (.next,qR cs (bs++[(b,lo,lo+v%3)]) (some (.int (bs.length:Int),false)) (some (.int v,false)) (some (.int lo,false)) sto):=fun lo =>
  za (zm (zc (zo rfl rfl i3) (zc rfl (zc (zo rfl (zo rfl rfl (md (by decide))) rfl) rfl))) rfl) rfl (by rw [List.length_map]; exact lb) rfl (by unfold qR; rw [List.map_append]; rfl)
 by_cases h1:v / 21%3=1
 ·refine ⟨bs++[(b,v%10000000000000000000000000,v%10000000000000000000000000+v%3)],some (.int v,false),some (.int (v%10000000000000000000000000),false),mk _,by rw [List.length_append,List.length_singleton],?_⟩
  unfold ab8
  generalize jx=F2 at *
  exact zq (zs (zf0 (zc rfl (zc (zo rfl rfl rfl) rfl)) ex)) (zq (zs (zo (zo (zo rfl rfl rfl) rfl rfl) rfl rfl)) (zq (s1:=qR cs bs (some (.int (bs.length:Int),false)) (some (.int v,false)) (some (.int (v%10000000000000000000000000),false)) sto) (zk (zt (zo (zo (zo rfl rfl rfl) rfl rfl) rfl (eq_i (beq_iff_eq.mpr h1)))) (ys (zo rfl (zo rfl rfl p25) (md (by decide))) rfl)) (fin _)))
 ·refine ⟨bs++[(b,v / 3%7 - 3,v / 3%7 - 3+v%3)],some (.int v,false),some (.int (v / 3%7 - 3),false),mk _,by rw [List.length_append,List.length_singleton],?_⟩
  unfold ab8
  generalize jx=F2 at *
  exact zq (zs (zf0 (zc rfl (zc (zo rfl rfl rfl) rfl)) ex)) (zq (zs (zo (zo (zo rfl rfl rfl) rfl rfl) rfl rfl)) (zq (s1:=qR cs bs (some (.int (bs.length:Int),false)) (some (.int v,false)) (some (.int (v / 3%7 - 3),false)) sto) (ze (zt (zo (zo (zo rfl rfl rfl) rfl rfl) rfl (eq_i (beq_eq_false_iff_ne.mpr h1)))) rfl) (fin _)))
theorem Qq:∀ (m:Nat) (bs:List Bd) (o2 o3 o4:Slot),Rk bs→bs.length+m≤3 →
  ∃ (bs':List Bd) (o2' o3' o4':Slot),Rk bs'∧bs'.length=bs.length+m∧forL (hName 2) ab8 ((List.range' bs.length m).map fun (j:Nat)=>T.int (j:Int)) (qR cs bs o2 o3 o4 sto)=some (.next,qR cs bs' o2' o3' o4' sto)
 | 0,bs,o2,o3,o4,h,_=>⟨bs,o2,o3,o4,h,rfl,by simp [forL]⟩
 | m+1,bs,o2,o3,o4,h,hl=>by
  obtain ⟨bs1,a,b,h1,l1,st⟩:=a3g (cs:=cs) (sto:=sto) (o3:=o3) (o4:=o4) h (by omega)
  obtain ⟨bs2,c,d,e,h2,l2,ih⟩:=Qq m bs1 (some (.int (bs.length:Int),false)) a b h1 (by omega)
  refine ⟨bs2,c,d,e,h2,by omega,?_⟩
  rw [List.range'_succ,List.map_cons,Dd (s1:=qR cs bs (some (.int (bs.length:Int),false)) o3 o4 sto) rfl st,← l1]
  exact ih
theorem a2y:∃ (bs:List Bd),Dy [scr cs] sto=some (.lst (bs.map bdT),sto)∧Rk bs∧1≤bs.length:=by
 have e0:=W2 (cs:=cs) (k:=0) (i:=0) (sto:=sto) rfl
 have R0:Rk []:=⟨rfl,by decide,fun r hr=>by cases hr⟩
 obtain ⟨bs,a,b,c,h,l,L⟩:=Qq (cs:=cs) (sto:=sto) (1+cell cs 0%3).toNat [] none none none R0 (by simp; omega)
 refine ⟨bs,?_,h,by simp at l; omega⟩
 have rg:yh (mOp vo (au (.int 1)) (mOp Al (iy jx (ao (bx 0) (ao (au (.int 0)) dw))) (au (.int 3)))) (qR cs [] none none none sto)=some ((List.range (1+cell cs 0%3).toNat).map (fun (k:Nat)=>T.int (k:Int)),qR cs [] none none none sto) :=
  zrg (m:=(1+cell cs 0%3).toNat) (by rw [Int.toNat_of_nonneg (by omega)]; exact zo rfl (zo (zf0 rfl e0) rfl rfl) rfl) (by show _<1000000; omega)
 rw [List.length_nil,← List.range_eq_range'] at L
 exact zrun (n:=5) (zq (zn rfl) (zq (Io rg L) (zr rfl))) rfl
theorem fd {i j:Int} (h:0<j) (h2:j<1073741824):vh (.int i) (.int j)=some (.int (i / j)):=if_pos ⟨h,.inl h2⟩
theorem ahe {p:Int} (h:¬ p=0):neO (.int p) (.int 0)=some (.bl true):=by rw [Ao,beq_eq_false_iff_ne.mpr h]; rfl
theorem ah8 {p:Int} (h:p=0):neO (.int p) (.int 0)=some (.bl false):=by subst h; rw [Ao]; rfl
def ds:List Int:=[18,90,450]
abbrev qU (v:Int) (bs:List Bd) (n:Int) (l:List Pr) (o4 o5:Slot) (sto:List SO):Sta:=⟨[some (.int v,false),some (.lst (bs.map bdT),false),some (.int n,false),some (.lst (l.map pT),true),o4,o5,none],sto⟩
theorem U8 (lb:bs.length≤3):∀ (m k:Nat) (n:Int) (l:List Pr) (o4 o5:Slot),k+m=bs.length→(ks l).Sublist ((bs.take k).map (·.1))→(∀ p∈l,-2≤p.2∧p.2≤2∧¬ p.2=0)→l.length≤k →
  ∃ (n':Int) (l':List Pr) (o4' o5':Slot),forL (hName 4) suB ((List.range' k m).map fun (j:Nat)=>T.int (j:Int)) (qU v bs n l o4 o5 sto)=some (.next,qU v bs n' l' o4' o5' sto)∧(ks l').Sublist (bs.map (·.1))∧(∀ p∈l',-2≤p.2∧p.2≤2∧¬ p.2=0)∧l'.length≤4
 | 0,k,n,l,o4,o5,hk,h1,h2,h3=>⟨n,l,o4,o5,by simp [forL],by rw [List.take_of_length_le (by omega)] at h1; exact h1,h2,by omega⟩
 | m+1,k,n,l,o4,o5,hk,h1,h2,h3=>by
  have hk4:k<ds.length:=by show k<3; omega
  have hkb:k<bs.length:=by omega
  have i1:=Bc T.int ds hk4
  have i2:=Bc bdT bs hkb
  have i3:cj (bdT bs[k]) (.int 0)=some (.str bs[k].1):=ju
  have i4:cj (bdT bs[k]) (.int 1)=some (.int bs[k].2.1):=lu
  have dp:0<ds[k]∧ds[k]<1073741824:=by
   have:∀ x∈ds,0<x∧x<1073741824:=by decide
   exact this _ (List.getElem_mem hk4)
  have tk:(bs.take (k+1)).map (·.1)=(bs.take k).map (·.1)++[bs[k].1]:=by
   rw [List.take_succ,List.getElem?_eq_getElem hkb,List.map_append]; rfl
  have st1:vf 5 (mOp Rt (mOp Al (mOp vh (bx 0) (mOp cj (gk (fun l=>some (.lst l)) (ao (au (.int 18)) (ao (au (.int 90)) (ao (au (.int 450)) dw)))) (bx 4))) (au (.int 5))) (au (.int 2))) (qU v bs n l (some (.int (k:Int),false)) o5 sto)=some (.next,qU v bs n l (some (.int (k:Int),false)) (some (.int (v / ds[k]%5 - 2),false)) sto) :=
   ys (zo (zo (zo rfl (zo rfl rfl i1) (fd dp.1 dp.2)) rfl rfl) rfl rfl) rfl
  by_cases hz:v / ds[k]%5 - 2=0
  ·obtain ⟨n',l',a,b,ih,q⟩:=U8 lb m (k+1) n l (some (.int (k:Int),false)) (some (.int (v / ds[k]%5 - 2),false)) (by omega) (by rw [tk]; exact h1.trans (List.sublist_append_left _ _)) h2 (by omega)
   refine ⟨n',l',a,b,?_,q⟩
   rw [List.range'_succ,List.map_cons]
   exact (Dd (t:=.int (k:Int)) rfl (zq st1 (ze (zt (zo rfl rfl (ah8 hz))) rfl))).trans ih
  ·have la:l.length<lim:=by show _<1000000; omega
   have bb:zx (v / ds[k]%5 - 2)=true:=by unfold zx; rw [decide_eq_true_eq]; omega
   obtain ⟨n',l',a,b,ih,q⟩:=U8 lb m (k+1) (n - (v / ds[k]%5 - 2) * bs[k].2.1) (l++[(bs[k].1,v / ds[k]%5 - 2)]) (some (.int (k:Int),false)) (some (.int (v / ds[k]%5 - 2),false)) (by omega) (by
     rw [tk]; unfold ks; rw [List.map_append]
     exact List.Sublist.append h1 (List.Sublist.refl _)) (fun p hp=>by
     rcases List.mem_append.mp hp with z | z -- here
     ·exact h2 p z
     ·rw [List.mem_singleton] at z; subst z; dsimp only; omega) (by rw [List.length_append,List.length_singleton]; omega)
   refine ⟨n',l',a,b,?_,q⟩
   rw [List.range'_succ,List.map_cons]
   exact (Dd (t:=.int (k:Int)) rfl (zq st1 (zk (zt (zo rfl rfl (ahe hz))) (zq (za (zm (zc (zo (zo rfl rfl i2) rfl i3) (zc rfl rfl)) rfl) rfl (by rw [List.length_map]; exact la) rfl rfl) (ys (zo rfl (zo rfl (zo (zo rfl rfl i2) rfl i4) (mu bb)) rfl) (by unfold qU; rw [List.map_append]; rfl)))))).trans ih
theorem a3m:okA "rest" := ⟨wj,by decide +kernel,by decide +kernel⟩
theorem Vt (h:Rk bs):∃ a:At,uf [.int v,.lst (bs.map bdT)] sto=some (atT a,sto)∧AtN (nsB bs) a:=by
 have lb:=h.l
 have hN:=h.ns
 obtain ⟨n,l,o4,o5,L,h1,h2,h3⟩:=U8 (sto:=sto) (bs:=bs) (v:=v) lb bs.length 0 (v / 2%9 - 4) [] none none (by omega) (by simp [ks]) (fun p hp=>by cases hp) (by simp)
 have nd:(ks l).Nodup:=h1.nodup hN.n
 obtain ⟨l',e,pm⟩:=a9b h3 nd
 have pk:(ks l').Perm (ks l):=pm.map _
 have hs:∀ b∈ks l',b∈nsB bs:=fun b hb=>h1.subset (pk.mem_iff.mp hb)
 have hsm:Xp U4 (n,l'):=⟨pk.nodup_iff.mpr nd,fun b hb=>hN.u b (hs b hb)⟩
 have hbd:∀ p∈l',-2≤p.2∧p.2≤2∧¬ p.2=0:=fun p hp=>h2 p (pm.mem_iff.mp hp)
 have rg:yh (gk Bw (ao (bx 1) dw)) (qU v bs (v / 2%9 - 4) [] none none sto)=some ((List.range bs.length).map (fun (k:Nat)=>T.int (k:Int)),qU v bs (v / 2%9 - 4) [] none none sto) :=
  zrg (m:=bs.length) (zm rfl a2s) (by show _<1000000; omega)
 rw [← List.range_eq_range'] at L
 by_cases h0:v%2=0
 ·refine ⟨⟨"most",(n,l'),[]⟩,?_,⟨a2b hsm,.inl ⟨rfl,rfl⟩,hs,hbd⟩⟩
  exact zrun (n:=7) (zq (zs (zo (zo (zo rfl rfl rfl) rfl rfl) rfl rfl)) (zq (zn rfl) (zq (Io rg L) (zq (zs (zm (zc rfl (zc (zm (zc (zm (zc rfl rfl) e) rfl) rfl) rfl)) rfl)) (zqr (zk (zt (zo (zo rfl rfl rfl) rfl (eq_i (beq_iff_eq.mpr h0)))) (zr (zm (zc rfl (zc rfl rfl)) rfl)))))))) rfl
 ·refine ⟨⟨"rest",(n,l'),[.int (2+v / 5000%11)]⟩,?_,⟨⟨⟨wj,hsm,fun _=>⟨_,rfl⟩⟩,a3m⟩,.inr ⟨rfl,_,rfl,by omega,by omega⟩,hs,hbd⟩⟩
  exact zrun (n:=7) (zq (zs (zo (zo (zo rfl rfl rfl) rfl rfl) rfl rfl)) (zq (zn rfl) (zq (Io rg L) (zq (zs (zm (zc rfl (zc (zm (zc (zm (zc rfl rfl) e) rfl) rfl) rfl)) rfl)) (zq (ze (zt (zo (zo rfl rfl rfl) rfl (eq_i (beq_eq_false_iff_ne.mpr h0)))) rfl) (zr (zm (zc rfl (zc rfl (zc (zo rfl (zo (zo rfl rfl rfl) rfl rfl) rfl) rfl))) rfl))))))) rfl
end
end K
end
section
namespace K
open C PySem
mutual
def ht:Fo→Nat
 | .at _=>0
 | .all l=>hts l
 | .any l=>1+hts l
def hts:List Fo→Nat
 | []=>0
 | f::l=>max (ht f) (hts l)
end
theorem a01:∀ {l:List Fo} {f:Fo},f∈l→ht f≤hts l
 | [],f,h=>by cases h
 | g::l,f,h=>by
  rw [hts]
  rcases List.mem_cons.mp h with rfl | h -- here
  ·exact Nat.le_max_left _ _
  ·exact Nat.le_trans (a01 h) (Nat.le_max_right _ _)
mutual
theorem a66:∀ f:Fo,∀ ms∈foO f,1+hts ms≤ht f
 | .at a,ms,h=>by rw [foO] at h; cases h
 | .all l,ms,h=>by rw [foO] at h; rw [ht]; exact Tt l ms h
 | .any l,ms,h=>by rw [foO,List.mem_singleton] at h; subst h; rw [ht]; exact Nat.le_refl _
theorem Tt:∀ l:List Fo,∀ ms∈vm l,1+hts ms≤hts l
 | [],ms,h=>by rw [vm] at h; cases h
 | f::l,ms,h=>by
  rw [vm] at h
  rw [hts]
  rcases List.mem_append.mp h with z | z
  ·exact Nat.le_trans (a66 f ms z) (Nat.le_max_left _ _)
  ·exact Nat.le_trans (Tt l ms z) (Nat.le_max_right _ _)
end
def zbd:Nat→Nat
 | 0=>1
 | d+1=>2+2 * zbd d
section
variable {sto:List SO} {cs:List Int} {bs:List Bd}
theorem a9c:∀ d,1≤zbd d
 | 0=>Nat.le_refl _
 | d+1=>by rw [zbd]; omega
abbrev qW (v:Int) (bs:List Bd) (d:Nat) (o3 o4 o5:Slot) (sto:List SO):Sta:=⟨[some (.int v,false),some (.lst (bs.map bdT),false),some (.int (d:Int),false),o3,o4,o5],sto⟩
theorem Nv (h:Rk bs):∀ (n d:Nat) (v:Int),d<n→∃ f:Fo,jj n [.int v,.lst (bs.map bdT),.int (d:Int)] sto=some (foT f,sto)∧Nr (nsB bs) f∧fz f≤zbd d∧ht f≤d
 | 0,d,v,hd=>by omega
 | n+1,d,v,hd=>by
  obtain ⟨a,ea,oa⟩:=Vt (sto:=sto) (v:=v / 6) h
  have atom:(v%6<3∨d=0)→∃ f:Fo,jj (n+1) [.int v,.lst (bs.map bdT),.int (d:Int)] sto=some (foT f,sto)∧Nr (nsB bs) f∧fz f≤zbd d∧ht f≤d:=fun hc=>by
   refine ⟨.at a,?_,oa,by rw [fz]; exact a9c d,by rw [ht]; exact Nat.zero_le _⟩
   have cond:mOr (gb (mOp ltT (bx 3) (au (.int 3)))) (gb (mOp eqO (bx 2) (au (.int 0)))) (qW v bs d (some (.int (v%6),false)) none none sto)=some (true,qW v bs d (some (.int (v%6),false)) none none sto):=by
    by_cases h3:v%6<3
    ·exact adt (zt (zo rfl rfl (adz h3)))
    ·have h0:((d:Int)==0)=true:=beq_iff_eq.mpr (by omega)
     exact a6n (zt (zo rfl rfl (ac5 h3))) (zt (zo rfl rfl (eq_i h0)))
   rw [Vj,jj]
   generalize jj n=F at *
   generalize uf=G at *
   exact zrun (n:=6) (zq (zs (zo rfl rfl rfl)) (zqr (zk cond (zr (zf0 (zc (zo rfl rfl rfl) (zc rfl rfl)) ea))))) rfl
  by_cases h3:v%6<3
  ·exact atom (.inl h3)
  cases d with
  | zero=>exact atom (.inr rfl)
  | succ d =>
   have cond:mOr (gb (mOp ltT (bx 3) (au (.int 3)))) (gb (mOp eqO (bx 2) (au (.int 0)))) (qW v bs (d+1) (some (.int (v%6),false)) none none sto)=some (false,qW v bs (d+1) (some (.int (v%6),false)) none none sto) :=
    a6n (zt (zo rfl rfl (ac5 h3))) (zt (zo rfl rfl (eq_i (beq_eq_false_iff_ne.mpr (by omega)))))
   obtain ⟨f,ef,of,zf,hf⟩:=Nv h n d (v / 42) (by omega)
   obtain ⟨g,eg,og,zg,hg⟩:=Nv h n d (v / 4200000) (by omega)
   obtain ⟨c,ec,oc⟩:=Vt (sto:=sto) (v:=v / 43) h
   have sub1:Rt (.int ((d+1:Nat):Int)) (.int 1)=some (.int (d:Int)):=by
    show some (T.int (((d+1:Nat):Int) - 1))=_
    rw [show ((d+1:Nat):Int) - 1=(d:Int) by omega]
   have two:∀ (w:Str),gk (fun l=>some (.tup l)) (ao (iy (jj n) (ao (mOp vh (bx 0) (au (.int 42))) (ao (bx 1) (ao (mOp Rt (bx 2) (au (.int 1))) dw)))) (ao (iy (jj n) (ao (mOp vh (bx 0) (au (.int 4200000))) (ao (bx 1) (ao (mOp Rt (bx 2) (au (.int 1))) dw)))) dw)) (qW v bs (d+1) (some (.int (v%6),false)) (some (.str w,false)) none sto)=some (.tup [foT f,foT g],qW v bs (d+1) (some (.int (v%6),false)) (some (.str w,false)) none sto):=fun w =>
    zm (zc (zf0 (zc (zo rfl rfl rfl) (zc rfl (zc (zo rfl rfl sub1) rfl))) ef) (zc (zf0 (zc (zo rfl rfl rfl) (zc rfl (zc (zo rfl rfl sub1) rfl))) eg) rfl)) rfl
   have k:v%6=3∨v%6=4∨v%6=5:=by omega
   have i1:cj (.lst [.str "and",.str "or"]) (.int 1)=some (.str "or"):=rfl
   have i0:cj (.lst [.str "and",.str "or"]) (.int 0)=some (.str "and"):=rfl
   rcases k with k | k | k
   ·refine ⟨.any [f,g],?_,?_,?_,?_⟩
    ·rw [Fj,jj]
     rw [k] at cond two
     generalize jj n=F at *
     generalize uf=G at *
     refine zrun (n:=6) (zq (ys (zo rfl rfl (md (by decide))) (by rw [k]; rfl)) (zq (ze cond rfl) (zq (zs (zo (zm (zc rfl (zc rfl rfl)) rfl) (zo rfl rfl rfl) i1)) (zq (ze (zan (zt (zo rfl rfl (eq_i (by decide))))) rfl) (zq (zs (two "or")) (zq (ze (zt (zo rfl rfl (eq_i (by decide)))) rfl) (zr (zm (zc rfl (zc rfl rfl)) rfl)))))))) rfl
    ·exact ⟨by simp,of,og,trivial⟩
    ·rw [fz,fzs,fzs,fzs,zbd]; omega
    ·rw [ht,hts,hts,hts]; omega
   ·refine ⟨.all [f,g],?_,?_,?_,?_⟩
    ·rw [N7,jj]
     rw [k] at cond two
     generalize jj n=F at *
     generalize uf=G at *
     refine zrun (n:=6) (zq (ys (zo rfl rfl (md (by decide))) (by rw [k]; rfl)) (zq (ze cond rfl) (zq (zs (zo (zm (zc rfl (zc rfl rfl)) rfl) (zo rfl rfl rfl) i0)) (zq (ze (zan (zt (zo rfl rfl (eq_i (by decide))))) rfl) (zq (zs (two "and")) (zq (ze (zt (zo rfl rfl (eq_i (by decide)))) rfl) (zr (zm (zc rfl (zc rfl rfl)) rfl)))))))) rfl
    ·exact ⟨by simp,of,og,trivial⟩
    ·rw [fz,fzs,fzs,fzs,zbd]; omega
    ·rw [ht,hts,hts,hts]; omega
   ·by_cases h7:v / 6%7=0
    ·refine ⟨.any [],?_,⟨by simp,trivial⟩,by rw [fz,fzs,zbd]; omega,by rw [ht,hts]; omega⟩
     rw [Fj,jj]
     rw [k] at cond two
     generalize jj n=F at *
     generalize uf=G at *
     have c7:Ba (gb (mOp eqO (bx 3) (au (.int 5)))) (gb (mOp eqO (mOp Al (mOp vh (bx 0) (au (.int 6))) (au (.int 7))) (au (.int 0)))) (qW v bs (d+1) (some (.int 5,false)) (some (.str "or",false)) none sto)=some (true,qW v bs (d+1) (some (.int 5,false)) (some (.str "or",false)) none sto) :=
      agf (j:=true) (k:=true) (zt (zo rfl rfl (eq_i (by decide)))) (zt (zo (zo (zo rfl rfl rfl) rfl rfl) rfl (eq_i (beq_iff_eq.mpr h7))))
     exact zrun (n:=6) (zq (ys (zo rfl rfl (md (by decide))) (by rw [k]; rfl)) (zq (ze cond rfl) (zq (zs (zo (zm (zc rfl (zc rfl rfl)) rfl) (zo rfl rfl rfl) i1)) (zqr (zk c7 (zr (zm (zc rfl (zc (zm rfl rfl) rfl)) rfl))))))) rfl
    ·refine ⟨.any [f,g,.at c],?_,⟨by simp,of,og,oc,trivial⟩,by rw [fz,fzs,fzs,fzs,fzs,fz,zbd]; omega,by rw [ht,hts,hts,hts,hts,ht]; omega⟩
     rw [Fj,jj]
     rw [k] at cond two
     generalize jj n=F at *
     generalize uf=G at *
     have c7:Ba (gb (mOp eqO (bx 3) (au (.int 5)))) (gb (mOp eqO (mOp Al (mOp vh (bx 0) (au (.int 6))) (au (.int 7))) (au (.int 0)))) (qW v bs (d+1) (some (.int 5,false)) (some (.str "or",false)) none sto)=some (false,qW v bs (d+1) (some (.int 5,false)) (some (.str "or",false)) none sto) :=
      agf (j:=true) (k:=false) (zt (zo rfl rfl (eq_i (by decide)))) (zt (zo (zo (zo rfl rfl rfl) rfl rfl) rfl (eq_i (beq_eq_false_iff_ne.mpr h7))))
     exact zrun (n:=6) (zq (ys (zo rfl rfl (md (by decide))) (by rw [k]; rfl)) (zq (ze cond rfl) (zq (zs (zo (zm (zc rfl (zc rfl rfl)) rfl) (zo rfl rfl rfl) i1)) (zq (ze c7 rfl) (zq (zs (two "or")) (zqr (zk (zt (zo rfl rfl (eq_i (by decide)))) (zr (zm (zc rfl (zc (zo rfl (zm (zc (zf0 (zc (zo rfl rfl rfl) (zc rfl rfl)) ec) rfl) rfl) rfl) rfl)) (by rw [← Vj]; rfl))))))))))  rfl
def InB:List Bd→List Pr→Prop
 | [],[]=>True
 | r::bs,p::bk=>p.1=r.1∧r.2.1≤p.2∧p.2≤r.2.2∧InB bs bk
 | _,_=>False
theorem InB.ks:∀ {bs:List Bd} {bk:List Pr},InB bs bk→ks bk=nsB bs
 | [],[],_=>rfl
 | r::bs,p::bk,h=>by
  have ih:=InB.ks h.2.2.2
  show p.1::K.ks bk=r.1::nsB bs
  rw [h.1,ih]
 | [],p::bk,h=>h.elim
 | r::bs,[],h=>h.elim
theorem InB.snoc:∀ {bs:List Bd} {bk:List Pr} {r:Bd},InB (bs++[r]) bk↔∃ (b0:List Pr) (v:Int),bk=b0++[(r.1,v)]∧InB bs b0∧r.2.1≤v∧v≤r.2.2
 | [],[],r=>⟨fun h=>h.elim,fun ⟨b0,v,e,_⟩=>by cases b0 <;> cases e⟩
 | [],p::bk,r=>by
  constructor
  ·intro h
   cases bk with
   | nil=>exact ⟨[],p.2,by rw [← h.1]; rfl,trivial,h.2.1,h.2.2.1⟩
   | cons q bk=>exact h.2.2.2.elim
  ·rintro ⟨b0,v,e,h,h1,h2⟩
   cases b0 with
   | nil=>cases e; exact ⟨rfl,h1,h2,trivial⟩
   | cons q b0=>exact h.elim
 | s::bs,[],r=>⟨fun h=>h.elim,fun ⟨b0,v,e,_⟩=>by cases b0 <;> cases e⟩
 | s::bs,p::bk,r=>by
  constructor
  ·intro h
   obtain ⟨b0,v,e,h1,h2⟩:=InB.snoc.mp h.2.2.2
   exact ⟨p::b0,v,by rw [e]; rfl,⟨h.1,h.2.1,h.2.2.1,h1⟩,h2⟩
  ·rintro ⟨b0,v,e,h1,h2⟩
   cases b0 with
   | nil=>exact h1.elim
   | cons q b0 =>
    cases e
    exact ⟨h1.1,h1.2.1,h1.2.2.1,InB.snoc.mpr ⟨b0,v,rfl,h1.2.2.2,h2⟩⟩
theorem InB.rng:∀ {bs:List Bd} {bk:List Pr},InB bs bk→(nsB bs).Nodup→∀ r∈bs,r.2.1≤gt bk r.1∧gt bk r.1≤r.2.2
 | [],_,_,_,r,hr=>by cases hr
 | s::bs,[],h,_,_,_=>h.elim
 | s::bs,p::bk,h,nd,r,hr=>by
  have nd':s.1∉nsB bs∧(nsB bs).Nodup:=List.nodup_cons.mp nd
  obtain ⟨k,v⟩:=p
  have hk:k=s.1:=h.1
  subst hk
  rcases List.mem_cons.mp hr with rfl | hr
  ·rw [gt,if_pos rfl]; exact ⟨h.2.1,h.2.2.1⟩
  ·have ne:¬ s.1=r.1:=fun e=>nd'.1 (by rw [e]; exact List.mem_map.mpr ⟨r,hr,rfl⟩)
   rw [gt,if_neg ne]
   exact InB.rng h.2.2.2 nd'.2 r hr
abbrev dkT (b:List Pr):T:=.dic (dd b)
abbrev qB (Z L:T) (o2 o3 o4:Slot) (M:List (List Pr)) (o6 o7 o8:Slot) (sto:List SO):Sta:=⟨[some (Z,false),some (L,false),o2,o3,o4,some (.lst (M.map dkT),true),o6,o7,o8],sto⟩
theorem a6u {d:List Pr} {b:Str} {v:Int} (h:b∉ks d):pt d b v=d++[(b,v)]:=if_neg h
theorem a04 {Z L:T} {b0:List Pr} {x:Str} {o3 o4:Slot} (hx:x∉ks b0) (l0:b0.length≤10):∀ (vs:List Int) (M:List (List Pr)) (o7 o8:Slot),M.length+vs.length≤900 →
  ∃ o7' o8':Slot,forL (hName 7) bkB (vs.map T.int) (qB Z L (some (.str x,false)) o3 o4 M (some (dkT b0,false)) o7 o8 sto)=some (.next,qB Z L (some (.str x,false)) o3 o4 (M++vs.map fun v=>b0++[(x,v)]) (some (dkT b0,false)) o7' o8' sto)
 | [],M,o7,o8,_=>⟨o7,o8,by rw [List.map_nil,List.map_nil,List.append_nil]; rfl⟩
 | v::vs,M,o7,o8,hl=>by
  rw [List.length_cons] at hl
  obtain ⟨a,b,ih⟩:=a04 (o3:=o3) (o4:=o4) hx l0 vs (M++[b0++[(x,v)]]) (some (.int v,false)) (some (dkT (b0++[(x,v)]),false)) (by rw [List.length_append,List.length_singleton]; omega)
  refine ⟨a,b,?_⟩
  have lk:(dd b0).length<lim:=by unfold dd; rw [List.length_map]; show _<1000000; omega
  have lM:(M.map dkT).length<lim:=by rw [List.length_map]; show _<1000000; omega
  rw [List.map_cons,List.map_cons,List.append_cons,← ih]
  refine Dd (s1:=qB Z L (some (.str x,false)) o3 o4 M (some (dkT b0,false)) (some (.int v,false)) o8 sto) rfl (zq (s1:=qB Z L (some (.str x,false)) o3 o4 M (some (dkT b0,false)) (some (.int v,false)) (some (dkT b0,true)) sto) rfl (zq (s1:=qB Z L (some (.str x,false)) o3 o4 M (some (dkT b0,false)) (some (.int v,false)) (some (dkT (b0++[(x,v)]),true)) sto) (zw rfl rfl rfl rfl rfl lk (by rw [a1z,a6u hx]; rfl)) (za rfl rfl lM rfl (by unfold qB; rw [List.map_append]; rfl))))
theorem Vn {Z L:T} {x:Str} {lo hi:Int} (hh:lo≤hi∧hi≤lo+2):∀ (bks M:List (List Pr)) (o6 o7 o8:Slot),(∀ b∈bks,x∉ks b∧b.length≤10)→M.length+3 * bks.length≤900 →
  ∃ o6' o7' o8':Slot,forL (hName 6) (Fq (hName 7) (Ds (bx 3) (mOp vo (bx 4) (au (.int 1)))) bkB) (bks.map dkT) (qB Z L (some (.str x,false)) (some (.int lo,false)) (some (.int hi,false)) M o6 o7 o8 sto)=some (.next,qB Z L (some (.str x,false)) (some (.int lo,false)) (some (.int hi,false)) (M++bks.flatMap fun b0=>((List.range (hi+1 - lo).toNat).map fun (k:Nat)=>lo+(k:Int)).map fun v=>b0++[(x,v)]) o6' o7' o8' sto)
 | [],M,o6,o7,o8,_,_=>⟨o6,o7,o8,by rw [List.flatMap_nil,List.append_nil]; rfl⟩
 | b0::bks,M,o6,o7,o8,hb,hl=>by
  rw [List.length_cons] at hl
  obtain ⟨h1,h2⟩:=hb b0 List.mem_cons_self
  have ln:((List.range (hi+1 - lo).toNat).map fun (k:Nat)=>lo+(k:Int)).length≤3:=by rw [List.length_map,List.length_range]; omega
  obtain ⟨a,b,e⟩:=a04 (sto:=sto) (Z:=Z) (L:=L) (o3:=some (.int lo,false)) (o4:=some (.int hi,false)) h1 h2 ((List.range (hi+1 - lo).toNat).map fun (k:Nat)=>lo+(k:Int)) M o7 o8 (by omega)
  obtain ⟨c,d,f,ih⟩:=Vn hh bks (M++((List.range (hi+1 - lo).toNat).map fun (k:Nat)=>lo+(k:Int)).map fun v=>b0++[(x,v)]) (some (dkT b0,false)) a b (fun y hy=>hb y (List.mem_cons_of_mem _ hy)) (by rw [List.length_append,List.length_map]; omega)
  refine ⟨c,d,f,?_⟩
  rw [List.flatMap_cons,← List.append_assoc,← ih,List.map_cons]
  refine Dd (s1:=qB Z L (some (.str x,false)) (some (.int lo,false)) (some (.int hi,false)) M (some (dkT b0,false)) o7 o8 sto) rfl (Io (s1:=qB Z L (some (.str x,false)) (some (.int lo,false)) (some (.int hi,false)) M (some (dkT b0,false)) o7 o8 sto) (ts:=((List.range (hi+1 - lo).toNat).map fun (k:Nat)=>lo+(k:Int)).map T.int) ?_ e)
  unfold Ds
  have hc:((hi+1) - lo).natAbs<lim:=by show _<1000000; omega
  show (if ((hi+1) - lo).natAbs<lim then _ else _)=_
  rw [if_pos hc]
  unfold Fi
  rw [List.map_map]
  rfl
end
section
variable {sto:List SO} {bs:List Bd}
abbrev boB:S:=(jz (sNew 5 (gk (fun l=>some (.lst l)) dw))
 (jz (Fq (hName 6) (yd (bx 1))
 (Fq (hName 7) (Ds (bx 3) (mOp vo (bx 4) (au (.int 1)))) bkB))
 (vf 1 (bx 5))))
theorem a6z {α β:Type} {f:α→List β} {c:Nat}:∀ {l:List α},(∀ a∈l,(f a).length≤c)→(l.flatMap f).length≤c * l.length
 | [],_=>by simp
 | a::l,h=>by
  have h1:=h a List.mem_cons_self
  have h2:=a6z (f:=f) (c:=c) (l:=l) fun x hx=>h x (List.mem_cons_of_mem _ hx)
  rw [List.flatMap_cons,List.length_append,List.length_cons,Nat.mul_add]
  omega
theorem Mj {Z:T} (hd:(nsB bs).Nodup):∀ (rs pre:List Bd) (bks:List (List Pr)) (o2 o3 o4 o5 o6 o7 o8:Slot),bs=pre++rs→bs.length≤3→(∀ r∈rs,r.2.1≤r.2.2∧r.2.2≤r.2.1+2)→(∀ bk,bk∈bks↔InB pre bk)→bks.length * 3 ^ rs.length≤27 →
  ∃ (L:List (List Pr)) (p2 p3 p4 p5 p6 p7 p8:Slot),forL (Cw [2,3,4]) boB (rs.map bdT) ⟨[some (Z,false),some (.lst (bks.map dkT),false),o2,o3,o4,o5,o6,o7,o8],sto⟩=some (.next,⟨[some (Z,false),some (.lst (L.map dkT),false),p2,p3,p4,p5,p6,p7,p8],sto⟩)∧(∀ bk,bk∈L↔InB bs bk)∧L.length≤27
 | [],pre,bks,o2,o3,o4,o5,o6,o7,o8,e,_,_,hm,hl=>⟨bks,o2,o3,o4,o5,o6,o7,o8,rfl,by rw [List.append_nil] at e; rw [e]; exact hm,by simpa using hl⟩
 | r::rs,pre,bks,o2,o3,o4,o5,o6,o7,o8,e,hl3,hw,hm,hl=>by
  have w:=hw r List.mem_cons_self
  have pos:1≤3 ^ rs.length:=Nat.one_le_iff_ne_zero.mpr (by simp)
  have lp:bks.length * 3 ^ rs.length * 3≤27:=by rw [Nat.mul_assoc,← Nat.pow_succ]; exact hl
  have l9:bks.length≤9:=by
   have:bks.length * 1≤bks.length * 3 ^ rs.length:=Nat.mul_le_mul_left _ pos
   omega
  have nx:r.1∉nsB pre:=by
   have:(nsB pre++r.1::nsB rs).Nodup:=by
    have e2:nsB bs=nsB pre++r.1::nsB rs:=by rw [e]; exact List.map_append
    rw [← e2]; exact hd
   exact fun z=>(List.nodup_append.mp this).2.2 _ z _ List.mem_cons_self rfl
  have hk:∀ b∈bks,r.1∉ks b∧b.length≤10:=fun b hb=>by
   have z:=InB.ks ((hm b).mp hb)
   refine ⟨by rw [z]; exact nx,?_⟩
   have:=congrArg List.length z
   unfold ks nsB at this
   rw [List.length_map,List.length_map] at this
   have:bs.length=pre.length+(rs.length+1):=by rw [e,List.length_append,List.length_cons]
   omega
  obtain ⟨a6,a7,a8,ea⟩:=Vn (sto:=sto) (Z:=Z) (L:=.lst (bks.map dkT)) (x:=r.1) w bks [] o6 o7 o8 hk (by simp; omega)
  obtain ⟨L,p2,p3,p4,p5,p6,p7,p8,ih,h1,h2⟩:=Mj hd rs (pre++[r]) (bks.flatMap fun b0=>((List.range (r.2.2+1 - r.2.1).toNat).map fun (k:Nat)=>r.2.1+(k:Int)).map fun v=>b0++[(r.1,v)]) (some (.str r.1,false)) (some (.int r.2.1,false)) (some (.int r.2.2,false)) (some (.lst ((bks.flatMap fun b0=>((List.range (r.2.2+1 - r.2.1).toNat).map fun (k:Nat)=>r.2.1+(k:Int)).map fun v=>b0++[(r.1,v)]).map dkT),false)) a6 a7 a8 (by rw [e,List.append_assoc]; rfl) hl3 (fun x hx=>hw x (List.mem_cons_of_mem _ hx)) (fun bk=>by
    rw [InB.snoc,List.mem_flatMap]
    constructor
    ·rintro ⟨b0,hb0,h⟩
     obtain ⟨v,hv,rfl⟩:=List.mem_map.mp h
     obtain ⟨k,hk2,rfl⟩:=List.mem_map.mp hv
     rw [List.mem_range] at hk2
     exact ⟨b0,_,rfl,(hm b0).mp hb0,by omega,by omega⟩
    ·rintro ⟨b0,v,rfl,h,g1,g2⟩
     refine ⟨b0,(hm b0).mpr h,List.mem_map.mpr ⟨v,List.mem_map.mpr ⟨(v - r.2.1).toNat,List.mem_range.mpr (by omega),by omega⟩,rfl⟩⟩) (by
    have:(bks.flatMap fun b0=>((List.range (r.2.2+1 - r.2.1).toNat).map fun (k:Nat)=>r.2.1+(k:Int)).map fun v=>b0++[(r.1,v)]).length≤3 * bks.length:=a6z fun b _=>by
     rw [List.length_map,List.length_map,List.length_range]; omega
    have:=Nat.mul_le_mul_right (3 ^ rs.length) this
    have e3:3 * bks.length * 3 ^ rs.length=bks.length * 3 ^ rs.length * 3:=by
     rw [Nat.mul_comm 3,Nat.mul_assoc,Nat.mul_assoc,Nat.mul_comm 3]
    rw [e3] at this
    exact Nat.le_trans this lp)
  refine ⟨L,p2,p3,p4,p5,p6,p7,p8,?_,h1,h2⟩
  rw [← ih,List.map_cons]
  have lb:bks.length<lim:=by show _<1000000; omega
  refine Dd (s1:=⟨[some (Z,false),some (.lst (bks.map dkT),false),some (.str r.1,false),some (.int r.2.1,false),some (.int r.2.2,false),o5,o6,o7,o8],sto⟩) (by rw [bdT,Xd]; rfl) (zq (s1:=⟨[some (Z,false),some (.lst (bks.map dkT),false),some (.str r.1,false),some (.int r.2.1,false),some (.int r.2.2,false),some (.lst [],true),o6,o7,o8],sto⟩) rfl (zq (Io (zis rfl lb) ea) (ys rfl rfl)))
theorem a0v (h:Rk bs):∃ L:List (List Pr),Ah [.lst (bs.map bdT)] sto=some (.lst (L.map dkT),sto)∧(∀ bk,bk∈L↔InB bs bk)∧L.length≤27:=by
 have hl:=h.l
 have lb:bs.length<lim:=by show _<1000000; omega
 have l3:3 ^ bs.length≤27:=Nat.pow_le_pow_right (n:=3) (by decide) hl
 obtain ⟨L,p2,p3,p4,p5,p6,p7,p8,e,h1,h2⟩:=Mj (sto:=sto) (Z:=.lst (bs.map bdT)) h.ns.n bs [] [[]] none none none none none none none rfl hl h.w (fun bk=>by
  rw [List.mem_singleton]
  constructor
  ·rintro rfl; exact trivial
  ·intro z
   cases bk with
   | nil=>rfl
   | cons p bk=>exact z.elim) (by simpa using l3)
 exact ⟨L,zrun (n:=9) (zq (zs rfl) (zq (Io (zis rfl lb) e) (zr rfl))) rfl,h1,h2⟩
end
def gr (bk:List Pr) (p:Pr):Sm × Int:=if p.2<0 then ((-gt bk p.1,[(p.1,1)]),-p.2) else ((gt bk p.1,[(p.1,-1)]),p.2)
def gr2 (bk:List Pr) (p:Pr):Sm × Int:=((-gt bk p.1,[(p.1,1)]),-p.2)
theorem acd {f:List Int→Option (Sm × Int)}:∀ {rs:List (List Int)} {gs:List (Sm × Int)},rs.map f=gs.map some→rs.filterMap f=gs∧rs.all (fun l=>(f l).isSome)=true
 | [],[],_=>⟨rfl,rfl⟩
 | [],g::gs,h=>by simp at h
 | r::rs,[],h=>by simp at h
 | r::rs,g::gs,h=>by
  rw [List.map_cons,List.map_cons,List.cons.injEq] at h
  obtain ⟨i1,i2⟩:=acd h.2
  rw [List.filterMap_cons,h.1,i1,List.all_cons,i2,h.1]
  exact ⟨rfl,rfl⟩
section
variable {bk:List Pr} {ns:List Str} {A:List At} {sto:List SO}
theorem ag4 {g:Pr→Sm × Int} (hg:∀ p,(g p).2 * (g p).1.1=p.2 * gt bk p.1):∀ l:List Pr,cN (l.map g)=at' bk l
 | []=>rfl
 | p::l=>by
  have ih:=ag4 hg l
  unfold cN at' at *
  rw [List.map_cons,List.map_cons,List.map_cons,List.sum_cons,List.sum_cons,ih,hg]
theorem agg {g:Pr→Sm × Int} {b:Str} (hg:∀ p,(g p).2 * gt (g p).1.2 b = - (if p.1=b then p.2 else 0)):∀ l:List Pr,cF (l.map g) b = - tot l b
 | []=>rfl
 | p::l=>by
  have ih:=agg hg l
  unfold cF at *
  rw [List.map_cons,List.map_cons,List.sum_cons,ih,tot,hg]
  omega
theorem agr (p:Pr):(gr bk p).2 * (gr bk p).1.1=p.2 * gt bk p.1:=by
 unfold gr
 by_cases q:p.2<0
 ·rw [if_pos q]; dsimp only; rw [Int.neg_mul_neg]
 ·rw [if_neg q]
theorem agx {b:Str} (p:Pr):(gr bk p).2 * gt (gr bk p).1.2 b = - (if p.1=b then p.2 else 0):=by
 unfold gr
 by_cases q:p.2<0
 ·rw [if_pos q]; dsimp only
  by_cases z:p.1=b
  ·rw [if_pos z,gt,if_pos z]; omega
  ·rw [if_neg z,gt,if_neg z,gt]; omega
 ·rw [if_neg q]; dsimp only
  by_cases z:p.1=b
  ·rw [if_pos z,gt,if_pos z]; omega
  ·rw [if_neg z,gt,if_neg z,gt]; omega
theorem afr (p:Pr):(gr2 bk p).2 * (gr2 bk p).1.1=p.2 * gt bk p.1:=by unfold gr2; dsimp only; rw [Int.neg_mul_neg]
theorem aft {b:Str} (p:Pr):(gr2 bk p).2 * gt (gr2 bk p).1.2 b = - (if p.1=b then p.2 else 0):=by
 unfold gr2; dsimp only
 by_cases z:p.1=b
 ·rw [if_pos z,gt,if_pos z]; omega
 ·rw [if_neg z,gt,if_neg z,gt]; omega
theorem a03 {g:Pr→Sm × Int} {n:Int} {l:List Pr} (hg:∀ p,(g p).2 * (g p).1.1=p.2 * gt bk p.1):cN (((n,l),1)::l.map g)=n+at' bk l:=by
 have:=ag4 hg l
 unfold cN at *
 rw [List.map_cons,List.sum_cons,this]; dsimp only; omega
theorem a1s {g:Pr→Sm × Int} {n:Int} {l:List Pr} (hl:(ks l).Nodup) (hg:∀ b p,(g p).2 * gt (g p).1.2 b = - (if p.1=b then p.2 else 0)):canon U4 (cF (((n,l),1)::l.map g))=[]:=by
 have c2:∀ b,cF (((n,l),1)::l.map g) b=0:=fun b=>by
  have:=agg (hg b) l
  unfold cF at *
  rw [List.map_cons,List.sum_cons,this,Ql hl]; dsimp only; omega
 unfold canon
 rw [List.filter_eq_nil_iff.mpr fun b _=>by rw [c2 b]; decide]
 rfl
theorem a4n {rs:List (List Int)} {l:List Pr} {n:Int} (hl:(ks l).Nodup) (hn:0<n+at' bk l) (e:rs.map (look A)=(((n,l),1)::l.map (gr bk)).map some):G8 U4 A rs=true:=by
 obtain ⟨e1,e2⟩:=acd e
 unfold G8 fin
 rw [e1,e2]
 dsimp only
 rw [a03 agr,a1s hl fun b p=>agx p,decide_eq_true hn]
 rfl
theorem a0s {rs:List (List Int)} {l:List Pr} {n m:Int} (hm:2≤m) (hl:(ks l).Nodup) (hn:¬ (n+at' bk l)%m=0) (ok:rs.all (yc U4 m A)=true) (e:rs.map (gv A)=((n,l),1)::l.map (gr2 bk)):Ac U4 A m rs=true:=by
 unfold Ac ad5
 rw [e,ok,decide_eq_true hm]
 dsimp only
 rw [a03 afr,a1s hl fun b p=>aft p]
 simpa using hn
def Held (bk:List Pr) (ns:List Str) (A:List At):Prop:=∀ b∈ns,aL b (gt bk b)∈A∧aM b (gt bk b)∈A
theorem Held.add {A2:List At} (h:Held bk ns A):Held bk ns (A++A2):=fun b hb=>⟨List.mem_append_left _ (h b hb).1,List.mem_append_left _ (h b hb).2⟩
theorem ach {p:Pr} (hN:Fp ns) (hA:A.length<1000) (ok:∀ a∈A,AtN ns a) (hh:Held bk ns A) (hp:p.1∈ns) :
  ∃ (i j:Nat) (a c:At),u6 [.lst (A.map atT),.str p.1,.int (-1),.int (gt bk p.1)] sto=some (.int (i:Int),sto)∧u6 [.lst (A.map atT),.str p.1,.int 1,.int (gt bk p.1)] sto=some (.int (j:Int),sto) ∧
   A[i]? = some a∧(a.k==("most" : Str))=true∧a.s=(gt bk p.1,[(p.1,-1)])∧A[j]? = some c∧(c.k==("most" : Str))=true∧c.s=(-gt bk p.1,[(p.1,1)]):=by
 obtain ⟨h1,h2⟩:=hh _ hp
 have n1:- -(1:Int) * gt bk p.1=gt bk p.1:=by omega
 have n2:-(1:Int) * gt bk p.1 = - gt bk p.1:=by omega
 obtain ⟨i,a,e1,e2,e3,e4⟩:=Wa (sto:=sto) (v:=-1) (n:=gt bk p.1) hN hp (.inr rfl) hA ok (by rw [n1]; exact h1)
 obtain ⟨j,c,f1,f2,f3,f4⟩:=Wa (sto:=sto) (v:=1) (n:=gt bk p.1) hN hp (.inl rfl) hA ok (by rw [n2]; exact h2)
 rw [n1] at e4
 rw [n2] at f4
 exact ⟨i,j,a,c,e1,f1,e2,e3,e4,f2,f3,f4⟩
abbrev W4:=Slot × Slot × Slot × Slot
abbrev qC (A:List At) (O:T) (bk:List Pr) (i:Nat) (rs:List (List Int)) (w:W4) (x:Slot × Slot × Slot) (sto:List SO):Sta :=
 ⟨[some (.lst (A.map atT),false),some (O,false),some (.dic (dd bk),false),some (.int (i:Int),false),some (.lst (rs.map ilT),true),w.1,w.2.1,w.2.2.1,w.2.2.2,x.1,x.2.1,x.2.2],sto⟩
def ae3 (rs:List (List Int)):Prop:=∀ l∈rs,l.length≤100∧∀ n∈l,zx n=true
theorem bb {n:Int} (h:-1000≤n∧n≤1000):zx n=true:=by unfold zx; rw [decide_eq_true_eq]; omega
theorem Q8 {O:T} {i:Nat} {a:At} {x:Slot × Slot × Slot} (hN:Fp ns) (hA:A.length<1000) (ok:∀ a∈A,AtN ns a) (hh:Held bk ns A) (hb:∀ b∈ns,b∈ks bk) (hi:A[i]? = some a) (ka:a.k = "most") :
  ∀ (l:List Pr) (rs:List (List Int)) (w:W4),(∀ p∈l,p.1∈ns)→(∀ p∈l,-2≤p.2∧p.2≤2∧¬ p.2=0)→rs.length+l.length≤20 →
  ∃ (rs':List (List Int)) (w':W4),forL (Cw [5,6]) clB (l.map pT) (qC A O bk i rs w x sto)=some (.next,qC A O bk i (rs++rs') w' x sto)∧rs'.length=l.length∧ae3 rs'∧rs'.map (look A)=(l.map (gr bk)).map some
 | [],rs,w,_,_,_=>⟨[],w,by rw [List.append_nil]; rfl,rfl,fun l hl=>(by cases hl),rfl⟩
 | p::l,rs,w,h1,h2,h3=>by
  have hp:=h2 p List.mem_cons_self
  have hpn:=h1 p List.mem_cons_self
  rw [List.length_cons] at h3
  obtain ⟨j1,j2,a1,a2,e1,e2,f1,k1,s1,f2,k2,s2⟩:=ach (sto:=sto) hN hA ok hh hpn
  have b1:j1<1000:=by have:=(List.getElem?_eq_some_iff.mp f1).1; omega
  have b2:j2<1000:=by have:=(List.getElem?_eq_some_iff.mp f2).1; omega
  have ig:cj (.dic (dd bk)) (.str p.1)=some (.int (gt bk p.1)):=Gw (hb _ hpn)
  have ii:cj (.lst (A.map atT)) (.int (i:Int))=some (atT a):=Hv (by rw [List.getElem?_map,hi]; rfl)
  have i0:cj (atT a) (.int 0)=some (.str "most"):=by unfold atT; rw [ka]; exact ju
  have la:(rs.map ilT).length<lim:=by rw [List.length_map]; show _<1000000; omega
  have row:∃ row:List Int,clB (qC A O bk i rs (some (.str p.1,false),some (.int p.2,false),w.2.2.1,w.2.2.2) x sto)=some (.next,qC A O bk i (rs++[row]) (some (.str p.1,false),some (.int p.2,false),some (.int (j1:Int),false),some (.int (j2:Int),false)) x sto)∧row.length≤100∧(∀ n∈row,zx n=true)∧look A row=some (gr bk p):=by
   by_cases q:p.2<0
   ·refine ⟨[(j2:Int),-p.2],?_,by simp,?_,?_⟩
    ·unfold clB
     generalize u6=F at *
     refine zq (zs (zf0 (zc rfl (zc rfl (zc (zun rfl rfl) (zc (zo rfl rfl ig) rfl)))) e1)) (zq (zs (zf0 (zc rfl (zc rfl (zc rfl (zc (zo rfl rfl ig) rfl)))) e2)) (ze (zt (zo (zo (zo rfl rfl ii) rfl i0) rfl adi)) (za (t:=ilT [(j2:Int),-p.2]) (zm (zc (zo (zm (zc rfl (zc rfl rfl)) rfl) (zm (zc (zo rfl rfl (adz q)) rfl) rfl) rfl) (zc (zm (zc rfl rfl) ?_) rfl)) rfl) rfl la rfl (by unfold qC; rw [List.map_append]; rfl))))
     show some (T.int (if p.2<0 then -p.2 else p.2))=_
     rw [if_pos q]
    ·intro n hn
     simp only [List.mem_cons,List.not_mem_nil,or_false] at hn
     rcases hn with rfl | rfl
     ·exact bb (by omega)
     ·exact bb (by omega)
    ·have c:0≤(j2:Int)∧0 < -p.2:=⟨by omega,by omega⟩
     unfold look gr
     dsimp only
     rw [if_pos c,if_pos q,Int.toNat_natCast,f2]
     dsimp only
     rw [if_pos k2,s2]
   ·refine ⟨[(j1:Int),p.2],?_,by simp,?_,?_⟩
    ·unfold clB
     generalize u6=F at *
     refine zq (zs (zf0 (zc rfl (zc rfl (zc (zun rfl rfl) (zc (zo rfl rfl ig) rfl)))) e1)) (zq (zs (zf0 (zc rfl (zc rfl (zc rfl (zc (zo rfl rfl ig) rfl)))) e2)) (ze (zt (zo (zo (zo rfl rfl ii) rfl i0) rfl adi)) (za (t:=ilT [(j1:Int),p.2]) (zm (zc (zo (zm (zc rfl (zc rfl rfl)) rfl) (zm (zc (zo rfl rfl (ac5 q)) rfl) rfl) rfl) (zc (zm (zc rfl rfl) ?_) rfl)) rfl) rfl la rfl (by unfold qC; rw [List.map_append]; rfl))))
     show some (T.int (if p.2<0 then -p.2 else p.2))=_
     rw [if_neg q]
    ·intro n hn
     simp only [List.mem_cons,List.not_mem_nil,or_false] at hn
     rcases hn with rfl | rfl
     ·exact bb (by omega)
     ·exact bb (by omega)
    ·have c:0≤(j1:Int)∧0<p.2:=⟨by omega,by omega⟩
     unfold look gr
     dsimp only
     rw [if_pos c,if_neg q,Int.toNat_natCast,f1]
     dsimp only
     rw [if_pos k1,s1]
  obtain ⟨row,er,r1,r2,r3⟩:=row
  obtain ⟨rs',w',ih,q1,q2,q3⟩:=Q8 hN hA ok hh hb hi ka l (rs++[row]) (some (.str p.1,false),some (.int p.2,false),some (.int (j1:Int),false),some (.int (j2:Int),false)) (fun x hx=>h1 x (List.mem_cons_of_mem _ hx)) (fun x hx=>h2 x (List.mem_cons_of_mem _ hx)) (by rw [List.length_append,List.length_singleton]; omega)
  refine ⟨row::rs',w',?_,by simp [q1],?_,?_⟩
  ·rw [List.append_cons,← ih,List.map_cons]
   exact Dd (s1:=qC A O bk i rs (some (.str p.1,false),some (.int p.2,false),w.2.2.1,w.2.2.2) x sto) (by rw [pT,Q5]; rfl) er
  ·intro y hy
   rcases List.mem_cons.mp hy with rfl | hy -- here
   ·exact ⟨r1,r2⟩
   ·exact q2 y hy
  ·rw [List.map_cons,List.map_cons,List.map_cons,q3,r3]
theorem Qi {O:T} {i:Nat} {a:At} {m:Int} {x:Slot × Slot × Slot} (hN:Fp ns) (hA:A.length<1000) (ok:∀ a∈A,AtN ns a) (hh:Held bk ns A) (hb:∀ b∈ns,b∈ks bk) (hi:A[i]? = some a) (ka:a.k = "rest") :
  ∀ (l:List Pr) (rs:List (List Int)) (w:W4),(∀ p∈l,p.1∈ns)→(∀ p∈l,-2≤p.2∧p.2≤2∧¬ p.2=0)→rs.length+l.length≤20 →
  ∃ (rs':List (List Int)) (w':W4),forL (Cw [5,6]) clB (l.map pT) (qC A O bk i rs w x sto)=some (.next,qC A O bk i (rs++rs') w' x sto)∧rs'.length=l.length∧ae3 rs'∧rs'.all (yc U4 m A)=true∧rs'.map (gv A)=l.map (gr2 bk)
 | [],rs,w,_,_,_=>⟨[],w,by rw [List.append_nil]; rfl,rfl,fun l hl=>(by cases hl),rfl,rfl⟩
 | p::l,rs,w,h1,h2,h3=>by
  have hp:=h2 p List.mem_cons_self
  have hpn:=h1 p List.mem_cons_self
  rw [List.length_cons] at h3
  obtain ⟨j1,j2,a1,a2,e1,e2,f1,k1,s1,f2,k2,s2⟩:=ach (sto:=sto) hN hA ok hh hpn
  have b1:j1<1000:=by have:=(List.getElem?_eq_some_iff.mp f1).1; omega
  have b2:j2<1000:=by have:=(List.getElem?_eq_some_iff.mp f2).1; omega
  have ig:cj (.dic (dd bk)) (.str p.1)=some (.int (gt bk p.1)):=Gw (hb _ hpn)
  have ii:cj (.lst (A.map atT)) (.int (i:Int))=some (atT a):=Hv (by rw [List.getElem?_map,hi]; rfl)
  have i0:cj (atT a) (.int 0)=some (.str "rest"):=by unfold atT; rw [ka]; exact ju
  have la:(rs.map ilT).length<lim:=by rw [List.length_map]; show _<1000000; omega
  have er:clB (qC A O bk i rs (some (.str p.1,false),some (.int p.2,false),w.2.2.1,w.2.2.2) x sto)=some (.next,qC A O bk i (rs++[[(j2:Int),(j1:Int),-p.2]]) (some (.str p.1,false),some (.int p.2,false),some (.int (j1:Int),false),some (.int (j2:Int),false)) x sto):=by
   unfold clB
   generalize u6=F at *
   exact zq (zs (zf0 (zc rfl (zc rfl (zc (zun rfl rfl) (zc (zo rfl rfl ig) rfl)))) e1)) (zq (zs (zf0 (zc rfl (zc rfl (zc rfl (zc (zo rfl rfl ig) rfl)))) e2)) (zk (zt (zo (zo (zo rfl rfl ii) rfl i0) rfl adg)) (za (t:=ilT [(j2:Int),(j1:Int),-p.2]) (zm (zc rfl (zc rfl (zc (zun rfl rfl) rfl))) rfl) rfl la rfl (by unfold qC; rw [List.map_append]; rfl))))
  have c1:sA A (j1:Int)=a1:=by unfold sA; rw [List.getD_eq_getElem?_getD,Int.toNat_natCast,f1]; rfl
  have c2:sA A (j2:Int)=a2:=by unfold sA; rw [List.getD_eq_getElem?_getD,Int.toNat_natCast,f2]; rfl
  have i1:isA A (j1:Int) "most" = true:=by unfold isA; rw [Int.toNat_natCast,f1,decide_eq_true (by omega)]; exact k1
  have i2:isA A (j2:Int) "most" = true:=by unfold isA; rw [Int.toNat_natCast,f2,decide_eq_true (by omega)]; exact k2
  have z:zrU U4 (sA A (j2:Int)).s (sA A (j1:Int)).s=true:=by
   rw [c1,c2,s1,s2]
   unfold zrU canon
   dsimp only
   rw [List.filter_eq_nil_iff.mpr fun b _=>by
    by_cases e:p.1=b
    ·simp [gt,e]
    ·simp [gt,e]]
   rw [show -gt bk p.1+gt bk p.1=0 by omega]
   rfl
  obtain ⟨rs',w',ih,q1,q2,q3,q4⟩:=Qi (m:=m) hN hA ok hh hb hi ka l (rs++[[(j2:Int),(j1:Int),-p.2]]) (some (.str p.1,false),some (.int p.2,false),some (.int (j1:Int),false),some (.int (j2:Int),false)) (fun x hx=>h1 x (List.mem_cons_of_mem _ hx)) (fun x hx=>h2 x (List.mem_cons_of_mem _ hx)) (by rw [List.length_append,List.length_singleton]; omega)
  refine ⟨[(j2:Int),(j1:Int),-p.2]::rs',w',?_,by simp [q1],?_,?_,?_⟩
  ·rw [List.append_cons,← ih,List.map_cons]
   exact Dd (s1:=qC A O bk i rs (some (.str p.1,false),some (.int p.2,false),w.2.2.1,w.2.2.2) x sto) (by rw [pT,Q5]; rfl) er
  ·intro y hy
   rcases List.mem_cons.mp hy with rfl | hy -- here
   ·refine ⟨by simp,fun n hn=>?_⟩
    simp only [List.mem_cons,List.not_mem_nil,or_false] at hn
    rcases hn with rfl | rfl | rfl
    ·exact bb (by omega)
    ·exact bb (by omega)
    ·exact bb (by omega)
   ·exact q2 y hy
  ·rw [List.all_cons,q3,Bool.and_true]
   show (isA A (j2:Int) "most" && (isA A (j1:Int) "most" && (zrU U4 (sA A (j2:Int)).s (sA A (j1:Int)).s&&(-p.2 != 0))))=true
   rw [i1,i2,z]
   simpa using hp.2.2
  ·rw [List.map_cons,List.map_cons,q4]
   congr 1
   show ((sA A (j2:Int)).s,-p.2)=gr2 bk p
   rw [c2,s2]
   rfl
end
theorem a2l {g:G} {q:S} {w:List T} {t v:T} {s s1 s2:Sta} (h:g t s=some s1) (hb:q s1=some (.ret v,s2)):forL g q (t::w) s=some (.ret v,s2):=by
 rw [forL]; dsimp only; rw [h]; dsimp only; rw [hb]
section
variable {bk:List Pr} {ns:List Str} {A:List At} {O:List (List Fo)} {sto:List SO}
abbrev W8:=Slot × W4 × (Slot × Slot × Slot)
abbrev qD (A:List At) (O:T) (bk:List Pr) (o3:Slot) (w:W8) (sto:List SO):Sta :=
 ⟨[some (.lst (A.map atT),false),some (O,false),some (.dic (dd bk),false),o3,w.1,w.2.1.1,w.2.1.2.1,w.2.1.2.2.1,w.2.1.2.2.2,w.2.2.1,w.2.2.2.1,w.2.2.2.2],sto⟩
theorem a7e {OT:T} {i:Nat} {a:At} {w:W8} (hN:Fp ns) (hA:A.length<900) (ok:∀ a∈A,AtN ns a) (hh:Held bk ns A) (hb:∀ b∈ns,b∈ks bk) (hi:A[i]? = some a) (hf:trB (gt bk) a=false) :
  ∃ (p:P) (s':Sta),leB (qD A OT bk (some (.int (i:Int),false)) w sto)=some (.ret (paT p),s')∧s'.sto=sto∧(∀ O,jd A O p=true)∧okP ns p∧sz p=1∧dep p=0:=by
 have ha:=ok a (List.mem_of_getElem? hi)
 have hl8:=ha.len hN
 have hv:=ha.val (bk:=bk) hN
 have il:i<900:=by have:=(List.getElem?_eq_some_iff.mp hi).1; omega
 have ii:cj (.lst (A.map atT)) (.int (i:Int))=some (atT a):=Hv (by rw [List.getElem?_map,hi]; rfl)
 have i1:cj (atT a) (.int 1)=some (smT a.s):=lu
 have ll:a.s.2.length<lim:=by show _<1000000; omega
 have sp:∀ p∈a.s.2,p.1∈ns:=fun p hp=>ha.s _ (List.mem_map.mpr ⟨p,hp,rfl⟩)
 have sA':sA A (i:Int)=a:=by unfold sA; rw [List.getD_eq_getElem?_getD,Int.toNat_natCast,hi]; rfl
 have st1:sNew 4 (gk (fun l=>some (.lst l)) (ao (gk (fun l=>some (.tup l)) (ao (bx 3) (ao (au (.int 1)) dw))) dw)) (qD A OT bk (some (.int (i:Int),false)) w sto)=some (.next,qC A OT bk i [[(i:Int),1]] w.2.1 w.2.2 sto):=rfl
 have okr:∀ rs':List (List Int),rs'.length=a.s.2.length→ae3 rs'→aa7 ([(i:Int),1]::rs'):=fun rs' h1 h2=>by
  refine ⟨by rw [List.length_cons]; omega,fun l hl=>?_⟩
  rcases List.mem_cons.mp hl with rfl | hl
  ·refine ⟨by simp,fun n hn=>?_⟩
   simp only [List.mem_cons,List.not_mem_nil,or_false] at hn
   rcases hn with rfl | rfl
   ·exact bb (by omega)
   ·exact bb (by omega)
  ·exact h2 l hl
 have s2:a.s=(a.s.1,a.s.2):=rfl
 unfold trB at hf
 rcases ha.k with ⟨ek,em⟩ | ⟨ek,f,em,hf2,hf3⟩
 ·have i0:cj (atT a) (.int 0)=some (.str "most"):=by unfold atT; rw [ek]; exact ju
  obtain ⟨rs',w',L,q1,q2,q3⟩:=Q8 (sto:=sto) (O:=OT) (x:=w.2.2) hN (by omega) ok hh hb hi ek a.s.2 [[(i:Int),1]] w.2.1 sp ha.b (by simp; omega)
  refine ⟨.sum ([(i:Int),1]::rs'),⟨[some (.lst (A.map atT),false),some (OT,false),some (.dic (dd bk),false),some (.int (i:Int),false),some (.lst (([(i:Int),1]::rs').map ilT),false),w'.1,w'.2.1,w'.2.2.1,w'.2.2.2,w.2.2.1,w.2.2.2.1,w.2.2.2.2],sto⟩,?_,rfl,fun O=>?_,?_,by rw [sz],by rw [dep]⟩
  ·rw [paT]
   exact zq st1 (zq (Io (aa0 (zo (zo (zo rfl rfl ii) rfl i1) rfl lu) ll) L) (zq (ze (zt (zo (zo (zo rfl rfl ii) rfl i0) rfl adi)) rfl) (zr (zm (zc rfl (zc (zm (zc rfl rfl) rfl) rfl)) rfl))))
  ·rw [jd]
   rw [ek,kmr,if_neg (by simp),decide_eq_false_iff_not,hv] at hf
   refine a4n (bk:=bk) (l:=a.s.2) (n:=a.s.1) ha.ok.1.2.1.nd (by omega) ?_
   rw [List.map_cons,List.map_cons,q3]
   congr 1
   have c:0≤(i:Int)∧(0:Int)<1:=⟨by omega,by decide⟩
   unfold look
   dsimp only
   rw [if_pos c,Int.toNat_natCast,hi]
   dsimp only
   rw [ek,if_pos (by simp)]
  ·rw [okP]; exact okr rs' q1 q2
 ·have i0:cj (atT a) (.int 0)=some (.str "rest"):=by unfold atT; rw [ek]; exact ju
  have i2:cj (atT a) (.int 2)=some (.int f):=by unfold atT; rw [em]; exact Ir
  have fa:fac a=f:=by unfold fac; rw [em]
  obtain ⟨rs',w',L,q1,q2,q3,q4⟩:=Qi (sto:=sto) (O:=OT) (x:=w.2.2) (m:=f) hN (by omega) ok hh hb hi ek a.s.2 [[(i:Int),1]] w.2.1 sp ha.b (by simp; omega)
  refine ⟨.rest f ([(i:Int),1]::rs'),⟨[some (.lst (A.map atT),false),some (OT,false),some (.dic (dd bk),false),some (.int (i:Int),false),some (.lst (([(i:Int),1]::rs').map ilT),false),w'.1,w'.2.1,w'.2.2.1,w'.2.2.2,w.2.2.1,w.2.2.2.1,w.2.2.2.2],sto⟩,?_,rfl,fun O=>?_,?_,by rw [sz],by rw [dep]⟩
  ·rw [paT]
   exact zq st1 (zq (Io (aa0 (zo (zo (zo rfl rfl ii) rfl i1) rfl lu) ll) L) (zqr (zk (zt (zo (zo (zo rfl rfl ii) rfl i0) rfl adg)) (zr (zm (zc rfl (zc (zo (zo rfl rfl ii) rfl i2) (zc (zm (zc rfl rfl) rfl) rfl))) rfl)))))
  ·rw [jd]
   rw [ek,if_pos (by simp),hv,fa] at hf
   refine a0s (bk:=bk) (l:=a.s.2) (n:=a.s.1) hf2 ha.ok.1.2.1.nd (by simpa using hf) ?_ ?_
   ·rw [List.all_cons,q3,Bool.and_true]
    show (isA A (i:Int) "rest" && (((1:Int) != 0)&&(1 * fac (sA A (i:Int))%f==0)))=true
    have i3:isA A (i:Int) "rest" = true:=by unfold isA; rw [Int.toNat_natCast,hi,decide_eq_true (by omega)]; dsimp only; rw [ek]; simp
    rw [i3,sA',fa,Int.one_mul,Int.emod_self]
    rfl
   ·rw [List.map_cons,q4]
    congr 1
    show ((sA A (i:Int)).s,(1:Int))=_
    rw [sA']
  ·rw [okP]; exact okr rs' q1 q2
theorem Tn {OT:T} (hN:Fp ns) (hA:A.length<900) (ok:∀ a∈A,AtN ns a) (hh:Held bk ns A) (hb:∀ b∈ns,b∈ks bk):∀ (m k:Nat) (o3:Slot) (w:W8),k+m=A.length →
  (∃ (p:P) (s':Sta),forL (hName 3) atB ((List.range' k m).map fun (j:Nat)=>T.int (j:Int)) (qD A OT bk o3 w sto)=some (.ret (paT p),s')∧s'.sto=sto∧(∀ O,jd A O p=true)∧okP ns p∧sz p=1∧dep p=0∧∃ a∈A,trB (gt bk) a=false)
  ∨ ((∀ i a,k≤i→A[i]? = some a→trB (gt bk) a=true)∧∃ o3':Slot,forL (hName 3) atB ((List.range' k m).map fun (j:Nat)=>T.int (j:Int)) (qD A OT bk o3 w sto)=some (.next,qD A OT bk o3' w sto))
 | 0,k,o3,w,e=>.inr ⟨fun i a hi h=>by have:=(List.getElem?_eq_some_iff.mp h).1; omega,o3,rfl⟩
 | m+1,k,o3,w,e=>by
  have hk:k<A.length:=by omega
  have hi:A[k]? = some A[k]:=List.getElem?_eq_getElem hk
  have ii:=Bc atT A hk
  have ta:j5 40 [atT A[k],.dic (dd bk)] sto=_:=a0m (n:=39) (sto:=sto) hN hb (ok _ (List.getElem_mem hk))
  rw [List.range'_succ,List.map_cons]
  cases hc:trB (gt bk) A[k] with
  | false =>
   obtain ⟨p,s',e1,e2,e3,e4,e5,e6⟩:=a7e (sto:=sto) (OT:=OT) (w:=w) hN hA ok hh hb hi hc
   refine .inl ⟨p,s',?_,e2,e3,e4,e5,e6,A[k],List.getElem_mem hk,hc⟩
   rw [hc] at ta
   have:atB (qD A OT bk (some (.int (k:Int),false)) w sto)=some (.ret (paT p),s'):=by
    unfold atB
    generalize j5 40=F at *
    exact zk (a0z (k:=false) (zt (zf0 (zc (zo rfl rfl ii) (zc rfl rfl)) ta))) e1
   exact a2l rfl this
  | true =>
   rw [hc] at ta
   have st:atB (qD A OT bk (some (.int (k:Int),false)) w sto)=some (.next,qD A OT bk (some (.int (k:Int),false)) w sto):=by
    unfold atB
    generalize j5 40=F at *
    exact ze (a0z (k:=true) (zt (zf0 (zc (zo rfl rfl ii) (zc rfl rfl)) ta))) rfl
   rw [Dd (s1:=qD A OT bk (some (.int (k:Int),false)) w sto) rfl st]
   rcases Tn hN hA ok hh hb m (k+1) (some (.int (k:Int),false)) w (by omega) with h | ⟨h1,h2⟩
   ·exact .inl h
   ·refine .inr ⟨fun i a hik h=>?_,h2⟩
    by_cases e:i=k
    ·subst e; rw [hi] at h; cases h; exact hc
    ·exact h1 i a (by omega) h
end
def dnL (m:Nat):List T:=(List.range m).map fun (k:Nat)=>T.int ((m:Int) - 1 - (k:Int))
theorem a5r (m:Nat):dnL (m+1)=.int (m:Int)::dnL m:=by
 unfold dnL
 rw [List.range_succ_eq_map,List.map_cons,List.map_map] -- here
 congr 1
 ·congr 1; omega
 ·refine List.map_congr_left fun k _=>?_
  show T.int (((m+1:Nat):Int) - 1 - ((k+1:Nat):Int))=_
  congr 1; omega
section
variable {bk:List Pr} {ns:List Str} {A:List At} {O:List (List Fo)} {sto:List SO}
abbrev orT (O:List (List Fo)):T:=.lst ((oF O).map oT)
abbrev paB (n:Nat):S:=(jz (vf 11 (iy (m9 40) (ao (bx 10) (ao (bx 0) (ao (bx 1) dw)))))
   (qj 9 (iy (jf n) (ao (mOp cj (bx 11) (au (.int 0))) (ao (mOp cj (bx 11) (au (.int 1))) (ao (bx 2) dw))))))
abbrev orX (n:Nat):S:=(jz (sNew 9 (gk (fun l=>some (.lst l)) dw))
   (jz (Fq (hName 10) (yd (mOp cj (bx 1) (bx 3))) (paB n))
   (rm (gk (fun l=>some (.tup l)) (ao (au (.str "or")) (ao (bx 3) (ao (gk yg (ao (bx 9) dw)) dw)))))))
abbrev orB (n:Nat):S:=(sIf (J2 (gb (iy (j5 40) (ao (gk (fun l=>some (.tup l)) (ao (au (.str "or")) (ao (mOp cj (bx 1) (bx 3)) dw))) (ao (bx 2) dw))))) (orX n) Ab)
theorem a0k {n:Nat} {ms:List Fo} (h:O[n]? = some ms):cj (orT O) (.int (n:Int))=some (.tup (ms.map foT)):=by
 refine Hv ?_
 unfold oF
 rw [List.getElem?_map,List.getElem?_map,h]
 show some (oT (ms.map foF))=_
 rw [ag5]
theorem or_true {ms:List Fo} (hN:Fp ns) (hb:∀ b∈ns,b∈ks bk) (h:ms.length≤3∧∀ f∈ms,Nr ns f∧fz f≤10):j5 40 [.tup [.str "or",.tup (ms.map foT)],.dic (dd bk)] sto=some (.bl (Bj (gt bk) ms),sto):=by
 have oks:∀ l:List Fo,(∀ f∈l,Nr ns f∧fz f≤10)→Dc ns l∧fzs l≤10 * l.length:=by
  intro l
  induction l with
  | nil=>intro _; exact ⟨trivial,by rw [fzs]; omega⟩
  | cons f l ih =>
   intro h
   have h1:=h f List.mem_cons_self
   have h2:=ih fun x hx=>h x (List.mem_cons_of_mem _ hx)
   refine ⟨⟨h1.1,h2.1⟩,?_⟩
   rw [fzs,List.length_cons]; omega
 have o:=oks ms h.2
 have:=Vo (sto:=sto) hN hb 40 (.any ms) (by rw [fz]; omega) ⟨h.1,o.1⟩
 rw [Fj,trF] at this
 exact this
theorem U9 {N:Nat} (hN:Fp ns) (hb:∀ b∈ns,b∈ks bk) (ok:LOk ns A O):∀ (m:Nat) (o3:Slot) (w:W8),m≤O.length →
  (∃ (n:Nat) (ms:List Fo),n<m∧O[n]? = some ms∧Bj (gt bk) ms=false∧(∀ i ms',n<i→i<m→O[i]? = some ms'→Bj (gt bk) ms'=true) ∧
   ∀ r s',orX N (qD A (orT O) bk (some (.int (n:Int),false)) w sto)=some (.ret r,s')→forL (hName 3) (orB N) (dnL m) (qD A (orT O) bk o3 w sto)=some (.ret r,s'))
  ∨ ((∀ i ms,i<m→O[i]? = some ms→Bj (gt bk) ms=true)∧∃ o3':Slot,forL (hName 3) (orB N) (dnL m) (qD A (orT O) bk o3 w sto)=some (.next,qD A (orT O) bk o3' w sto))
 | 0,o3,w,_=>.inr ⟨fun i ms h _=>by omega,o3,rfl⟩
 | m+1,o3,w,hm=>by
  have hi:O[m]? = some O[m]:=List.getElem?_eq_getElem (by omega)
  have it:=a0k hi
  have ta:=or_true (sto:=sto) hN hb (ok.o _ (List.getElem_mem (by omega:m<O.length)))
  rw [a5r]
  cases hc:Bj (gt bk) O[m] with
  | false =>
   rw [hc] at ta
   refine .inl ⟨m,O[m],by omega,hi,hc,fun i _ h1 h2 _=>by omega,fun r s' e=>?_⟩
   refine a2l (s1:=qD A (orT O) bk (some (.int (m:Int),false)) w sto) rfl ?_
   unfold orB
   generalize j5 40=F at *
   exact zk (a0z (k:=false) (zt (zf0 (zc (zm (zc rfl (zc (zo rfl rfl it) rfl)) rfl) (zc rfl rfl)) ta))) e
  | true =>
   rw [hc] at ta
   have st:orB N (qD A (orT O) bk (some (.int (m:Int),false)) w sto)=some (.next,qD A (orT O) bk (some (.int (m:Int),false)) w sto):=by
    unfold orB
    generalize j5 40=F at *
    exact ze (a0z (k:=true) (zt (zf0 (zc (zm (zc rfl (zc (zo rfl rfl it) rfl)) rfl) (zc rfl rfl)) ta))) rfl
   rw [Dd (s1:=qD A (orT O) bk (some (.int (m:Int),false)) w sto) rfl st]
   rcases U9 hN hb ok m (some (.int (m:Int),false)) w (by omega) with ⟨n,ms,h1,h2,h3,h4,h5⟩ | ⟨h1,h2⟩
   ·refine .inl ⟨n,ms,by omega,h2,h3,fun i ms' q1 q2 q3=>?_,h5⟩
    by_cases e:i=m
    ·subst e; rw [hi] at q3; cases q3; exact hc
    ·exact h4 i ms' q1 (by omega) q3
   ·refine .inr ⟨fun i ms q1 q2=>?_,h2⟩
    by_cases e:i=m
    ·subst e; rw [hi] at q2; cases q2; exact hc
    ·exact h1 i ms (by omega) q2
abbrev qE (A:List At) (O:List (List Fo)) (bk:List Pr) (n:Nat) (w:Slot × W4) (ps:List P) (o10 o11:Slot) (sto:List SO):Sta :=
 ⟨[some (.lst (A.map atT),false),some (orT O,false),some (.dic (dd bk),false),some (.int (n:Int),false),w.1,w.2.1,w.2.2.1,w.2.2.2.1,w.2.2.2.2,some (.lst (ps.map paT),true),o10,o11],sto⟩
theorem Ys {N n c h:Nat} {w:Slot × W4} (ok:LOk ns A O) (hA:A.length<800) (hO:O.length<800):∀ (l:List Fo) (ps:List P) (o10 o11:Slot),(∀ f∈l,Nr ns f∧fz f≤10) →
  (∀ f∈l,∃ p:P,jf N [.lst ((A++foA f).map atT),orT (O++foO f),.dic (dd bk)] sto=some (paT p,sto)∧jd (A++foA f) (O++foO f) p=true∧okP ns p∧sz p≤c∧dep p≤h)→ps.length+l.length≤100 →
  ∃ (ps':List P) (p10 p11:Slot),forL (hName 10) (paB N) (l.map foT) (qE A O bk n w ps o10 o11 sto)=some (.next,qE A O bk n w (ps++ps') p10 p11 sto)∧ps'.length=l.length∧jds A O l ps'=true∧a5w ns ps'∧szs ps'≤l.length * c∧deps ps'≤h
 | [],ps,o10,o11,_,_,_=>⟨[],o10,o11,by rw [List.append_nil]; rfl,rfl,by rw [jds],trivial,by rw [szs]; omega,by rw [deps]; omega⟩
 | f::l,ps,o10,o11,hf,ih,hl=>by
  rw [List.length_cons] at hl
  have f1:=hf f List.mem_cons_self
  obtain ⟨p,e1,e2,e3,e4,e5⟩:=ih f List.mem_cons_self
  have ly:=Td (sto:=sto) 40 f A O (by have:=a8d f; omega) f1.1 (by omega) (by omega)
  obtain ⟨ps',a,b,L,q1,q2,q3,q4,q5⟩:=Ys (N:=N) (n:=n) (c:=c) (h:=h) (w:=w) ok hA hO l (ps++[p]) (some (foT f,false)) (some (LT (A++foA f) (O++foO f),false)) (fun x hx=>hf x (List.mem_cons_of_mem _ hx)) (fun x hx=>ih x (List.mem_cons_of_mem _ hx)) (by rw [List.length_append,List.length_singleton]; omega)
  refine ⟨p::ps',a,b,?_,by simp [q1],by rw [jds,e2,q2]; rfl,⟨e3,q3⟩,by rw [szs,List.length_cons,Nat.add_mul]; omega,by rw [deps]; exact Nat.max_le.mpr ⟨e5,q5⟩⟩
  have la:(ps.map paT).length<lim:=by rw [List.length_map]; show _<1000000; omega
  rw [List.append_cons,← L,List.map_cons]
  refine Dd (s1:=qE A O bk n w ps (some (foT f,false)) o11 sto) rfl ?_
  unfold paB
  generalize m9 40=F at *
  generalize jf N=G at *
  exact zq (zs (zf0 (zc rfl (zc rfl (zc rfl rfl))) ly)) (za (zf0 (zc (zo rfl rfl ju) (zc (zo rfl rfl lu) (zc rfl rfl))) e1) rfl la rfl (by unfold qE; rw [List.map_append]; rfl))
def cz:Nat→Nat
 | 0=>1
 | h+1=>1+3 * cz h
def Bad (B:Str→Int) (h:Nat) (A:List At) (O:List (List Fo)):Prop:=(∃ a∈A,trB B a=false)∨∃ O1 O2,O=O1++O2∧(∃ ms∈O2,Bj B ms=false)∧∀ ms∈O2,1+hts ms≤h
theorem rg3 {w:W8} {o3:Slot} (hO:O.length<900):Ey (mOp Rt (gk Bw (ao (bx 1) dw)) (au (.int 1))) (mUn Jw (au (.int 1))) (mUn Jw (au (.int 1))) (qD A (orT O) bk o3 w sto)=some (dnL O.length,qD A (orT O) bk o3 w sto):=by
 have e1:mOp Rt (gk Bw (ao (bx 1) dw)) (au (.int 1)) (qD A (orT O) bk o3 w sto)=some (.int ((O.length:Int) - 1),qD A (orT O) bk o3 w sto) :=
  zo (t:=.int (O.length:Int)) (zm (zc rfl rfl) (by rw [a2s]; unfold oF; rw [List.length_map])) rfl rfl
 have e2:∀ s:Sta,mUn Jw (au (.int 1)) s=some (.int (-1),s):=fun s=>rfl
 unfold Ey
 rw [e1]
 dsimp only
 rw [e2]
 dsimp only
 rw [e2]
 dsimp only
 rw [if_pos ⟨rfl,by show _<1000000; omega,by decide⟩]
 unfold Fb dnL
 rw [show ((O.length:Int) - 1 - (-1)).toNat=O.length by omega]
theorem Mt (hN:Fp ns) (hb:∀ b∈ns,b∈ks bk):∀ (n h:Nat) (A:List At) (O:List (List Fo)),h<n→LOk ns A O→A.length+10 * h<800→O.length+10 * h<800→Held bk ns A→Bad (gt bk) h A O →
  ∃ p:P,jf n [.lst (A.map atT),orT O,.dic (dd bk)] sto=some (paT p,sto)∧jd A O p=true∧okP ns p∧sz p≤cz h∧dep p≤h
 | 0,h,A,O,hn,_,_,_,_,_=>by omega
 | n+1,h,A,O,hn,ok,hA,hO,hh,bad=>by
  have cp:∀ h,1≤cz h:=fun h=>by cases h <;> rw [cz] <;> omega
  have rg:yh (gk Bw (ao (bx 0) dw)) (qD A (orT O) bk none (none,(none,none,none,none),(none,none,none)) sto)=some ((List.range A.length).map (fun (k:Nat)=>T.int (k:Int)),qD A (orT O) bk none (none,(none,none,none,none),(none,none,none)) sto) :=
   zrg (m:=A.length) (zm rfl a2s) (by show _<1000000; omega)
  rcases Tn (sto:=sto) (OT:=orT O) hN (by omega) ok.a hh hb A.length 0 none (none,(none,none,none,none),(none,none,none)) (by omega) with ⟨p,s',e,h1,h2,h3,h4,h5,_⟩ | ⟨tr,o3,e⟩
  ·refine ⟨p,?_,h2 O,h3,by rw [h4]; exact cp h,by omega⟩
   rw [jf]
   rw [← List.range_eq_range'] at e
   exact zrun (n:=12) (zqr (Io rg e)) h1
  ·rw [← List.range_eq_range'] at e
   have trA:∀ a∈A,trB (gt bk) a=true:=fun a ha=>by
    obtain ⟨i,hi⟩:=List.getElem?_of_mem ha
    exact tr i a (Nat.zero_le _) hi
   rcases bad with ⟨a,ha,hf⟩ | ⟨O1,O2,eO,⟨m2,hm2,hf2⟩,hh2⟩
   ·rw [trA a ha] at hf; cases hf
   obtain ⟨i2,hi2⟩:=List.getElem?_of_mem hm2
   have hi3:O[O1.length+i2]? = some m2:=by rw [eO,List.getElem?_append_right (by omega),show O1.length+i2 - O1.length=i2 by omega]; exact hi2
   rcases U9 (sto:=sto) (N:=n) hN hb ok O.length o3 (none,(none,none,none,none),(none,none,none)) (Nat.le_refl _) with ⟨k,ms,h1,h2,h3,h4,h5⟩ | ⟨h1,_⟩
   ·have kge:O1.length≤k:=by
     by_cases z:O1.length≤k
     ·exact z
     ·have:=h4 (O1.length+i2) m2 (by omega) (List.getElem?_eq_some_iff.mp hi3).1 hi3
      rw [hf2] at this; cases this
    have mO2:ms∈O2:=by
     rw [eO,List.getElem?_append_right kge] at h2
     exact List.mem_of_getElem? h2
    have hht:=hh2 ms mO2
    have mO:=ok.o ms (List.mem_of_getElem? h2)
    cases h with
    | zero=>omega
    | succ h =>
     have mem:∀ f∈ms,∃ p:P,jf n [.lst ((A++foA f).map atT),orT (O++foO f),.dic (dd bk)] sto=some (paT p,sto)∧jd (A++foA f) (O++foO f) p=true∧okP ns p∧sz p≤cz h∧dep p≤h:=fun f hf=>by
      have f1:=mO.2 f hf
      have fa:=Oe f
      have fo:=O7 f
      have ff:=any_false h3 f hf
      rw [a9w] at ff
      refine Mt hN hb n h (A++foA f) (O++foO f) (by omega) (ok.add f1.1 f1.2) (by rw [List.length_append]; omega) (by rw [List.length_append]; omega) hh.add ?_
      cases za:(foA f).all (trB (gt bk)) with
      | false =>
       obtain ⟨a,ha,hf⟩:=List.all_eq_false.mp za
       exact .inl ⟨a,List.mem_append_right _ ha,by simpa using hf⟩
      | true =>
       rw [za,Bool.true_and] at ff
       obtain ⟨m3,hm3,hf3⟩:=List.all_eq_false.mp ff
       refine .inr ⟨O,foO f,rfl,⟨m3,hm3,by simpa using hf3⟩,fun q hq=>?_⟩
       have:=a66 f q hq
       have:=a01 hf
       omega
     obtain ⟨ps,p10,p11,L,q1,q2,q3,q4,q5⟩:=Ys (sto:=sto) (bk:=bk) (N:=n) (n:=k) (c:=cz h) (h:=h) (w:=(none,(none,none,none,none))) ok (by omega) (by omega) ms [] none none mO.2 mem (by simp; omega)
     have lm:ms.length<lim:=by show _<1000000; omega
     have fin:orX n (qD A (orT O) bk (some (.int (k:Int),false)) (none,(none,none,none,none),(none,none,none)) sto)=some (.ret (paT (.orp k ps)),⟨[some (.lst (A.map atT),false),some (orT O,false),some (.dic (dd bk),false),some (.int (k:Int),false),none,none,none,none,none,some (.lst (ps.map paT),false),p10,p11],sto⟩):=by
      rw [paT,Gp]
      unfold orX
      refine zq (s1:=qE A O bk k (none,(none,none,none,none)) [] none none sto) rfl (zq (Io (aa0 (zo rfl rfl (a0k h2)) lm) L) (zr (zm (zc rfl (zc rfl (zc (zm (zc rfl rfl) rfl) rfl))) rfl)))
     refine ⟨.orp k ps,?_,?_,?_,?_,?_⟩
     ·rw [jf]
      exact zrun (n:=12) (zq (Io rg e) (zqr (Io (rg3 (by omega)) (h5 _ _ fin)))) rfl
     ·rw [jd,h2]
      dsimp only
      rw [if_pos q1,q2]
     ·rw [okP]; exact ⟨by rw [q1]; omega,q3⟩
     ·rw [sz,cz]
      have:=Nat.mul_le_mul_right (cz h) mO.1
      omega
     ·rw [dep]; omega
   ·have:=h1 _ m2 (List.getElem?_eq_some_iff.mp hi3).1 hi3
    rw [hf2] at this; cases this
theorem Tq {n:Nat} (hN:Fp ns) (hb:∀ b∈ns,b∈ks bk) (ok:LOk ns A O) (hA:A.length<800) (hO:O.length<800) (hh:Held bk ns A) (s:Sat (gt bk) A O):jf (n+1) [.lst (A.map atT),orT O,.dic (dd bk)] sto=some (.non,sto):=by
 have rg:yh (gk Bw (ao (bx 0) dw)) (qD A (orT O) bk none (none,(none,none,none,none),(none,none,none)) sto)=some ((List.range A.length).map (fun (k:Nat)=>T.int (k:Int)),qD A (orT O) bk none (none,(none,none,none,none),(none,none,none)) sto) :=
  zrg (m:=A.length) (zm rfl a2s) (by show _<1000000; omega)
 rcases Tn (sto:=sto) (OT:=orT O) hN (by omega) ok.a hh hb A.length 0 none (none,(none,none,none,none),(none,none,none)) (by omega) with ⟨p,s',e,h1,h2,h3,h4,h5,a,ha,hf⟩ | ⟨tr,o3,e⟩
 ·rw [s.a a ha] at hf; cases hf
 ·rw [← List.range_eq_range'] at e
  rcases U9 (sto:=sto) (N:=n) hN hb ok O.length o3 (none,(none,none,none,none),(none,none,none)) (Nat.le_refl _) with ⟨k,ms,h1,h2,h3,h4,h5⟩ | ⟨h1,o3',e2⟩
  ·rw [s.o ms (List.mem_of_getElem? h2)] at h3; cases h3
  ·rw [jf]
   exact zrun (n:=12) (zq (Io rg e) (zq (Io (rg3 (by omega)) e2) (zr rfl))) rfl
end
def wd:List Bd→Nat
 | []=>0
 | r::rs=>(r.2.2 - r.2.1).toNat+wd rs
def lv:List Bd→Nat
 | []=>1
 | r::rs=>(r.2.2 - r.2.1+1).toNat * lv rs
theorem R8:∀ (a b:List Bd),wd (a++b)=wd a+wd b
 | [],b=>by simp [wd]
 | r::a,b=>by rw [List.cons_append,wd,wd,R8 a b]; omega
theorem Ve:∀ (a b:List Bd),lv (a++b)=lv a * lv b
 | [],b=>by simp [lv]
 | r::a,b=>by rw [List.cons_append,lv,lv,Ve a b,Nat.mul_assoc]
theorem ab5 {R1 R2:List Bd} {b:Str} {lo hi:Int} (h:lo<hi):lv (R1++[(b,lo,lo)]++R2)+lv (R1++[(b,lo+1,hi)]++R2)=lv (R1++(b,lo,hi)::R2):=by
 rw [List.append_assoc,List.append_assoc,List.singleton_append,List.singleton_append,Ve,Ve,Ve,lv,lv,lv]
 dsimp only
 rw [← Nat.mul_add,← Nat.add_mul]
 congr 2
 omega
theorem a7o {R1 R2:List Bd} {b:Str} {lo hi:Int} (h:lo<hi):wd (R1++[(b,lo,lo)]++R2)+1≤wd (R1++(b,lo,hi)::R2):=by
 rw [List.append_assoc,List.singleton_append,R8,R8,wd,wd]
 dsimp only
 omega
theorem a9e {R1 R2:List Bd} {b:Str} {lo hi:Int} (h:lo<hi):wd (R1++[(b,lo+1,hi)]++R2)+1≤wd (R1++(b,lo,hi)::R2):=by
 rw [List.append_assoc,List.singleton_append,R8,R8,wd,wd]
 dsimp only
 omega
theorem InB.wide {r r':Bd} {R2:List Bd} (e:r'.1=r.1) (h1:r.2.1≤r'.2.1) (h2:r'.2.2≤r.2.2):∀ {R1:List Bd} {bk:List Pr},InB (R1++[r']++R2) bk→InB (R1++r::R2) bk
 | [],[],h=>h.elim
 | [],p::bk,h=>⟨by rw [h.1,e],by have:=h.2.1; omega,by have:=h.2.2.1; omega,h.2.2.2⟩
 | s::R1,[],h=>h.elim
 | s::R1,p::bk,h=>⟨h.1,h.2.1,h.2.2.1,InB.wide e h1 h2 (R1:=R1) h.2.2.2⟩
theorem Yz {R1 R2:List Bd} {r r':Bd} (e:r'.1=r.1):nsB (R1++[r']++R2)=nsB (R1++r::R2):=by
 unfold nsB
 rw [List.append_assoc,List.singleton_append,List.map_append,List.map_append,List.map_cons,List.map_cons,e]
theorem W5:∀ {l:List Bd} {j:Nat} {r:Bd},l[j]? = some r→∃ R1 R2,l=R1++r::R2∧R1.length=j
 | [],j,r,h=>by simp at h
 | x::l,0,r,h=>by simp at h; exact ⟨[],l,by rw [h]; rfl,rfl⟩
 | x::l,j+1,r,h=>by
  obtain ⟨R1,R2,e,el⟩:=W5 (l:=l) (j:=j) (by simpa using h)
  exact ⟨x::R1,R2,by rw [e]; rfl,by rw [List.length_cons,el]⟩
def Ue (rs:List Bd):List Pr:=rs.map fun r=>(r.1,r.2.1)
theorem InB.of:∀ {rs:List Bd},(∀ r∈rs,r.2.1≤r.2.2)→InB rs (Ue rs)
 | [],_=>trivial
 | r::rs,h=>⟨rfl,Int.le_refl _,h r List.mem_cons_self,InB.of fun x hx=>h x (List.mem_cons_of_mem _ hx)⟩
def aal (rs:List Bd) (A:List At):Prop:=∀ r∈rs,aL r.1 r.2.1∈A∧aM r.1 r.2.2∈A
theorem Z4 {xs:List T} {k:Nat} (h:k≤xs.length):Xz xs none (some (k:Int))=xs.take k:=by
 unfold Xz sIx
 dsimp only
 rw [if_neg (by omega),List.drop_zero,Int.toNat_natCast,Nat.sub_zero,Nat.min_eq_left h]
theorem a1q {xs:List T} {k:Nat} (h:k≤xs.length):Xz xs (some (k:Int)) none=xs.drop k:=by
 unfold Xz sIx
 dsimp only
 rw [if_neg (by omega),Int.toNat_natCast,Nat.min_eq_left h]
 refine List.take_of_length_le ?_
 rw [List.length_drop]
 exact Nat.le_refl _
section
variable {ns:List Str} {A:List At} {O:List (List Fo)} {sto:List SO} {st:P}
abbrev W9:=Slot × Slot × Slot × Slot × Slot × Slot
abbrev qP (rs:List Bd) (A:List At) (O:List (List Fo)) (S:T) (o4:Slot) (w:W9) (o11 o12:Slot) (sto:List SO):Sta :=
 ⟨[some (.lst (rs.map bdT),false),some (.lst (A.map atT),false),some (orT O,false),some (S,false),o4,w.1,w.2.1,w.2.2.1,w.2.2.2.1,w.2.2.2.2.1,w.2.2.2.2.2,o11,o12],sto⟩
abbrev paX (n:Nat):S:=(jz (vf 8 (mOp vo (bx 1) (gk (fun l=>some (.lst l)) (ao (gk (fun l=>some (.tup l)) (ao (au (.str "most")) (ao (gk (fun l=>some (.tup l)) (ao (mUn Jw (bx 6)) (ao (gk (fun l=>some (.tup l)) (ao (gk (fun l=>some (.tup l)) (ao (bx 5) (ao (au (.int 1)) dw))) dw)) dw))) dw))) dw))))
   (jz (vf 9 (iy (kh n) (ao (mOp vo (mOp vo (qu (bx 0) Az (wg (bx 4))) (gk (fun l=>some (.lst l)) (ao (gk (fun l=>some (.tup l)) (ao (bx 5) (ao (bx 6) (ao (bx 6) dw)))) dw))) (qu (bx 0) (wg (mOp vo (bx 4) (au (.int 1)))) Az)) (ao (bx 8) (ao (bx 2) (ao (bx 3) dw))))))
   (jz (vf 8 (mOp vo (bx 1) (gk (fun l=>some (.lst l)) (ao (gk (fun l=>some (.tup l)) (ao (au (.str "most")) (ao (gk (fun l=>some (.tup l)) (ao (mOp vo (bx 6) (au (.int 1))) (ao (gk (fun l=>some (.tup l)) (ao (gk (fun l=>some (.tup l)) (ao (bx 5) (ao (mUn Jw (au (.int 1))) dw))) dw)) dw))) dw))) dw))))
   (jz (vf 10 (iy (kh n) (ao (mOp vo (mOp vo (qu (bx 0) Az (wg (bx 4))) (gk (fun l=>some (.lst l)) (ao (gk (fun l=>some (.tup l)) (ao (bx 5) (ao (mOp vo (bx 6) (au (.int 1))) (ao (bx 7) dw)))) dw))) (qu (bx 0) (wg (mOp vo (bx 4) (au (.int 1)))) Az)) (ao (bx 8) (ao (bx 2) (ao (bx 3) dw))))))
   (rm (gk (fun l=>some (.tup l)) (ao (au (.str "cut")) (ao (bx 5) (ao (bx 6) (ao (bx 9) (ao (bx 10) dw)))))))))))
abbrev ppB (n:Nat):S:=(jz (sGo (Cw [5,6,7]) (mOp cj (bx 0) (bx 4))) (sIf (gb (mOp ltT (bx 6) (bx 7))) (paX n) Ab))
theorem a08 {N:Nat} {rs:List Bd} {S:T}:∀ (m k:Nat) (o4:Slot) (w:W9),k+m=rs.length →
  (∃ (j:Nat) (r:Bd) (w2:Slot × Slot × Slot),rs[j]? = some r∧r.2.1<r.2.2∧∀ t s',paX N (qP rs A O S (some (.int (j:Int),false)) (some (.str r.1,false),some (.int r.2.1,false),some (.int r.2.2,false),w2) none none sto)=some (.ret t,s')→forL (hName 4) (ppB N) ((List.range' k m).map fun (j:Nat)=>T.int (j:Int)) (qP rs A O S o4 w none none sto)=some (.ret t,s'))
  ∨ ((∀ i r,k≤i→rs[i]? = some r→¬ r.2.1<r.2.2)∧∃ (o4':Slot) (w':W9),forL (hName 4) (ppB N) ((List.range' k m).map fun (j:Nat)=>T.int (j:Int)) (qP rs A O S o4 w none none sto)=some (.next,qP rs A O S o4' w' none none sto))
 | 0,k,o4,w,e=>.inr ⟨fun i r hi h=>by have:=(List.getElem?_eq_some_iff.mp h).1; omega,o4,w,rfl⟩
 | m+1,k,o4,w,e=>by
  have hk:k<rs.length:=by omega
  have hi:rs[k]? = some rs[k]:=List.getElem?_eq_getElem hk
  have ii:=Bc bdT rs hk
  rw [List.range'_succ,List.map_cons]
  have go:sGo (Cw [5,6,7]) (mOp cj (bx 0) (bx 4)) (qP rs A O S (some (.int (k:Int),false)) w none none sto)=some (.next,qP rs A O S (some (.int (k:Int),false)) (some (.str rs[k].1,false),some (.int rs[k].2.1,false),some (.int rs[k].2.2,false),w.2.2.2) none none sto) :=
   zgo (zo rfl rfl ii) (by rw [bdT,Xd]; rfl)
  by_cases hc:rs[k].2.1<rs[k].2.2
  ·refine .inl ⟨k,rs[k],w.2.2.2,hi,hc,fun t s' e=>a2l (s1:=qP rs A O S (some (.int (k:Int),false)) w none none sto) rfl (zq go (zk (zt (zo rfl rfl (adz hc))) e))⟩
  ·rw [Dd (s1:=qP rs A O S (some (.int (k:Int),false)) w none none sto) rfl (zq go (ze (zt (zo rfl rfl (ac5 hc))) rfl))]
   rcases a08 (N:=N) (rs:=rs) m (k+1) (some (.int (k:Int),false)) (some (.str rs[k].1,false),some (.int rs[k].2.1,false),some (.int rs[k].2.2,false),w.2.2.2) (by omega) with h | ⟨h1,h2⟩
   ·exact .inl h
   ·refine .inr ⟨fun i r hik h=>?_,h2⟩
    by_cases e:i=k
    ·subst e; rw [hi] at h; cases h; exact hc
    ·exact h1 i r (by omega) h
theorem Z1 {rs:List Bd} {S:T} {o4:Slot}:∀ (l:List Bd) (pre:List Pr) (w:W9),(nsB l).Nodup→(∀ r∈l,r.1∉ks pre)→pre.length+l.length≤100→∃ w':W9,forL (Cw [5,6,7]) (Ai 11 (bx 5) (bx 6)) (l.map bdT) (qP rs A O S o4 w (some (.dic (dd pre),true)) none sto)=some (.next,qP rs A O S o4 w' (some (.dic (dd (pre++Ue l)),true)) none sto)
 | [],pre,w,_,_,_=>⟨w,by unfold Ue; rw [List.map_nil,List.map_nil,List.append_nil]; rfl⟩
 | r::l,pre,w,nd,hp,hl=>by
  have nd':r.1∉nsB l∧(nsB l).Nodup:=List.nodup_cons.mp nd
  rw [List.length_cons] at hl
  have h1:=hp r List.mem_cons_self
  have lk:(dd pre).length<lim:=by unfold dd; rw [List.length_map]; show _<1000000; omega
  obtain ⟨w',ih⟩:=Z1 l (pre++[(r.1,r.2.1)]) (some (.str r.1,false),some (.int r.2.1,false),some (.int r.2.2,false),w.2.2.2) nd'.2 (fun x hx z=>by
   unfold ks at z
   rw [List.map_append] at z
   rcases List.mem_append.mp z with z | z
   ·exact hp x (List.mem_cons_of_mem _ hx) z
   ·have z:x.1=r.1:=by simpa using z
    exact nd'.1 (by rw [← z]; exact List.mem_map.mpr ⟨x,hx,rfl⟩)) (by rw [List.length_append,List.length_singleton]; omega)
  refine ⟨w',?_⟩
  rw [show Ue (r::l)=(r.1,r.2.1)::Ue l from rfl,List.append_cons,← ih,List.map_cons]
  exact Dd (s1:=qP rs A O S o4 (some (.str r.1,false),some (.int r.2.1,false),some (.int r.2.2,false),w.2.2.2) (some (.dic (dd pre),true)) none sto) (by rw [bdT,Xd]; rfl) (zw rfl rfl rfl rfl rfl lk (by rw [a1z,a6u h1]; rfl))
theorem acy:∀ h,1≤cz h:=fun h=>by cases h <;> rw [cz] <;> omega
theorem acv (p:P):a73 (paT p) .non=some (.bl false):=by cases p <;> rw [paT] <;> rfl
theorem a0g:∀ {rs:List Bd},(∀ r∈rs,r.2.1≤r.2.2)→1≤lv rs
 | [],_=>Nat.le_refl _
 | r::rs,h=>by
  have h1:=h r List.mem_cons_self
  have h2:=a0g (rs:=rs) fun x hx=>h x (List.mem_cons_of_mem _ hx)
  rw [lv]
  exact Nat.le_trans (by omega:1≤1 * 1) (Nat.mul_le_mul (by omega) h2)
theorem Kq {hh:Nat} (hN:Fp ns) (hs:okP ns st∧sz st=1∧dep st≤1) (hO2:∀ ms∈O,1+hts ms≤hh) (h40:hh<40) (hO:O.length+10 * hh<800):∀ (n:Nat) (rs:List Bd) (A:List At),wd rs<n→nsB rs=ns→(∀ r∈rs,r.2.1≤r.2.2)→aal rs A→LOk ns A O→A.length+wd rs+10 * hh<800 →
  ∃ p:P,kh n [.lst (rs.map bdT),.lst (A.map atT),orT O,paT st] sto=some (paT p,sto)∧okP ns p∧sz p+1≤lv rs * (cz hh+1)∧dep p≤wd rs+hh+1∧((∀ bk,InB rs bk→¬ Sat (gt bk) A O)→jd A O p=true)
 | 0,rs,A,hn,_,_,_,_,_=>by omega
 | n+1,rs,A,hn,en,hw,hld,ok,hA=>by
  have ln:rs.length≤100:=by
   have h1:=congrArg List.length en
   unfold nsB at h1
   rw [List.length_map] at h1
   have:=hN.l; omega
  have rg:yh (gk Bw (ao (bx 0) dw)) (qP rs A O (paT st) none (none,none,none,none,none,none) none none sto)=some ((List.range rs.length).map (fun (k:Nat)=>T.int (k:Int)),qP rs A O (paT st) none (none,none,none,none,none,none) none none sto) :=
   zrg (m:=rs.length) (zm rfl a2s) (by show _<1000000; omega)
  rcases a08 (sto:=sto) (A:=A) (O:=O) (N:=n) (rs:=rs) (S:=paT st) rs.length 0 none (none,none,none,none,none,none) (by omega) with ⟨j,r,w2,hj,hlt,e⟩ | ⟨all,o4,w,e⟩
  ·rw [← List.range_eq_range'] at e
   obtain ⟨R1,R2,rfl,hjl⟩:=W5 hj
   obtain ⟨b,lo,hi⟩:=r
   have hlt:lo<hi:=hlt
   have hbn:b∈ns:=by rw [← en]; exact List.mem_map.mpr ⟨(b,lo,hi),List.mem_append_right _ List.mem_cons_self,rfl⟩
   obtain ⟨hl1,hl2⟩:=hld (b,lo,hi) (List.mem_append_right _ List.mem_cons_self)
   have c1:=a7o (R1:=R1) (R2:=R2) (b:=b) hlt
   have c2:=a9e (R1:=R1) (R2:=R2) (b:=b) hlt
   have c3:=ab5 (R1:=R1) (R2:=R2) (b:=b) hlt
   have wR:∀ r':Bd,r'.2.1≤r'.2.2→∀ x∈R1++[r']++R2,x.2.1≤x.2.2:=fun r' hr x hx=>by
    rcases List.mem_append.mp hx with z | z
    ·rcases List.mem_append.mp z with z | z
     ·exact hw x (List.mem_append_left _ z)
     ·rw [List.mem_singleton] at z; subst z; exact hr
    ·exact hw x (List.mem_append_right _ (List.mem_cons_of_mem _ z))
   have hR:∀ (r':Bd) (a:At),(aL r'.1 r'.2.1∈A++[a]∧aM r'.1 r'.2.2∈A++[a])→aal (R1++[r']++R2) (A++[a]):=fun r' a hr x hx=>by
    rcases List.mem_append.mp hx with z | z
    ·rcases List.mem_append.mp z with z | z
     ·have:=hld x (List.mem_append_left _ z); exact ⟨List.mem_append_left _ this.1,List.mem_append_left _ this.2⟩
     ·rw [List.mem_singleton] at z; subst z; exact hr
    ·have:=hld x (List.mem_append_right _ (List.mem_cons_of_mem _ z)); exact ⟨List.mem_append_left _ this.1,List.mem_append_left _ this.2⟩
   obtain ⟨p,ep,op,sp,dp,jp⟩:=Kq hN hs hO2 h40 hO n (R1++[(b,lo,lo)]++R2) (A++[aM b lo]) (by omega) ((Yz (r:=(b,lo,hi)) (r':=(b,lo,lo)) rfl).trans en) (wR _ (Int.le_refl _)) (hR _ _ ⟨List.mem_append_left _ hl1,List.mem_append_right _ List.mem_cons_self⟩) (ok.push (adx hN hbn)) (by rw [List.length_append,List.length_singleton]; omega)
   obtain ⟨q,eq,oq,sq,dq,jq⟩:=Kq hN hs hO2 h40 hO n (R1++[(b,lo+1,hi)]++R2) (A++[aL b (lo+1)]) (by omega) ((Yz (r:=(b,lo,hi)) (r':=(b,lo+1,hi)) rfl).trans en) (wR _ (by dsimp only; omega)) (hR _ _ ⟨List.mem_append_right _ List.mem_cons_self,List.mem_append_left _ hl2⟩) (ok.push (ado hN hbn)) (by rw [List.length_append,List.length_singleton]; omega)
   have lx:((R1++(b,lo,hi)::R2).map bdT).length=R1.length+(R2.length+1):=by rw [List.length_map,List.length_append,List.length_cons]
   have t1:((R1++(b,lo,hi)::R2).map bdT).take j=R1.map bdT:=by rw [← List.map_take,← hjl,List.take_left]
   have t2:((R1++(b,lo,hi)::R2).map bdT).drop (j+1)=R2.map bdT:=by
    rw [← List.map_drop,← hjl,List.drop_append,List.drop_of_length_le (by omega),show R1.length+1 - R1.length=1 by omega]; rfl
   have lR:R1.length+(R2.length+1)≤100:=by
    rw [List.length_append,List.length_cons] at ln; exact ln
   have s1:∀ {s:Sta},s.env[0]? = some (some (.lst ((R1++(b,lo,hi)::R2).map bdT),false))→s.env[4]? = some (some (.int (j:Int),false))→qu (bx 0) Az (wg (bx 4)) s=some (.lst (R1.map bdT),s):=fun {s} g0 g4=>by
    have v0:bx 0 s=some (.lst ((R1++(b,lo,hi)::R2).map bdT),s):=by unfold bx; rw [g0]
    have v4:bx 4 s=some (.int (j:Int),s):=by unfold bx; rw [g4]
    unfold qu
    rw [v0]
    dsimp only
    unfold Az wg
    dsimp only
    rw [v4]
    dsimp only
    unfold a2p
    dsimp only
    rw [Z4 (by rw [lx]; omega),t1]
   have s2:∀ {s:Sta},s.env[0]? = some (some (.lst ((R1++(b,lo,hi)::R2).map bdT),false))→s.env[4]? = some (some (.int (j:Int),false))→qu (bx 0) (wg (mOp vo (bx 4) (au (.int 1)))) Az s=some (.lst (R2.map bdT),s):=fun {s} g0 g4=>by
    have v0:bx 0 s=some (.lst ((R1++(b,lo,hi)::R2).map bdT),s):=by unfold bx; rw [g0]
    have v4:bx 4 s=some (.int (j:Int),s):=by unfold bx; rw [g4]
    have v5:mOp vo (bx 4) (au (.int 1)) s=some (.int ((j+1:Nat):Int),s):=zo v4 rfl (by show some (T.int ((j:Int)+1))=_; rw [show ((j+1:Nat):Int)=(j:Int)+1 by omega])
    unfold qu
    rw [v0]
    dsimp only
    unfold Az wg
    dsimp only
    rw [v5]
    dsimp only
    unfold a2p
    dsimp only
    rw [a1q (by rw [lx]; omega),t2]
   have la:(A.map atT).length+1<lim:=by rw [List.length_map]; show _<1000000; omega
   have ad1:∀ r':Bd,vo (.lst (R1.map bdT)) (.lst [bdT r'])=some (.lst ((R1++[r']).map bdT)):=fun r'=>by
    rw [List.map_append]
    exact if_pos (by rw [List.length_map]; show _+1<1000000; omega)
   have ad2:∀ r':Bd,vo (.lst ((R1++[r']).map bdT)) (.lst (R2.map bdT))=some (.lst ((R1++[r']++R2).map bdT)):=fun r'=>by
    rw [List.map_append (l₂:=R2)]
    exact if_pos (by rw [List.length_map,List.length_map,List.length_append,List.length_singleton]; show _<1000000; omega)
   have ad3:∀ a:At,vo (.lst (A.map atT)) (.lst [atT a])=some (.lst ((A++[a]).map atT)):=fun a=>by
    rw [List.map_append]
    exact if_pos la
   have fin:paX n (qP (R1++(b,lo,hi)::R2) A O (paT st) (some (.int (j:Int),false)) (some (.str b,false),some (.int lo,false),some (.int hi,false),w2) none none sto)=some (.ret (paT (.cut b lo p q)),qP (R1++(b,lo,hi)::R2) A O (paT st) (some (.int (j:Int),false)) (some (.str b,false),some (.int lo,false),some (.int hi,false),some (.lst ((A++[aL b (lo+1)]).map atT),false),some (paT p,false),some (paT q,false)) none none sto):=by
    rw [paT]
    unfold paX
    generalize kh n=F at *
    exact zq (zs (zo rfl (zm (zc (zm (zc rfl (zc (zm (zc (zun rfl rfl) (zc (zm (zc (zm (zc rfl (zc rfl rfl)) rfl) rfl) rfl) rfl)) rfl) rfl)) rfl) rfl) rfl) (ad3 (aM b lo)))) (zq (zs (zf0 (zc (zo (zo (s1 rfl rfl) (zm (zc (zm (zc rfl (zc rfl (zc rfl rfl))) rfl) rfl) rfl) (ad1 (b,lo,lo))) (s2 rfl rfl) (ad2 (b,lo,lo))) (zc rfl (zc rfl (zc rfl rfl)))) ep)) (zq (zs (zo rfl (zm (zc (zm (zc rfl (zc (zm (zc (zo rfl rfl rfl) (zc (zm (zc (zm (zc rfl (zc (zun rfl rfl) rfl)) rfl) rfl) rfl) rfl)) rfl) rfl)) rfl) rfl) rfl) (ad3 (aL b (lo+1))))) (zq (zs (zf0 (zc (zo (zo (s1 rfl rfl) (zm (zc (zm (zc rfl (zc (zo rfl rfl rfl) (zc rfl rfl))) rfl) rfl) rfl) (ad1 (b,lo+1,hi))) (s2 rfl rfl) (ad2 (b,lo+1,hi))) (zc rfl (zc rfl (zc rfl rfl)))) eq)) (zr (zm (zc rfl (zc rfl (zc rfl (zc rfl (zc rfl rfl))))) rfl)))))
   refine ⟨.cut b lo p q,?_,?_,?_,?_,fun hbk=>?_⟩
   ·rw [kh]
    exact zrun (n:=13) (zqr (Io rg (e _ _ fin))) rfl
   ·rw [okP]; exact ⟨hbn,op,oq⟩
   ·rw [sz,← c3,Nat.add_mul]; omega
   ·rw [dep]; omega
   ·rw [jd,jp fun bk hb s=>hbk bk (InB.wide (r:=(b,lo,hi)) (r':=(b,lo,lo)) rfl (Int.le_refl _) (by dsimp only; omega) hb) ⟨fun a ha=>s.a a (List.mem_append_left _ ha),s.o⟩,jq fun bk hb s=>hbk bk (InB.wide (r:=(b,lo,hi)) (r':=(b,lo+1,hi)) rfl (by dsimp only; omega) (Int.le_refl _) hb) ⟨fun a ha=>s.a a (List.mem_append_left _ ha),s.o⟩]
    rfl
  ·rw [← List.range_eq_range'] at e
   have inb:=InB.of hw
   have eq2:∀ r∈rs,r.2.1=r.2.2:=fun r hr=>by
    obtain ⟨i,hi⟩:=List.getElem?_of_mem hr
    have:=all i r (Nat.zero_le _) hi
    have:=hw r hr
    omega
   have hb:∀ b∈ns,b∈ks (Ue rs):=fun b hb=>by rw [InB.ks inb,en]; exact hb
   have hhd:Held (Ue rs) ns A:=fun b hb=>by
    rw [← en] at hb
    obtain ⟨r,hr,rfl⟩:=List.mem_map.mp hb
    have g:=inb.rng (by rw [en]; exact hN.n) r hr
    have e2:=eq2 r hr
    have ld:=hld r hr
    have e3:gt (Ue rs) r.1=r.2.1:=by omega
    rw [e3]
    refine ⟨ld.1,?_⟩
    rw [e2]; exact ld.2
   obtain ⟨w',eb⟩:=Z1 (sto:=sto) (A:=A) (O:=O) (rs:=rs) (S:=paT st) (o4:=o4) rs [] w (by rw [en]; exact hN.n) (fun r _ z=>by cases z) (by simpa using ln)
   rw [List.nil_append] at eb
   have lr:rs.length<lim:=by show _<1000000; omega
   by_cases hS:Sat (gt (Ue rs)) A O
   ·have ec:=Tq (n:=39) (sto:=sto) hN hb ok (by omega) (by omega) hhd hS
    have ec:jf 40 [.lst (A.map atT),orT O,.dic (dd (Ue rs))] sto=some (.non,sto):=ec
    refine ⟨st,?_,hs.1,?_,by omega,fun hbk=>(hbk _ inb hS).elim⟩
    ·rw [kh]
     generalize jf 40=G at *
     exact zrun (n:=13) (zq (Io rg e) (zq (s1:=qP rs A O (paT st) o4 w (some (.dic (dd []),true)) none sto) rfl (zq (Io (zis rfl lr) eb) (zq (zs (zf0 (zc rfl (zc rfl (zc rfl rfl))) ec)) (zr (zo (zm (zc rfl (zc rfl rfl)) rfl) (zm (zc (zo rfl rfl Zu) rfl) rfl) rfl)))))) rfl
    ·have:=a0g hw
     have h1:=acy hh
     have h2:1 * (cz hh+1)≤lv rs * (cz hh+1):=Nat.mul_le_mul_right _ this
     omega
   ·have bad:Bad (gt (Ue rs)) hh A O:=by
     by_cases h1:∃ a∈A,trB (gt (Ue rs)) a=false
     ·exact .inl h1
     ·refine .inr ⟨[],O,rfl,?_,hO2⟩
      by_cases h2:∃ ms∈O,Bj (gt (Ue rs)) ms=false
      ·exact h2
      ·exact (hS ⟨fun a ha=>by
        cases z:trB (gt (Ue rs)) a with
        | true=>rfl
        | false=>exact (h1 ⟨a,ha,z⟩).elim,fun ms hm=>by
        cases z:Bj (gt (Ue rs)) ms with
        | true=>rfl
        | false=>exact (h2 ⟨ms,hm,z⟩).elim⟩).elim
    obtain ⟨p,ec,j1,o1,z1,d1⟩:=Mt (sto:=sto) hN hb 40 hh A O h40 ok (by omega) (by omega) hhd bad
    refine ⟨p,?_,o1,?_,by omega,fun _=>j1⟩
    ·rw [kh]
     generalize jf 40=G at *
     have np:=acv p
     exact zrun (n:=13) (zq (Io rg e) (zq (s1:=qP rs A O (paT st) o4 w (some (.dic (dd []),true)) none sto) rfl (zq (Io (zis rfl lr) eb) (zq (zs (zf0 (zc rfl (zc rfl (zc rfl rfl))) ec)) (zr (zo (zm (zc rfl (zc rfl rfl)) rfl) (zm (zc (zo rfl rfl np) rfl) rfl) rfl)))))) rfl
    ·have:=a0g hw
     have h2:1 * (cz hh+1)≤lv rs * (cz hh+1):=Nat.mul_le_mul_right _ this
     omega
end
theorem nq {a b:Str} {k:Bool} (ha:okS a) (hb:okS b) (h:(a==b)=k):neO (.str a) (.str b)=some (.bl (!k)):=(a8k ha hb).trans (by rw [h])
def wrd:P→Str
 | .sum _ => "sum"
 | .rest _ _ => "rest"
 | .cut _ _ _ _ => "cut"
 | .orp _ _ => "or"
 | .no _ => "or"
def Uq:P→Bool
 | .cut _ _ _ _=>true
 | _=>false
theorem ada (p:P):cj (paT p) (.int 0)=some (.str (wrd p)):=by cases p <;> rw [paT] <;> exact ju
theorem ace (p:P):neO (.str (wrd p)) (.str "cut")=some (.bl (!Uq p)):=by
 cases p
 ·exact nq (a := "sum") (b := "cut") (k:=false) a1u Cy (by decide +kernel)
 ·exact nq (a := "rest") (b := "cut") (k:=false) wj Cy (by decide +kernel)
 ·exact nq (a := "cut") (b := "cut") (k:=true) Cy Cy (by decide +kernel)
 ·exact nq (a := "or") (b := "cut") (k:=false) Dv Cy (by decide +kernel)
 ·exact nq (a := "or") (b := "cut") (k:=false) Dv Cy (by decide +kernel)
theorem aaj (p:P):eqO (.str (wrd p)) (.str "cut")=some (.bl (Uq p)):=by
 cases p
 ·exact wq (a := "sum") (b := "cut") (k:=false) a1u Cy (by decide +kernel)
 ·exact wq (a := "rest") (b := "cut") (k:=false) wj Cy (by decide +kernel)
 ·exact wq (a := "cut") (b := "cut") (k:=true) Cy Cy (by decide +kernel)
 ·exact wq (a := "or") (b := "cut") (k:=false) Dv Cy (by decide +kernel)
 ·exact wq (a := "or") (b := "cut") (k:=false) Dv Cy (by decide +kernel)
theorem Zf {c d:M Bool} {s s1:Sta} (h:c s=some (false,s1)):Ba c d s=some (false,s1):=by unfold Ba; rw [h]
theorem Ln {c d:M Bool} {s s1:Sta} {q:Option (Bool × Sta)} (h:c s=some (true,s1)) (h2:d s1=q):Ba c d s=q:=by unfold Ba; rw [h]; exact h2
section
variable {ns:List Str} {sto:List SO}
def four:List P:=[.sum [],.orp 0 [],.sum [[0,1],[1,1]],.rest 2 [[0,1]]]
theorem abh:four.map paT=[.tup [.str "sum",.tup []],.tup [.str "or",.int 0,.tup []],.tup [.str "sum",.tup [.tup [.int 0,.int 1],.tup [.int 1,.int 1]]],.tup [.str "rest",.int 2,.tup [.tup [.int 0,.int 1]]]]:=by
 unfold four
 simp only [List.map_cons,List.map_nil,paT,a7z]
 rfl
theorem bb1 {l:List (List Int)} (h:(decide (l.length≤100)&&l.all fun r=>decide (r.length≤100)&&r.all fun n=>zx n)=true):aa7 l:=by
 rw [Bool.and_eq_true,decide_eq_true_eq,List.all_eq_true] at h
 refine ⟨h.1,fun r hr=>?_⟩
 have:=h.2 r hr
 rw [Bool.and_eq_true,decide_eq_true_eq,List.all_eq_true] at this
 exact this
theorem a9y:∀ p∈four,okP ns p∧sz p=1∧dep p≤1:=by
 intro p hp
 unfold four at hp
 simp only [List.mem_cons,List.not_mem_nil,or_false] at hp
 rcases hp with rfl | rfl | rfl | rfl
 ·exact ⟨by rw [okP]; exact bb1 (by decide),by rw [sz],by rw [dep]; omega⟩
 ·exact ⟨by rw [okP]; exact ⟨by simp,trivial⟩,by rw [sz,szs],by rw [dep,deps]; omega⟩
 ·exact ⟨by rw [okP]; exact bb1 (by decide),by rw [sz],by rw [dep]; omega⟩
 ·exact ⟨by rw [okP]; exact bb1 (by decide),by rw [sz],by rw [dep]; omega⟩
abbrev sB (p:P) (c:Int) (sto:List SO):Sta:=⟨[some (paT p,false),some (.int c,false)],sto⟩
abbrev m6 (n:Int):M Bool:=gb (mOp eqO (mOp Al (bx 1) (au (.int 6))) (au (.int n)))
abbrev bC:M Bool:=mOr (gb (mOp neO (mOp cj (bx 0) (au (.int 0))) (au (.str "cut")))) (m6 0)
theorem J8:∀ (n:Nat) (p:P) (c:Int),dep p<n→okP ns p→∃ p':P,jh n [paT p,.int c] sto=some (paT p',sto)∧okP ns p'∧sz p'≤sz p∧dep p'≤dep p+1
 | 0,p,c,h,_=>by omega
 | n+1,p,c,h,ok=>by
  have i0:=ada p
  have nc:=ace p
  have zp:=W0 (p:=p)
  have first:(Uq p=false∨c%6=0)→∃ p':P,jh (n+1) [paT p,.int c] sto=some (paT p',sto)∧okP ns p'∧sz p'≤sz p∧dep p'≤dep p+1:=fun hc=>by
   obtain ⟨q,hq,it⟩:=Ka paT four (i:=c / 6%4) (by omega) (by show _<4; omega)
   rw [abh] at it
   obtain ⟨o1,o2,o3⟩:=a9y (ns:=ns) q hq
   refine ⟨q,?_,o1,by omega,by omega⟩
   have cond:bC (sB p c sto)=some (true,(sB p c sto)):=by
    cases hk:Uq p with
    | false =>
     rw [hk] at nc
     exact adt (zt (zo (zo rfl rfl i0) rfl nc))
    | true =>
     rw [hk] at nc
     have h0:c%6=0:=by rcases hc with z | z; rw [hk] at z; cases z; exact z
     exact a6n (zt (zo (zo rfl rfl i0) rfl nc)) (zt (zo (zo rfl rfl rfl) rfl (eq_i (beq_iff_eq.mpr h0))))
   rw [jh]
   generalize jh n=F at *
   exact zrun (n:=2) (zqr (zk cond (zr (zo rfl (zo (zo rfl rfl rfl) rfl rfl) it)))) rfl
  by_cases h0:c%6=0
  ·exact first (.inr h0)
  cases p with
  | sum rows=>exact first (.inl rfl)
  | rest m rows=>exact first (.inl rfl)
  | orp k ps=>exact first (.inl rfl)
  | no k=>exact first (.inl rfl)
  | cut b k p q =>
   rw [okP] at ok
   rw [dep] at h
   have d1:dep p≤max (dep p) (dep q):=Nat.le_max_left _ _
   have d2:dep q≤max (dep p) (dep q):=Nat.le_max_right _ _
   have cond:bC (sB (.cut b k p q) c sto)=some (false,(sB (.cut b k p q) c sto)) :=
    a6n (zt (zo (zo rfl rfl i0) rfl nc)) (zt (zo (zo rfl rfl rfl) rfl (eq_i (beq_eq_false_iff_ne.mpr h0))))
   have pe:paT (.cut b k p q)=.tup [.str "cut",.str b,.int k,paT p,paT q]:=by rw [paT]
   have j1:cj (paT (.cut b k p q)) (.int 1)=some (.str b):=by rw [pe]; rfl
   have j2:cj (paT (.cut b k p q)) (.int 2)=some (.int k):=by rw [pe]; rfl
   have j3:cj (paT (.cut b k p q)) (.int 3)=some (paT p):=by rw [pe]; rfl
   have j4:cj (paT (.cut b k p q)) (.int 4)=some (paT q):=by rw [pe]; rfl
   obtain ⟨p',ep,op,sp,dp⟩:=J8 n p (c / 6) (by omega) ok.2.1
   obtain ⟨q',eq,oq,sq,dq⟩:=J8 n q (c / 6) (by omega) ok.2.2
   by_cases h1:c%6=1
   ·obtain ⟨v,hv,it⟩:=Ka T.int [1,-1] (i:=c / 6%2) (by omega) (by show _<2; omega)
    refine ⟨.cut b (k+v) p q,?_,by rw [okP]; exact ok,by rw [sz,sz]; omega,by rw [dep,dep]; omega⟩
    rw [jh,paT]
    generalize jh n=F at *
    exact zrun (n:=2) (zq (ze cond rfl) (zqr (zk (zt (zo (zo rfl rfl rfl) rfl (eq_i (beq_iff_eq.mpr h1)))) (zr (zm (zc rfl (zc (zo rfl rfl j1) (zc (zo (zo rfl rfl j2) (zo (zm (zc rfl (zc (zun rfl rfl) rfl)) rfl) (zo (zo rfl rfl rfl) rfl rfl) it) rfl) (zc (zo rfl rfl j3) (zc (zo rfl rfl j4) rfl))))) rfl))))) rfl
   have c1:m6 1 (sB (.cut b k p q) c sto)=some (false,(sB (.cut b k p q) c sto)):=zt (zo (zo rfl rfl rfl) rfl (eq_i (beq_eq_false_iff_ne.mpr h1)))
   by_cases h2:c%6=2
   ·refine ⟨.cut b k q p,?_,by rw [okP]; exact ⟨ok.1,ok.2.2,ok.2.1⟩,by rw [sz,sz]; omega,by rw [dep,dep,Nat.max_comm]; omega⟩
    rw [jh,paT]
    generalize jh n=F at *
    exact zrun (n:=2) (zq (ze cond rfl) (zq (ze c1 rfl) (zqr (zk (zt (zo (zo rfl rfl rfl) rfl (eq_i (beq_iff_eq.mpr h2)))) (zr (zm (zc rfl (zc (zo rfl rfl j1) (zc (zo rfl rfl j2) (zc (zo rfl rfl j4) (zc (zo rfl rfl j3) rfl))))) rfl)))))) rfl
   have c2:m6 2 (sB (.cut b k p q) c sto)=some (false,(sB (.cut b k p q) c sto)):=zt (zo (zo rfl rfl rfl) rfl (eq_i (beq_eq_false_iff_ne.mpr h2)))
   by_cases h3:c%6=3
   ·refine ⟨p,?_,ok.2.1,by rw [sz]; omega,by rw [dep]; omega⟩
    rw [jh]
    generalize jh n=F at *
    exact zrun (n:=2) (zq (ze cond rfl) (zq (ze c1 rfl) (zq (ze c2 rfl) (zqr (zk (zt (zo (zo rfl rfl rfl) rfl (eq_i (beq_iff_eq.mpr h3)))) (zr (zo rfl rfl j3))))))) rfl
   have c3:m6 3 (sB (.cut b k p q) c sto)=some (false,(sB (.cut b k p q) c sto)):=zt (zo (zo rfl rfl rfl) rfl (eq_i (beq_eq_false_iff_ne.mpr h3)))
   by_cases h4:c%6=4
   ·refine ⟨.cut b k p' q,?_,by rw [okP]; exact ⟨ok.1,op,ok.2.2⟩,by rw [sz,sz]; omega,by rw [dep,dep]; omega⟩
    rw [jh,paT]
    generalize jh n=F at *
    exact zrun (n:=2) (zq (ze cond rfl) (zq (ze c1 rfl) (zq (ze c2 rfl) (zq (ze c3 rfl) (zqr (zk (zt (zo (zo rfl rfl rfl) rfl (eq_i (beq_iff_eq.mpr h4)))) (zr (zm (zc rfl (zc (zo rfl rfl j1) (zc (zo rfl rfl j2) (zc (zf0 (zc (zo rfl rfl j3) (zc (zo rfl rfl rfl) rfl)) ep) (zc (zo rfl rfl j4) rfl))))) rfl)))))))) rfl
   have c4:m6 4 (sB (.cut b k p q) c sto)=some (false,(sB (.cut b k p q) c sto)):=zt (zo (zo rfl rfl rfl) rfl (eq_i (beq_eq_false_iff_ne.mpr h4)))
   refine ⟨.cut b k p q',?_,by rw [okP]; exact ⟨ok.1,ok.2.1,oq⟩,by rw [sz,sz]; omega,by rw [dep,dep]; omega⟩
   rw [jh,paT]
   generalize jh n=F at *
   exact zrun (n:=2) (zq (ze cond rfl) (zq (ze c1 rfl) (zq (ze c2 rfl) (zq (ze c3 rfl) (zq (ze c4 rfl) (zr (zm (zc rfl (zc (zo rfl rfl j1) (zc (zo rfl rfl j2) (zc (zo rfl rfl j3) (zc (zf0 (zc (zo rfl rfl j4) (zc (zo rfl rfl rfl) rfl)) eq) rfl))))) rfl))))))) rfl
theorem Q9 {A:List At} {O:List (List Fo)} {q:P} (hq:∀ A O,jd A O q=false):∀ (P1:List P) {P2:List P} {ms:List Fo},(P1++q::P2).length=ms.length→jds A O ms (P1++q::P2)=false
 | [],P2,[],h=>by simp at h
 | [],P2,f::ms,h=>by rw [List.nil_append,jds,hq]; rfl
 | p::P1,P2,[],h=>by simp at h
 | p::P1,P2,f::ms,h=>by rw [List.cons_append,jds,Q9 hq P1 (by simpa using h),Bool.and_false]
theorem ad8 (A:List At) (O:List (List Fo)):jd A O (.sum [])=false:=by
 rw [jd]
 unfold G8 fin
 simp [cN]
theorem T5:∀ (a b:List P),szs (a++b)=szs a+szs b
 | [],b=>by simp [szs]
 | p::a,b=>by rw [List.cons_append,szs,szs,T5 a b]; omega
theorem Nx:∀ (a b:List P),deps (a++b)=max (deps a) (deps b)
 | [],b=>by simp [deps]
 | p::a,b=>by rw [List.cons_append,deps,deps,Nx a b]; omega
theorem Gz:∀ {a b:List P},a5w ns (a++b)↔a5w ns a∧a5w ns b
 | [],b=>⟨fun h=>⟨trivial,h⟩,fun h=>h.2⟩
 | p::a,b=>⟨fun h=>⟨⟨h.1,(Gz.mp h.2).1⟩,(Gz.mp h.2).2⟩,fun h=>⟨h.1.1,Gz.mpr ⟨h.1.2,h.2⟩⟩⟩
theorem a1t:∀ {l:List P} {j:Nat} (h:j<l.length),∃ R1 r R2,l=R1++r::R2∧R1.length=j
 | [],j,h=>by simp at h
 | x::l,0,h=>⟨[],x,l,rfl,rfl⟩
 | x::l,j+1,h=>by
  obtain ⟨R1,r,R2,e,el⟩:=a1t (l:=l) (j:=j) (by simpa using h)
  exact ⟨x::R1,r,R2,by rw [e]; rfl,by rw [List.length_cons,el]⟩
abbrev sH (p:P) (c:Int) (o:Slot) (sto:List SO):Sta:=⟨[some (paT p,false),some (.int c,false),o],sto⟩
abbrev hC1:M Bool:=Ba (gb (mOp eqO (mOp cj (bx 0) (au (.int 0))) (au (.str "cut")))) (gb (mOp eqO (mOp Al (bx 1) (au (.int 2))) (au (.int 0))))
abbrev hC2:M Bool:=gb (mOp eqO (mOp cj (bx 0) (au (.int 0))) (au (.str "cut")))
abbrev hC3:M Bool:=Ba (gb (mOp eqO (mOp cj (bx 0) (au (.int 0))) (au (.str "or")))) (Ba (gb (mOp gtT (gk Bw (ao (mOp cj (bx 0) (au (.int 2))) dw)) (au (.int 0)))) (gb (mOp gtT (mOp Al (bx 1) (au (.int 5))) (au (.int 0)))))
theorem G4:∀ (n:Nat) (p:P) (c:Int),dep p<n→okP ns p→∃ p':P,jk n [paT p,.int c] sto=some (paT p',sto)∧okP ns p'∧sz p'≤sz p∧dep p'≤dep p∧∀ A O,jd A O p'=false
 | 0,p,c,h,_=>by omega
 | n+1,p,c,h,ok=>by
  have i0:=ada p
  have ec:=aaj p
  have zp:=W0 (p:=p)
  have c1:∀ {b:Bool},Uq p=false→hC1 (sH p c none sto)=some (false,(sH p c none sto)):=fun {b} hk=>by
   rw [hk] at ec
   exact Zf (zt (zo (zo rfl rfl i0) rfl ec))
  have c2:Uq p=false→hC2 (sH p c none sto)=some (false,(sH p c none sto)):=fun hk=>by
   rw [hk] at ec
   exact zt (zo (zo rfl rfl i0) rfl ec)
  have last:Uq p=false→hC3 (sH p c none sto)=some (false,(sH p c none sto))→∃ p':P,jk (n+1) [paT p,.int c] sto=some (paT p',sto)∧okP ns p'∧sz p'≤sz p∧dep p'≤dep p∧∀ A O,jd A O p'=false:=fun hk cond=>by
   refine ⟨.sum [],?_,by rw [okP]; exact bb1 (by decide),by rw [sz]; exact zp,by rw [dep]; omega,ad8⟩
   have d1:=c1 (b:=true) hk
   have d2:=c2 hk
   rw [jk,paT]
   generalize jk n=F at *
   exact zrun (n:=3) (zq (ze d1 rfl) (zq (ze d2 rfl) (zq (ze cond rfl) (zr (zm (zc rfl (zc (zm rfl rfl) rfl)) rfl))))) rfl
  cases p with
  | sum rows=>exact last rfl (Zf (zt (zo (zo rfl rfl i0) rfl (wq (a := "sum") (b := "or") (k:=false) a1u Dv (by decide +kernel)))))
  | rest m rows=>exact last rfl (Zf (zt (zo (zo rfl rfl i0) rfl (wq (a := "rest") (b := "or") (k:=false) wj Dv (by decide +kernel)))))
  | no k =>
   have j2:cj (paT (.no k)) (.int 2)=some (.tup []):=by rw [paT]; rfl
   exact last rfl (Ln (zt (zo (zo rfl rfl i0) rfl aa1)) (Zf (zt (zo (zm (zc (zo rfl rfl j2) rfl) rfl) rfl rfl))))
  | cut b k p q =>
   rw [okP] at ok
   rw [dep] at h
   have d1:dep p≤max (dep p) (dep q):=Nat.le_max_left _ _
   have d2:dep q≤max (dep p) (dep q):=Nat.le_max_right _ _
   have pe:paT (.cut b k p q)=.tup [.str "cut",.str b,.int k,paT p,paT q]:=by rw [paT]
   have j1:cj (paT (.cut b k p q)) (.int 1)=some (.str b):=by rw [pe]; rfl
   have j2:cj (paT (.cut b k p q)) (.int 2)=some (.int k):=by rw [pe]; rfl
   have j3:cj (paT (.cut b k p q)) (.int 3)=some (paT p):=by rw [pe]; rfl
   have j4:cj (paT (.cut b k p q)) (.int 4)=some (paT q):=by rw [pe]; rfl
   obtain ⟨p',ep,op,sp,dp,fp⟩:=G4 n p (c / 2) (by omega) ok.2.1
   obtain ⟨q',eq,oq,sq,dq,fq⟩:=G4 n q (c / 2) (by omega) ok.2.2
   by_cases h0:c%2=0
   ·refine ⟨.cut b k p' q,?_,by rw [okP]; exact ⟨ok.1,op,ok.2.2⟩,by rw [sz,sz]; omega,by rw [dep,dep]; omega,fun A O=>by rw [jd,fp]; rfl⟩
    rw [jk,paT]
    generalize jk n=F at *
    exact zrun (n:=3) (zqr (zk (Ln (zt (zo (zo rfl rfl i0) rfl ec)) (zt (zo (zo rfl rfl rfl) rfl (eq_i (beq_iff_eq.mpr h0))))) (zr (zm (zc rfl (zc (zo rfl rfl j1) (zc (zo rfl rfl j2) (zc (zf0 (zc (zo rfl rfl j3) (zc (zo rfl rfl rfl) rfl)) ep) (zc (zo rfl rfl j4) rfl))))) rfl)))) rfl
   ·refine ⟨.cut b k p q',?_,by rw [okP]; exact ⟨ok.1,ok.2.1,oq⟩,by rw [sz,sz]; omega,by rw [dep,dep]; omega,fun A O=>by rw [jd,fq,Bool.and_false]⟩
    rw [jk,paT]
    generalize jk n=F at *
    exact zrun (n:=3) (zq (ze (Ln (zt (zo (zo rfl rfl i0) rfl ec)) (zt (zo (zo rfl rfl rfl) rfl (eq_i (beq_eq_false_iff_ne.mpr h0))))) rfl) (zqr (zk (zt (zo (zo rfl rfl i0) rfl ec)) (zr (zm (zc rfl (zc (zo rfl rfl j1) (zc (zo rfl rfl j2) (zc (zo rfl rfl j3) (zc (zf0 (zc (zo rfl rfl j4) (zc (zo rfl rfl rfl) rfl)) eq) rfl))))) rfl))))) rfl
  | orp k ps =>
   have pe:paT (.orp k ps)=.tup [.str "or",.int (k:Int),.tup (ps.map paT)]:=by rw [paT,Gp]
   have j1:cj (paT (.orp k ps)) (.int 1)=some (.int (k:Int)):=by rw [pe]; rfl
   have j2:cj (paT (.orp k ps)) (.int 2)=some (.tup (ps.map paT)):=by rw [pe]; rfl
   have ln:Bw [.tup (ps.map paT)]=some (.int (ps.length:Int)):=by show some (T.int ((ps.map paT).length:Int))=_; rw [List.length_map]
   have gt_:∀ {v:Int},gtT (.int v) (.int 0)=some (.bl (decide (0<v))):=fun {v}=>rfl
   by_cases hl:0<(ps.length:Int)
   ·by_cases h5:0<c%5
    ·rw [okP] at ok
     rw [dep] at h
     have hm0:=Int.emod_nonneg (c / 5) (show (ps.length:Int)≠0 by omega)
     have hm1:=Int.emod_lt_of_pos (c / 5) hl
     obtain ⟨j,hj⟩:∃ j:Nat,(j:Int)=c / 5%(ps.length:Int):=⟨(c / 5%(ps.length:Int)).toNat,by omega⟩
     obtain ⟨R1,r,R2,e,el⟩:=a1t (l:=ps) (j:=j) (by omega)
     have okr:=Gz.mp (e ▸ ok.2)
     have dr:deps ps=max (deps R1) (max (dep r) (deps R2)):=by rw [e,Nx,deps]
     obtain ⟨r',er,or',sr,dr',fr⟩:=G4 n r (c / 15) (by omega) okr.2.1
     have lp:ps.length=R1.length+(R2.length+1):=by rw [e,List.length_append,List.length_cons]
     refine ⟨.orp k (R1++r'::R2),?_,?_,?_,?_,fun A O=>?_⟩
     ·have lx:(ps.map paT).length=R1.length+(R2.length+1):=by rw [List.length_map,lp]
      have t1:(ps.map paT).take j=R1.map paT:=by rw [← List.map_take,e,← el,List.take_left]
      have t2:(ps.map paT).drop (j+1)=R2.map paT:=by
       rw [← List.map_drop,e,← el,List.drop_append,List.drop_of_length_le (by omega),show R1.length+1 - R1.length=1 by omega]; rfl
      have ij:cj (.tup (ps.map paT)) (.int (j:Int))=some (paT r):=by
       refine O4 ?_
       rw [List.getElem?_map,e,List.getElem?_append_right (by omega),show j - R1.length=0 by omega]
       rfl
      have s1:qu (mOp cj (bx 0) (au (.int 2))) Az (wg (bx 2)) (sH (.orp k ps) c (some (.int (j:Int),false)) sto)=some (.tup (R1.map paT),(sH (.orp k ps) c (some (.int (j:Int),false)) sto)):=by
       have v0:mOp cj (bx 0) (au (.int 2)) (sH (.orp k ps) c (some (.int (j:Int),false)) sto)=some (.tup (ps.map paT),(sH (.orp k ps) c (some (.int (j:Int),false)) sto)):=zo rfl rfl j2
       unfold qu
       rw [v0]
       show (match a2p none (some (j:Int)) (.tup (ps.map paT)) with | some u=>some (u,_) | none=>none)=_
       unfold a2p
       dsimp only
       have nw:¬ (sIx (ps.map paT).length 0 none=0∧sIx (ps.map paT).length (ps.map paT).length (some (j:Int))=(ps.map paT).length):=by
        rintro ⟨_,z⟩
        unfold sIx at z
        dsimp only at z
        rw [if_neg (by omega),Int.toNat_natCast] at z
        omega
       rw [if_neg nw,Z4 (by omega),t1]
      have s2:qu (mOp cj (bx 0) (au (.int 2))) (wg (mOp vo (bx 2) (au (.int 1)))) Az (sH (.orp k ps) c (some (.int (j:Int),false)) sto)=some (.tup (R2.map paT),(sH (.orp k ps) c (some (.int (j:Int),false)) sto)):=by
       have v0:mOp cj (bx 0) (au (.int 2)) (sH (.orp k ps) c (some (.int (j:Int),false)) sto)=some (.tup (ps.map paT),(sH (.orp k ps) c (some (.int (j:Int),false)) sto)):=zo rfl rfl j2
       unfold qu
       rw [v0]
       show (match a2p (some ((j:Int)+1)) none (.tup (ps.map paT)) with | some u=>some (u,_) | none=>none)=_
       rw [show (j:Int)+1=((j+1:Nat):Int) by omega]
       unfold a2p
       dsimp only
       have nw:¬ (sIx (ps.map paT).length 0 (some ((j+1:Nat):Int))=0∧sIx (ps.map paT).length (ps.map paT).length none=(ps.map paT).length):=by
        rintro ⟨z,_⟩
        unfold sIx at z
        dsimp only at z
        rw [if_neg (by omega),Int.toNat_natCast] at z
        omega
       rw [if_neg nw,a1q (by omega),t2]
      have ok1:=ok.1
      have ad1:vo (.tup (R1.map paT)) (.tup [paT r'])=some (.tup ((R1++[r']).map paT)):=by
       rw [List.map_append]
       exact if_pos (by rw [List.length_map]; show _+1<1000000; omega)
      have ad2:vo (.tup ((R1++[r']).map paT)) (.tup (R2.map paT))=some (.tup ((R1++r'::R2).map paT)):=by
       rw [show R1++r'::R2=R1++[r']++R2 by simp,List.map_append (l₂:=R2)]
       exact if_pos (by rw [List.length_map,List.length_map,List.length_append,List.length_singleton]; show _<1000000; omega)
      have d1:=c1 (b:=true) rfl
      have d2:=c2 rfl
      have dh:decide ((0:Int)<ps.length)=true:=decide_eq_true hl
      have dh5:decide (0<c%5)=true:=decide_eq_true h5
      have cond:hC3 (sH (.orp k ps) c none sto)=some (true,(sH (.orp k ps) c none sto)) :=
       Ln (zt (zo (zo rfl rfl i0) rfl aa1)) (Ln (zt (zo (zm (zc (zo rfl rfl j2) rfl) ln) rfl (gt_.trans (by rw [dh])))) (zt (zo (zo rfl rfl rfl) rfl (gt_.trans (by rw [dh5])))))
      rw [jk,show paT (.orp k (R1++r'::R2))=.tup [.str "or",.int (k:Int),.tup ((R1++r'::R2).map paT)] by rw [paT,Gp]]
      generalize jk n=F at *
      exact zrun (n:=3) (zq (ze d1 rfl) (zq (ze d2 rfl) (zqr (zk cond (zq (s1:=(sH (.orp k ps) c (some (.int (j:Int),false)) sto)) (ys (zo (zo rfl rfl rfl) (zm (zc (zo rfl rfl j2) rfl) ln) (md hl)) (by rw [← hj]; rfl)) (zr (zm (zc rfl (zc (zo rfl rfl j1) (zc (zo (zo s1 (zm (zc (zf0 (zc (zo (zo rfl rfl j2) rfl ij) (zc (zo rfl rfl rfl) rfl)) er) rfl) rfl) ad1) s2 ad2) rfl))) rfl))))))) rfl
     ·rw [okP]
      refine ⟨?_,Gz.mpr ⟨okr.1,or',okr.2.2⟩⟩
      have:=ok.1
      rw [List.length_append,List.length_cons]; omega
     ·rw [sz,sz,e,T5,T5,szs,szs]; omega
     ·rw [dep,dep,Nx,deps,dr]; omega
     ·rw [jd]
      cases O[k]? with
      | none=>rfl
      | some ms =>
       dsimp only
       by_cases hz:(R1++r'::R2).length=ms.length
       ·rw [if_pos hz,Q9 fr R1 hz]
       ·rw [if_neg hz]
    ·have dh:decide ((0:Int)<ps.length)=true:=decide_eq_true hl
     have dh5:decide (0<c%5)=false:=decide_eq_false h5
     exact last rfl (Ln (zt (zo (zo rfl rfl i0) rfl aa1)) (Ln (zt (zo (zm (zc (zo rfl rfl j2) rfl) ln) rfl (gt_.trans (by rw [dh])))) (zt (zo (zo rfl rfl rfl) rfl (gt_.trans (by rw [dh5]))))))
   ·have dh:decide ((0:Int)<ps.length)=false:=decide_eq_false hl
    exact last rfl (Ln (zt (zo (zo rfl rfl i0) rfl aa1)) (Zf (zt (zo (zm (zc (zo rfl rfl j2) rfl) ln) rfl (gt_.trans (by rw [dh]))))))
theorem afk {a b:Bool}:eqO (.bl a) (.bl b)=some (.bl (a==b)):=by simp [eqO,eqT,eqD,dat,PyData.depth,PyData.eqv]
theorem Gf {R F Q:T} {b d:Bool} (h:wu [R,F,Q] sto=some (.bl b,sto)):mz [R,F,Q,.bl d] sto=some (.bl (b==d),sto):=by
 unfold mz
 generalize wu=G at *
 exact zrun (n:=5) (zq (zs (zf0 rfl h)) (zr (zb (Ln (zt (zm (zc rfl rfl) rfl)) (zt (zb (a6n (zt (zo rfl rfl rfl)) (zt (zo rfl rfl afk))))))))) rfl
theorem a4f {R F Q:T} {b:Bool} (h:wu [R,F,Q] sto=some (.bl b,sto)):mz [R,F,Q,.non] sto=some (.bl true,sto):=by
 unfold mz
 generalize wu=G at *
 exact zrun (n:=5) (zq (zs (zf0 rfl h)) (zr (zb (Ln (zt (zm (zc rfl rfl) rfl)) (zt (zb (adt (zt (zo rfl rfl rfl))))))))) rfl
end
theorem Dc.add {ns:List Str} {f:Fo}:∀ {l:List Fo},Dc ns l→Nr ns f→Dc ns (l++[f])
 | [],_,h=>⟨h,trivial⟩
 | g::l,h,hf=>⟨h.1,Dc.add h.2 hf⟩
theorem Qm:∀ {l:List Fo},(∀ f∈l,fz f≤10)→fzs l≤10 * l.length∧dls l≤10
 | [],_=>⟨by rw [fzs]; omega,by rw [dls]; omega⟩
 | f::l,h=>by
  have h1:=h f List.mem_cons_self
  have h2:=Qm (l:=l) fun x hx=>h x (List.mem_cons_of_mem _ hx)
  have h3:=a8d f
  refine ⟨by rw [fzs,List.length_cons]; omega,by rw [dls]; omega⟩
theorem a6j:∀ {l:List Fo},(∀ f∈l,ht f≤2)→hts l≤2
 | [],_=>by rw [hts]; omega
 | f::l,h=>by
  have h1:=h f List.mem_cons_self
  have h2:=a6j (l:=l) fun x hx=>h x (List.mem_cons_of_mem _ hx)
  rw [hts]; omega
theorem M6:∀ {bs:List Bd},(∀ r∈bs,r.2.1≤r.2.2∧r.2.2≤r.2.1+2)→wd bs≤2 * bs.length∧lv bs≤3 ^ bs.length
 | [],_=>⟨by rw [wd]; omega,by rw [lv]; simp⟩
 | r::bs,h=>by
  have h1:=h r List.mem_cons_self
  have h2:=M6 (bs:=bs) fun x hx=>h x (List.mem_cons_of_mem _ hx)
  refine ⟨by rw [wd,List.length_cons]; omega,?_⟩
  rw [lv,List.length_cons,Nat.pow_succ,Nat.mul_comm]
  exact Nat.mul_le_mul h2.2 (by omega)
section
variable {sto:List SO} {cs:List Int} {bs:List Bd} {fs:List Fo}
abbrev qX (cs:List Int) (bs:List Bd) (fs:List Fo) (o3:Slot) (sto:List SO):Sta :=
 ⟨[some (scr cs,false),some (.lst (bs.map bdT),false),some (.lst (fs.map foT),true),o3,none,none,none,none,none,none,none,none,none,none,none],sto⟩
structure adl (ns:List Str) (fs:List Fo):Prop where
 o:Dc ns fs
 z:∀ f∈fs,fz f≤10
 h:∀ f∈fs,ht f≤2
theorem a1b (hR:Rk bs):∀ (m k:Nat) (fs:List Fo) (o3:Slot),k+m≤5→fs.length=k→adl (nsB bs) fs →
  ∃ (fs':List Fo) (o3':Slot),forL (hName 3) foB ((List.range' k m).map fun (j:Nat)=>T.int (j:Int)) (qX cs bs fs o3 sto)=some (.next,qX cs bs fs' o3' sto)∧fs'.length=k+m∧adl (nsB bs) fs'
 | 0,k,fs,o3,_,hl,h=>⟨fs,o3,rfl,by omega,h⟩
 | m+1,k,fs,o3,hk,hl,h=>by
  have ex:=W2 (cs:=cs) (k:=4+k) (i:=4+(k:Int)) (sto:=sto) (by omega)
  obtain ⟨f,ef,of,zf,hf⟩:=Nv (sto:=sto) hR 40 2 (cell cs (4+k)) (by omega)
  have z2:zbd 2=10:=rfl
  obtain ⟨fs',o3',ih,l',q⟩:=a1b hR m (k+1) (fs++[f]) (some (.int (k:Int),false)) (by omega) (by rw [List.length_append,List.length_singleton]; omega) ⟨h.o.add of,fun x hx=>by
   rcases List.mem_append.mp hx with z | z
   ·exact h.z x z
   ·rw [List.mem_singleton] at z; subst z; omega,fun x hx=>by
   rcases List.mem_append.mp hx with z | z
   ·exact h.h x z
   ·rw [List.mem_singleton] at z; subst z; exact hf⟩
  refine ⟨fs',o3',?_,by omega,q⟩
  have la:(fs.map foT).length<lim:=by rw [List.length_map]; show _<1000000; omega
  rw [← ih,List.range'_succ,List.map_cons]
  refine Dd (s1:=qX cs bs fs (some (.int (k:Int),false)) sto) rfl ?_
  unfold foB
  generalize jj 40=F at *
  generalize jx=G at *
  exact za (zf0 (zc (zf0 (zc rfl (zc (zo rfl rfl rfl) rfl)) ex) (zc rfl (zc rfl rfl))) ef) rfl la rfl (by unfold qX; rw [List.map_append]; rfl)
abbrev qA (cs:List Int) (bs:List Bd) (fs:List Fo) (o3:Slot) (A:List At) (o5 o6 o7:Slot) (sto:List SO):Sta :=
 ⟨[some (scr cs,false),some (.lst (bs.map bdT),false),some (.lst (fs.map foT),true),o3,some (.lst (A.map atT),false),o5,o6,o7,none,none,none,none,none,none,none],sto⟩
theorem Zo {o3:Slot}:∀ (l:List Bd) (A:List At) (o5 o6 o7:Slot),A.length+2 * l.length≤100→∃ p5 p6 p7:Slot,forL (Cw [5,6,7]) anB (l.map bdT) (qA cs bs fs o3 A o5 o6 o7 sto)=some (.next,qA cs bs fs o3 (A++bounds l) p5 p6 p7 sto)
 | [],A,o5,o6,o7,_=>⟨o5,o6,o7,by unfold bounds; rw [List.flatMap_nil,List.append_nil]; rfl⟩
 | r::l,A,o5,o6,o7,hl=>by
  rw [List.length_cons] at hl
  obtain ⟨p5,p6,p7,ih⟩:=Zo (o3:=o3) l (A++[aL r.1 r.2.1,aM r.1 r.2.2]) (some (.str r.1,false)) (some (.int r.2.1,false)) (some (.int r.2.2,false)) (by rw [List.length_append,List.length_cons,List.length_singleton]; omega)
  refine ⟨p5,p6,p7,?_⟩
  rw [show A++bounds (r::l)=A++[aL r.1 r.2.1,aM r.1 r.2.2]++bounds l by unfold bounds; rw [List.flatMap_cons,List.append_assoc],← ih,List.map_cons]
  have ad:vo (.lst (A.map atT)) (.lst [atT (aL r.1 r.2.1),atT (aM r.1 r.2.2)])=some (.lst ((A++[aL r.1 r.2.1,aM r.1 r.2.2]).map atT)):=by
   rw [List.map_append]
   exact if_pos (by rw [List.length_map]; show _+2<1000000; omega)
  exact Dd (s1:=qA cs bs fs o3 A (some (.str r.1,false)) (some (.int r.2.1,false)) (some (.int r.2.2,false)) sto) (by rw [bdT,Xd]; rfl) (ys (zo rfl (zm (zc (zm (zc rfl (zc (zm (zc rfl (zc (zm (zc (zm (zc rfl (zc (zun rfl rfl) rfl)) rfl) rfl) rfl) rfl)) rfl) rfl)) rfl) (zc (zm (zc rfl (zc (zm (zc (zun rfl rfl) (zc (zm (zc (zm (zc rfl (zc rfl rfl)) rfl) rfl) rfl) rfl)) rfl) rfl)) rfl) rfl)) rfl) ad) rfl)
theorem V4 {B:Str→Int}:∀ (l:List Fo),(((l.filter fun f=>!trF B f).length:Int)==0)=Aa B l
 | []=>by rw [Aa]; rfl
 | f::l=>by
  rw [Aa,List.filter_cons]
  cases trF B f with
  | true =>
   rw [if_neg (by simp),Bool.true_and]; exact V4 l
  | false =>
   rw [if_pos (by simp),Bool.false_and,List.length_cons]
   exact beq_eq_false_iff_ne.mpr (by omega)
theorem a9k {bk:List Pr} (hN:Fp (nsB bs)) (hb:∀ b∈nsB bs,b∈ks bk) (h:adl (nsB bs) fs) (hl:fs.length≤100):trC ⟨[some (dkT bk,false),some (.lst (fs.map foT),false)],sto⟩=some (Aa (gt bk) fs,⟨[some (dkT bk,false),some (.lst (fs.map foT),false)],sto⟩):=by
 have ll:fs.length<lim:=by show _<1000000; omega
 have co:pq 1 [0] (hName 0) (yd (bx 1)) (J2 (gb (iy (j5 40) (ao (bx 0) (ao (bx 1) dw))))) (au (.int 1)) ⟨[some (dkT bk,false),some (.lst (fs.map foT),false)],sto⟩=some (.lst ((fs.filter fun f=>!trF (gt bk) f).map fun _=>T.int 1),⟨[some (dkT bk,false),some (.lst (fs.map foT),false)],sto⟩):=by
  generalize hF:pq 1 _ _ _ _ _ _=r
  refine Gb hF foT (fun _=>T.int 1) (fun f=>!trF (gt bk) f) fs ⟨[some (dkT bk,false),some (.lst (fs.map foT),false)],sto⟩ [some (dkT bk,false),some (.lst (fs.map foT),false)] [some (dkT bk,false)] (zis rfl ll) rfl rfl rfl (Nat.le_of_lt ll) ?_
  intro f hf pre hp
  have e:=Vo (sto:=sto) hN hb 40 f (by have:=h.z f hf; omega) (h.o.mem f hf)
  generalize j5 40=G at *
  match pre,hp with
  | [a],_=>exact ⟨[some (foT f,false)],rfl,rfl,a0z (zt (zf0 (zc rfl (zc rfl rfl)) e)),fun _=>rfl⟩
 have e:=V4 (B:=gt bk) fs
 have lm:Bw [.lst ((fs.filter fun f=>!trF (gt bk) f).map fun _=>T.int 1)]=some (.int ((fs.filter fun f=>!trF (gt bk) f).length:Int)):=a2s
 rw [← e]
 exact zt (zo (zm (zc co rfl) lm) rfl qd)
theorem Zr {lo hi:Int}:∃ l:List Int,Xz (cs.map T.int) (some lo) (some hi)=l.map T.int∧l.length≤cs.length:=by
 unfold Xz
 rw [← List.map_drop,← List.map_take]
 exact ⟨_,rfl,by rw [List.length_take,List.length_drop]; omega⟩
end
section
variable {sto:List SO} {cs:List Int} {bs:List Bd} {fs:List Fo}
abbrev W4s:=Slot × Slot × Slot × Slot
abbrev qZ (cs:List Int) (bs:List Bd) (fs:List Fo) (A:List At) (O:List (List Fo)) (V Pp:T) (w:W4s) (x:W4s) (sto:List SO):Sta :=
 ⟨[some (scr cs,false),some (.lst (bs.map bdT),false),some (.lst (fs.map foT),false),w.1,some (.lst (A.map atT),false),w.2.1,w.2.2.1,w.2.2.2,some (orT O,false),some (V,false),some (Pp,false),x.1,x.2.1,x.2.2.1,x.2.2.2],sto⟩
structure G (bs:List Bd) (fs:List Fo):Prop where
 r:Rk bs
 f:adl (nsB bs) fs
 l:fs.length≤5
theorem G.let {p:P} (g:G bs fs) (hp:okP (nsB bs) p) (h1:sz p<900) (h2:dep p≤20):wu [.lst (bs.map bdT),.lst (fs.map foT),paT p] sto=some (.bl (jd (bounds bs++Am fs) (vm fs) p),sto):=by
 have:=g.r.l
 have:=g.l
 have:=(Qm g.f.z).1
 exact a6v g.r.ns (by omega) g.f.o g.f.z (by omega) hp h1 h2
theorem G.ok (g:G bs fs):LOk (nsB bs) (bounds bs++Am fs) (vm fs):=aga g.r.ns g.f.o g.f.z
theorem G.paper {st:P} (g:G bs fs) (hs:okP (nsB bs) st∧sz st=1∧dep st≤1):∃ p:P,kh 40 [.lst (bs.map bdT),.lst ((bounds bs++Am fs).map atT),orT (vm fs),paT st] sto=some (paT p,sto)∧okP (nsB bs) p∧sz p<900∧dep p≤10∧((∀ bk,InB bs bk→¬ Sat (gt bk) (bounds bs++Am fs) (vm fs))→jd (bounds bs++Am fs) (vm fs) p=true):=by
 have l3:=g.r.l
 have l5:=g.l
 have fz5:=Qm g.f.z
 have a1:=J4 fs
 have a2:=J5 fs
 have a3:=Bp bs
 have rw_:=M6 g.r.w
 have l27:3 ^ bs.length≤27:=Nat.pow_le_pow_right (n:=3) (by decide) l3
 have hh2:=a6j g.f.h
 obtain ⟨p,e,o,z,d,j⟩:=Kq (sto:=sto) (O:=vm fs) (hh:=2) g.r.ns hs (fun ms hm=>by have:=Tt fs ms hm; omega) (by decide) (by omega) 40 bs (bounds bs++Am fs) (by omega) rfl (fun r hr=>(g.r.w r hr).1) (fun r hr=>⟨List.mem_append_left _ (List.mem_flatMap.mpr ⟨r,hr,by simp⟩),List.mem_append_left _ (List.mem_flatMap.mpr ⟨r,hr,by simp⟩)⟩) g.ok (by rw [List.length_append]; omega)
 have c2:cz 2=13:=rfl
 rw [c2] at z
 have:lv bs * 14≤27 * 14:=Nat.mul_le_mul_right _ (by omega)
 exact ⟨p,e,o,by omega,by omega,j⟩
theorem Yo {V:T} {p:P} {w:W4s} (g:G bs fs) (hp:okP (nsB bs) p) (h1:sz p<900) (h2:dep p≤10):∀ (l:List Int) (x:W4s),∃ x':W4s,forL (hName 11) ntB (l.map T.int) (qZ cs bs fs (bounds bs++Am fs) (vm fs) V (paT p) w x sto)=some (.next,qZ cs bs fs (bounds bs++Am fs) (vm fs) V (paT p) w x' sto)
 | [],x=>⟨x,rfl⟩
 | c::l,x=>by
  obtain ⟨x',ih⟩:=Yo (V:=V) (w:=w) g hp h1 h2 l (some (.int c,false),x.2)
  refine ⟨x',?_⟩
  rw [← ih,List.map_cons]
  obtain ⟨q,eq,oq,zq',dq⟩:=J8 (sto:=sto) 40 p c (by omega) hp
  obtain ⟨r,er,or',zr',dr,fr⟩:=G4 (sto:=sto) 40 p c (by omega) hp
  have t1:=a4f (g.let (sto:=sto) oq (by omega) (by omega))
  have t2:=Gf (d:=false) (g.let (sto:=sto) or' (by omega) (by omega))
  rw [fr] at t2
  refine Dd (s1:=qZ cs bs fs (bounds bs++Am fs) (vm fs) V (paT p) w (some (.int c,false),x.2) sto) rfl ?_
  unfold ntB
  generalize mz=F1 at *
  generalize jh 40=F2 at *
  generalize jk 40=F3 at *
  exact zq (ze (a0z (k:=true) (zt (zf0 (zc rfl (zc rfl (zc (zf0 (zc rfl (zc rfl rfl)) eq) (zc rfl rfl)))) t1))) rfl) (ze (a0z (k:=true) (zt (zf0 (zc rfl (zc rfl (zc (zf0 (zc rfl (zc rfl rfl)) er) (zc rfl rfl)))) t2))) rfl)
def three (c:Int):List P:=[.sum [],.sum [[c%9,1],[c / 9%9,1+c / 81%3]],.no (c%3)]
theorem a9m (c:Int):(three c).map paT=[.tup [.str "sum",.tup []],.tup [.str "sum",.tup [.tup [.int (c%9),.int 1],.tup [.int (c / 9%9),.int (1+c / 81%3)]]],.tup [.str "or",.int (c%3),.tup [],.tup []]]:=by
 unfold three
 simp only [List.map_cons,List.map_nil,paT]
 rfl
theorem a5f {ns:List Str} (c:Int):∀ p∈three c,okP ns p∧sz p=1∧dep p≤1:=by
 intro p hp
 unfold three at hp
 simp only [List.mem_cons,List.not_mem_nil,or_false] at hp
 rcases hp with rfl | rfl | rfl
 ·exact ⟨by rw [okP]; exact bb1 (by decide),by rw [sz],by rw [dep]; omega⟩
 ·refine ⟨?_,by rw [sz],by rw [dep]; omega⟩
  rw [okP]
  refine ⟨by simp,fun r hr=>?_⟩
  simp only [List.mem_cons,List.not_mem_nil,or_false] at hr
  rcases hr with rfl | rfl
  ·refine ⟨by simp,fun n hn=>?_⟩
   simp only [List.mem_cons,List.not_mem_nil,or_false] at hn
   rcases hn with rfl | rfl
   ·exact bb (by omega)
   ·exact bb (by omega)
  ·refine ⟨by simp,fun n hn=>?_⟩
   simp only [List.mem_cons,List.not_mem_nil,or_false] at hn
   rcases hn with rfl | rfl
   ·exact bb (by omega)
   ·exact bb (by omega)
 ·exact ⟨by rw [okP]; trivial,by rw [sz],by rw [dep]; omega⟩
theorem G.no {p:P} {bk:List Pr} (g:G bs fs) (hb:InB bs bk) (ht:Aa (gt bk) fs=true) (hp:okP (nsB bs) p):jd (bounds bs++Am fs) (vm fs) p=false :=
 W3 (B:=gt bk) g.r.ns (sz p) p _ _ (Nat.le_refl _) g.ok hp (afg g.r.ns (hb.rng g.r.ns.n) ht)
theorem Ye {V Pp:T} {w:W4s} {bk:List Pr} (g:G bs fs) (hb:InB bs bk) (ht:Aa (gt bk) fs=true):∀ (l:List Int) (x:W4s),∃ x':W4s,forL (hName 11) ae6 (l.map T.int) (qZ cs bs fs (bounds bs++Am fs) (vm fs) V Pp w x sto)=some (.next,qZ cs bs fs (bounds bs++Am fs) (vm fs) V Pp w x' sto)
 | [],x=>⟨x,rfl⟩
 | c::l,x=>by
  obtain ⟨st,hst,it⟩:=Ka paT (three c) (i:=c / 3%3) (by omega) (by show _<3; omega)
  rw [a9m] at it
  obtain ⟨p,ep,op,zp,dp,_⟩:=g.paper (sto:=sto) (a5f c st hst)
  obtain ⟨q,eq,oq,zq',dq⟩:=J8 (sto:=sto) 40 p (c / 9) (by omega) op
  have t1:=Gf (d:=false) (g.let (sto:=sto) op (by omega) (by omega))
  have t2:=Gf (d:=false) (g.let (sto:=sto) oq (by omega) (by omega))
  rw [g.no hb ht op] at t1
  rw [g.no hb ht oq] at t2
  obtain ⟨x',ih⟩:=Ye (V:=V) (Pp:=Pp) (w:=w) g hb ht l (some (.int c,false),some (.tup [.str "sum",.tup [.tup [.int (c%9),.int 1],.tup [.int (c / 9%9),.int (1+c / 81%3)]]],false),some (paT st,false),some (paT p,false))
  refine ⟨x',?_⟩
  rw [← ih,List.map_cons]
  refine Dd (s1:=qZ cs bs fs (bounds bs++Am fs) (vm fs) V Pp w (some (.int c,false),x.2) sto) rfl ?_
  unfold ae6
  generalize mz=F1 at *
  generalize jh 40=F2 at *
  generalize kh 40=F3 at *
  exact zq (zs (zm (zc rfl (zc (zm (zc (zm (zc (zo rfl rfl rfl) (zc rfl rfl)) rfl) (zc (zm (zc (zo (zo rfl rfl rfl) rfl rfl) (zc (zo rfl (zo (zo rfl rfl rfl) rfl rfl) rfl) rfl)) rfl) rfl)) rfl) rfl)) rfl)) (zq (zs (zo (zm (zc (zm (zc rfl (zc (zm rfl rfl) rfl)) rfl) (zc rfl (zc (zm (zc rfl (zc (zo rfl rfl rfl) (zc (zm rfl rfl) (zc (zm rfl rfl) rfl)))) rfl) rfl))) rfl) (zo (zo rfl rfl rfl) rfl rfl) it)) (zq (zs (zf0 (zc rfl (zc rfl (zc rfl (zc rfl rfl)))) ep)) (zq (ze (a0z (k:=true) (zt (zf0 (zc rfl (zc rfl (zc rfl (zc rfl rfl)))) t1))) rfl) (ze (a0z (k:=true) (zt (zf0 (zc rfl (zc rfl (zc (zf0 (zc rfl (zc (zo rfl rfl rfl) rfl)) eq) (zc rfl rfl)))) t2))) rfl))))
end
theorem Vr:∀ (a b:List Fo),vm (a++b)=vm a++vm b
 | [],b=>by rw [vm]; rfl
 | f::a,b=>by rw [List.cons_append,vm,vm,Vr a b,List.append_assoc]
theorem Yd:∀ (a b:List Fo),fzs (a++b)=fzs a+fzs b
 | [],b=>by rw [fzs]; simp
 | f::a,b=>by rw [List.cons_append,fzs,fzs,Yd a b]; omega
section
variable {cs:List Int} {bs:List Bd} {fs:List Fo}
abbrev qS (cs:List Int) (bs:List Bd) (fs:List Fo) (w:W4s):Sta :=
 ⟨[some (scr cs,false),some (.lst (bs.map bdT),false),some (.lst (fs.map foT),false),w.1,some (.lst ((bounds bs++Am fs).map atT),false),w.2.1,w.2.2.1,w.2.2.2,some (orT (vm fs),false),none,none,none,none,none,none],[]⟩
theorem abx {o3 p5 p6 p7:Slot} (g:G bs fs):laA (qA cs bs fs o3 (bounds bs) p5 p6 p7 [])=some (.next,qS cs bs fs (o3,p5,p6,p7)):=by
 have l5:=g.l
 have z:=Qm g.f.z
 have a3:=Bp bs
 have l3:=g.r.l
 have ly:=Td (ns:=nsB bs) (sto:=[]) 40 (.all fs) (bounds bs) [] (by rw [dl]; omega) ⟨by omega,g.f.o⟩ (by rw [fz]; omega) (by rw [fz]; simp; omega)
 rw [N7] at ly
 rw [foA,foO,List.nil_append] at ly
 unfold laA
 generalize m9 40=F at *
 refine zgo (zf0 (zc (zm (zc rfl (zc (zm (zc rfl rfl) rfl) rfl)) rfl) (zc rfl (zc rfl rfl))) ly) ?_
 unfold LT
 rw [Q5]
 rfl
theorem a5l {w:W4s} (g:G bs fs):∃ L:List (List Pr),pq 1 [2] (hName 0) (yd (iy Ah (ao (bx 1) dw))) trC (bx 0) (qS cs bs fs w)=some (.lst ((L.filter fun bk=>Aa (gt bk) fs).map dkT),qS cs bs fs w)∧(∀ bk,bk∈L↔InB bs bk)∧L.length≤27:=by
 obtain ⟨L,eL,hL,lL⟩:=a0v (sto:=[]) g.r
 refine ⟨L,?_,hL,lL⟩
 have ll:L.length<lim:=by show _<1000000; omega
 have l5:=g.l
 generalize hF:pq 1 _ _ _ _ _ _=r
 refine Gb hF dkT dkT (fun bk=>Aa (gt bk) fs) L (qS cs bs fs w) (qS cs bs fs w).env [some (.lst (fs.map foT),false)] (zis (zf0 (zc rfl rfl) eL) ll) rfl rfl rfl (Nat.le_of_lt ll) ?_
 intro bk hbk pre hp
 have tc:=a9k (sto:=[]) (bk:=bk) g.r.ns (fun b hb=>by rw [InB.ks ((hL bk).mp hbk)]; exact hb) g.f (by omega)
 match pre,hp with
 | [a],_=>exact ⟨[some (dkT bk,false)],rfl,rfl,tc,fun _=>rfl⟩
theorem a99 {V Pp:T} {w x:W4s} (g:G bs fs):iy mz (ao (bx 1) (ao (Ez 2 (gk (fun l=>some (.lst l)) (ao (gk (fun l=>some (.tup l)) (ao (au (.str "or")) (ao (gk (fun l=>some (.tup l)) dw) dw))) dw))) (ao (gk (fun l=>some (.tup l)) (ao (au (.str "or")) (ao (gk Bw (ao (bx 8) dw)) (ao (gk (fun l=>some (.tup l)) dw) dw)))) (ao (au (.bl true)) dw)))) (qZ cs bs fs (bounds bs++Am fs) (vm fs) V Pp w x [])=some (.bl true,qZ cs bs fs (bounds bs++Am fs) (vm fs) V Pp w x []):=by
 have l5:=g.l
 have l3:=g.r.l
 have z:=Qm g.f.z
 have eF:(.lst ((fs++[Fo.any []]).map foT):T)=.lst (fs.map foT++[.tup [.str "or",.tup []]]):=by rw [List.map_append,List.map_cons,List.map_nil,Fj]; rfl
 have lt:=a6v (sto:=[]) (bs:=bs) (fs:=fs++[Fo.any []]) (p:=.orp (vm fs).length []) g.r.ns (by omega) (g.f.o.add (f:=.any []) ⟨by simp,trivial⟩) (fun f hf=>by
  rcases List.mem_append.mp hf with z | z
  ·exact g.f.z f z
  ·rw [List.mem_singleton] at z; subst z; rw [fz,fzs]; omega) (by rw [Yd,fzs,fzs,fz,fzs]; omega) (by rw [okP]; exact ⟨by simp,trivial⟩) (by rw [sz,szs]; omega) (by rw [dep,deps]; omega)
 have jt:jd (bounds bs++Am (fs++[.any []])) (vm (fs++[.any []])) (.orp (vm fs).length [])=true:=by
  rw [Vr,vm,vm,foO,jd,List.append_nil,List.getElem?_append_right (Nat.le_refl _),Nat.sub_self]
  dsimp only [List.getElem?_cons_zero]
  rw [if_pos (show ([]:List P).length=([]:List Fo).length from rfl),jds]
 rw [jt,eF] at lt
 have pe:paT (.orp (vm fs).length [])=.tup [.str "or",.int ((vm fs).length:Int),.tup []]:=by rw [paT,a7z]
 rw [pe] at lt
 have td:=Gf (d:=true) lt
 have lo:Bw [orT (vm fs)]=some (.int ((vm fs).length:Int)):=by rw [a2s]; unfold oF; rw [List.length_map]
 have own:Ez 2 (gk (fun l=>some (.lst l)) (ao (gk (fun l=>some (.tup l)) (ao (au (.str "or")) (ao (gk (fun l=>some (.tup l)) dw) dw))) dw)) (qZ cs bs fs (bounds bs++Am fs) (vm fs) V Pp w x [])=some (.lst (fs.map foT++[.tup [.str "or",.tup []]]),qZ cs bs fs (bounds bs++Am fs) (vm fs) V Pp w x []):=by
  unfold Ez
  rw [if_pos (show Ei 2 (qZ cs bs fs (bounds bs++Am fs) (vm fs) V Pp w x [])=true from rfl)]
  have:gk (fun l=>some (.lst l)) (ao (gk (fun l=>some (.tup l)) (ao (au (.str "or")) (ao (gk (fun l=>some (.tup l)) dw) dw))) dw) (qZ cs bs fs (bounds bs++Am fs) (vm fs) V Pp w x [])=some (.lst [.tup [.str "or",.tup []]],qZ cs bs fs (bounds bs++Am fs) (vm fs) V Pp w x []):=rfl
  rw [this]
  show (if (fs.map foT).length+1<lim then _ else _)=_
  rw [if_pos (by rw [List.length_map]; show _<1000000; omega)]
 generalize mz=F1 at *
 exact zf0 (zc rfl (zc own (zc (zm (zc rfl (zc (zm (zc rfl rfl) lo) (zc (zm rfl rfl) rfl))) rfl) (zc rfl rfl)))) td
end
theorem a5b {cs:List Int} (hc:cs.length≤63):∃ st,Ul [scr cs] []=some (.bl true,st):=by
 obtain ⟨bs,eb,hR,hb1⟩:=a2y (cs:=cs) (sto:=[])
 have e0:=W2 (cs:=cs) (k:=0) (i:=0) (sto:=[]) rfl
 have l3:=hR.l
 obtain ⟨fs,o3,L1,lf,hF⟩:=a1b (cs:=cs) (sto:=[]) hR (1+cell cs 0 / 3%5).toNat 0 [] none (by omega) rfl ⟨trivial,fun f hf=>(by cases hf),fun f hf=>(by cases hf)⟩
 have g:G bs fs:=⟨hR,hF,by omega⟩
 rw [← List.range_eq_range'] at L1
 have rg:yh (mOp vo (au (.int 1)) (mOp Al (mOp vh (iy jx (ao (bx 0) (ao (au (.int 0)) dw))) (au (.int 3))) (au (.int 5)))) (qX cs bs [] none [])=some ((List.range (1+cell cs 0 / 3%5).toNat).map (fun (k:Nat)=>T.int (k:Int)),qX cs bs [] none []) :=
  zrg (m:=(1+cell cs 0 / 3%5).toNat) (by rw [Int.toNat_of_nonneg (by omega)]; exact zo rfl (zo (zo (zf0 rfl e0) rfl rfl) rfl rfl) rfl) (by show _<1000000; omega)
 obtain ⟨p5,p6,p7,L2⟩:=Zo (cs:=cs) (bs:=bs) (fs:=fs) (sto:=[]) (o3:=o3) bs [] none none none (by simp; omega)
 rw [List.nil_append] at L2
 have lb:bs.length<lim:=by show _<1000000; omega
 have ly:=abx (cs:=cs) (o3:=o3) (p5:=p5) (p6:=p6) (p7:=p7) g
 obtain ⟨L,eL,hL,lL⟩:=a5l (cs:=cs) (w:=(o3,p5,p6,p7)) g
 obtain ⟨p,ep,op,zp,dp,jp⟩:=g.paper (sto:=[]) (st:=.orp 0 []) ⟨by rw [okP]; exact ⟨by simp,trivial⟩,by rw [sz,szs],by rw [dep,deps]; omega⟩
 have pst:paT (.orp 0 [])=.tup [.str "or",.int 0,.tup []]:=by rw [paT,a7z]; rfl
 rw [pst] at ep
 obtain ⟨c1,ec1,lc1⟩:=Zr (cs:=cs) (lo:=9) (hi:=20)
 obtain ⟨c2,ec2,lc2⟩:=Zr (cs:=cs) (lo:=9) (hi:=30)
 have lc1:c1.length<lim:=by show _<1000000; omega
 have lc2:c2.length<lim:=by show _<1000000; omega
 have tp0:∀ d:Bool,_:=fun d=>Gf (d:=d) (g.let (sto:=[]) op (by omega) (by omega))
 by_cases hn:(L.filter fun bk=>Aa (gt bk) fs)=[]
 ·have jt:=jp fun bk hbk s=>by
   have hm:=(hL bk).mpr hbk
   have hf:=List.filter_eq_nil_iff.mp hn bk hm
   refine hf ?_
   show Aa (gt bk) fs=true
   rw [W7,Bool.and_eq_true,List.all_eq_true,List.all_eq_true]
   exact ⟨fun a ha=>s.a a (List.mem_append_right _ ha),s.o⟩
  have tp:=tp0 true
  rw [jt] at tp
  obtain ⟨x',L3⟩:=Yo (cs:=cs) (sto:=[]) (V:=.lst []) (w:=(o3,p5,p6,p7)) g op zp dp c1 (none,none,none,none)
  have ma:=a99 (cs:=cs) (V:=.lst []) (Pp:=paT p) (w:=(o3,p5,p6,p7)) (x:=(none,none,none,none)) g
  rw [hn] at eL
  refine ⟨[],?_⟩
  unfold Ul
  have sl:yd (qu (bx 0) (wg (au (.int 9))) (wg (au (.int 20)))) (qZ cs bs fs (bounds bs++Am fs) (vm fs) (.lst []) (paT p) (o3,p5,p6,p7) (none,none,none,none) [])=some (c1.map T.int,qZ cs bs fs (bounds bs++Am fs) (vm fs) (.lst []) (paT p) (o3,p5,p6,p7) (none,none,none,none) []) :=
   zis (by
    show some (T.lst (Xz (cs.map T.int) (some 9) (some 20)),_)=_
    rw [ec1]) lc1
  exact zrun (n:=15) (zq (zs (zf0 (zc rfl rfl) eb)) (zq (zn rfl) (zq (Io rg L1) (zq (s1:=qA cs bs fs o3 [] none none none []) rfl (zq (Io (zis rfl lb) L2) (zq ly (zq (zs eL) (zq (zs (zf0 (zc rfl (zc rfl (zc rfl (zc (zm (zc rfl (zc rfl (zc (zm rfl rfl) rfl))) rfl) rfl)))) ep)) (zqr (zk (zt (zo (zm (zc rfl rfl) rfl) rfl (eq_i (by decide)))) (zq (ze (a0z (k:=true) (zt (zf0 (zc rfl (zc rfl (zc rfl (zc rfl rfl)))) tp))) rfl) (zq (ze (a0z (k:=true) (zt ma)) rfl) (zq (Io sl L3) (zr rfl)))))))))))))) rfl
 ·obtain ⟨bk,hbk⟩:=List.exists_mem_of_ne_nil _ hn
  obtain ⟨hm,ht⟩:=List.mem_filter.mp hbk
  have inb:=(hL bk).mp hm
  have ht:Aa (gt bk) fs=true:=ht
  have tp:=tp0 false
  rw [g.no inb ht op] at tp
  obtain ⟨x',L3⟩:=Ye (cs:=cs) (sto:=[]) (V:=.lst ((L.filter fun bk=>Aa (gt bk) fs).map dkT)) (Pp:=paT p) (w:=(o3,p5,p6,p7)) g inb ht c2 (none,none,none,none)
  have ln:eqO (.int ((L.filter fun bk=>Aa (gt bk) fs).length:Int)) (.int 0)=some (.bl false):=eq_i (beq_eq_false_iff_ne.mpr (by
   have:=List.length_pos_iff.mpr hn
   omega))
  have lm:Bw [.lst ((L.filter fun bk=>Aa (gt bk) fs).map dkT)]=some (.int ((L.filter fun bk=>Aa (gt bk) fs).length:Int)):=a2s
  refine ⟨[],?_⟩
  unfold Ul
  have sl:yd (qu (bx 0) (wg (au (.int 9))) (wg (au (.int 30)))) (qZ cs bs fs (bounds bs++Am fs) (vm fs) (.lst ((L.filter fun bk=>Aa (gt bk) fs).map dkT)) (paT p) (o3,p5,p6,p7) (none,none,none,none) [])=some (c2.map T.int,qZ cs bs fs (bounds bs++Am fs) (vm fs) (.lst ((L.filter fun bk=>Aa (gt bk) fs).map dkT)) (paT p) (o3,p5,p6,p7) (none,none,none,none) []) :=
   zis (by
    show some (T.lst (Xz (cs.map T.int) (some 9) (some 30)),_)=_
    rw [ec2]) lc2
  exact zrun (n:=15) (zq (zs (zf0 (zc rfl rfl) eb)) (zq (zn rfl) (zq (Io rg L1) (zq (s1:=qA cs bs fs o3 [] none none none []) rfl (zq (Io (zis rfl lb) L2) (zq ly (zq (zs eL) (zq (zs (zf0 (zc rfl (zc rfl (zc rfl (zc (zm (zc rfl (zc rfl (zc (zm rfl rfl) rfl))) rfl) rfl)))) ep)) (zq (ze (zt (zo (zm (zc rfl rfl) lm) rfl ln)) rfl) (zq (Io sl L3) (zr (zf0 (zc rfl (zc rfl (zc rfl (zc rfl rfl)))) tp)))))))))))) rfl
end K
end
section
namespace D
open PySem L2 C
structure FA (K:PySem.W.Frag) (x:Str) (st:Stmt) (f:Addr) (fd:FuncData):Prop where
 a:PySem.W.nsIn K mainGlobals x=some (some (.ref f))
 F:Fun K x x st f fd
theorem af4 {K:PySem.W.Frag} {x:Str} {st:Stmt} {f:Addr} {oc:Value} {od an:Option Addr} {osl:Array (Option Value)} {kV doc pm cdv ct:Value} (a:PySem.W.nsIn K mainGlobals x=some (some (.ref f)))
  (l:K.lookup f=some ⟨oc,od,.func (PySem.W.fnOf x x (Dl st) (Bm st) (gq st) .none kV doc pm an cdv ct),osl⟩) (c:PySem.W.codeIn K cdv x=true) (k:PySem.W.keepIn K (.ref f)=true):FA K x st f (PySem.W.fnOf x x (Dl st) (Bm st) (gq st) .none kV doc pm an cdv ct):=⟨a,a71 l c k⟩
theorem FA.m {K:PySem.W.Frag} {x:Str} {st:Stmt} {f:Addr} {fd:FuncData} {hp:Heap} {mg:Str→Option Value} (h:FA K x st f fd) (X:K.In hp) (G:hp.Ns mainGlobals mg):mg x=some (.ref f):=PySem.W.mg_of X G h.a
theorem all_mk {l:PySem.W.OpenLaw} {w:World} {K:PySem.W.Frag} {h:Heap} {mg:Str→Option Value} {fa f1 f2 f3 f4 f5 f6 f7 f8 f9 f10 f11 f12 f13 f14 f15 f16 f17 f18 f19 f20 f21 f22 f23 f24 f25 f26 f27 f28 f29 f30 f31 f32 f33 f34 f35 f36 f37:Addr} {fd1 fd2 fd3 fd4 fd5 fd6 fd7 fd8 fd9 fd10 fd11 fd12 fd13 fd14 fd15 fd16 fd17 fd18 fd19 fd20 fd21 fd22 fd23 fd24 fd25 fd26 fd27 fd28 fd29 fd30 fd31 fd32 fd33 fd34 fd35 fd36:FuncData} (X:K.In h) (G:h.Ns mainGlobals mg) (hfa:mg "law" = some (.ref fa))
  {od37 an37:Option Addr} {sl37:Array (Option Value)} {oc37 kV37 dc37 pm37 cd37 ct37:Value}
  (h1:FA K "sum_of" Od f1 fd1)
  (h2:FA K "plus" Z7 f2 fd2)
  (h3:FA K "laid_in" Jm f3 fd3)
  (h4:FA K "plain_tuple" Cu f4 fd4)
  (h5:FA K "is_kind" Kh f5 fd5)
  (h6:FA K "is_whole" Hs f6 fd6)
  (h7:FA K "is_place" Hg f7 fd7)
  (h8:FA K "papers_of_or" Bl f8 fd8)
  (h9:FA K "at_most" Ks f9 fd9)
  (h10:FA K "at_least" Hr f10 fd10)
  (h11:FA K "papers_of_cut" Ax f11 fd11)
  (h12:FA K "added_up" Hq f12 fd12)
  (h13:FA K "is_atom" Jg f13 fd13)
  (h14:FA K "is_sum_row" Dm f14 fd14)
  (h15:FA K "is_sum" Mz f15 fd15)
  (h16:FA K "is_zero_pair" Bk f16 fd16)
  (h17:FA K "is_rest_row" Cd f17 fd17)
  (h18:FA K "is_rest" Kd f18 fd18)
  (h19:FA K "plain_row" Fe f19 fd19)
  (h20:FA K "plain_rows" Dk f20 fd20)
  (h21:FA K "papers_within" Ay f21 fd21)
  (h22:FA K "first_lists" Cj f22 fd22)
  (h23:FA K "let_by" Oc f23 fd23)
  (h24:FA K "_law_cell_at" Ca f24 fd24)
  (h25:FA K "_law_rows" Hx f25 fd25)
  (h26:FA K "_law_atom" Hu f26 fd26)
  (h27:FA K "_law_form" Ec f27 fd27)
  (h28:FA K "_law_true" Ef f28 fd28)
  (h29:FA K "_law_lay" Gj f29 fd29)
  (h30:FA K "_law_held" Hy f30 fd30)
  (h31:FA K "_law_closed" Bg f31 fd31)
  (h32:FA K "_law_paper" Cr f32 fd32)
  (h33:FA K "_law_bent" Ea f33 fd33)
  (h34:FA K "_law_holed" Ce f34 fd34)
  (h35:FA K "_law_books" Fw f35 fd35)
  (h36:FA K "_law_told" Hl f36 fd36)
  (a37:PySem.W.nsIn K mainGlobals "law" = some (some (.ref f37))) (l37:K.lookup f37=some ⟨oc37,od37,.func (PySem.W.fnOf "law" "law" (Dl Mx) (Bm Mx) (gq Mx) .none kV37 dc37 pm37 an37 cd37 ct37),sl37⟩) (c37:PySem.W.codeIn K cd37 "law" = true) (k37:PySem.W.keepIn K (.ref f37)=true)
  (z_abs:PySem.W.nsIn K mainGlobals "abs" = some none)
  (z_all:PySem.W.nsIn K mainGlobals "all" = some none)
  (z_any:PySem.W.nsIn K mainGlobals "any" = some none)
  (z_bool:PySem.W.nsIn K mainGlobals "bool" = some none)
  (z_dict:PySem.W.nsIn K mainGlobals "dict" = some none)
  (z_int:PySem.W.nsIn K mainGlobals "int" = some none)
  (z_isinstance:PySem.W.nsIn K mainGlobals "isinstance" = some none)
  (z_len:PySem.W.nsIn K mainGlobals "len" = some none)
  (z_list:PySem.W.nsIn K mainGlobals "list" = some none)
  (z_range:PySem.W.nsIn K mainGlobals "range" = some none)
  (z_sorted:PySem.W.nsIn K mainGlobals "sorted" = some none)
  (z_str:PySem.W.nsIn K mainGlobals "str" = some none)
  (z_sum:PySem.W.nsIn K mainGlobals "sum" = some none)
  (z_tuple:PySem.W.nsIn K mainGlobals "tuple" = some none)
  (z_zip:PySem.W.nsIn K mainGlobals "zip" = some none)
  {tk_MOST_DEEP:Tok} (zc_MOST_DEEP:PySem.W.nsIn K mainGlobals "MOST_DEEP" = some (some (.int 90 tk_MOST_DEEP)))
  : ∃ fd:FuncData,(∀ (s:Shared) (v:Value),BindsTo s fd ⟨[v],[]⟩ [("_law_script",v)])∧∀ base:Heap,K.In base→base.Ns mainGlobals mg→Nj l.prog w K mg base CX0 121 fa fd ["_law_script"] (spF K 1 _root_.K.Ul):=by
 have e:=hfa.symm.trans (PySem.W.mg_of X G a37)
 cases e
 have F37:=a71 (st:=Mx) l37 c37 k37
 have b_abs:=PySem.W.mg_none_of X G z_abs
 have b_all:=PySem.W.mg_none_of X G z_all
 have b_any:=PySem.W.mg_none_of X G z_any
 have b_bool:=PySem.W.mg_none_of X G z_bool
 have b_dict:=PySem.W.mg_none_of X G z_dict
 have b_int:=PySem.W.mg_none_of X G z_int
 have b_isinstance:=PySem.W.mg_none_of X G z_isinstance
 have b_len:=PySem.W.mg_none_of X G z_len
 have b_list:=PySem.W.mg_none_of X G z_list
 have b_range:=PySem.W.mg_none_of X G z_range
 have b_sorted:=PySem.W.mg_none_of X G z_sorted
 have b_str:=PySem.W.mg_none_of X G z_str
 have b_sum:=PySem.W.mg_none_of X G z_sum
 have b_tuple:=PySem.W.mg_none_of X G z_tuple
 have b_zip:=PySem.W.mg_none_of X G z_zip
 have c_MOST_DEEP:∃ tk,mg "MOST_DEEP" = some (.int 90 tk):=⟨_,PySem.W.mg_of X G zc_MOST_DEEP⟩
 refine ⟨PySem.W.fnOf "law" "law" (Dl Mx) (Bm Mx) (gq Mx) .none kV37 dc37 pm37 an37 cd37 ct37,fun s v=>.of_eq rfl,fun base _ _=>?_⟩
 have d_sum_of:=Zx (P:=l.prog) (w:=w) (base:=base) h1.F (h1.m X G) b_sorted b_tuple
 have d_plus:=a7c (P:=l.prog) (w:=w) (base:=base) h2.F (h2.m X G) d_sum_of
 have d_laid_in:=X7 (P:=l.prog) (w:=w) (base:=base) h3.F (h3.m X G) b_len b_list
 have d_plain_tuple:=Lp (P:=l.prog) (w:=w) (base:=base) h4.F (h4.m X G) b_isinstance b_tuple
 have d_is_kind:=Wv (P:=l.prog) (w:=w) (base:=base) h5.F (h5.m X G) b_isinstance b_len b_str
 have d_is_whole:=Ur (P:=l.prog) (w:=w) (base:=base) h6.F (h6.m X G) b_bool b_int b_isinstance
 have d_is_place:=Um (P:=l.prog) (w:=w) (base:=base) h7.F (h7.m X G) b_len
 have d_papers_of_or:=Jo (P:=l.prog) (w:=w) (base:=base) h8.F (h8.m X G) d_is_place d_laid_in d_plain_tuple b_isinstance b_len b_tuple b_zip
 have d_at_most:=X6 (P:=l.prog) (w:=w) (base:=base) h9.F (h9.m X G)
 have d_at_least:=Rx (P:=l.prog) (w:=w) (base:=base) h10.F (h10.m X G)
 have d_papers_of_cut:=Iw (P:=l.prog) (w:=w) (base:=base) h11.F (h11.m X G) d_at_least d_at_most d_laid_in b_isinstance b_len b_str
 have d_added_up:=Uw (P:=l.prog) (w:=w) (base:=base) h12.F (h12.m X G) d_sum_of
 have d_is_atom:=Xv (P:=l.prog) (w:=w) (base:=base) h13.F (h13.m X G) d_is_place
 have d_is_sum_row:=Nb (P:=l.prog) (w:=w) (base:=base) h14.F (h14.m X G) d_is_atom b_len
 have d_is_sum:=Yx (P:=l.prog) (w:=w) (base:=base) h15.F (h15.m X G) d_added_up d_is_sum_row b_all
 have d_is_zero_pair:=Jh (P:=l.prog) (w:=w) (base:=base) h16.F (h16.m X G) d_is_atom d_plus
 have d_is_rest_row:=Ls (P:=l.prog) (w:=w) (base:=base) h17.F (h17.m X G) d_is_atom d_is_zero_pair b_len
 have d_is_rest:=Wu (P:=l.prog) (w:=w) (base:=base) h18.F (h18.m X G) d_added_up d_is_rest_row b_all
 have d_plain_row:=Ou (P:=l.prog) (w:=w) (base:=base) h19.F (h19.m X G) d_is_whole d_plain_tuple b_all b_int b_tuple
 have d_plain_rows:=O8 (P:=l.prog) (w:=w) (base:=base) h20.F (h20.m X G) d_plain_row d_plain_tuple
 have d_papers_within:=J3 (P:=l.prog) (w:=w) (base:=base) h21.F (h21.m X G) d_is_kind d_is_rest d_is_sum d_is_whole d_papers_of_cut d_papers_of_or d_plain_rows d_plain_tuple b_int
 have d_first_lists:=Lr (P:=l.prog) (w:=w) (base:=base) h22.F (h22.m X G) d_at_least d_at_most
 have d_let_by:=Zk (P:=l.prog) (w:=w) (base:=base) h23.F (h23.m X G) d_first_lists d_laid_in d_papers_within b_len c_MOST_DEEP
 have d_law_cell_at:=Lw (P:=l.prog) (w:=w) (base:=base) h24.F (h24.m X G) b_len
 have d_law_rows:=Ti (P:=l.prog) (w:=w) (base:=base) h25.F (h25.m X G) d_law_cell_at b_range
 have d_law_atom:=Ub (P:=l.prog) (w:=w) (base:=base) h26.F (h26.m X G) b_len b_range b_sorted b_tuple
 have g_law_form:=Iu (P:=l.prog) (w:=w) (base:=base) h27.F (h27.m X G) d_law_atom 40
 have d_law_form:=g_law_form
 have g_law_true:=Ih (P:=l.prog) (w:=w) (base:=base) h28.F (h28.m X G) b_all b_any b_int b_list b_sum 40
 have d_law_true:=g_law_true
 have g_law_lay:=Jb (P:=l.prog) (w:=w) (base:=base) h29.F (h29.m X G) 40
 have d_law_lay:=g_law_lay
 have d_law_held:=Te (P:=l.prog) (w:=w) (base:=base) h30.F (h30.m X G)
 have g_law_closed:=En (P:=l.prog) (w:=w) (base:=base) h31.F (h31.m X G) d_law_held d_law_lay d_law_true b_abs b_int b_len b_range b_tuple 40
 have d_law_closed:=g_law_closed
 have g_law_paper:=Gi (P:=l.prog) (w:=w) (base:=base) h32.F (h32.m X G) d_law_closed b_int b_len b_range 40
 have d_law_paper:=g_law_paper
 have g_law_bent:=Ig (P:=l.prog) (w:=w) (base:=base) h33.F (h33.m X G) 40
 have d_law_bent:=g_law_bent
 have g_law_holed:=Fy (P:=l.prog) (w:=w) (base:=base) h34.F (h34.m X G) b_len 40
 have d_law_holed:=g_law_holed
 have d_law_books:=Ot (P:=l.prog) (w:=w) (base:=base) h35.F (h35.m X G) b_dict b_range
 have d_law_told:=Ux (P:=l.prog) (w:=w) (base:=base) h36.F (h36.m X G) d_let_by b_bool b_isinstance
 exact abd F37 d_law_bent d_law_books d_law_cell_at d_law_form d_law_holed d_law_lay d_law_paper d_law_rows d_law_told d_law_true b_len b_range b_tuple
theorem walk {l:PySem.W.OpenLaw} {q:Program} {loose:List Str} {XP:(Str→Option Value)→Heap→Prop} {YP:World→Heap→Prop} {d:DefRec} {K:Params→PySem.W.Frag} (hn:l.most=some 63) (hdf:d.params.defaults=[])
  (hY:∀ (w:World) (h:Heap),YP w h→(K w.params).In h)
  (F:∀ (w:World) (mg:Str→Option Value) (fa:Addr) (h:Heap),(K w.params).In h→h.Ns mainGlobals mg→mg d.name=some (.ref fa) →
   ∃ fd:FuncData,(∀ (s:Shared) (u:Value),BindsTo s fd ⟨[u],[]⟩ [("_law_script",u)])∧∀ base:Heap,(K w.params).In base→base.Ns mainGlobals mg→Nj l.prog w (K w.params) mg base CX0 121 fa fd ["_law_script"] (spF (K w.params) 1 _root_.K.Ul)) :
  PySem.W.WalkO q loose XP YP l.row.toRowW d [] (fun f vs=>PySem.call f vs) :=
 L2.a9q (n:=63) (k:=121) (x := "_law_script") (CX:=fun _=>CX0) (sp:=fun w=>spF (K w.params) 1 _root_.K.Ul) hn (by decide) hdf ⟨rfl,by decide,by decide⟩ hY F (fun w H a ns hl _ hS=>a9p hS (_root_.K.a5b (cs:=ns) hl)) fun _ _ _ _ _ z=>z
end D
theorem PySem.W.Fast.tw13851521885974585857:True:=⟨⟩
theorem PySem.W.Fast.tw10114759388894978243:True:=⟨⟩
theorem PySem.W.Fast.tw11339123998670169803:True:=⟨⟩
theorem PySem.W.Fast.tw16937658938215566413:True:=⟨⟩
theorem PySem.W.Fast.tw15695020152609945940:True:=⟨⟩
theorem PySem.W.Fast.tw15096966583838631284:True:=⟨⟩
theorem PySem.W.Fast.tw10764432612846543412:True:=⟨⟩
theorem PySem.W.Fast.tw7164557081328987416:True:=⟨⟩
theorem PySem.W.Fast.tw8265750439757401913:True:=⟨⟩
theorem PySem.W.Fast.tw3341965874160226778:True:=⟨⟩
theorem PySem.W.Fast.tw641579811128766683:True:=⟨⟩
theorem PySem.W.Fast.tw2661531888290482750:True:=⟨⟩
theorem PySem.W.Fast.tw16158485898603708820:True:=⟨⟩
theorem PySem.W.Fast.tw14033855616211208867:True:=⟨⟩
open PySem PySem.W PyProof.Rows
set_option maxRecDepth 100000 in
set_option maxHeartbeats 0 in
theorem PySem.Challenge.cw_calm_k47_papers_down_to_single_books_holds : PySem.Challenge.rw_calm_k47_papers_down_to_single_books.Holds := by
 w_on; o_law; k_head; (case hw=>w_witness2)
 k_fill
 refine D.walk (l:=PySem.Challenge.rw_calm_k47_papers_down_to_single_books) rfl rfl (fun w h Y=>PySem.W.kIn_of Y) ?F
 case F =>
  intro w mg fa h KX G hmg
  refine' D.all_mk KX G hmg ?h1 ?h2 ?h3 ?h4 ?h5 ?h6 ?h7 ?h8 ?h9 ?h10 ?h11 ?h12 ?h13 ?h14 ?h15 ?h16 ?h17 ?h18 ?h19 ?h20 ?h21 ?h22 ?h23 ?h24 ?h25 ?h26 ?h27 ?h28 ?h29 ?h30 ?h31 ?h32 ?h33 ?h34 ?h35 ?h36 ?a37 ?l37 ?c37 ?k37 ?z_abs ?z_all ?z_any ?z_bool ?z_dict ?z_int ?z_isinstance ?z_len ?z_list ?z_range ?z_sorted ?z_str ?z_sum ?z_tuple ?z_zip ?zc_MOST_DEEP
  case h1 | h2 | h3 | h4 | h5 | h6 | h7 | h8 | h9 | h10 | h11 | h12 | h13 | h14 | h15 | h16 | h17 | h18 | h19 | h20 | h21 | h22 | h23 | h24 | h25 | h26 | h27 | h28 | h29 | h30 | h31 | h32 | h33 | h34 | h35 | h36=>refine' D.af4 ?a ?l ?c ?k; (case a=>k_is); (case l=>k_is); (case c=>k_is); (case k=>k_is)
  case a37 | l37 | c37 | k37 | z_abs | z_all | z_any | z_bool | z_dict | z_int | z_isinstance | z_len | z_list | z_range | z_sorted | z_str | z_sum | z_tuple | z_zip | zc_MOST_DEEP=>k_is
#print axioms PySem.Challenge.cw_calm_k47_papers_down_to_single_books_holds
end
