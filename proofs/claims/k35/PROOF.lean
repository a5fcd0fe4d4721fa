import PyProof.Rows.All
import Wide.All
import OpenK.AllK
import Wide.FinOn
import Lean
import PyProof.EqAt
import PyProof.EqKinds
import PyProof.TupleCall
import PyProof.P3Statements
import PyProof.Lay0
import PyProof.P3Eq
import PyProof.NeData
import KE.KEqDict
import PyProof.ListRange
import KE.KDictSum
import PyProof.AttrMissHeap
import PyProof.WalksS
import KE.KDictOf
import KE.KRevSl
import PyProof.ZipIter
import PyProof.WalksMore
import PyProof.Rows.FactsT2
import PyProof.Rows.SetFrom
import PyProof.Rows.SortStr
import KE.KDictList
import PyProof.FactsAll.set
import PyProof.CollectWalk
import PyProof.DictWalks
import PyProof.DictItems
import PyProof.EnumMake
import PyProof.Rows.EnumRows
import KE.KSortTup
import PyProof.MeetsSeq
import PyProof.SeqRoads2
import KE.KRevIter
import PyProof.TupleOfGen
import PyProof.CollectIter
import PySem.Challenge.RW_calm_k35_locks_held
set_option Elab.async false
set_option linter.all false
set_option maxRecDepth 100000
set_option maxHeartbeats 8000000
section
namespace L2
open PySem PySem.Spec PyProof.Rows
abbrev Key:=Sum Int Str
def Mw:Key→Value→Bool
  | .inl k,v=>Value.isInt k v
  | .inr x,v=>Value.isStrOf x v
def a7y (w:World):Key→Int
  | .inl k=>hashInt k
  | .inr x=>hashStr w x
theorem jm:∀ {k:Key} {v:Value},Mw k v=true→(∃ i t,k=Sum.inl i∧v=Value.int i t)∨(∃ x t,k=Sum.inr x∧v=Value.str x t)
  | .inl i,v,h=>by
    obtain ⟨t,e⟩:=Value.isInt_shape (k:=i) (v:=v) h
    exact .inl ⟨i,t,rfl,e⟩
  | .inr x,v,h=>by
    obtain ⟨t,e⟩:=Value.isStrOf_shape (x:=x) (v:=v) h
    exact .inr ⟨x,t,rfl,e⟩
theorem S7 (i:Int) (t:Tok):Mw (.inl i) (.int i t)=true:=by simp [Mw,Value.isInt]
theorem Vb (x:Str) (t:Tok):Mw (.inr x) (.str x t)=true:=by simp [Mw,Value.isStrOf]
theorem a4s (a b:Int):decide ((Sum.inl a:Key)=Sum.inl b)=(a==b):=by
  by_cases e:a=b
  · subst e; simp
  · have h:¬ (Sum.inl a:Key)=Sum.inl b:=fun q=>e (Sum.inl.inj q)
    rw [decide_eq_false h]
    exact (beq_eq_false_iff_ne.mpr e).symm
theorem a4v (a b:Str):decide ((Sum.inr a:Key)=Sum.inr b)=decide (a=b):=by
  by_cases e:a=b
  · subst e; simp
  · have h:¬ (Sum.inr a:Key)=Sum.inr b:=fun q=>e (Sum.inr.inj q)
    rw [decide_eq_false h,decide_eq_false e]
theorem a2v (a:Int) (b:Str):decide ((Sum.inl a:Key)=Sum.inr b)=false:=decide_eq_false (fun q=>nomatch q)
theorem a2y (a:Str) (b:Int):decide ((Sum.inr a:Key)=Sum.inl b)=false:=decide_eq_false (fun q=>nomatch q)
def jd (prog:Program) (w:World):PySem.KeyKind prog w Key where
  is:=Mw
  hash:=a7y w
  inj:=fun v a b ha hb=>by
    rcases jm ha with ⟨i,t,rfl,rfl⟩ | ⟨x,t,rfl,rfl⟩
    · rcases jm hb with ⟨j,u,rfl,e⟩ | ⟨y,u,rfl,e⟩
      · injection e with e1 _; rw [e1]
      · exact nomatch e
    · rcases jm hb with ⟨j,u,rfl,e⟩ | ⟨y,u,rfl,e⟩
      · exact nomatch e
      · injection e with e1 _; rw [e1]
  byValue:=fun k v h=>by
    rcases jm h with ⟨i,t,rfl,rfl⟩ | ⟨x,t,rfl,rfl⟩ <;> rfl
  pyHash:=fun hv h=>by
    rcases jm hv with ⟨i,t,rfl,rfl⟩ | ⟨x,t,rfl,rfl⟩
    · exact wpAny_pyHash_int h
    · exact wpAny_pyHash_str h
  eqBool:=fun hu hv h=>by
    rcases jm hu with ⟨i,t,rfl,rfl⟩ | ⟨x,t,rfl,rfl⟩
    · rcases jm hv with ⟨j,u,rfl,rfl⟩ | ⟨y,u,rfl,rfl⟩
      · rw [a4s] at h; exact wpAny_eqBool_int h
      · rw [a2v] at h; exact SeqAt.EqAt.int_str i t y u _ _ _ _ h
    · rcases jm hv with ⟨j,u,rfl,rfl⟩ | ⟨y,u,rfl,rfl⟩
      · rw [a2y] at h; exact SeqAt.EqAt.str_int x t j u _ _ _ _ h
      · rw [a4v] at h; exact wpAny_eqBool_str h
  «strs»:=fun k x t v h=>by
    rcases jm h with ⟨i,u,rfl,e⟩ | ⟨y,u,rfl,e⟩
    · exact nomatch e
    · injection e with e1 _
      subst e1
      cases v <;> rfl
theorem Pr (prog:Program) (w:World) (k:Key) (v:Value):(jd prog w).is k v=Mw k v:=rfl
theorem Ln (prog:Program) (w:World) (i:Int) (t:Tok):(jd prog w).is (.inl i) (.int i t)=true:=S7 i t
theorem M9 (prog:Program) (w:World) (x:Str) (t:Tok):(jd prog w).is (.inr x) (.str x t)=true:=Vb x t
end L2
namespace L2
open PySem PySem.Spec PyProof.Rows
inductive V where
  | non | bl (b:Bool) | int (i:Int) | str (x:Str) | byt (b:Array UInt8) | flt (b:UInt64) | ref (a:Addr) | ty (n:String)
  deriving DecidableEq
def RelV:V→Value→Prop
  | .non,u=>u=Value.none
  | .bl b,u=>u=Value.bool b
  | .int i,u=>∃ t,u=Value.int i t
  | .str x,u=>∃ t,u=Value.str x t
  | .byt b,u=>∃ t,u=Value.bytes b t
  | .flt b,u=>∃ t,u=Value.float b t
  | .ref a,u=>u=Value.ref a
  | .ty n,u=>u=Value.type n
abbrev Vals:List V→List Value→Prop:=Paired RelV
theorem Vals.length {xs:List V} {us:List Value} (r:Vals xs us):xs.length=us.length:=Paired.length r
theorem Vals.get:∀ {xs:List V} {us:List Value} {i:Nat} {x:V},Vals xs us→xs[i]? = some x→∃ u,us[i]? = some u∧RelV x u
  | _,_,_,_,.nil,e=>by simp at e
  | _,_,0,_,.cons r _,e=>by simp at e; subst e; exact ⟨_,rfl,r⟩
  | _,_,i+1,x,.cons _ t,e=>by
    obtain ⟨u,h1,h2⟩:=Vals.get (i:=i) (x:=x) t (by simpa using e)
    exact ⟨u,by simpa using h1,h2⟩
theorem Vals.set {x:V} {u:Value} (r:RelV x u):∀ {xs:List V} {us:List Value} (i:Nat),Vals xs us→Vals (xs.set i x) (us.set i u)
  | _,_,_,.nil=>.nil
  | _,_,0,.cons _ t=>.cons r t
  | _,_,i+1,.cons q t=>.cons q (Vals.set r i t)
theorem Vals.append {xs ys:List V} {us ws:List Value} (r:Vals xs us) (s:Vals ys ws):Vals (xs++ys) (us++ws):=by
  induction r with
  | nil=>exact s
  | cons r _ ih=>exact .cons r ih
theorem Vals.take:∀ {xs:List V} {us:List Value} (n:Nat),Vals xs us→Vals (xs.take n) (us.take n)
  | _,_,0,_=>.nil
  | _,_,_+1,.nil=>.nil
  | _,_,n+1,.cons r t=>.cons r (Vals.take n t)
theorem Vals.drop:∀ {xs:List V} {us:List Value} (n:Nat),Vals xs us→Vals (xs.drop n) (us.drop n)
  | _,_,0,r=>r
  | _,_,_+1,.nil=>.nil
  | _,_,n+1,.cons _ t=>Vals.drop n t
def J9:Option V→Option Value→Prop
  | some v,some u=>RelV v u
  | none,none=>True
  | _,_=>False
def KV {κ:Type}:List (κ × V)→List (κ × Value)→Prop:=Paired fun (p:κ × V) (q:κ × Value)=>p.1=q.1∧RelV p.2 q.2
def kV:Key→V
  | .inl i=>.int i
  | .inr x=>.str x
inductive HO where
  /-- a list -/
  | lst (xs:List V)
  /-- a tuple (never changes) -/
  | tup (xs:List V)
  /-- a dict whose keys are ints and texts; one whose keys are tuples of ints and texts (the empty one is both) -/
  | dK (kvs:List (Key × V)) | dT (kvs:List (List Key × V))
  /-- a set of ints: its members,its size -/
  | set (S:Int→Bool) (n:Nat)
  /-- an instance of the class at C,its dict at dx,its attributes -/
  | ins (C dx:Addr) (fs:List (Str × V))
  /-- the dict of the instance at x -/
  | own (x:Addr)
  /-- the dict of an exception -/
  | xd (fs:List (Str × V))
  /-- a bound method,f of x -/
  | met (f x:Addr)
  /-- a range object lo,lo+1,.. below hi -/
  | rng (lo hi:Int)
  /-- a thing that is known to the object (the script; a dict while a loop walks it): read,never written while it is so -/
  | frz (o:Obj) (u:HO)
  /-- a code object's table -/
  | tbl (ps:Array Value)
  /-- any other thing,by what is true of its one object (a def of one's own: SetO a S n:=HO.ext fun h=>..) -/
  | ext (φ:Heap→Prop)
abbrev Hp:=Addr→Option HO
def upd (H:Hp) (a:Addr) (o:HO):Hp:=fun b=>if b=a then some o else H b
theorem cj {H:Hp} {a:Addr} {o:HO}:upd H a o a=some o:=by unfold upd; rw [if_pos rfl]
theorem d7 {H:Hp} {a b:Addr} {o:HO} (h:b≠a):upd H a o b=H b:=by unfold upd; rw [if_neg h]
theorem a5h {H:Hp} {a b:Addr} {o u:HO} (h:H a=some o) (h':H b=some u) (d:o≠u):a≠b:=by
  intro e; subst e; rw [h] at h'; exact d (Option.some.inj h')
theorem iu {H:Hp} {a b:Addr} {o:HO} (h:H a=some o) (h':H b=none):a≠b:=by
  intro e; subst e; rw [h] at h'; cases h'
def Yo (h:Heap) (a:Addr) (items:Array Value):Prop:=∃ o,h.get? a=some o∧o.cls=.type "tuple" ∧ o.dict=none∧∃ n,o.data=.seq items n
theorem Yo.is {h:Heap} {a:Addr} {items:Array Value} (x:Yo h a items):IsTup h a items:=let ⟨o,e,c,_,d⟩:=x; ⟨o,e,c,d⟩
theorem Yo.new (h:Heap) (items:Array Value):Yo (h.push { cls:=.type "tuple",data:=.seq items }) h.objs.size items:=⟨_,Heap.get?_push_size _ rfl,rfl,rfl,0,rfl⟩
section
variable (P:Program) (w:World)
def qe (H:Hp) (h:Heap) (a:Addr):HO→Prop
  | .lst xs=>xs.length≤sizeLine∧∃ (its:List Value) (n:Nat),Vals xs its∧h.get? a=some { cls:=.type "list",data:=.seq its.toArray n }
  | .tup xs=>xs.length≤sizeLine∧∃ its:List Value,Vals xs its∧Yo h a its.toArray
  | .dK kvs=>kvs.length≤sizeLine∧(a==sysModules)=false∧∃ vs,KV kvs vs∧h.DictOf (jd P w) a vs
  | .dT kvs=>kvs.length≤sizeLine∧(a==sysModules)=false∧∃ xs:List (List Key × Addr × Value),
      Paired (fun (p:List Key × V) (q:List Key × Addr × Value)=>p.1=q.1∧H q.2.1=some (.tup (p.1.map kV))∧RelV p.2 q.2.2) kvs xs ∧
      ∃ o es ep,h.get? a=some o∧o.ExactDict∧o.data=.dict es ep∧es.toList=xs.map (entryOfKey (tupleKind (jd P w)))∧(xs.map (·.1)).Nodup
  | .set S n=>h.SetOf (intKind P w) a S n
  | .ins C dx fs=>H dx=some (.own a)∧fs.length≤1000∧dx≠a∧h.get? a=some (PySem.W.instObj C dx) ∧
      ∃ mA,h.Ns1 dx mA∧(∀ f,J9 (fs.lookup f) (mA f))∧PySem.Within mA (fs.map (·.1))
  | .own _=>∃ o,h.get? a=some o
  | .xd fs=>∃ mA,h.Ns1 a mA∧∀ f,J9 (fs.lookup f) (mA f)
  | .rng lo hi=>∃ t u v,h.get? a=some { cls:=.type "range",data:=.fields #[.int lo t,.int hi u,.int 1 v] }
  | .frz o u=>h.get? a=some o∧qe H h a u
  | .tbl ps=>h.get? a=some { cls:=.none,data:=.fields ps }
  | .met f x=>h.get? a=some (PySem.W.methodObj (.ref f) (.ref x))
  | .ext φ=>φ h∧(∃ o,h.get? a=some o)∧∀ h1 h2:Heap,φ h1→(∀ o,h1.get? a=some o→h2.get? a=some o)→φ h2
def HOk (H:Hp) (h:Heap):Prop:=∀ a o,H a=some o→qe P w H h a o
end
section
variable {P:Program} {w:World} {H H':Hp} {h h':Heap} {a:Addr} {o:HO}
theorem qe.lt (x:qe P w H h a o):a<h.objs.size:=by
  cases o with
  | lst xs=>obtain ⟨_,_,_,_,e⟩:=x; exact Heap.lt_size e
  | tup xs=>obtain ⟨_,_,_,p⟩:=x; exact p.is.lt
  | dK kvs=>obtain ⟨_,_,_,_,o,_,_,e,_⟩:=x; exact Heap.lt_size e
  | dT kvs=>obtain ⟨_,_,_,_,o,_,_,e,_⟩:=x; exact Heap.lt_size e
  | set S n=>obtain ⟨o,_,_,_,e,_⟩:=x; exact Heap.lt_size e
  | ins C dx fs=>obtain ⟨_,_,_,e,_⟩:=x; exact Heap.lt_size e
  | own y=>obtain ⟨_,e⟩:=x; exact Heap.lt_size e
  | xd fs=>obtain ⟨_,⟨_,_,_,e,_⟩,_⟩:=x; exact Heap.lt_size e
  | rng lo hi=>obtain ⟨_,_,_,e⟩:=x; exact Heap.lt_size e
  | frz ob u=>obtain ⟨e,_⟩:=x; exact Heap.lt_size e
  | tbl ps=>exact Heap.lt_size (show h.get? a=some _ from x)
  | met f y=>exact Heap.lt_size (show h.get? a=some _ from x)
  | ext φ=>obtain ⟨_,⟨_,e⟩,_⟩:=x; exact Heap.lt_size e
theorem Paired.a6y {α β:Type} {F G:α→β→Prop} {l₁:List α} {l₂:List β} (r:Paired F l₁ l₂) (f:∀ a b,F a b→G a b):Paired G l₁ l₂:=by
  induction r with
  | nil=>exact .nil
  | cons r _ ih=>exact .cons (f _ _ r) ih
theorem qe.stay (x:qe P w H h a o) (k:∀ b u,(b=a∨H b=some (.own a))→h.get? b=some u→h'.get? b=some u)
    (ho:∀ b,H b=some (.own a)→H' b=some (.own a)) (ht:∀ b xs,H b=some (.tup xs)→H' b=some (.tup xs)):qe P w H' h' a o:=by
  induction o with
  | lst xs=>obtain ⟨z,its,n,r,e⟩:=x; exact ⟨z,its,n,r,k _ _ (.inl rfl) e⟩
  | tup xs=>obtain ⟨z,its,r,ob,e,c⟩:=x; exact ⟨z,its,r,ob,k _ _ (.inl rfl) e,c⟩
  | dK kvs=>obtain ⟨z,y,vs,r,ob,es,ep,e,c⟩:=x; exact ⟨z,y,vs,r,ob,es,ep,k _ _ (.inl rfl) e,c⟩
  | dT kvs =>
    obtain ⟨z,y,xs,r,ob,es,ep,e,c⟩:=x
    exact ⟨z,y,xs,Paired.a6y r fun p q z=>⟨z.1,ht _ _ z.2.1,z.2.2⟩,ob,es,ep,k _ _ (.inl rfl) e,c⟩
  | set S n=>obtain ⟨ob,es,ep,t,e,c⟩:=x; exact ⟨ob,es,ep,t,k _ _ (.inl rfl) e,c⟩
  | ins C dx fs =>
    obtain ⟨d,z,ne,e,mA,⟨od,es,ep,e2,c⟩,r⟩:=x
    exact ⟨ho _ d,z,ne,k _ _ (.inl rfl) e,mA,⟨od,es,ep,k _ _ (.inr d) e2,c⟩,r⟩
  | own y=>obtain ⟨ob,e⟩:=x; exact ⟨ob,k _ _ (.inl rfl) e⟩
  | xd fs=>obtain ⟨mA,⟨od,es,ep,e,c⟩,r⟩:=x; exact ⟨mA,⟨od,es,ep,k _ _ (.inl rfl) e,c⟩,r⟩
  | rng lo hi=>obtain ⟨t,u,v,e⟩:=x; exact ⟨t,u,v,k _ _ (.inl rfl) e⟩
  | frz ob u ih=>obtain ⟨e,q⟩:=x; exact ⟨k _ _ (.inl rfl) e,ih q⟩
  | tbl ps =>
    have e:h.get? a=some { cls:=.none,data:=.fields ps }:=x
    show h'.get? a=some { cls:=.none,data:=.fields ps }
    exact k a _ (.inl rfl) e
  | met f y =>
    have e:h.get? a=some (PySem.W.methodObj (.ref f) (.ref y)):=x
    show h'.get? a=some (PySem.W.methodObj (.ref f) (.ref y))
    exact k a _ (.inl rfl) e
  | ext φ=>obtain ⟨p,⟨o,e⟩,st⟩:=x; exact ⟨st _ _ p fun o q=>k _ _ (.inl rfl) q,⟨o,k _ _ (.inl rfl) e⟩,st⟩
theorem HOk.lt (x:HOk P w H h) (e:H a=some o):a<h.objs.size:=(x a o e).lt
theorem HOk.fresh (x:HOk P w H h) (e:h.objs.size≤a):H a=none:=by
  cases q:H a with
  | none=>rfl
  | some u=>exact absurd (Nat.lt_of_lt_of_le (x.lt q) e) (Nat.lt_irrefl _)
theorem HOk.kept (x:HOk P w H h) (k:∀ b u,h.get? b=some u→h'.get? b=some u):HOk P w H h':=fun a o e =>
  (x a o e).stay (fun b u _ q=>k b u q) (fun _ q=>q) fun _ _ q=>q
theorem HOk.laid (x:HOk P w H h) (k:∀ b u,h.get? b=some u→h'.get? b=some u) (hp:h.objs.size≤a) (new:qe P w (upd H a o) h' a o):HOk P w (upd H a o) h':=fun b u e=>by
  have hn:=x.fresh hp
  by_cases hb:b=a
  · subst hb; rw [cj] at e; cases e; exact new
  · rw [d7 hb] at e
    exact (x b u e).stay (fun c v _ q=>k c v q) (fun c q=>by rw [d7 (iu q hn)]; exact q) fun c xs q=>by rw [d7 (iu q hn)]; exact q
end
def Rd (H:Hp) (a:Addr) (u:HO):Prop:=H a=some u∨∃ o,H a=some (.frz o u)
theorem Rd.of {H:Hp} {a:Addr} {u:HO} (h:H a=some u):Rd H a u:=.inl h
theorem Rd.ok {P:Program} {w:World} {H:Hp} {h:Heap} {a:Addr} {u:HO} (r:Rd H a u) (x:HOk P w H h):qe P w H h a u:=by
  rcases r with r | ⟨o,r⟩
  · exact x a u r
  · obtain ⟨_,q⟩:=x a _ r
    exact q
def Mut:Option HO→Prop
  | some (.lst _)=>True
  | some (.dK _)=>True
  | some (.dT _)=>True
  | some (.set _ _)=>True
  | some (.ins _ _ _)=>True
  | some (.ext _)=>True
  | _=>False
section
variable {P:Program} {w:World} {H:Hp} {h h':Heap} {x e:Addr} {o':HO}
theorem HOk.write (ok:HOk P w H h) (mu:Mut (H x)) (he:e=x∨H e=some (.own x)) (k:∀ b u,b≠e→h.get? b=some u→h'.get? b=some u) (heo:∃ u,h'.get? e=some u)
    (new:qe P w (upd H x o') h' x o'):HOk P w (upd H x o') h':=fun b u q=>by
  have nown:∀ c y,H c=some (.own y)→c≠x:=fun c y r z=>by subst z; rw [r] at mu; exact mu
  have ntup:∀ c xs,H c=some (.tup xs)→c≠x:=fun c xs r z=>by subst z; rw [r] at mu; exact mu
  by_cases hb:b=x
  · subst hb; rw [cj] at q; cases q; exact new
  · rw [d7 hb] at q
    by_cases hbe:b=e
    · have q':H b=some (.own x):=by
        rcases he with z | z
        · exact absurd (hbe.trans z) hb
        · rw [hbe]; exact z
      rw [q] at q'; cases q'
      obtain ⟨v,hv⟩:=heo
      exact ⟨v,by rw [hbe]; exact hv⟩
    · refine (ok b u q).stay (fun c v hc r=>k c v ?_ r) (fun c r=>by rw [d7 (nown c b r)]; exact r) fun c xs r=>by rw [d7 (ntup c xs r)]; exact r
      rcases hc with rfl | hc
      · exact hbe
      · rintro rfl
        rcases he with z | z
        · exact nown c b hc z
        · rw [hc] at z; cases z; exact hb rfl
end
structure Un (fs ex:List Addr) (H H':Hp) (h h':Heap):Prop where
  keep:∀ b o,h.get? b=some o→H b=none→b∉fs→b∉ex→h'.get? b=some o
  slot:∀ b o,h.get? b=some o→H b=none→b∈fs→b∉ex→∃ sl,h'.get? b=some { o with slots:=sl }
  free:∀ b o,h.get? b=some o→H b=none→b∉ex→H' b=none
  there:∀ b o,h.get? b=some o→b∉ex→∃ o',h'.get? b=some o'
  tups:∀ b xs,H b=some (.tup xs)→H' b=some (.tup xs)
  frzs:∀ b o u,H b=some (.frz o u)→H' b=some (.frz o u)
  tbls:∀ b ps,H b=some (.tbl ps)→∃ more,H' b=some (.tbl (ps++more))
section
variable {fs fs' ex ex':List Addr} {H H1 H2:Hp} {h h1 h2 h':Heap} {a x e:Addr} {o:HO}
theorem Un.any (u:Un fs ex H H1 h h1) {b:Addr} {ob:Obj} (q:h.get? b=some ob) (n:H b=none) (hx:b∉ex):∃ sl,h1.get? b=some { ob with slots:=sl }:=by
  by_cases hb:b∈fs
  · exact u.slot b ob q n hb hx
  · exact ⟨ob.slots,u.keep b ob q n hb hx⟩
theorem Un.trans (a:Un fs ex H H1 h h1) (b:Un fs ex H1 H2 h1 h2):Un fs ex H H2 h h2 where
  keep:=fun c ob q n hc hx=>b.keep c ob (a.keep c ob q n hc hx) (a.free c ob q n hx) hc hx
  slot:=fun c ob q n hc hx=>by
    obtain ⟨sl,e1⟩:=a.slot c ob q n hc hx
    obtain ⟨sl',e2⟩:=b.slot c _ e1 (a.free c ob q n hx) hc hx
    exact ⟨sl',e2⟩
  free:=fun c ob q n hx=>by
    obtain ⟨o',e1⟩:=a.there c ob q hx
    exact b.free c o' e1 (a.free c ob q n hx) hx
  there:=fun c ob q hx=>by
    obtain ⟨o',e1⟩:=a.there c ob q hx
    exact b.there c o' e1 hx
  tups:=fun c xs q=>b.tups c xs (a.tups c xs q)
  frzs:=fun c ob xs q=>b.frzs c ob xs (a.frzs c ob xs q)
  tbls:=fun c ps q=>by
    obtain ⟨m1,e1⟩:=a.tbls c ps q
    obtain ⟨m2,e2⟩:=b.tbls c _ e1
    exact ⟨m1++m2,by rw [e2,Array.append_assoc]⟩
theorem Un.kept (k:∀ b u,h.get? b=some u→h'.get? b=some u):Un fs ex H H h h' :=
  ⟨fun b ob q _ _ _=>k b ob q,fun b ob q _ _ _=>⟨ob.slots,k b ob q⟩,fun _ _ _ n _=>n,fun b ob q _=>⟨ob,k b ob q⟩,fun _ _ q=>q,fun _ _ _ q=>q,fun _ ps q=>⟨#[],by rw [q]; simp⟩⟩
theorem Un.refl:Un fs ex H H h h:=Un.kept fun _ _ q=>q
theorem Un.laid (k:∀ b u,h.get? b=some u→h'.get? b=some u) (hp:h.objs.size≤a) (hn:H a=none):Un fs ex H (upd H a o) h h' where
  keep:=fun b u q _ _ _=>k b u q
  slot:=fun b u q _ _ _=>⟨u.slots,k b u q⟩
  free:=fun b u q n _=>by rw [d7 (Nat.ne_of_lt (Nat.lt_of_lt_of_le (Heap.lt_size q) hp))]; exact n
  there:=fun b u q _=>⟨u,k b u q⟩
  tups:=fun b xs q=>by rw [d7 (iu q hn)]; exact q
  frzs:=fun b u xs q=>by rw [d7 (iu q hn)]; exact q
  tbls:=fun b ps q=>⟨#[],by rw [d7 (iu q hn),q]; simp⟩
theorem Un.write (mu:Mut (H x)) (he:e=x∨H e=some (.own x)) (k:∀ b u,b≠e→h.get? b=some u→h'.get? b=some u) (heo:∃ u,h'.get? e=some u):Un fs ex H (upd H x o) h h':=by
  have hx:∀ b,H b=none→b≠x:=fun b n z=>by subst z; rw [n] at mu; exact mu
  have hb:∀ b,H b=none→b≠e:=fun b n z=>by
    subst z
    rcases he with r | r
    · exact hx b n r
    · rw [n] at r; cases r
  have hm:∀ b u,H b=some u→¬ Mut (some u)→b≠x:=fun b u q nm z=>by subst z; rw [q] at mu; exact nm mu
  refine ⟨fun b u q n _ _=>k b u (hb b n) q,fun b u q n _ _=>⟨u.slots,k b u (hb b n) q⟩,fun b u q n _=>by rw [d7 (hx b n)]; exact n,fun b u q _=>?_,
    fun b xs q=>by rw [d7 (hm b _ q fun z=>z)]; exact q,fun b u xs q=>by rw [d7 (hm b _ q fun z=>z)]; exact q,fun b ps q=>⟨#[],by rw [d7 (hm b _ q fun z=>z),q]; simp⟩⟩
  by_cases hbe:b=e
  · subst hbe; exact heo
  · exact ⟨u,k b u hbe q⟩
theorem Un.mono (u:Un fs ex H H1 h h1) (hs:∀ b∈fs,b∈fs') (hx:∀ b∈ex,b∈ex'):Un fs' ex' H H1 h h1 :=
  ⟨fun b ob q n hb he=>u.keep b ob q n (fun z=>hb (hs b z)) fun z=>he (hx b z),fun _ _ q n _ he=>u.any q n fun z=>he (hx _ z),fun b ob q n he=>u.free b ob q n fun z=>he (hx b z),fun b ob q he=>u.there b ob q fun z=>he (hx b z),u.tups,u.frzs,u.tbls⟩
end
def trk (h:Heap) (H:Hp):List Addr:=(List.range h.objs.size).filter fun a=>(H a).isSome
def Xe (h:Heap) (H:Hp):Heap:=PySem.W.hideAll h (trk h H)
theorem Rk (h:Heap) (H:Hp):(Xe h H).objs.size=h.objs.size:=PySem.W.hideAll_size _ _
theorem Xd {h:Heap} {H:Hp} {b:Addr} {o:Obj} (e:h.get? b=some o) (n:H b=none):(Xe h H).get? b=some o :=
  PySem.W.hideAll_get _ e fun hm=>by
    have q:(H b).isSome=true:=(List.mem_filter.mp hm).2
    rw [n] at q; simp at q
theorem a1r {h:Heap} {H:Hp} {b:Addr} {o:Obj} (e:(Xe h H).get? b=some o):h.get? b=some o∧H b=none:=by
  have e':h.get? b=some o:=PySem.W.of_hideAll (trk h H) e
  refine ⟨e',?_⟩
  cases q:H b with
  | none=>rfl
  | some x =>
    have hm:b∈trk h H:=List.mem_filter.mpr ⟨List.mem_range.mpr (Heap.lt_size e'),by simp [q]⟩
    have z:(Xe h H).get? b=none:=PySem.W.hideAll_none (trk h H) hm
    rw [z] at e; cases e
def a0w (g h:Heap) (L:Addr):List (Addr × Obj):=(List.range h.objs.size).filterMap fun a=>if a=L∨(g.get? a).isSome=true then none else (h.get? a).map fun o=>(a,o)
def rest (g h:Heap) (L d:Addr):List (Addr × Obj):=(a0w g h L).filter fun p=>decide (p.1≠d)
end L2
namespace L2
open PySem PySem.Spec PyProof.Rows
structure Mod (K:PySem.W.Frag) (mg:Str→Option Value) (base:Heap):Prop where
  kin:K.In base
  glob:base.Ns mainGlobals mg
  blt:∃ mb,base.Ns builtinsNs mb∧∀ x:Str,x ≠ "__name__" → mb x=bootBuiltins x
  nolimit:base.NoLimit
structure Cx where
  prog:Program
  w:World
  K:PySem.W.Frag
  mg:Str→Option Value
  base:Heap
  A:Around
  N:List Str
  s₀:Shared
  H₀:Hp
  env:Env
  outer:List Env
  stack:List Env
  ex:List Addr
  fn:Str→Bool
  calm:Bool
  pn:List (Addr × Obj)
  xe:Value→Shared→Prop
def frs (l:List Env):List Addr:=l.filterMap (·.frame)
abbrev Cx.fs (X:Cx):List Addr:=frs X.outer
def Vis (sc:Scope) (x:Str):Prop:=sc.names.lookup x=some .local∨sc.names.lookup x=some .cell∨sc.names.lookup x=some .free
def Loc (sc:Scope) (x:Str):Prop:=sc.names.lookup x=some .local∨sc.names.lookup x=some .cell
def Look (env:Env) (h:Heap) (m:Str→Option Value) (x:Str) (u:Value):Prop :=
  (env.kindOf x=some .local∧m x=some u)∨((env.kindOf x=some .cell∨env.kindOf x=some .free)∧∃ c,env.cells.lookup x=some c∧h.IsCell c (some u))
structure Cx.Ok (X:Cx):Prop where
  mod:Mod X.K X.mg X.base
  kind:X.env.scope.kind=.function
  glob:X.env.globals=mainGlobals
  blt:X.env.builtins=builtinsNs
  above:X.s₀.heap.objs.size≤X.env.locals
  inj:∀ x y c,X.env.cells.lookup x=some c→X.env.cells.lookup y=some c→x=y
  has:∀ x,(X.env.kindOf x=some .cell∨X.env.kindOf x=some .free)→∃ c,X.env.cells.lookup x=some c
  cab:∀ x c,X.fn x=true→X.env.cells.lookup x=some c→X.s₀.heap.objs.size≤c
  hd:X.calm=true→X.A.handled=none
  frames:X.A.frames=some X.stack
  stk:X.stack=X.outer∨(X.stack=X.env::X.outer∧X.env.frame=some X.env.locals)
  exf:∀ b∈X.ex,b≠X.env.locals∧∀ x c,X.env.cells.lookup x=some c→c≠b
  bs:∀ b o,X.base.get? b=some o→X.s₀.heap.get? b=some o∧X.H₀ b=none
  bsz:X.base.objs.size≤X.s₀.heap.objs.size
  noex:∀ b o,X.base.get? b=some o→b∉X.ex
  exfs:∀ b∈X.ex,b∉X.fs
  Nq:X.s₀.heap.FunFrames X.base X.outer
  frf:∀ b∈X.fs,X.H₀ b=none
structure Inv (X:Cx) (pins:List (Addr × Obj)) (σ:List (Option V)) (H:Hp) (s:Shared):Prop where
  ok:X.Ok
  os:s.os=X.s₀.os
  bare:AllBare s.gens
  base:Un X.fs X.ex X.H₀ H X.s₀.heap s.heap
  loc:∃ m,s.heap.Ns X.env.locals m∧∀ (i:Nat) (x:Str) (v:V),X.N[i]? = some x→σ[i]? = some (some v)→Vis X.env.scope x→∃ u,RelV v u∧Look X.env s.heap m x u
  cell:∀ x c,X.env.cells.lookup x=some c→∃ v,s.heap.IsCell c v
  free:H X.env.locals=none
  freeC:∀ x c,X.env.cells.lookup x=some c→H c=none
  pin:∀ p∈X.pn++pins,s.heap.get? p.1=some p.2∧H p.1=none∧p.1≠X.env.locals∧p.1∉X.fs∧∀ v,p.2.data≠.cell v
  hok:HOk X.prog X.w H s.heap
  len:σ.length=X.N.length
section
variable {X:Cx} {pins:List (Addr × Obj)} {σ:List (Option V)} {H H':Hp} {s:Shared} {h':Heap}
theorem Cx.Ok.a7s (ok:X.Ok) {b:Addr} {o:Obj} (e:X.base.get? b=some o):b∉X.fs:=fun hb=>by
  have:=(ok.Nq.mem hb).1
  rw [e] at this; cases this
theorem Inv.bs (I:Inv X pins σ H s):∀ b o,X.base.get? b=some o→s.heap.get? b=some o∧H b=none:=fun b o e =>
  ⟨I.base.keep b o (I.ok.bs b o e).1 (I.ok.bs b o e).2 (I.ok.a7s e) (I.ok.noex b o e),I.base.free b o (I.ok.bs b o e).1 (I.ok.bs b o e).2 (I.ok.noex b o e)⟩
theorem Inv.bk (I:Inv X pins σ H s):∀ b o,X.base.get? b=some o→s.heap.get? b=some o:=fun b o e=>(I.bs b o e).1
theorem Inv.mod (I:Inv X pins σ H s):Mod X.K X.mg X.base:=I.ok.mod
theorem Inv.kIn (I:Inv X pins σ H s):X.K.In s.heap:=I.ok.mod.kin.keeps I.bk
theorem Inv.fr (I:Inv X pins σ H s):∃ m,Fr X.base X.env.locals s.heap m :=
  let ⟨m,hn,_⟩:=I.loc
  ⟨m,hn,I.bk,Nat.le_trans I.ok.bsz I.ok.above⟩
theorem Inv.lt (I:Inv X pins σ H s):X.env.locals<s.heap.objs.size:=let ⟨_,hn,_⟩:=I.loc; hn.lt
theorem Inv.sz (I:Inv X pins σ H s):X.s₀.heap.objs.size≤s.heap.objs.size:=Nat.le_trans I.ok.above (Nat.le_of_lt I.lt)
theorem Inv.a7w (I:Inv X pins σ H s) {a:Addr} (h:s.heap.objs.size≤a):a∉X.fs:=fun hb=>by
  obtain ⟨_,o,ho,_⟩:=I.ok.Nq.mem hb
  exact absurd (Nat.lt_of_lt_of_le (Heap.lt_size ho) (Nat.le_trans I.sz h)) (Nat.lt_irrefl _)
theorem Inv.cne (I:Inv X pins σ H s):∀ x c,X.env.cells.lookup x=some c→c≠X.env.locals:=fun x c e z=>by
  obtain ⟨v,o,ho,hd⟩:=I.cell x c e
  obtain ⟨m,⟨o',es,ep,ho',hd',_⟩,_⟩:=I.loc
  rw [z,ho'] at ho; cases ho; rw [hd'] at hd; cases hd
theorem Inv.Nq (I:Inv X pins σ H s):s.heap.FunFrames X.base X.outer:=by
  have all:∀ (l:List Env),(∀ b∈frs l,b∈X.fs)→X.s₀.heap.FunFrames X.base l→s.heap.FunFrames X.base l:=by
    intro l
    induction l with
    | nil=>intro _ _; trivial
    | cons env r ih =>
      intro hs hl
      obtain ⟨hk,⟨L,o,hf,hn,ho,hd⟩,hr⟩:=hl
      have hL:L∈X.fs:=hs L (by unfold frs; rw [List.filterMap_cons,hf]; exact List.mem_cons_self)
      obtain ⟨sl,e⟩:=I.base.slot L o ho (I.ok.frf L hL) hL fun z=>I.ok.exfs L z hL
      exact ⟨hk,⟨L,_,hf,hn,e,hd⟩,ih (fun b hb=>hs b (by unfold frs; rw [List.filterMap_cons,hf]; exact List.mem_cons_of_mem _ hb)) hr⟩
  exact all X.outer (fun _ hb=>hb) I.ok.Nq
theorem Inv.stack (I:Inv X pins σ H s):s.heap.FunFrames X.base X.stack:=by
  rcases I.ok.stk with e | ⟨e,hf⟩
  · rw [e]; exact I.Nq
  · rw [e]
    obtain ⟨m,hn,_⟩:=I.loc
    refine .cons (by rw [I.ok.kind]; decide) hf hn ?_ I.Nq
    exact Heap.get?_none_of_le (Nat.le_trans I.ok.bsz I.ok.above)
theorem Inv.Ku (I:Inv X pins σ H s):∀ b∈frs X.stack,b∈X.env.locals::X.fs:=fun b hb=>by
  rcases I.ok.stk with e | ⟨e,hf⟩
  · rw [e] at hb; exact List.mem_cons_of_mem _ hb
  · rw [e] at hb
    unfold frs at hb
    rw [List.filterMap_cons,hf] at hb
    exact hb
theorem Inv.Lk (I:Inv X pins σ H s):∀ b∈frs X.stack,H b=none:=fun b hb=>by
  rcases List.mem_cons.mp (I.Ku b hb) with e | hb
  · rw [e]; exact I.free
  · obtain ⟨_,o,ho,_⟩:=I.ok.Nq.mem hb
    exact I.base.free b o ho (I.ok.frf b hb) fun z=>I.ok.exfs b z hb
theorem Inv.step {g':Array GenState} {t':Nat} {d':Drawn} {ch:List Addr} (I:Inv X pins σ H s)
    (hch:∀ b∈ch,(b∈X.ex∨X.s₀.heap.objs.size≤b)∧b≠X.env.locals∧(∀ x c,X.env.cells.lookup x=some c→c≠b)∧∀ p∈X.pn++pins,p.1≠b)
    (keep:∀ b o,b≠X.env.locals→b∉X.fs→b∉ch→s.heap.get? b=some o→H b=none→h'.get? b=some o)
    (slot:∀ b o,b≠X.env.locals→b∈X.fs→b∉ch→s.heap.get? b=some o→H b=none→∃ sl,h'.get? b=some { o with slots:=sl }) (free:∀ b o,b∉ch→s.heap.get? b=some o→H b=none→H' b=none)
    (there:∀ b o,b∉ch→s.heap.get? b=some o→∃ o',h'.get? b=some o')
    (tups:∀ b xs,H b=some (.tup xs)→H' b=some (.tup xs)) (frzs:∀ b o u,H b=some (.frz o u)→H' b=some (.frz o u)) (tbls:∀ b ps,H b=some (.tbl ps)→∃ more,H' b=some (.tbl (ps++more)))
    (ns:∀ m,s.heap.Ns X.env.locals m→h'.Ns X.env.locals m) (hok:HOk X.prog X.w H' h') (hg:AllBare g') :
    Inv X pins σ H' { s with heap:=h',gens:=g',drawn:=d',toks:=t' }:=by
  have neL:∀ b o,X.s₀.heap.get? b=some o→b≠X.env.locals:=fun b o e=>Nat.ne_of_lt (Nat.lt_of_lt_of_le (Heap.lt_size e) I.ok.above)
  have neC:∀ b o,X.s₀.heap.get? b=some o→b∉X.ex→b∉ch:=fun b o e hx hb=>by
    rcases (hch b hb).1 with z | z
    · exact hx z
    · exact absurd (Nat.lt_of_lt_of_le (Heap.lt_size e) z) (Nat.lt_irrefl _)
  have cellK:∀ x c,X.env.cells.lookup x=some c→∀ v,s.heap.IsCell c v→h'.IsCell c v:=fun x c e v z9=>by
    obtain ⟨o,ho,hd⟩:=z9
    have nch:c∉ch:=fun z=>(hch c z).2.2.1 x c e rfl
    by_cases hc:c∈X.fs
    · obtain ⟨sl,q⟩:=slot c o (I.cne x c e) hc nch ho (I.freeC x c e)
      exact ⟨_,q,hd⟩
    · exact ⟨o,keep c o (I.cne x c e) hc nch ho (I.freeC x c e),hd⟩
  refine ⟨I.ok,I.os,hg,⟨fun b o e n hb hx=>?_,fun b o e n hb hx=>?_,fun b o e n hx=>?_,fun b o e hx=>?_,fun b xs e=>tups b xs (I.base.tups b xs e),fun b o xs e=>frzs b o xs (I.base.frzs b o xs e),fun b ps e=>?_⟩,?_,fun x c e=>?_,?_,fun x c e=>?_,fun p hp=>?_,hok,I.len⟩
  · exact keep b o (neL b o e) hb (neC b o e hx) (I.base.keep b o e n hb hx) (I.base.free b o e n hx)
  · obtain ⟨sl,e1⟩:=I.base.slot b o e n hb hx
    obtain ⟨sl',e2⟩:=slot b _ (neL b o e) hb (neC b o e hx) e1 (I.base.free b o e n hx)
    exact ⟨sl',e2⟩
  · obtain ⟨o',e1⟩:=I.base.there b o e hx
    exact free b o' (neC b o e hx) e1 (I.base.free b o e n hx)
  · obtain ⟨o',e1⟩:=I.base.there b o e hx
    exact there b o' (neC b o e hx) e1
  · obtain ⟨m1,e1⟩:=I.base.tbls b ps e
    obtain ⟨m2,e2⟩:=tbls b _ e1
    exact ⟨m1++m2,by rw [e2,Array.append_assoc]⟩
  · obtain ⟨m,hn,hl⟩:=I.loc
    refine ⟨m,ns m hn,fun i x v e1 e2 e3=>?_⟩
    obtain ⟨u,r,l⟩:=hl i x v e1 e2 e3
    refine ⟨u,r,?_⟩
    rcases l with l | ⟨k,c,e,z⟩
    · exact .inl l
    · exact .inr ⟨k,c,e,cellK x c e _ z⟩
  · obtain ⟨v,z⟩:=I.cell x c e
    exact ⟨v,cellK x c e v z⟩
  · obtain ⟨m,⟨o,_,_,ho,_⟩,_⟩:=I.loc
    exact free _ o (fun z=>(hch _ z).2.1 rfl) ho I.free
  · obtain ⟨v,o,ho,hd⟩:=I.cell x c e
    exact free c o (fun z=>(hch c z).2.2.1 x c e rfl) ho (I.freeC x c e)
  · obtain ⟨e,n,ne,nf,d⟩:=I.pin p hp
    have nch:p.1∉ch:=fun z=>(hch p.1 z).2.2.2 p hp rfl
    exact ⟨keep p.1 p.2 ne nf nch e n,free p.1 p.2 nch e n,ne,nf,d⟩
theorem Inv.un {t':Nat} (I:Inv X pins σ H s) (u:Un X.fs [] H H' s.heap h') (hok:HOk X.prog X.w H' h'):Inv X pins σ H' { s with heap:=h',toks:=t' }:=by
  obtain ⟨m,⟨o,es,ep,ho,r⟩,_⟩:=id I.loc
  obtain ⟨sl,hL⟩:=u.any ho I.free (by simp)
  exact I.step (g':=s.gens) (d':=s.drawn) (ch:=[]) (fun _ z=>nomatch z) (fun b o _ hb _ e n=>u.keep b o e n hb (by simp)) (fun b o _ hb _ e n=>u.slot b o e n hb (by simp)) (fun b o _ e n=>u.free b o e n (by simp)) (fun b o _ e=>u.there b o e (by simp)) u.tups u.frzs u.tbls (fun m' hm=>by
    obtain ⟨o',es',ep',ho',r'⟩:=hm
    rw [ho] at ho'; cases ho'
    exact ⟨_,es',ep',hL,r'⟩) hok I.bare
theorem Inv.call {g':Array GenState} {t':Nat} {d':Drawn} {ch:List Addr} (I:Inv X pins σ H s) (u:Un (frs X.stack) ch H H' s.heap h') (hok:HOk X.prog X.w H' h') (hg:AllBare g')
    (hch:∀ b∈ch,(b∈X.ex∨X.s₀.heap.objs.size≤b)∧b≠X.env.locals∧(∀ x c,X.env.cells.lookup x=some c→c≠b)∧∀ p∈X.pn++pins,p.1≠b) :
    Inv X pins σ H' { s with heap:=h',gens:=g',drawn:=d',toks:=t' }:=by
  obtain ⟨m,⟨o,es,ep,ho,r⟩,_⟩:=id I.loc
  obtain ⟨sl,hL⟩:=u.any ho I.free fun z=>(hch _ z).2.1 rfl
  exact I.step (ch:=ch) hch (fun b o hL hb hc e n=>u.keep b o e n (fun z=>(List.mem_cons.mp (I.Ku b z)).elim hL hb) hc) (fun b o _ _ hc e n=>u.any e n hc) (fun b o hc e n=>u.free b o e n hc) (fun b o hc e=>u.there b o e hc) u.tups u.frzs u.tbls (fun m' hm=>by
    obtain ⟨o',es',ep',ho',r'⟩:=hm
    rw [ho] at ho'; cases ho'
    exact ⟨_,es',ep',hL,r'⟩) hok hg
theorem Inv.turned {t':Nat} {it:Addr} (I:Inv X pins σ H s) (k:∀ b o,b≠it→s.heap.get? b=some o→h'.get? b=some o) (hn:H it=none) (hL:it≠X.env.locals)
    (h1:it∈X.ex∨X.s₀.heap.objs.size≤it) (h2:∀ x c,X.env.cells.lookup x=some c→c≠it) (h3:∀ p∈X.pn++pins,p.1≠it):Inv X pins σ H { s with heap:=h',toks:=t' }:=by
  have nit:∀ b u,H b=some u→b≠it:=fun b u e z=>by rw [z,hn] at e; cases e
  refine I.step (g':=s.gens) (d':=s.drawn) (ch:=[it]) (fun b hb=>?_) (fun b o _ _ hc e _=>k b o (fun z=>hc (by simp [z])) e) (fun b o _ _ hc e _=>⟨o.slots,k b o (fun z=>hc (by simp [z])) e⟩) (fun _ _ _ _ n=>n)
    (fun b o hc e=>⟨o,k b o (fun z=>hc (by simp [z])) e⟩) (fun _ _ e=>e) (fun _ _ _ e=>e) (fun b ps e=>⟨#[],by rw [e]; simp⟩) (fun m hm=>?_) (fun b u e=>?_) I.bare
  · have e:b=it:=by simpa using hb
    subst e
    exact ⟨h1,hL,h2,h3⟩
  · obtain ⟨o,es,ep,ho,r⟩:=hm
    exact ⟨o,es,ep,k _ o (Ne.symm hL) ho,r⟩
  · refine (I.hok b u e).stay (fun c v hc q=>k c v ?_ q) (fun _ q=>q) fun _ _ q=>q
    rcases hc with z | z
    · rw [z]; exact nit b u e
    · exact nit c _ z
theorem Inv.tok (I:Inv X pins σ H s) (t:Nat):Inv X pins σ H { s with toks:=t }:=I.un (h':=s.heap) (t':=t) Un.refl I.hok
theorem Inv.kept {t':Nat} (I:Inv X pins σ H s) (k:∀ b u,s.heap.get? b=some u→h'.get? b=some u):Inv X pins σ H { s with heap:=h',toks:=t' }:=I.un (Un.kept k) (I.hok.kept k)
theorem Inv.laid {a:Addr} {o:HO} {t':Nat} (I:Inv X pins σ H s) (k:∀ b u,s.heap.get? b=some u→h'.get? b=some u) (hp:s.heap.objs.size≤a) (new:qe X.prog X.w (upd H a o) h' a o) :
    Inv X pins σ (upd H a o) { s with heap:=h',toks:=t' }:=I.un (Un.laid k hp (I.hok.fresh hp)) (I.hok.laid k hp new)
theorem Inv.write {x e:Addr} {o:HO} {t':Nat} (I:Inv X pins σ H s) (mu:Mut (H x)) (he:e=x∨H e=some (.own x)) (k:∀ b u,b≠e→s.heap.get? b=some u→h'.get? b=some u) (heo:∃ u,h'.get? e=some u)
    (new:qe X.prog X.w (upd H x o) h' x o):Inv X pins σ (upd H x o) { s with heap:=h',toks:=t' }:=I.un (Un.write mu he k heo) (I.hok.write mu he k heo new)
theorem Inv.Cj {pins':List (Addr × Obj)} (I:Inv X pins σ H s) (h:∀ p∈pins',s.heap.get? p.1=some p.2∧H p.1=none∧p.1≠X.env.locals∧p.1∉X.fs∧∀ v,p.2.data≠.cell v):Inv X pins' σ H s :=
  ⟨I.ok,I.os,I.bare,I.base,I.loc,I.cell,I.free,I.freeC,fun p hp=>(List.mem_append.mp hp).elim (fun z=>I.pin p (List.mem_append_left _ z)) (h p),I.hok,I.len⟩
theorem Ia {N:List Str} (hN:N.Nodup) {i j:Nat} {x:Str} (a:N[i]? = some x) (b:N[j]? = some x):i=j:=by
  obtain ⟨h1,e1⟩:=List.getElem?_eq_some_iff.mp a
  obtain ⟨h2,e2⟩:=List.getElem?_eq_some_iff.mp b
  exact (List.getElem_inj hN).mp (e1.trans e2.symm)
theorem Vh {M:Model} {A:Around} {E:Value→Shared→Prop} {i:Nat} {x:Str} {v:V} {u:Value} {Q:Unit→Shared→Prop} (I:Inv X pins σ H s) (hN:X.N.Nodup) (hi:X.N[i]? = some x) (hx:Loc X.env.scope x) (r:RelV v u)
    (h:∀ s',Inv X pins (σ.set i (some v)) H s'→(∃ a,Heap.SameBut a s.heap s'.heap∧(a=X.env.locals∨X.env.cells.lookup x=some a))→Q () s') (hf:X.fn x=true∨X.env.scope.names.lookup x=some .local:=by first | exact .inl rfl | exact .inr rfl | assumption):wpAny M A (storeName X.env x u) Q E s:=by
  obtain ⟨m,hn,hl⟩:=id I.loc
  have hcls:(X.env.scope.kind == .class||(X.env.scope.kind == .module&&X.env.locals != X.env.globals))=false:=by rw [I.ok.kind]; rfl
  have hiσ:i<σ.length:=by rw [I.len]; exact (List.getElem?_eq_some_iff.mp hi).1
  have cne:=I.cne
  have tracked:∀ {a:Addr} {h':Heap},(∃ o,s.heap.get? a=some o∧H a=none)→Heap.SameBut a s.heap h'→HOk X.prog X.w H h':=fun {a h'} ha hs b ob e=>by
    obtain ⟨_,_,hfree⟩:=ha
    refine (I.hok b ob e).stay (fun c w' hc q=>(hs.2 c ?_).trans q) (fun _ q=>q) fun _ _ q=>q
    rintro rfl
    rcases hc with rfl | hc
    · rw [hfree] at e; cases e
    · rw [hfree] at hc; cases hc
  rcases hx with hk | hk
  · refine wpAny_storeName_local hk hn (fun h' hn' hs=>?_) hcls
    obtain ⟨oL,_,_,hoL,_⟩:=id hn
    refine h _ ⟨I.ok,I.os,I.bare,⟨fun b o e n hb hx=>?_,fun b o e n hb hx=>?_,I.base.free,fun b o e hx=>?_,I.base.tups,I.base.frzs,I.base.tbls⟩,⟨_,hn',fun j y v' e1 e2 e3=>?_⟩,fun y c e=>?_,I.free,I.freeC,fun p hp=>?_,tracked ⟨oL,hoL,I.free⟩ hs,by simpa using I.len⟩ ⟨_,hs,.inl rfl⟩
    · exact (hs.2 b (Nat.ne_of_lt (Nat.lt_of_lt_of_le (Heap.lt_size e) I.ok.above))).trans (I.base.keep b o e n hb hx)
    · obtain ⟨sl,e1⟩:=I.base.slot b o e n hb hx
      exact ⟨sl,(hs.2 b (Nat.ne_of_lt (Nat.lt_of_lt_of_le (Heap.lt_size e) I.ok.above))).trans e1⟩
    · obtain ⟨o',e1⟩:=I.base.there b o e hx
      exact ⟨o',(hs.2 b (Nat.ne_of_lt (Nat.lt_of_lt_of_le (Heap.lt_size e) I.ok.above))).trans e1⟩
    · by_cases hj:j=i
      · subst hj
        rw [hi] at e1; cases e1
        rw [List.getElem?_set_self hiσ] at e2
        cases e2
        exact ⟨u,r,.inl ⟨hk,by simp⟩⟩
      · rw [List.getElem?_set_ne (Ne.symm hj)] at e2
        obtain ⟨u',r',q⟩:=hl j y v' e1 e2 e3
        refine ⟨u',r',?_⟩
        rcases q with ⟨k,e⟩ | ⟨k,c,e,z⟩
        · refine .inl ⟨k,?_⟩
          have:y≠x:=fun e=>hj (Ia hN e1 (e ▸ hi))
          simp [this,e]
        · exact .inr ⟨k,c,e,z.sameBut hs (cne y c e)⟩
    · obtain ⟨w',z⟩:=I.cell y c e
      exact ⟨w',z.sameBut hs (cne y c e)⟩
    · obtain ⟨e,n,ne,nf,d⟩:=I.pin p hp
      exact ⟨(hs.2 p.1 ne).trans e,n,ne,nf,d⟩
  · have hfn:X.fn x=true:=by
      rcases hf with z | z
      · exact z
      · rw [z] at hk; cases hk
    obtain ⟨c,hc⟩:=I.ok.has x (.inl hk)
    obtain ⟨w',z⟩:=I.cell x c hc
    refine wpAny_storeName_cell I.ok.kind hk hc z (fun h' hc' hs=>?_)
    obtain ⟨oc,hoc,hocd⟩:=id z
    refine h { s with heap:=h' } ⟨I.ok,I.os,I.bare,⟨fun b o e n hb hx=>?_,fun b o e n hb hx=>?_,I.base.free,fun b o e hx=>?_,I.base.tups,I.base.frzs,I.base.tbls⟩,⟨m,hn.sameBut hs (Ne.symm (cne x c hc)),fun j y v' e1 e2 e3=>?_⟩,fun y c' e=>?_,I.free,I.freeC,fun p hp=>?_,tracked ⟨oc,hoc,I.freeC x c hc⟩ hs,by simpa using I.len⟩ ⟨c,hs,.inr hc⟩
    · exact (hs.2 b (Nat.ne_of_lt (Nat.lt_of_lt_of_le (Heap.lt_size e) (I.ok.cab x c hfn hc)))).trans (I.base.keep b o e n hb hx)
    · obtain ⟨sl,e1⟩:=I.base.slot b o e n hb hx
      exact ⟨sl,(hs.2 b (Nat.ne_of_lt (Nat.lt_of_lt_of_le (Heap.lt_size e) (I.ok.cab x c hfn hc)))).trans e1⟩
    · obtain ⟨o',e1⟩:=I.base.there b o e hx
      exact ⟨o',(hs.2 b (Nat.ne_of_lt (Nat.lt_of_lt_of_le (Heap.lt_size e) (I.ok.cab x c hfn hc)))).trans e1⟩
    · by_cases hj:j=i
      · subst hj
        rw [hi] at e1; cases e1
        rw [List.getElem?_set_self hiσ] at e2
        cases e2
        exact ⟨u,r,.inr ⟨.inl hk,c,hc,hc'⟩⟩
      · rw [List.getElem?_set_ne (Ne.symm hj)] at e2
        obtain ⟨u',r',q⟩:=hl j y v' e1 e2 e3
        refine ⟨u',r',?_⟩
        rcases q with q | ⟨k,c',e,z'⟩
        · exact .inl q
        · refine .inr ⟨k,c',e,z'.sameBut hs ?_⟩
          rintro rfl
          exact hj (Ia hN e1 (I.ok.inj _ _ _ e hc ▸ hi))
    · by_cases hcc:c'=c
      · subst hcc; exact ⟨_,hc'⟩
      · obtain ⟨w2,z2⟩:=I.cell y c' e
        exact ⟨w2,z2.sameBut hs hcc⟩
    · obtain ⟨e,n,ne,nf,d⟩:=I.pin p hp
      refine ⟨(hs.2 p.1 ?_).trans e,n,ne,nf,d⟩
      intro q
      rw [q,hoc] at e
      have q':oc=p.2:=Option.some.inj e
      exact d w' (by rw [← q']; exact hocd)
theorem Dy {M:Model} {A:Around} {E:Value→Shared→Prop} {i:Nat} {x:Str} {v:V} {u:Value} {Q:Unit→Shared→Prop} (I:Inv X pins σ H s) (hN:X.N.Nodup) (hi:X.N[i]? = some x) (hx:Loc X.env.scope x) (r:RelV v u)
    (h:∀ s',Inv X pins (σ.set i (some v)) H s'→Q () s') (hf:X.fn x=true∨X.env.scope.names.lookup x=some .local:=by first | exact .inl rfl | exact .inr rfl | assumption):wpAny M A (storeName X.env x u) Q E s :=
  Vh I hN hi hx r (fun s' I' _=>h s' I') hf
theorem Inv.call' {s':Shared} {ch:List Addr} (I:Inv X pins σ H s) (ho:s'.os=s.os) (u:Un (frs X.stack) ch H H' s.heap s'.heap) (hok:HOk X.prog X.w H' s'.heap) (hg:AllBare s'.gens)
    (hch:∀ b∈ch,(b∈X.ex∨X.s₀.heap.objs.size≤b)∧b≠X.env.locals∧(∀ x c,X.env.cells.lookup x=some c→c≠b)∧∀ p∈X.pn++pins,p.1≠b):Inv X pins σ H' s':=by
  obtain ⟨h',g',d',t',o'⟩:=s'
  have e:o'=s.os:=ho
  subst e
  exact I.call (g':=g') (t':=t') (d':=d') u hok hg hch
end
abbrev XK:=Value→Option Addr→Hp→Prop
abbrev St:=List (Option V)
abbrev VK:=V→Hp→Prop
abbrev TE:=St→Hp→VK→Prop
abbrev TT:=St→Hp→(Bool→Hp→Prop)→Prop
abbrev TA:=St→Hp→(List V→Hp→Prop)→Prop
structure Ends where
  nx:St→Hp→Prop
  rt:VK
  bk:St→Hp→Prop:=fun _ _=>False
  ct:St→Hp→Prop:=fun _ _=>False
abbrev TS:=Ends→St→Hp→Prop
inductive EP (X:Cx) (pins:List (Addr × Obj)) (σ:St) (Q:VK) (u:Value) (s':Shared):Prop
  | mk (v:V) (H':Hp) (I:Inv X pins σ H' s') (r:RelV v u) (q:Q v H')
def TP (X:Cx) (pins:List (Addr × Obj)) (σ:St) (Q:Bool→Hp→Prop) (b:Bool) (s':Shared):Prop:=∃ H',Inv X pins σ H' s'∧Q b H'
inductive AP (X:Cx) (pins:List (Addr × Obj)) (σ:St) (Q:List V→Hp→Prop) (us:List Value) (s':Shared):Prop
  | mk (vs:List V) (H':Hp) (I:Inv X pins σ H' s') (r:Vals vs us) (q:Q vs H')
def SP (X:Cx) (pins:List (Addr × Obj)) (D:Ends) (f:Flow) (s':Shared):Prop :=
  match f with
  | .next=>∃ σ' H',Inv X pins σ' H' s'∧D.nx σ' H'
  | .brk=>∃ σ' H',Inv X pins σ' H' s'∧D.bk σ' H'
  | .cont=>∃ σ' H',Inv X pins σ' H' s'∧D.ct σ' H'
  | .ret u=>∃ v σ' H',Inv X pins σ' H' s'∧RelV v u∧D.rt v H'
def PE (X:Cx) (e:Expr) (t:TE):Prop :=
  ∀ (pins:List (Addr × Obj)) (s:Shared) (σ:St) (H:Hp) (Q:VK),Inv X pins σ H s→t σ H Q→wpAny (model X.prog X.w) X.A (eval e X.env) (EP X pins σ Q) X.xe s
def PT (X:Cx) (e:Expr) (t:TT):Prop :=
  ∀ (pins:List (Addr × Obj)) (s:Shared) (σ:St) (H:Hp) (Q:Bool→Hp→Prop),Inv X pins σ H s→t σ H Q→wpAny (model X.prog X.w) X.A (isTrue e X.env (eval e X.env)) (TP X pins σ Q) X.xe s
def PW (X:Cx) (e:Expr) (t:TT):Prop :=
  ∀ (whole:Sem Value) (pins:List (Addr × Obj)) (s:Shared) (σ:St) (H:Hp) (Q:Bool→Hp→Prop),Inv X pins σ H s→t σ H Q→wpAny (model X.prog X.w) X.A (isTrue e X.env whole) (TP X pins σ Q) X.xe s
theorem PW.pt {X:Cx} {e:Expr} {t:TT} (h:PW X e t):PT X e t:=h _
def PA (X:Cx) (es:List Expr) (t:TA):Prop :=
  ∀ (pos:Pos) (pins:List (Addr × Obj)) (s:Shared) (σ:St) (H:Hp) (Q:List V→Hp→Prop),Inv X pins σ H s→t σ H Q→wpAny (model X.prog X.w) X.A (spliced (backTo pos (starEach es X.env))) (AP X pins σ Q) X.xe s
def PS (X:Cx) (st:Stmt) (t:TS):Prop :=
  ∀ (pins:List (Addr × Obj)) (s:Shared) (σ:St) (H:Hp) (D:Ends),Inv X pins σ H s→t D σ H→wpAny (model X.prog X.w) X.A (exec st X.env) (SP X pins D) X.xe s
def PSs (X:Cx) (st:List Stmt) (t:TS):Prop :=
  ∀ (pins:List (Addr × Obj)) (s:Shared) (σ:St) (H:Hp) (D:Ends),Inv X pins σ H s→t D σ H→wpAny (model X.prog X.w) X.A (execs st X.env) (SP X pins D) X.xe s
theorem thn {α:Type} {t:Sem α} {Q Q':α→Shared→Prop} {M:Model} {A:Around} {E:Value→Shared→Prop} {s:Shared} (h:wpAny M A t Q E s) (hQ:∀ a s,Q a s→Q' a s):wpAny M A t Q' E s:=wpAny_mono h hQ fun _ _ x=>x
end L2
namespace L2
open PySem PySem.Spec PyProof.Rows
section
variable {X:Cx}
def J8 (i:Nat):TE:=fun σ H Q=>∃ v,σ[i]? = some (some v)∧Q v H
def tC (v:V):TE:=fun _ H Q=>Q v H
theorem U3 {i:Nat} {x:Str} {pos:Pos} (hN:X.N[i]? = some x) (hv:Vis X.env.scope x) (hd:(x==("__debug__" : Str))=false:=by decide) (hcd:(x==("__classdict__" : Str))=false:=by decide):PE X (.Name x pos) (J8 i):=by
  intro pins s σ H Q I h
  obtain ⟨v,e,h⟩:=h
  obtain ⟨m,hn,hl⟩:=I.loc
  obtain ⟨u,r,l⟩:=hl i x v hN e hv
  have fin:EP X pins σ Q u s:=⟨v,H,I,r,h⟩
  rcases l with ⟨hk,hm⟩ | ⟨hk,c,hc,hcell⟩
  · exact wpAny_Name (wpAny_loadName_local I.ok.kind hk hn hm fin) hd
  · rcases hk with hk | hk
    · exact wpAny_Name (wpAny_loadName_cell I.ok.kind hk hc hcell fin) hd
    · exact wpAny_Name (wpAny_loadName_free I.ok.kind hk hc hcell fin hcd) hd
theorem Zc {i j pos}:PE X (.Constant (.int i) j pos) (tC (.int i)):=fun _ _ _ H _ I h=>wpAny_Constant_int ⟨.int i,H,I.tok _,⟨_,rfl⟩,h⟩
theorem a6d {b j pos}:PE X (.Constant (.bool b) j pos) (tC (.bl b)):=fun _ _ _ H _ I h=>Constant_bool ⟨.bl b,H,I,rfl,h⟩
theorem a4c {j pos}:PE X (.Constant .none j pos) (tC .non):=fun _ _ _ H _ I h=>Constant_none ⟨.non,H,I,rfl,h⟩
theorem Z1 {x j pos}:PE X (.Constant (.str x) j pos) (tC (.str x)):=fun _ _ _ H _ I h=>Calls.Constant_str ⟨.str x,H,I.tok _,⟨_,rfl⟩,h⟩
def Gl (X:Cx) (x:Str):Prop:=X.env.kindOf x=some .globalImplicit
theorem J5 {E:Value→Shared→Prop} {pins:List (Addr × Obj)} {s:Shared} {σ:St} {H:Hp} {x:Str} {u:Value} {pos:Pos} {Q:Value→Shared→Prop} (I:Inv X pins σ H s) (hg:Gl X x) (hm:X.mg x=some u) (h:Q u s)
    (hd:(x==("__debug__" : Str))=false:=by decide):wpAny (model X.prog X.w) X.A (eval (.Name x pos) X.env) Q E s :=
  Calls.Name_function_global I.ok.kind hg (Calls.loadGlobal_global (by rw [I.ok.glob]; exact I.mod.glob.keeps I.bk) hm h) hd
theorem Ko {E:Value→Shared→Prop} {pins:List (Addr × Obj)} {s:Shared} {σ:St} {H:Hp} {x:Str} {u:Value} {pos:Pos} {Q:Value→Shared→Prop} (I:Inv X pins σ H s) (hg:Gl X x) (hm:X.mg x=none) (hv:bootBuiltins x=some u) (h:Q u s)
    (hn:x ≠ "__name__" := by decide) (hd:(x==("__debug__" : Str))=false:=by decide):wpAny (model X.prog X.w) X.A (eval (.Name x pos) X.env) Q E s:=by
  obtain ⟨mb,h1,h2⟩:=I.mod.blt
  exact Calls.Name_function_global I.ok.kind hg (Calls.loadGlobal_builtin (by rw [I.ok.glob]; exact I.mod.glob.keeps I.bk) hm (by rw [I.ok.blt]; exact h1.keeps I.bk) ((h2 x hn).trans hv) h) hd
theorem Mz {x:Str} {v:V} {u:Value} {pos:Pos} (hg:Gl X x) (hm:X.mg x=some u) (r:RelV v u) (hd:(x==("__debug__" : Str))=false:=by decide):PE X (.Name x pos) (tC v) :=
  fun _ _ _ H _ I h=>J5 I hg hm ⟨v,H,I,r,h⟩ hd
theorem U9 {x:Str} {v:V} {u:Value} {pos:Pos} (hg:Gl X x) (hm:X.mg x=none) (hv:bootBuiltins x=some u) (r:RelV v u) (hn:x ≠ "__name__" := by decide) (hd:(x==("__debug__" : Str))=false:=by decide):PE X (.Name x pos) (tC v) :=
  fun _ _ _ H _ I h=>Ko I hg hm hv ⟨v,H,I,r,h⟩ hn hd
variable {a b:Expr} {ta tb:TE} {pos:Pos}
def tB (t:TE):TT:=fun σ H Q=>t σ H fun x H1=>∃ c,x=.bl c∧Q c H1
theorem a4j {e:Expr} {t:TE} (h:PE X e t) (he:∀ whole,isTrue e X.env whole=(do let v ← whole; standAt e.pos; holding [v] (truthy v)):=by intro _; rfl):PT X e (tB t):=by
  intro pins s σ H Q I hw
  refine isTrue_plain (thn (h pins s σ H _ I hw) fun v s1 z0=>?_) (he _)
  obtain ⟨x,H1,I1,r1,q1⟩:=z0
  obtain ⟨d,rfl,q⟩:=q1
  cases r1
  exact wpAny_truthy_bool ⟨H1,I1,q⟩
variable {tA tB':TT} {rest:List Expr}
def a7d (t u:TT):TT:=fun σ H Q=>t σ H fun c H1=>if c=true then u σ H1 Q else Q false H1
def tOr (t u:TT):TT:=fun σ H Q=>t σ H fun c H1=>if c=true then Q true H1 else u σ H1 Q
theorem pw_and1 (ha:PT X a tA):PW X (.BoolOp .And [a] pos) tA:=by
  intro wh pins s σ H Q I h
  refine isTrue_and (thn (ha pins s σ H Q I h) fun c s1 e=>?_)
  cases c with
  | true=>exact isTrue_and_nil e
  | false=>exact e
theorem pw_or1 (ha:PT X a tA):PW X (.BoolOp .Or [a] pos) tA:=by
  intro wh pins s σ H Q I h
  refine isTrue_or (thn (ha pins s σ H Q I h) fun c s1 e=>?_)
  cases c with
  | false=>exact isTrue_or_nil e
  | true=>exact e
theorem pw_and (ha:PT X a tA) (hb:PW X (.BoolOp .And (b::rest) pos) tB'):PW X (.BoolOp .And (a::b::rest) pos) (a7d tA tB'):=by
  intro wh pins s σ H Q I h
  refine isTrue_and (thn (ha pins s σ H _ I h) fun c s1 z0=>?_)
  obtain ⟨H1,I1,q1⟩:=z0
  cases c with
  | true=>exact hb wh pins s1 σ H1 Q I1 q1
  | false=>exact ⟨H1,I1,q1⟩
theorem pw_or (ha:PT X a tA) (hb:PW X (.BoolOp .Or (b::rest) pos) tB'):PW X (.BoolOp .Or (a::b::rest) pos) (tOr tA tB'):=by
  intro wh pins s σ H Q I h
  refine isTrue_or (thn (ha pins s σ H _ I h) fun c s1 z0=>?_)
  obtain ⟨H1,I1,q1⟩:=z0
  cases c with
  | true=>exact ⟨H1,I1,q1⟩
  | false=>exact hb wh pins s1 σ H1 Q I1 q1
def a5q (ta tb:TE):TE:=fun σ H Q=>ta σ H fun x H1=>∃ c,x=.bl c∧if c=true then tb σ H1 Q else Q (.bl false) H1
theorem a3c {op} {t:TE} (h:PE X a t):PE X (.BoolOp op [a] pos) t:=fun pins s σ H Q I hw=>BoolOp_one (h pins s σ H Q I hw)
theorem a2i (ha:PE X a ta) (hb:PE X (.BoolOp .And (b::rest) pos) tb):PE X (.BoolOp .And (a::b::rest) pos) (a5q ta tb):=by
  intro pins s σ H Q I h
  refine BoolOp_and (thn (ha pins s σ H _ I h) fun v s1 z0=>?_)
  obtain ⟨x,H1,I1,r1,q1⟩:=z0
  obtain ⟨c,rfl,q1⟩:=q1
  cases r1
  refine wpAny_truthy_bool ?_
  cases c with
  | true=>exact hb pins s1 σ H1 Q I1 q1
  | false=>exact ⟨.bl false,H1,I1,rfl,q1⟩
end
end L2
namespace L2
open PySem PySem.Spec PyProof.Rows
def SqL (K:PySem.W.Frag) (H:Hp) (a:Addr) (xs:List V):Prop :=
  Rd H a (.lst xs) ∨
    ∃ (o:Obj) (its:Array Value) (n:Nat),K.lookup a=some o∧o.cls=.type "list" ∧ o.dict=none∧o.data=.seq its n∧its.size≤sizeLine∧Vals xs its.toList
def SqT (K:PySem.W.Frag) (H:Hp) (a:Addr) (xs:List V):Prop :=
  Rd H a (.tup xs) ∨
    ∃ (o:Obj) (its:Array Value) (n:Nat),K.lookup a=some o∧o.cls=.type "tuple" ∧ o.dict=none∧o.data=.seq its n∧its.size≤sizeLine∧Vals xs its.toList
def a80:Value→Option V
  | .none=>some .non
  | .bool b=>some (.bl b)
  | .int i _=>some (.int i)
  | .str x _=>some (.str x)
  | .bytes b _=>some (.byt b)
  | .float b _=>some (.flt b)
  | .ref a=>some (.ref a)
  | .type n=>some (.ty n)
  | _=>none
theorem RelV.abs {x:V} {u:Value} (r:RelV x u):a80 u=some x:=by
  cases x with
  | non=>cases r; rfl
  | bl _=>cases r; rfl
  | int _=>obtain ⟨t,rfl⟩:=r; rfl
  | str _=>obtain ⟨t,rfl⟩:=r; rfl
  | byt _=>obtain ⟨t,rfl⟩:=r; rfl
  | flt _=>obtain ⟨t,rfl⟩:=r; rfl
  | ref _=>cases r; rfl
  | ty _=>cases r; rfl
theorem RelV.inj {x y:V} {u:Value} (r:RelV x u) (q:RelV y u):x=y:=Option.some.inj (r.abs.symm.trans q.abs)
theorem Vals.inj {xs ys:List V} {us:List Value} (h:Vals xs us):Vals ys us→xs=ys:=by
  induction h generalizing ys with
  | nil=>intro k; cases k; rfl
  | cons r t ih=>intro k; cases k with | cons r' t'=>rw [r.inj r',ih t']
section
variable {X:Cx} {pins:List (Addr × Obj)} {σ:St} {H:Hp} {s:Shared} {a:Addr} {xs ys:List V}
theorem SqL.of {K:PySem.W.Frag} (h:H a=some (.lst xs)):SqL K H a xs:=.inl (.inl h)
theorem SqT.of {K:PySem.W.Frag} (h:H a=some (.tup xs)):SqT K H a xs:=.inl (.inl h)
theorem Inv.list (I:Inv X pins σ H s) (h:SqL X.K H a xs):∃ its:List Value,Vals xs its∧PlainL s.heap a its.toArray∧xs.length≤sizeLine:=by
  rcases h with h | ⟨o,its,n,hk,hc,hd,hs,hz,r⟩
  · obtain ⟨z,its,n,r,e⟩:=h.ok I.hok
    exact ⟨its,r,⟨_,n,e,rfl,rfl,rfl⟩,z⟩
  · refine ⟨its.toList,r,⟨o,n,I.kIn a o hk,hc,hd,by simpa using hs⟩,?_⟩
    have e:=r.length
    simp only [Array.length_toList] at e
    omega
theorem Inv.tuple (I:Inv X pins σ H s) (h:SqT X.K H a xs):∃ its:List Value,Vals xs its∧IsTup s.heap a its.toArray∧xs.length≤sizeLine:=by
  rcases h with h | ⟨o,its,n,hk,hc,hdn,hs,hz,r⟩
  · obtain ⟨z,its,r,p⟩:=h.ok I.hok
    exact ⟨its,r,p.is,z⟩
  · refine ⟨its.toList,r,⟨o,I.kIn a o hk,hc,n,by simpa using hs⟩,?_⟩
    have e:=r.length
    simp only [Array.length_toList] at e
    omega
theorem Inv.Pq (I:Inv X pins σ H s) (h:SqL X.K H a xs) (h':SqL X.K H a ys):xs=ys:=by
  obtain ⟨its,r,⟨o,n,e,_,_,d⟩,_⟩:=I.list h
  obtain ⟨its',r',⟨o',n',e',_,_,d'⟩,_⟩:=I.list h'
  rw [e] at e'; cases e'
  rw [d] at d'
  injection d' with d1 _
  have:its=its':=by simpa using congrArg Array.toList d1
  subst this
  exact r.inj r'
theorem Inv.Rx (I:Inv X pins σ H s) (h:SqT X.K H a xs) (h':SqT X.K H a ys):xs=ys:=by
  obtain ⟨its,r,⟨o,e,_,n,d⟩,_⟩:=I.tuple h
  obtain ⟨its',r',⟨o',e',_,n',d'⟩,_⟩:=I.tuple h'
  rw [e] at e'; cases e'
  rw [d] at d'
  injection d' with d1 _
  have:its=its':=by simpa using congrArg Array.toList d1
  subst this
  exact r.inj r'
end
abbrev Cx.wish (X:Cx) (E:Value→Shared→Prop):Cx:={ X with xe:=E }
abbrev Cx.nox (X:Cx):Cx:=X.wish fun _ _=>False
theorem Cx.Ok.wish {X:Cx} (ok:X.Ok) (E:Value→Shared→Prop):(X.wish E).Ok :=
  ⟨ok.mod,ok.kind,ok.glob,ok.blt,ok.above,ok.inj,ok.has,ok.cab,ok.hd,ok.frames,ok.stk,ok.exf,ok.bs,ok.bsz,ok.noex,ok.exfs,ok.Nq,ok.frf⟩
theorem Cx.Ok.yc {X:Cx} {E:Value→Shared→Prop} (ok:(X.wish E).Ok):X.Ok :=
  ⟨ok.mod,ok.kind,ok.glob,ok.blt,ok.above,ok.inj,ok.has,ok.cab,ok.hd,ok.frames,ok.stk,ok.exf,ok.bs,ok.bsz,ok.noex,ok.exfs,ok.Nq,ok.frf⟩
section
variable {X:Cx} {pins:List (Addr × Obj)} {σ:St} {H:Hp} {s:Shared} {E:Value→Shared→Prop}
theorem Inv.wish (I:Inv X pins σ H s) (E:Value→Shared→Prop):Inv (X.wish E) pins σ H s:=⟨I.ok.wish E,I.os,I.bare,I.base,I.loc,I.cell,I.free,I.freeC,I.pin,I.hok,I.len⟩
theorem Inv.yc (I:Inv (X.wish E) pins σ H s):Inv X pins σ H s:=⟨I.ok.yc,I.os,I.bare,I.base,I.loc,I.cell,I.free,I.freeC,I.pin,I.hok,I.len⟩
theorem SP.yc {D:Ends} {f:Flow} {s':Shared} (h:SP (X.wish E) pins D f s'):SP X pins D f s':=by
  cases f with
  | next=>obtain ⟨σ',H',I,q⟩:=h; exact ⟨σ',H',I.yc,q⟩
  | brk=>obtain ⟨σ',H',I,q⟩:=h; exact ⟨σ',H',I.yc,q⟩
  | cont=>obtain ⟨σ',H',I,q⟩:=h; exact ⟨σ',H',I.yc,q⟩
  | ret u=>obtain ⟨v,σ',H',I,r,q⟩:=h; exact ⟨v,σ',H',I.yc,r,q⟩
theorem PE.nox {e:Expr} {t:TE} (h:PE X.nox e t):PE X e t:=fun pins s σ H Q I hw =>
  wpAny_mono (h pins s σ H Q (I.wish _) hw) (fun _ _ z7=>by obtain ⟨v,H',I',r,q⟩:=z7; exact ⟨v,H',I'.yc,r,q⟩) fun _ _ z=>False.elim z
theorem PT.nox {e:Expr} {t:TT} (h:PT X.nox e t):PT X e t:=fun pins s σ H Q I hw =>
  wpAny_mono (h pins s σ H Q (I.wish _) hw) (fun _ _ z7=>by obtain ⟨H',I',q⟩:=z7; exact ⟨H',I'.yc,q⟩) fun _ _ z=>False.elim z
theorem PSs.nox {st:List Stmt} {t:TS} (h:PSs X.nox st t):PSs X st t:=fun pins s σ H D I hw =>
  wpAny_mono (h pins s σ H D (I.wish _) hw) (fun _ _ q=>q.yc) fun _ _ z=>False.elim z
end
section
variable {X:Cx} {st:Stmt} {rest:List Stmt} {t u:TS} {e:Expr} {te:TE} {pos:Pos}
def a5z:TS:=fun D σ H=>D.nx σ H
def a7i (t u:TS):TS:=fun D σ H=>t { D with nx:=u D } σ H
theorem Zw:PSs X [] a5z:=fun _ _ σ H _ I h=>wpAny_execs_nil ⟨σ,H,I,h⟩
theorem Nx (h1:PS X st t) (h2:PSs X rest u):PSs X (st::rest) (a7i t u):=by
  intro pins s σ H D I h
  refine wpAny_execs_cons (thn (h1 pins s σ H { D with nx:=u D } I h) fun f s1 q=>?_)
  cases f with
  | next =>
    obtain ⟨σ',H',I',q⟩:=q
    exact h2 pins s1 σ' H' D I' q
  | ret v=>exact q
  | brk=>exact q
  | cont=>exact q
theorem Ek (h1:PS X st t):PSs X [st] t:=by
  intro pins s σ H D I h
  refine wpAny_execs_cons (thn (h1 pins s σ H D I h) fun f s1 q=>?_)
  cases f with
  | next=>exact wpAny_execs_nil q
  | ret v=>exact q
  | brk=>exact q
  | cont=>exact q
theorem Inv.quiet {pins:List (Addr × Obj)} {σ:St} {H:Hp} {s:Shared} (I:Inv X pins σ H s):interactive X.env=false:=by simp [interactive,I.ok.kind]
def Xl (te:TE):TS:=fun D σ H=>te σ H fun _ H1=>D.nx σ H1
theorem Cu (he:PE X e te) (hs:swapsWith e none pos.line X.env=pure false:=by rfl):PS X (.Expr e pos) (Xl te):=by
  intro pins s σ H D I h
  exact wpAny_Expr_any (thn (he pins s σ H _ I h) fun v s1 z7=>by obtain ⟨x,H1,I1,r1,q1⟩:=z7; exact ⟨σ,H1,I1,q1⟩) I.quiet hs
def a7l (te:TE):TS:=fun D σ H=>te σ H D.rt
theorem a2u (he:PE X e te):PS X (.Return (some e) pos) (a7l te):=by
  intro pins s σ H D I h
  exact wpAny_Return_some (thn (he pins s σ H _ I h) fun v s1 z7=>by obtain ⟨x,H1,I1,r1,q1⟩:=z7; exact ⟨x,σ,H1,I1,r1,q1⟩)
def a7v (c:TT) (t u:TS):TS:=fun D σ H=>c σ H fun b H1=>if b=true then t D σ H1 else u D σ H1
theorem a4t {c:Expr} {a b:List Stmt} {tc:TT} (hc:PT X c tc) (ha:PSs X a t) (hb:PSs X b u):PS X (.If c a b pos) (a7v tc t u):=by
  intro pins s σ H D I h
  refine wpAny_If (thn (hc pins s σ H _ I h) fun d s1 z0=>?_)
  obtain ⟨H1,I1,q1⟩:=z0
  cases d with
  | true=>exact ha pins s1 σ H1 D I1 q1
  | false=>exact hb pins s1 σ H1 D I1 q1
end
abbrev TG:=V→St→Hp→(St→Hp→Prop)→Prop
abbrev TGs:=List V→St→Hp→(St→Hp→Prop)→Prop
def PG (X:Cx) (target:Expr) (t:TG):Prop :=
  ∀ (pins:List (Addr × Obj)) (s:Shared) (σ:St) (H:Hp) (v:V) (u:Value) (Q:St→Hp→Prop),Inv X pins σ H s→RelV v u→t v σ H Q →
    wpAny (model X.prog X.w) X.A (assign target X.env u) (fun _ s'=>∃ σ' H',Inv X pins σ' H' s'∧Q σ' H') X.xe s
def PGs (X:Cx) (ts:List Expr) (t:TGs):Prop :=
  ∀ (pins:List (Addr × Obj)) (s:Shared) (σ:St) (H:Hp) (vs:List V) (us:List Value) (Q:St→Hp→Prop),Inv X pins σ H s→Vals vs us→t vs σ H Q →
    wpAny (model X.prog X.w) X.A (assignInOrder ((assignEach ts X.env).map (·.2)) us) (fun _ s'=>∃ σ' H',Inv X pins σ' H' s'∧Q σ' H') X.xe s
abbrev a6h:=V→V→V→Hp→(Hp→Prop)→Prop
def a76 (X:Cx) (t:a6h):Prop :=
  ∀ (pins:List (Addr × Obj)) (s:Shared) (σ:St) (H:Hp) (o i v:V) (ov iv u:Value) (Q:Hp→Prop),Inv X pins σ H s→RelV o ov→RelV i iv→RelV v u→t o i v H Q →
    wpAny (model X.prog X.w) X.A (setItem ov iv u) (fun _ s'=>∃ H',Inv X pins σ H' s'∧Q H') X.xe s
section
variable {X:Cx} {pos:Pos}
def Hv (i:Nat):TG:=fun v σ H Q=>Q (σ.set i (some v)) H
theorem je {i:Nat} {x:Str} (hN:X.N.Nodup) (hi:X.N[i]? = some x) (hx:Loc X.env.scope x) (hf:X.fn x=true∨X.env.scope.names.lookup x=some .local:=by first | exact .inl rfl | exact .inr rfl | assumption):PG X (.Name x pos) (Hv i):=by
  intro pins s σ H v u Q I r h
  exact wpAny_assign_Name (Dy I hN hi hx r (fun s' I'=>⟨_,H,I',h⟩) hf)
def a72:TGs:=fun vs σ H Q=>vs=[]∧Q σ H
def a3r (t:TG) (u:TGs):TGs:=fun vs σ H Q=>∃ v r,vs=v::r∧t v σ H fun σ' H'=>u r σ' H' Q
theorem Am:PGs X [] a72:=by
  intro pins s σ H vs us Q I r h
  obtain ⟨e,h⟩:=h
  subst e
  cases r
  exact assignInOrder_nil ⟨σ,H,I,h⟩
theorem kh {e:Expr} {es:List Expr} {t:TG} {u:TGs} (h1:PG X e t) (h2:PGs X es u)
    (hs:(assignEach (e::es) X.env).map (·.2)=assign e X.env::(assignEach es X.env).map (·.2):=by rfl):PGs X (e::es) (a3r t u):=by
  intro pins s σ H vs us Q I r h
  obtain ⟨v,vr,e1,h⟩:=h
  subst e1
  cases r with
  | cons r rr =>
    rw [hs]
    refine assignInOrder_cons (thn (h1 pins s σ H _ _ _ I r h) fun _ s1 z0=>?_)
    obtain ⟨σ1,H1,I1,q1⟩:=z0
    exact h2 pins s1 σ1 H1 _ _ Q I1 rr q1
def a77 (K:PySem.W.Frag) (n:Nat) (t:TGs):TG:=fun v σ H Q=>∃ a xs,v=.ref a∧SqT K H a xs∧xs.length=n∧t xs σ H Q
theorem Fi {es:List Expr} {k:Nat} {t:TGs} {n:Nat} (hc:X.calm=true) (h:PGs X es t)
    (hn:(assignEach es X.env).length=n:=by rfl) (hst:(assignEach es X.env).findIdx? (·.1)=none:=by rfl):PG X (.Tuple es k pos) (a77 X.K n t):=by
  intro pins s σ H v u Q I r hw
  obtain ⟨a,xs,e1,hq,hl,hw⟩:=hw
  subst e1
  cases r
  obtain ⟨its,rv,ht,hz⟩:=I.tuple hq
  refine assign_Tuple_tuple (I.ok.hd hc) ht (by simp [hn,← hl,rv.length]) hst fun h' hx=>?_
  have I1:Inv X pins σ H { s with heap:=h' }:=I.kept (t':=s.toks) fun b o e=>hx b o (Nat.ne_of_lt (Heap.lt_size e)) e
  exact h pins _ σ H xs _ Q I1 (by simpa using rv) hw
def a78 (to ti:TE) (t:a6h):TG:=fun v σ H Q=>to σ H fun o H1=>ti σ H1 fun i H2=>t o i v H2 fun H3=>Q σ H3
theorem Nr {o i:Expr} {to ti:TE} {t:a6h} (ho:PE X o to) (hi:PE X i ti) (hs:a76 X t)
    (ha:∀ v,assign (.Subscript o i pos) X.env v=(do
      let ov ← holding [v] (eval o X.env)
      let iv ← holding [v,ov] (eval i X.env)
      standAt pos
      holding [v,ov,iv] (setItem ov iv v)
      release [v,ov,iv] []):=by intro _; rfl):PG X (.Subscript o i pos) (a78 to ti t):=by
  intro pins s σ H v u Q I r h
  rw [ha]
  refine wpAny_bind (wpAny_holding (thn (ho pins s σ H _ I h) fun ov s1 z0=>?_))
  obtain ⟨x,H1,I1,r1,q1⟩:=z0
  refine wpAny_bind (wpAny_holding (thn (hi pins s1 σ H1 _ I1 q1) fun iv s2 z0=>?_))
  obtain ⟨y,H2,I2,r2,q2⟩:=z0
  refine wpAny_bind (wpAny_standAt (wpAny_bind (wpAny_holding (thn (hs pins s2 σ H2 x y v ov iv u _ I2 r1 r2 r q2) fun _ s3 z0=>?_))))
  obtain ⟨H3,I3,q3⟩:=z0
  exact wpAny_release ⟨σ,H3,I3,q3⟩
def Yu (te:TE) (g:TG):TS:=fun D σ H=>te σ H fun x H1=>g x σ H1 D.nx
theorem K3 {tg e:Expr} {te:TE} {g:TG} (he:PE X e te) (hg:PG X tg g) (hs:swapsWithSole [tg] e pos.line X.env=pure false:=by rfl) (hw:swappedStores [tg] e X.env=pure none:=by rfl)
    (h1:(assignEach [tg] X.env).map (·.2)=[assign tg X.env]:=by rfl):PS X (.Assign [tg] e pos) (Yu te g):=by
  intro pins s σ H D I h
  refine wpAny_Assign_stores (thn (he pins s σ H _ I h) fun v s1 z0=>?_) hs hw
  obtain ⟨x,H1,I1,r1,q1⟩:=z0
  rw [h1]
  exact thn (hg pins s1 σ H1 x v _ I1 r1 q1) fun _ s2 q=>q
theorem gj {i:Nat} {x:Str} {e:Expr} {te:TE} {pos':Pos} (hN:X.N.Nodup) (hi:X.N[i]? = some x) (hx:Loc X.env.scope x) (he:PE X e te) (hs:swapsWith e (some (.Name x pos')) pos.line X.env=pure false:=by rfl) (hf:X.fn x=true∨X.env.scope.names.lookup x=some .local:=by first | exact .inl rfl | exact .inr rfl | assumption) :
    PS X (.Assign [.Name x pos'] e pos) (Yu te (Hv i)):=by
  intro pins s σ H D I h
  refine wpAny_Assign_Name (thn (he pins s σ H _ I h) fun v s1 z0=>?_) hs
  obtain ⟨y,H1,I1,r1,q1⟩:=z0
  exact Dy I1 hN hi hx r1 (fun s2 I2=>⟨_,H1,I2,q1⟩) hf
end
section
variable {X:Cx} {pos:Pos}
def a2w (c:TT) (tb:TS):TS:=fun D σ H=>∃ W:Nat→St→Hp→Prop,(∃ m,W m σ H)∧∀ m σ H,W m σ H →
  c σ H fun b H1=>if b=true then ∃ N:St→Hp→Prop,(∀ σ' H',N σ' H'→∃ m',m'<m∧W m' σ' H')∧tb { D with nx:=N,ct:=N,bk:=D.nx } σ H1 else D.nx σ H1
theorem P0 {c:Expr} {body:List Stmt} {tc:TT} {tb:TS} (hp:PassesOwn (model X.prog X.w) X.A X.env X.xe) (hc:PT X c tc) (hb:PSs X body tb):PS X (.While c body [] pos) (a2w tc tb):=by
  intro pins s σ H D I h
  obtain ⟨W,⟨m0,w0⟩,turn⟩:=h
  refine wpAny_While (codeAny_whileLoop (fun n s'=>∃ σ' H',Inv X pins σ' H' s'∧W n σ' H') ?_ m0 ⟨σ,H,I,w0⟩)
  rintro n s1 ⟨σ1,H1,I1,w1⟩
  refine wpAny_passesOwn hp (thn (hc pins s1 σ1 H1 _ I1 (turn n σ1 H1 w1)) fun b s2 z0=>?_)
  obtain ⟨H2,I2,q2⟩:=z0
  cases b with
  | true =>
    obtain ⟨N,hN,q2⟩:=q2
    rw [if_pos rfl]
    refine wpAny_passesOwn hp (thn (hb pins s2 σ1 H2 _ I2 q2) fun f s3 q3=>?_)
    cases f with
    | next =>
      obtain ⟨σ3,H3,I3,n3⟩:=q3
      obtain ⟨m',hm,w3⟩:=hN σ3 H3 n3
      exact ⟨m',hm,σ3,H3,I3,w3⟩
    | cont =>
      obtain ⟨σ3,H3,I3,n3⟩:=q3
      obtain ⟨m',hm,w3⟩:=hN σ3 H3 n3
      exact ⟨m',hm,σ3,H3,I3,w3⟩
    | brk=>exact q3
    | ret v=>exact q3
  | false =>
    rw [if_neg Bool.false_ne_true]
    exact wpAny_execs_nil ⟨σ1,H2,I2,q2⟩
end
structure It where
  go:Nat→Hp→Prop
  yld:Nat→Hp→V→Hp→Prop
  stop:Nat→Hp→Prop
def Lj (X:Cx) (pins:List (Addr × Obj)) (H:Hp) (b:Addr):Prop :=
  H b=none∧b≠X.env.locals∧b∉X.fs∧(b∈X.ex∨X.s₀.heap.objs.size≤b)∧(∀ x c,X.env.cells.lookup x=some c→c≠b)∧∀ p∈X.pn++pins,p.1≠b
theorem Inv.a3h {X:Cx} {pins:List (Addr × Obj)} {σ:St} {H H':Hp} {s:Shared} {b:Addr} (I:Inv X pins σ H s) (hb:s.heap.objs.size≤b) (hn:H' b=none):Lj X pins H' b:=by
  refine ⟨hn,Nat.ne_of_gt (Nat.lt_of_lt_of_le I.lt hb),I.a7w hb,.inr (Nat.le_trans I.sz hb),fun x c e z=>?_,fun p hp z=>?_⟩
  · obtain ⟨v,q⟩:=I.cell x c e
    exact absurd (Nat.lt_of_lt_of_le q.lt (by rw [z]; exact hb)) (Nat.lt_irrefl _)
  · exact absurd (Nat.lt_of_lt_of_le (Heap.lt_size (I.pin p hp).1) (by rw [z]; exact hb)) (Nat.lt_irrefl _)
structure Turn (P:Program) (w:World) (K:PySem.W.Frag) (tg:Expr) (J:It) (fp:List Addr) (it:Addr) (tn:Nat→Heap→Prop):Prop where
  mem:it∈fp
  obj:∀ i h,tn i h→∀ b∈fp,∃ o,h.get? b=some o∧∀ v,o.data≠.cell v
  keep:∀ i h h',tn i h→(∀ b∈fp,∀ o,h.get? b=some o→h'.get? b=some o)→tn i h'
  item:∀ (X:Cx),X.prog=P→X.w=w→X.K=K→X.calm=true→∀ (i:Nat) (pins:List (Addr × Obj)) (s:Shared) (σ:St) (H:Hp) (E:Value→Shared→Prop),Inv X pins σ H s→(∀ b∈fp,Lj X pins H b)→tn i s.heap→J.go i H →
    wpAny (model P w) X.A (pyNext (.ref it)) (fun r s1=>∃ u,r=some u ∧
      wpAny (model P w) X.A (letOwnedTupleGo tg (.ref it) u) (fun _ s2=>∃ x H',Inv X pins σ H' s2∧RelV x u∧J.yld i H x H'∧tn (i+1) s2.heap∧∀ b∈fp,H' b=none) E s1) E s
  done:∀ (X:Cx),X.prog=P→X.w=w→X.K=K→X.calm=true→∀ (i:Nat) (pins:List (Addr × Obj)) (s:Shared) (σ:St) (H:Hp) (E:Value→Shared→Prop),Inv X pins σ H s→(∀ b∈fp,Lj X pins H b)→tn i s.heap→J.stop i H →
    wpAny (model P w) X.A (pyNext (.ref it)) (fun r s1=>r=none∧Inv X pins σ H s1) E s
  self:∀ (A:Around) (i:Nat) (s:Shared) (Q:Value→Shared→Prop) (E:Value→Shared→Prop),tn i s.heap→Q (.ref it) s→wpAny (model P w) A (pyIter (.ref it)) Q E s
abbrev TI:=St→Hp→(It→Hp→Prop)→Prop
def PIE (X:Cx) (pins:List (Addr × Obj)) (σ:St) (tg:Expr) (R:It→Hp→Prop) (itv:Value) (s2:Shared):Prop :=
  ∃ (it:Addr) (fp:List Addr) (tn:Nat→Heap→Prop) (J:It) (H':Hp),itv=.ref it∧Inv X pins σ H' s2∧Turn X.prog X.w X.K tg J fp it tn∧tn 0 s2.heap∧(∀ b∈fp,Lj X pins H' b)∧R J H'
def PI (X:Cx) (tg iter:Expr) (wi:TI):Prop :=
  ∀ (pins:List (Addr × Obj)) (s:Shared) (σ:St) (H:Hp) (R:It→Hp→Prop),Inv X pins σ H s→wi σ H R →
    wpAny (model X.prog X.w) X.A (eval iter X.env) (fun v s1=>wpAny (model X.prog X.w) X.A (pyIter v) (PIE X pins σ tg R) X.xe s1) X.xe s
theorem Zo {M:Model} {A:Around} {E:Value→Shared→Prop} {s:Shared} {tg:Expr} {it:Addr} {u:Value} {o:Obj} {n:String} {vs:Array Value} {Q:Unit→Shared→Prop} (ho:s.heap.get? it=some o) (hc:o.cls=.type n) (hd:o.data=.fields vs)
    (hn:["enumerate","zip","dict_itemiterator","dict_reverseitemiterator","odict_iterator","itertools.zip_longest","itertools.pairwise"].contains n=false) (hQ:Q () s):wpAny M A (letOwnedTupleGo tg (.ref it) u) Q E s:=by
  unfold letOwnedTupleGo
  cases tg <;> first
    | exact wpAny_pure hQ
    | (cases u <;> first
        | exact wpAny_pure hQ
        | (refine wpAny_bind (wpAny_load ho ?_)
           rw [hc,hd]
           show wpAny M A (if (["enumerate","zip","dict_itemiterator","dict_reverseitemiterator","odict_iterator","itertools.zip_longest","itertools.pairwise"].contains n&&vs[0]? == some (rawInt _))=true then _ else _) Q E s
           rw [if_neg (by intro h; rw [hn,Bool.false_and] at h; cases h)]
           exact wpAny_pure hQ))
def Itl (K:PySem.W.Frag) (a:Addr):It :=
  ⟨fun i H=>∃ xs x,SqL K H a xs∧xs[i]? = some x,fun i H x H'=>H'=H∧∀ xs,SqL K H a xs→xs[i]? = some x,fun i H=>∃ xs,SqL K H a xs∧xs.length≤i⟩
def Itt (K:PySem.W.Frag) (a:Addr):It :=
  ⟨fun i H=>∃ xs x,SqT K H a xs∧xs[i]? = some x,fun i H x H'=>H'=H∧∀ xs,SqT K H a xs→xs[i]? = some x,fun i H=>∃ xs,SqT K H a xs∧xs.length≤i⟩
def Itr (lo:Int) (n:Nat):It:=⟨fun i _=>i<n,fun i H x H'=>H'=H∧x=.int (lo+i),fun i _=>n≤i⟩
theorem Ut {P:Program} {w:World} {K:PySem.W.Frag} {tg:Expr} (a it:Addr):Turn P w K tg (Itl K a) [it] it (fun i h=>h.IsListIter it a i) where
  mem:=by simp
  obj:=fun i h st b hb=>by
    have e:b=it:=by simpa using hb
    subst e
    obtain ⟨o,e,c,d⟩:=st
    exact ⟨o,e,fun v z=>by rw [d] at z; cases z⟩
  keep:=fun i h h' st k=>st.at fun o e=>k it (by simp) o e
  item:=by
    intro X hP hw hK hc i pins s σ H E I hf st hg
    subst hP hw hK
    obtain ⟨xs,x,hq,hx⟩:=hg
    obtain ⟨its,rv,p,hz⟩:=I.list hq
    obtain ⟨u,hu,ru⟩:=rv.get hx
    obtain ⟨f0,f1,f2,f3,f4,f5⟩:=hf it (by simp)
    refine wpAny_pyNext_list_item st p.isList (x:=u) (by simpa using hu) fun h' st' sb=>?_
    have I1:Inv X pins σ H { s with heap:=h' }:=I.turned (t':=s.toks) (fun b o hb e=>(sb.2 b hb).trans e) f0 f1 f3 f4 f5
    obtain ⟨o,e,c,d⟩:=id st'
    exact ⟨u,rfl,Zo (s:={ s with heap:=h' }) e c d (by decide) ⟨x,H,I1,ru,⟨rfl,fun ys hy=>by rw [I.Pq hy hq]; exact hx⟩,st',fun b hb=>(hf b hb).1⟩⟩
  done:=by
    intro X hP hw hK hc i pins s σ H E I hf st hg
    subst hP hw hK
    obtain ⟨xs,hq,hx⟩:=hg
    obtain ⟨its,rv,p,hz⟩:=I.list hq
    obtain ⟨f0,f1,f2,f3,f4,f5⟩:=hf it (by simp)
    have hl:=rv.length
    exact wpAny_pyNext_list_end (I.ok.hd hc) st p.isList (by simp; omega) fun h' eb=>⟨rfl,I.turned (t':=s.toks) (fun b o hb e=>eb b o hb e) f0 f1 f3 f4 f5⟩
  self:=fun _ _ _ _ _ st h=>wpAny_pyIter_listiter st h
theorem Qu {P:Program} {w:World} {K:PySem.W.Frag} {tg:Expr} (a it:Addr):Turn P w K tg (Itt K a) [it] it (fun i h=>h.IsTupleIter it a i) where
  mem:=by simp
  obj:=fun i h st b hb=>by
    have e:b=it:=by simpa using hb
    subst e
    obtain ⟨o,e,c,d⟩:=st
    exact ⟨o,e,fun v z=>by rw [d] at z; cases z⟩
  keep:=fun i h h' st k=>st.at fun o e=>k it (by simp) o e
  item:=by
    intro X hP hw hK hc i pins s σ H E I hf st hg
    subst hP hw hK
    obtain ⟨xs,x,hq,hx⟩:=hg
    obtain ⟨its,rv,p,hz⟩:=I.tuple hq
    obtain ⟨u,hu,ru⟩:=rv.get hx
    obtain ⟨f0,f1,f2,f3,f4,f5⟩:=hf it (by simp)
    refine wpAny_pyNext_tuple_item st (show s.heap.IsTuple a its.toArray from p) (x:=u) (by simpa using hu) fun h' st' sb=>?_
    have I1:Inv X pins σ H { s with heap:=h' }:=I.turned (t':=s.toks) (fun b o hb e=>(sb.2 b hb).trans e) f0 f1 f3 f4 f5
    obtain ⟨o,e,c,d⟩:=id st'
    exact ⟨u,rfl,Zo (s:={ s with heap:=h' }) e c d (by decide) ⟨x,H,I1,ru,⟨rfl,fun ys hy=>by rw [I.Rx hy hq]; exact hx⟩,st',fun b hb=>(hf b hb).1⟩⟩
  done:=by
    intro X hP hw hK hc i pins s σ H E I hf st hg
    subst hP hw hK
    obtain ⟨xs,hq,hx⟩:=hg
    obtain ⟨its,rv,p,hz⟩:=I.tuple hq
    obtain ⟨f0,f1,f2,f3,f4,f5⟩:=hf it (by simp)
    have hl:=rv.length
    exact wpAny_pyNext_tuple_end (I.ok.hd hc) st (show s.heap.IsTuple a its.toArray from p) (by simp; omega) fun h' eb=>⟨rfl,I.turned (t':=s.toks) (fun b o hb e=>eb b o hb e) f0 f1 f3 f4 f5⟩
  self:=fun _ _ _ _ _ st h=>wpAny_pyIter_tupleiter st h
theorem Qd {P:Program} {w:World} {K:PySem.W.Frag} {tg:Expr} (it:Addr) (lo:Int) (n:Nat):Turn P w K tg (Itr lo n) [it] it (fun i h=>IsRangeIter h it (lo+(i:Nat) * 1) ((n:Int) - (i:Nat)) 1) where
  mem:=by simp
  obj:=fun i h st b hb=>by
    have e:b=it:=by simpa using hb
    subst e
    exact ⟨_,st,fun v z=>by
      have z':Data.fields _=Data.cell v:=z
      cases z'⟩
  keep:=fun i h h' st k=>k it (by simp) _ st
  item:=by
    intro X hP hw hK hc i pins s σ H E I hf st hg
    subst hP hw hK
    obtain ⟨f0,f1,f2,f3,f4,f5⟩:=hf it (by simp)
    have W:=Walks.range (prog:=X.prog) (w:=X.w) (I.ok.hd hc) it lo 1 n
    refine W.item i s _ _ hg st fun v h' tk hv st' kk=>?_
    obtain ⟨t,rfl⟩:=hv
    have I1:Inv X pins σ H { s with heap:=h',toks:=tk }:=I.turned (fun b o hb e=>kk b o (by simpa using hb) e) f0 f1 f3 f4 f5
    refine ⟨_,rfl,Zo (s:={ s with heap:=h',toks:=tk }) (n := "range_iterator") st' rfl rfl (by decide) ⟨.int (lo+i),H,I1,⟨t,?_⟩,⟨rfl,rfl⟩,st',fun b hb=>(hf b hb).1⟩⟩
    rw [Int.mul_one]
  done:=by
    intro X hP hw hK hc i pins s σ H E I hf st hg
    subst hP hw hK
    obtain ⟨f0,f1,f2,f3,f4,f5⟩:=hf it (by simp)
    exact wpAny_pyNext_range_end (I.ok.hd hc) st (by have:n≤i:=hg; omega) fun h' eb=>⟨rfl,I.turned (t':=s.toks) (fun b o hb e=>eb b o hb e) f0 f1 f3 f4 f5⟩
  self:=fun _ _ _ _ _ st h=>wpAny_pyIter_rangeiter st h
end L2
namespace L2
open PySem PySem.Spec PyProof.Rows
section
variable {X:Cx} {tg:Expr}
theorem Wc {pins:List (Addr × Obj)} {σ:St} {H:Hp} {s:Shared} {R:It→Hp→Prop} {E:Value→Shared→Prop} {lo hi:Int} {t u v:Tok} {tk:Nat} (I:Inv X pins σ H s) (h1:-(2 ^ 62)≤lo) (h2:lo<2 ^ 62) (h3:-(2 ^ 62)≤hi) (h4:hi<2 ^ 62)
    (q:R (Itr lo (hi - lo).toNat) H):wpAny (model X.prog X.w) X.A (pyIter (.ref s.heap.objs.size)) (PIE X pins σ tg R) E { s with heap:=s.heap.push { cls:=.type "range",data:=.fields #[.int lo t,.int hi u,.int 1 v] },toks:=tk }:=by
  refine wpAny_pyIter_range (IsRange.new ..) (small_one h1 h2 h3 h4) ?_
  have I1:Inv X pins σ H { s with heap:=s.heap.push { cls:=.type "range",data:=.fields #[.int lo t,.int hi u,.int 1 v] },toks:=tk }:=I.kept fun b o e=>Heap.get?_push_of_some _ e
  refine ⟨(s.heap.push { cls:=.type "range",data:=.fields #[.int lo t,.int hi u,.int 1 v] }).objs.size,[(s.heap.push { cls:=.type "range",data:=.fields #[.int lo t,.int hi u,.int 1 v] }).objs.size],_,_,H,rfl,
    I1.kept (t':=tk) fun b o e=>Heap.get?_push_of_some _ e,Qd _ lo (hi - lo).toNat,?_,fun b hb=>?_,q⟩
  · have e1:lo+((0:Nat):Int) * 1=lo:=by simp
    have e2:(((hi - lo).toNat:Nat):Int) - ((0:Nat):Int)=Builtin.Range.rangeSize lo hi 1:=by rw [rangeSize_one]; split <;> omega
    show IsRangeIter _ _ (lo+((0:Nat):Int) * 1) ((((hi - lo).toNat:Nat):Int) - ((0:Nat):Int)) 1
    rw [e1,e2]
    exact Heap.get?_push_size _ rfl
  · have e:b=(s.heap.push { cls:=.type "range",data:=.fields #[.int lo t,.int hi u,.int 1 v] }).objs.size:=by simpa using hb
    subst e
    exact I1.a3h (Nat.le_refl _) (I1.hok.fresh (Nat.le_refl _))
def a5j (ta:TA):TI:=fun σ H R=>ta σ H fun vs H1=>∃ j:Int,vs=[.int j]∧-(2 ^ 62)≤j∧j<2 ^ 62∧R (Itr 0 j.toNat) H1
theorem W0 {a:Expr} {ta:TA} {p pos:Pos} (hg:Gl X "range") (hm:X.mg "range" = none) (ha:PA X [a] ta) (hs:starEach [a] X.env=[(false,eval a X.env)]:=by rfl):PI X tg (.Call (.Name "range" p) [a] [] pos) (a5j ta):=by
  intro pins s σ H R I h
  refine Call_ (Ko I hg hm boot_range (PyProof.Rows.callWith_type1 (thn (ha pos pins s σ H _ I h) fun us s1 z0=>?_) hs rfl))
  obtain ⟨vs,H1,I1,r1,q1⟩:=z0
  obtain ⟨j,e,q1,q2,q⟩:=q1
  subst e
  cases r1 with
  | cons r rr =>
    cases rr
    obtain ⟨t,rfl⟩:=r
    exact call_range_1 (Wc I1 (by omega) (by omega) q1 q2 (by simpa using q))
def a7t (wi:TI) (g:TG) (tb:TS):TS:=fun D σ H=>wi σ H fun J H1=>∃ W:Nat→Nat→St→Hp→Prop,(∃ m,W 0 m σ H1)∧∀ i m σ H,W i m σ H →
  (J.stop i H∧D.nx σ H)∨(J.go i H∧∃ N:St→Hp→Prop,(∀ σ' H',N σ' H'→∃ m',m'<m∧W (i+1) m' σ' H')∧∀ x H',J.yld i H x H'→g x σ H' fun σ2 H2=>tb { D with nx:=N,ct:=N,bk:=D.nx } σ2 H2)
def Kl (fp:List Addr) (h:Heap):List (Addr × Obj):=fp.filterMap fun b=>(h.get? b).map fun o=>(b,o)
theorem vf {fp:List Addr} {h:Heap} {b:Addr} {o:Obj} (hb:b∈fp) (e:h.get? b=some o):(b,o)∈Kl fp h:=List.mem_filterMap.mpr ⟨b,hb,by rw [e]; rfl⟩
theorem Ua {fp:List Addr} {h:Heap} {p:Addr × Obj} (hp:p∈Kl fp h):p.1∈fp∧h.get? p.1=some p.2:=by
  obtain ⟨b,hb,e⟩:=List.mem_filterMap.mp hp
  cases q:h.get? b with
  | none=>rw [q] at e; cases e
  | some o =>
    rw [q] at e
    have e':(b,o)=p:=Option.some.inj e
    subst e'
    exact ⟨hb,q⟩
theorem Inv.pinned {pins:List (Addr × Obj)} {σ:St} {H:Hp} {s:Shared} {fp:List Addr} (I:Inv X pins σ H s) (hf:∀ b∈fp,Lj X pins H b) (ho:∀ b∈fp,∃ o,s.heap.get? b=some o∧∀ v,o.data≠.cell v):Inv X (pins++Kl fp s.heap) σ H s :=
  I.Cj fun p hp=>(List.mem_append.mp hp).elim (fun z=>I.pin p (List.mem_append_right _ z)) fun z=>by
    obtain ⟨hb,e⟩:=Ua z
    obtain ⟨f0,f1,f2,_⟩:=hf p.1 hb
    obtain ⟨o,e',d⟩:=ho p.1 hb
    rw [e] at e'; cases e'
    exact ⟨e,f0,f1,f2,d⟩
theorem Inv.Bo {pins pl:List (Addr × Obj)} {σ:St} {H:Hp} {s:Shared} (I:Inv X (pins++pl) σ H s):Inv X pins σ H s:=I.Cj fun p hp=>I.pin p (List.mem_append_right _ (List.mem_append_left _ hp))
theorem Z4 {iter:Expr} {body:List Stmt} {wi:TI} {g:TG} {tb:TS} {pos:Pos} (hp:PassesOwn (model X.prog X.w) X.A X.env X.xe) (hc:X.calm=true) (hi:PI X tg iter wi) (hg:PG X tg g) (hb:PSs X body tb)
    (hs:∀ x,foldedSetIterable iter X.env x=pure x:=by intro _; rfl):PS X (.For tg iter body [] pos) (a7t wi g tb):=by
  intro pins s σ H D I h
  refine wpAny_For (thn (hi pins s σ H _ I h) fun v s1 h1=>thn h1 fun itv s2 h2=>?_) hs
  obtain ⟨it,fp,tn,J,H2,e,I2,T,st2,f2,W,⟨m0,w0⟩,turn⟩:=h2
  subst e
  have stat:∀ {H':Hp},(∀ b∈fp,H' b=none)→∀ b∈fp,Lj X pins H' b:=fun hn b hb=>⟨hn b hb,(f2 b hb).2⟩
  refine codeAny_forLoop_any (fun n s'=>∃ i σ' H',Inv X pins σ' H' s'∧tn i s'.heap∧(∀ b∈fp,H' b=none)∧W i n σ' H') ?_ m0 ⟨0,σ,H2,I2,st2,fun b hb=>(f2 b hb).1,w0⟩
  rintro n s3 ⟨i,σ3,H3,I3,st3,fr3,w3⟩
  rcases turn i n σ3 H3 w3 with ⟨stop,qn⟩ | ⟨go,N,hN,step⟩
  · refine wpAny_passesOwn hp (thn (T.done X rfl rfl rfl hc i pins s3 σ3 H3 X.xe I3 (stat fr3) st3 stop) fun r s4 z0=>?_)
    obtain ⟨hr,I4⟩:=z0
    subst hr
    exact wpAny_execs_nil ⟨σ3,H3,I4,qn⟩
  · refine wpAny_passesOwn hp (thn (T.item X rfl rfl rfl hc i pins s3 σ3 H3 X.xe I3 (stat fr3) st3 go) fun r s4 z0=>?_)
    obtain ⟨u,hr,h4⟩:=z0
    subst hr
    refine wpAny_passesOwn hp (thn h4 fun _ s5 z0=>?_)
    obtain ⟨x,H5,I5,r5,y5,st5,fr5⟩:=z0
    have I5':=I5.pinned (stat fr5) (T.obj _ _ st5)
    refine wpAny_passesOwn hp (thn (hg _ s5 σ3 H5 x u _ I5' r5 (step x H5 y5)) fun _ s6 z0=>?_)
    obtain ⟨σ6,H6,I6,q6⟩:=z0
    refine wpAny_passesOwn hp (thn (hb _ s6 σ6 H6 _ I6 q6) fun f s7 q7=>?_)
    have again:∀ {σ7:St} {H7:Hp},Inv X (pins++Kl fp s5.heap) σ7 H7 s7→N σ7 H7→∃ m,m<n∧∃ i σ' H',Inv X pins σ' H' s7∧tn i s7.heap∧(∀ b∈fp,H' b=none)∧W i m σ' H':=fun {σ7 H7} I7 n7=>by
      obtain ⟨m',hm,w7⟩:=hN σ7 H7 n7
      refine ⟨m',hm,i+1,σ7,H7,I7.Bo,T.keep _ _ _ st5 fun b hb o e=>(I7.pin (b,o) (List.mem_append_right _ (List.mem_append_right _ (vf hb e)))).1,fun b hb=>?_,w7⟩
      obtain ⟨o,e,d⟩:=T.obj _ _ st5 b hb
      exact (I7.pin (b,o) (List.mem_append_right _ (List.mem_append_right _ (vf hb e)))).2.1
    cases f with
    | next=>obtain ⟨σ7,H7,I7,n7⟩:=q7; exact again I7 n7
    | cont=>obtain ⟨σ7,H7,I7,n7⟩:=q7; exact again I7 n7
    | brk=>obtain ⟨σ7,H7,I7,q7⟩:=q7; exact ⟨σ7,H7,I7.Bo,q7⟩
    | ret v=>obtain ⟨x7,σ7,H7,I7,r7,q7⟩:=q7; exact ⟨x7,σ7,H7,I7.Bo,r7,q7⟩
end
end L2
namespace L2
open PySem PySem.Spec PyProof.Rows
abbrev R2:=V→V→Hp→VK→Prop
def OpR (X:Cx) (f:Value→Value→Sem Value) (r:R2):Prop :=
  ∀ (pins:List (Addr × Obj)) (s:Shared) (σ:St) (H:Hp) (x y:V) (v u:Value) (Q:VK),Inv X pins σ H s→RelV x v→RelV y u→r x y H Q →
    wpAny (model X.prog X.w) X.A (f v u) (EP X pins σ Q) X.xe s
def UnR (X:Cx) (f:Value→Sem Value) (r:V→Hp→VK→Prop):Prop :=
  ∀ (pins:List (Addr × Obj)) (s:Shared) (σ:St) (H:Hp) (x:V) (v:Value) (Q:VK),Inv X pins σ H s→RelV x v→r x H Q →
    wpAny (model X.prog X.w) X.A (f v) (EP X pins σ Q) X.xe s
def Aa (X:Cx) (f:Value) (r:List V→Hp→VK→Prop):Prop :=
  ∀ (pins:List (Addr × Obj)) (s:Shared) (σ:St) (H:Hp) (xs:List V) (us:List Value) (Q:VK),Inv X pins σ H s→Vals xs us→r xs H Q →
    wpAny (model X.prog X.w) X.A (call f us) (EP X pins σ Q) X.xe s
def tOp (r:R2) (ta tb:TE):TE:=fun σ H Q=>ta σ H fun x H1=>tb σ H1 fun y H2=>r x y H2 Q
def tUn (r:V→Hp→VK→Prop) (ta:TE):TE:=fun σ H Q=>ta σ H fun x H1=>r x H1 Q
def rI (C:Int→Int→Prop) (g:Int→Int→V):R2:=fun x y H Q=>∃ i j,x=.int i∧y=.int j∧C i j∧Q (g i j) H
def rI0 (g:Int→Int→V):R2:=fun x y H Q=>∃ i j,x=.int i∧y=.int j∧Q (g i j) H
def rU (g:Int→V):V→Hp→VK→Prop:=fun x H Q=>∃ i,x=.int i∧Q (g i) H
section
variable {X:Cx} {a b c:Expr} {ta tb tc:TE} {pos:Pos}
theorem a6q (ha:PE X a ta) (hb:PE X b tb) {pins:List (Addr × Obj)} {s:Shared} {σ:St} {H:Hp} {R:V→V→Hp→Prop} (I:Inv X pins σ H s)
    (h:ta σ H fun x H1=>tb σ H1 fun y H2=>R x y H2) {Q:Value→Shared→Prop} {f:Value→Value→Sem Value}
    (hf:∀ v u s2 x y H2,Inv X pins σ H2 s2→RelV x v→RelV y u→R x y H2→wpAny (model X.prog X.w) X.A (f v u) Q X.xe s2) :
    wpAny (model X.prog X.w) X.A (eval a X.env) (fun v s₁=>wpAny (model X.prog X.w) X.A (eval b X.env) (fun u s₂=>wpAny (model X.prog X.w) X.A (f v u) Q X.xe s₂) X.xe s₁) X.xe s:=by
  refine thn (ha pins s σ H _ I h) fun v s1 z0=>?_
  obtain ⟨x,H1,I1,r1,q1⟩:=z0
  refine thn (hb pins s1 σ H1 _ I1 q1) fun u s2 z0=>?_
  obtain ⟨y,H2,I2,r2,q2⟩:=z0
  exact hf v u s2 x y H2 I2 r1 r2 q2
theorem a2c {op:Operator} {r:R2} (ho:OpR X (binaryOp op) r) (ha:PE X a ta) (hb:PE X b tb):PE X (.BinOp a op b pos) (tOp r ta tb):=by
  intro pins s σ H Q I h
  exact wpAny_BinOp (a6q ha hb I h fun v u s2 x y H2 I2 rx ry q=>ho pins s2 σ H2 x y v u Q I2 rx ry q)
theorem a6l {op:UnaryOp} {r:V→Hp→VK→Prop} (ho:UnR X (unaryOp op) r) (ha:PE X a ta):PE X (.UnaryOp op a pos) (tUn r ta):=by
  intro pins s σ H Q I h
  exact UnaryOp_ (thn (ha pins s σ H _ I h) fun v s1 z7=>by obtain ⟨x,H1,I1,r1,q1⟩:=z7; exact ho pins s1 σ H1 x v Q I1 r1 q1)
theorem opI {f:Value→Value→Sem Value} {C:Int→Int→Prop} {g:Int→Int→Int}
    (rule:∀ (i j:Int) (t u:Tok) (s:Shared) (Q:Value→Shared→Prop) (E:Value→Shared→Prop),C i j→Q (.int (g i j) s.toks) { s with toks:=s.toks+1 }→wpAny (model X.prog X.w) X.A (f (.int i t) (.int j u)) Q E s) :
    OpR X f (rI C fun i j=>.int (g i j)):=by
  intro pins s σ H x y v u Q I rx ry h
  obtain ⟨i,j,rfl,rfl,hc,q⟩:=h
  obtain ⟨t,rfl⟩:=rx
  obtain ⟨t',rfl⟩:=ry
  exact rule i j t t' s _ _ hc ⟨.int (g i j),H,I.tok _,⟨_,rfl⟩,q⟩
theorem a75 {f:Value→Value→Sem Value} {g:Int→Int→Int}
    (rule:∀ (i j:Int) (t u:Tok) (s:Shared) (Q:Value→Shared→Prop) (E:Value→Shared→Prop),Q (.int (g i j) s.toks) { s with toks:=s.toks+1 }→wpAny (model X.prog X.w) X.A (f (.int i t) (.int j u)) Q E s) :
    OpR X f (rI0 fun i j=>.int (g i j)):=by
  intro pins s σ H x y v u Q I rx ry h
  obtain ⟨i,j,rfl,rfl,q⟩:=h
  obtain ⟨t,rfl⟩:=rx
  obtain ⟨t',rfl⟩:=ry
  exact rule i j t t' s _ _ ⟨.int (g i j),H,I.tok _,⟨_,rfl⟩,q⟩
theorem a7z {f:Value→Value→Sem Value} {g:Int→Int→Bool}
    (rule:∀ (i j:Int) (t u:Tok) (s:Shared) (Q:Value→Shared→Prop) (E:Value→Shared→Prop),Q (.bool (g i j)) s→wpAny (model X.prog X.w) X.A (f (.int i t) (.int j u)) Q E s) :
    OpR X f (rI0 fun i j=>.bl (g i j)):=by
  intro pins s σ H x y v u Q I rx ry h
  obtain ⟨i,j,rfl,rfl,q⟩:=h
  obtain ⟨t,rfl⟩:=rx
  obtain ⟨t',rfl⟩:=ry
  exact rule i j t t' s _ _ ⟨.bl (g i j),H,I,rfl,q⟩
def a6g (i j:Int):Prop:=(-(2 ^ 64)<i∧i<2 ^ 64)∨(-(2 ^ 64)<j∧j<2 ^ 64)
theorem a6g.ok {i j:Int} (h:a6g i j):IntMulOk i j:=by
  rcases h with ⟨h1,h2⟩ | ⟨h1,h2⟩
  · exact .of_left (intBits_le_64 h1 h2)
  · exact .of_right (intBits_le_64 h1 h2)
theorem a3q:OpR X (binaryOp .Add) (rI0 fun i j=>.int (i+j)):=a75 fun _ _ _ _ _ _ _ q=>add_int q
theorem a2p:OpR X (binaryOp .Sub) (rI0 fun i j=>.int (i - j)):=a75 fun _ _ _ _ _ _ _ q=>sub_int q
theorem a2m:OpR X (binaryOp .Mult) (rI a6g fun i j=>.int (i * j)):=opI fun _ _ _ _ _ _ _ hc q=>mul_int q hc.ok
theorem a2r:OpR X (binaryOp .Mod) (rI (fun _ j=>0<j) fun i j=>.int (i%j)):=opI fun i j _ _ _ _ _ hc q=>by
  have h1:(0:Int)<j:=hc
  exact mod_int' (by omega) (by rw [Int.fmod_eq_emod_of_nonneg i (by omega)]; exact q)
theorem unI {f:Value→Sem Value} {g:Int→Int}
    (rule:∀ (i:Int) (t:Tok) (s:Shared) (Q:Value→Shared→Prop) (E:Value→Shared→Prop),Q (.int (g i) s.toks) { s with toks:=s.toks+1 }→wpAny (model X.prog X.w) X.A (f (.int i t)) Q E s) :
    UnR X f (rU fun i=>.int (g i)):=by
  intro pins s σ H x v Q I rx h
  obtain ⟨i,rfl,q⟩:=h
  obtain ⟨t,rfl⟩:=rx
  exact rule i t s _ _ ⟨.int (g i),H,I.tok _,⟨_,rfl⟩,q⟩
theorem a3d:UnR X (unaryOp .USub) (rU fun i=>.int (-i)):=unI fun _ _ _ _ _ q=>neg_int q
end
section
variable {X:Cx} {a b c:Expr} {ta tb tc:TE} {pos:Pos}
theorem Yx {pins:List (Addr × Obj)} {σ:St} {H:Hp} {s:Shared} {Q:VK} {k k':Bool} (I:Inv X pins σ H s) (q:Q (.bl k) H) (e:k=k'):EP X pins σ Q (.bool k') s:=by
  subst e
  exact ⟨.bl k,H,I,rfl,q⟩
theorem a6m:OpR X (compareOp .Lt) (rI0 fun i j=>.bl (decide (i<j))):=a7z fun _ _ _ _ _ _ _ q=>lt_int q
theorem a2f:OpR X (compareOp .Is) (fun x y H Q=>y=.non∧Q (.bl (decide (x=.non))) H):=by
  intro pins s σ H x y v u Q I rx ry h
  obtain ⟨rfl,q⟩:=h
  cases ry
  refine is_none_gen (Yx I q ?_)
  cases x <;> first
    | (cases rx; rfl)
    | (obtain ⟨t,rfl⟩:=rx; rfl)
theorem a04:OpR X (compareOp .IsNot) (fun x y H Q=>y=.non∧Q (.bl (!decide (x=.non))) H):=by
  intro pins s σ H x y v u Q I rx ry h
  obtain ⟨rfl,q⟩:=h
  cases ry
  refine isnot_none_gen (Yx I q ?_)
  cases x <;> first
    | (cases rx; rfl)
    | (obtain ⟨t,rfl⟩:=rx; rfl)
theorem OpR.or {f:Value→Value→Sem Value} {r r':R2} (h:OpR X f r) (h':OpR X f r'):OpR X f (fun x y H Q=>r x y H Q∨r' x y H Q):=by
  intro pins s σ H x y v u Q I rx ry q
  rcases q with q | q
  · exact h pins s σ H x y v u Q I rx ry q
  · exact h' pins s σ H x y v u Q I rx ry q
theorem jf (b:Expr) {op:CmpOp} (h:op≠.In:=by decide) (h2:op≠.NotIn:=by decide):behindInMarks op b=false:=by
  have e1:(op==CmpOp.In)=false:=by cases op <;> first | rfl | exact absurd rfl h
  have e2:(op==CmpOp.NotIn)=false:=by cases op <;> first | rfl | exact absurd rfl h2
  cases b <;> simp [behindInMarks,e1,e2]
theorem N6 {op:CmpOp} {r:R2} (ho:OpR X (compareOp op) r) (ha:PE X a ta) (hb:PE X b tb) (hm:behindInMarks op b=false):PE X (.Compare a [op] [b] pos) (tOp r ta tb):=by
  intro pins s σ H Q I h
  exact wpAny_Compare1 (a6q ha hb I h fun v u s2 x y H2 I2 rx ry q=>ho pins s2 σ H2 x y v u Q I2 rx ry q) hm
def a3o (t:TE):TT:=fun σ H Q=>t σ H fun x H'=>∃ k,x=.bl k∧Q k H'
theorem Tq {op:CmpOp} {r:R2} (ho:OpR X (compareOp op) r) (ha:PE X a ta) (hb:PE X b tb) (hm:behindInMarks op b=false):PT X (.Compare a [op] [b] pos) (a3o (tOp r ta tb)):=by
  intro pins s σ H Q I h
  refine wpAny_isTrue_Compare1 (thn (ha pins s σ H _ I h) fun v s1 ⟨x,H1,I1,r1,q1⟩=>thn (hb pins s1 σ H1 _ I1 q1) fun u s2 ⟨y,H2,I2,r2,q2⟩ =>
    thn (ho pins s2 σ H2 x y v u _ I2 r1 r2 q2) fun c s3 ⟨z,H3,I3,r3,k,e,q3⟩=>?_) hm
  subst e
  cases r3
  exact wpAny_truthy_bool ⟨H3,I3,q3⟩
theorem Gn:(sizeLine:Nat)<2 ^ 63:=by rw [sizeLine_eq]; decide
theorem Q8:OpR X (binaryOp .Add) (fun x y H Q=>∃ i j,x=.str i∧y=.str j∧i.length+j.length≤sizeLine∧Q (.str (i++j)) H):=by
  intro pins s σ H x y v u Q I rx ry h
  obtain ⟨i,j,rfl,rfl,hz,q⟩:=h
  obtain ⟨t,rfl⟩:=rx
  obtain ⟨t',rfl⟩:=ry
  exact add_str (fun t' tk=>⟨.str (i++j),H,I.tok _,⟨_,rfl⟩,q⟩) hz
theorem vals1 {x:V} {us:List Value} (r:Vals [x] us):∃ u,us=[u]∧RelV x u:=by
  cases r with
  | cons r1 r2=>cases r2; exact ⟨_,rfl,r1⟩
theorem Ka:Aa X (.type "int") (fun xs H Q=>(∃ i,xs=[.int i]∧Q (.int i) H)∨∃ k,xs=[.bl k]∧Q (.int (if k then 1 else 0)) H):=by
  intro pins s σ H xs us Q I r h
  rcases h with ⟨i,rfl,q⟩ | ⟨k,rfl,q⟩
  · obtain ⟨u,rfl,t,rfl⟩:=vals1 r
    exact call_int_int ⟨.int i,H,I,⟨_,rfl⟩,q⟩
  · obtain ⟨u,rfl,r1⟩:=vals1 r
    cases r1
    exact call_int_bool ⟨.int (if k then 1 else 0),H,I.tok _,⟨_,rfl⟩,q⟩
end
end L2
namespace L2
open PySem PySem.Spec PyProof.Rows
structure a82 (h:Heap) (x dx C:Addr) (mA:Str→Option Value):Prop where
  obj:h.get? x=some (PySem.W.instObj C dx)
  ns:h.Ns1 dx mA
  ne:dx≠x
section
variable {prog:Program} {w:World} {A:Around} {E:Value→Shared→Prop} {s:Shared} {K:PySem.W.Frag} {x dx C f:Addr} {mA:Str→Option Value} {name:Str} {v:Value}
end
theorem J9.some_of {v:V} {o:Option Value} (r:J9 (some v) o):∃ u,o=some u∧RelV v u:=by
  cases o with
  | none=>exact (show False from r).elim
  | some u=>exact ⟨u,rfl,r⟩
theorem J9.none_of {o:Option Value} (r:J9 none o):o=none:=by
  cases o with
  | none=>rfl
  | some u=>exact (show False from r).elim
section
variable {P:Program} {w:World} {H H':Hp} {h h':Heap} {a C dx:Addr} {fs fs':List (Str × V)}
end
structure Cls (K:PySem.W.Frag) (C:Addr):Prop where
  pg:PySem.W.plainGet K C Str.empty=true
  hd:PySem.W.hasDictIn K C=true
  po:PySem.W.plainOver K C=true
  sa:PySem.W.findIn K (.ref C) "__setattr__" = some (some (.builtin "object.__setattr__"))
theorem Cls.get {K:PySem.W.Frag} {C:Addr} (c:Cls K C) (f:Str):PySem.W.plainGet K C f=true:=c.pg
structure Con (K:PySem.W.Frag) (C:Addr) (f:Str) (v:V) (u:Value):Prop where
  at_:PySem.W.findIn K (.ref C) f=some (some u)
  rel:RelV v u
  get:PySem.W.specialIn K u "__get__" = some none
  cp:PySem.W.copiedNames.contains f=false
structure Meth (K:PySem.W.Frag) (C:Addr) (m:Str) (f:Addr):Prop where
  at_:PySem.W.findIn K (.ref C) m=some (some (.ref f))
  fn:PySem.W.isFn K (.ref f)=true
  kp:PySem.W.keepIn K (.ref f)=true
section
variable {X:Cx} {pins:List (Addr × Obj)} {σ:St} {H:Hp} {s:Shared} {a C dx:Addr} {fs:List (Str × V)} {f:Str} {v:V} {A:Around} {E:Value→Shared→Prop}
theorem a1c {prog:Program} {w:World} {env:Env} {e:Expr} {f:Str} {pos:Pos} {s:Shared} {Q:Value→Shared→Prop} (hb:attributeBase e f env (eval e env)=eval e env)
    (h:wpAny (model prog w) A (eval e env) (fun o s₁=>wpAny (model prog w) A (getAttr o f true) Q E s₁) E s):wpAny (model prog w) A (eval (.Attribute e f pos) env) Q E s :=
  Attribute_any_ h (by rw [arm_eval_Attribute,hb])
end
section
variable {X:Cx} {o e value:Expr} {f:Str} {pos pos' tpos:Pos} {ta tv:TE}
end
section
variable {X:Cx} {pins:List (Addr × Obj)} {σ:St} {H:Hp} {s:Shared} {A:Around} {E:Value→Shared→Prop} {Q:Value→Shared→Prop} {c:Value} {b:Bool}
inductive W4 (K:PySem.W.Frag) (H:Hp):V→Value→Prop where
  | non:W4 K H .non (.type "NoneType")
  | bl (x:Bool):W4 K H (.bl x) (.type "bool")
  | int (i:Int):W4 K H (.int i) (.type "int")
  | str (x:Str):W4 K H (.str x) (.type "str")
  | flt (x:UInt64):W4 K H (.flt x) (.type "float")
  | lst {a:Addr} {xs:List V} (e:H a=some (.lst xs)):W4 K H (.ref a) (.type "list")
  | frz {a:Addr} {o:Obj} {xs:List V} (e:H a=some (.frz o (.lst xs))):W4 K H (.ref a) (.type "list")
  | tup {a:Addr} {xs:List V} (e:H a=some (.tup xs)):W4 K H (.ref a) (.type "tuple")
  | dK {a:Addr} {kvs:List (Key × V)} (e:H a=some (.dK kvs)):W4 K H (.ref a) (.type "dict")
  | dT {a:Addr} {kvs:List (List Key × V)} (e:H a=some (.dT kvs)):W4 K H (.ref a) (.type "dict")
  | ins {a C dx:Addr} {fs:List (Str × V)} (e:H a=some (.ins C dx fs)) (cl:Cls K C) (ha:PySem.W.findIn K (.ref C) "__class__" = some (some (.builtin "object.__class__")))
      (hn:PySem.W.specialIn K (.builtin "object.__class__") "__get__" = some (some (.builtin "getset_descriptor.__get__"))) (htk:PySem.W.takesIn K (.builtin "object.__class__")=some true)
      (hm:PySem.W.mroIn K C (.type "object")=some true):W4 K H (.ref a) (.ref C)
end
end L2
namespace L2
open PySem PySem.Spec PyProof.Rows
structure xq (k:Nat) (A:Around):Prop where
  hd:A.handled=none
  dp:A.depth+3 * k+5<recursionLimit
  un:A.units+16 * k+200<cLine
theorem xq.mono {j k:Nat} {A:Around} (r:xq k A) (h:j≤k):xq j A:=⟨r.hd,by have:=r.dp; omega,by have:=r.un; omega⟩
theorem xq.deeper {k:Nat} {A:Around} (r:xq (k+1) A) (env:Env):xq k (A.deeper env) :=
  ⟨r.hd,by have:=r.dp; show A.depth+1+3 * k+5<_; omega,by have:=r.un; show A.units+3+16 * k+200<_; omega⟩
theorem Rb {A:Around} {C:Addr} {us:List Value} {kw:List (Str × Value)}:(A.under (.builtin "type.__call__" ⟨.ref C::us,kw⟩)).depth=A.depth+1:=by
  first | rfl | simp [Around.under,Code.weight,Code.isCreation,Code.isGuard,Code.isCaller,Code.frames,Code.isFrame,guardIds]
theorem Qy {A:Around} {C:Addr} {us:List Value} {kw:List (Str × Value)}:(A.under (.builtin "type.__call__" ⟨.ref C::us,kw⟩)).units=A.units+1:=by
  first | rfl | simp [Around.under,Code.cUnits,Code.frames,Code.isFrame]
theorem xq.make {k:Nat} {A:Around} (r:xq (k+1) A) (C:Addr) (us:List Value) (kw:List (Str × Value)):xq k (A.under (.builtin "type.__call__" ⟨.ref C::us,kw⟩)) :=
  ⟨r.hd,by have:=r.dp; rw [Rb]; omega,by have:=r.un; rw [Qy]; omega⟩
theorem xq.depth {k:Nat} {A:Around} (r:xq k A):A.depth<recursionLimit:=by have:=r.dp; omega
theorem xq.units {k:Nat} {A:Around} (r:xq k A):A.units+64<cLine:=by have:=r.un; omega
def Yy:TA:=fun _ H Q=>Q [] H
def G3 (ta:TE) (tr:TA):TA:=fun σ H Q=>ta σ H fun x H1=>tr σ H1 fun xs H2=>Q (x::xs) H2
section
variable {X:Cx} {e:Expr} {es:List Expr} {te:TE} {t:TA} {pos:Pos}
theorem qg:PA X [] Yy:=fun _ _ _ _ H Q I h=>Calls.spliced_nil ⟨[],H,I,.nil,h⟩
theorem jj (ha:PE X e te) (hr:PA X es t) (hs:starEach (e::es) X.env=(false,eval e X.env)::starEach es X.env:=by rfl):PA X (e::es) (G3 te t):=by
  intro pos pins s σ H Q I h
  rw [hs]
  show wpAny _ _ (spliced ((false,eval e X.env)::backTo pos (starEach es X.env))) _ _ s
  refine Calls.spliced_cons (thn (ha pins s σ H _ I h) fun u s1 z0=>?_)
  obtain ⟨x,H1,I1,r1,q1⟩:=z0
  exact thn (hr pos pins s1 σ H1 _ I1 q1) fun us s2 ⟨xs,H2,I2,r2,q2⟩=>⟨x::xs,H2,I2,.cons r1 r2,q2⟩
def a67 (t:TA):TE:=fun σ H Q=>t σ H fun xs H1=>xs.length≤sizeLine∧∀ p,H1 p=none→Q (.ref p) (upd H1 p (.tup xs))
def a7h (t:TA):TE:=fun σ H Q=>t σ H fun xs H1=>xs.length≤sizeLine∧∀ p,H1 p=none→Q (.ref p) (upd H1 p (.lst xs))
theorem O6 {x1} (h:PA X es t):PE X (.Tuple es x1 pos) (a67 t):=by
  intro pins s σ H Q I hq
  refine wpAny_Tuple_spliced (thn (h pos pins s σ H _ I hq) fun us s1 ⟨xs,H1,I1,r,z,q⟩=>⟨by rw [← r.length]; exact z,?_⟩)
  have hf:H1 s1.heap.objs.size=none:=I1.hok.fresh (Nat.le_refl _)
  refine ⟨.ref s1.heap.objs.size,upd H1 s1.heap.objs.size (.tup xs),I1.laid (t':=s1.toks) (fun b u e=>Heap.get?_push_of_some _ e) (Nat.le_refl _) ?_,rfl,q _ hf⟩
  exact ⟨z,us,r,⟨_,Heap.get?_push_size _ rfl,rfl,rfl,_,rfl⟩⟩
theorem Vq (h:PA X es t):PE X (.List es pos) (a7h t):=by
  intro pins s σ H Q I hq
  refine wpAny_List_spliced (thn (h pos pins s σ H _ I hq) fun us s1 ⟨xs,H1,I1,r,z,q⟩=>⟨by rw [← r.length]; exact z,?_⟩)
  have hf:H1 s1.heap.objs.size=none:=I1.hok.fresh (Nat.le_refl _)
  refine ⟨.ref s1.heap.objs.size,upd H1 s1.heap.objs.size (.lst xs),I1.laid (t':=s1.toks) (fun b u e=>Heap.get?_push_of_some _ e) (Nat.le_refl _) ?_,rfl,q _ hf⟩
  exact ⟨z,us,0,r,Heap.get?_push_size _ rfl⟩
end
abbrev Sp:=List V→Hp→VK→XK→Prop
abbrev CXT:=List Env→Hp→Shared→XK→Value→Shared→Prop
structure a02 (P:Program) (w:World) (K:PySem.W.Frag) (mg:Str→Option Value) (base:Heap) (A:Around) (outer:List Env) (s:Shared) (H:Hp):Prop where
  frames:A.frames=some outer
  mod:Mod K mg base
  bs:∀ b o,base.get? b=some o→s.heap.get? b=some o∧H b=none
  bsz:base.objs.size≤s.heap.objs.size
  Nq:s.heap.FunFrames base outer
  frf:∀ b∈frs outer,H b=none
  hok:HOk P w H s.heap
  bare:AllBare s.gens
def CE (outer:List Env) (P:Program) (w:World) (H:Hp) (s:Shared) (Q:VK) (u:Value) (s':Shared):Prop :=
  ∃ v H',s'.os=s.os∧AllBare s'.gens∧Un (frs outer) [] H H' s.heap s'.heap∧HOk P w H' s'.heap∧RelV v u∧Q v H'
def CR (CX:CXT) (outer:List Env) (P:Program) (w:World) (H:Hp) (s:Shared) (Q:VK) (E:XK) (r:Result) (s':Shared):Prop :=
  match r with
  | .ok (.ret u)=>CE outer P w H s Q u s'
  | .ok _=>False
  | .error e=>CX outer H s E e s'
structure ud (P:Program) (w:World) (K:PySem.W.Frag) (mg:Str→Option Value) (base:Heap) (CX:CXT) (k:Nat) (f:Addr) (fd:FuncData) (ps:List Str) (sp:Sp):Prop where
  len:∀ vs H Q E,sp vs H Q E→vs.length=ps.length
  run:∀ (A:Around) (outer:List Env) (s:Shared) (H:Hp) (args:Args) (us:List Value) (vs:List V) (Q:VK) (E:XK),xq k A→a02 P w K mg base A outer s H→BindsTo s fd args (ps.zip us)→Vals vs us→sp vs H Q E →
    codeAny (model P w) A (.call (.ref f) args) (CR CX outer P w H s Q E) s
theorem ud.mono {P:Program} {w:World} {K:PySem.W.Frag} {mg:Str→Option Value} {base:Heap} {CX:CXT} {j k:Nat} {f:Addr} {fd:FuncData} {ps:List Str} {sp:Sp} (F:ud P w K mg base CX j f fd ps sp) (h:j≤k) :
    ud P w K mg base CX k f fd ps sp:=⟨F.len,fun A outer s H args us vs Q E hr=>F.run A outer s H args us vs Q E (hr.mono h)⟩
theorem ud.imp {P:Program} {w:World} {K:PySem.W.Frag} {mg:Str→Option Value} {base:Heap} {CX:CXT} {k:Nat} {f:Addr} {fd:FuncData} {ps:List Str} {sp sp':Sp} (F:ud P w K mg base CX k f fd ps sp)
    (h:∀ vs H Q E,sp' vs H Q E→sp vs H Q E):ud P w K mg base CX k f fd ps sp' :=
  ⟨fun vs H Q E q=>F.len vs H Q E (h _ _ _ _ q),fun A outer s H args us vs Q E hr he hb hv hs=>F.run A outer s H args us vs Q E hr he hb hv (h _ _ _ _ hs)⟩
theorem a02.make {P:Program} {w:World} {K:PySem.W.Frag} {mg:Str→Option Value} {base:Heap} {A:Around} {outer:List Env} {s:Shared} {H:Hp} (e:a02 P w K mg base A outer s H) (C:Addr) (us:List Value) (kw:List (Str × Value)) :
    a02 P w K mg base (A.under (.builtin "type.__call__" ⟨.ref C::us,kw⟩)) outer s H:=⟨by first | exact e.frames | (simpa [Around.under,Code.envs,Code.isFrame,pushEnvs] using e.frames),e.mod,e.bs,e.bsz,e.Nq,e.frf,e.hok,e.bare⟩
section
variable {X:Cx} {pins:List (Addr × Obj)} {σ:St} {H:Hp} {s s':Shared}
theorem Inv.env0 (I:Inv X pins σ H s):a02 X.prog X.w X.K X.mg X.base X.A X.stack s H :=
  ⟨I.ok.frames,I.ok.mod,I.bs,Nat.le_trans I.ok.bsz I.sz,I.stack,I.Lk,I.hok,I.bare⟩
theorem Inv.after {Q:VK} {u:Value} (I:Inv X pins σ H s) (h:CE X.stack X.prog X.w H s Q u s'):EP X pins σ Q u s':=by
  obtain ⟨v,H',os,bare,un,hok,r,q⟩:=h
  obtain ⟨hh,g,d,t,os'⟩:=s'
  obtain rfl:os'=s.os:=os
  exact ⟨v,H',I.call (h':=hh) (g':=g) (d':=d) (t':=t) (ch:=[]) un hok bare (fun b z=>absurd z (by simp)),r,q⟩
end
def a5t (sp:Sp) (dvs:List V) (E:XK) (t:TA):TE:=fun σ H Q=>t σ H fun vs H1=>sp (vs++dvs) H1 Q E
def Binds (K:PySem.W.Frag) (fd:FuncData) (ps:List Str) (ds:List Value):Prop :=
  ∀ (s:Shared) (us:List Value),K.In s.heap→(us++ds).length=ps.length→BindsTo s fd ⟨us,[]⟩ (ps.zip (us++ds))
theorem Binds.all {K:PySem.W.Frag} {fd:FuncData} {ps:List Str} (h:∀ us:List Value,us.length=ps.length→bindArgs fd ⟨us,[]⟩=pure (ps.zip us)):Binds K fd ps []:=fun s us _ hl=>by
  rw [List.append_nil] at hl ⊢
  exact .of_eq (h us hl)
def Passes (CX:CXT) (X:Cx) (E:XK):Prop:=∀ (pins:List (Addr × Obj)) (σ:St) (H:Hp) (s:Shared) (e:Value) (s':Shared),Inv X pins σ H s→CX X.stack H s E e s'→X.xe e s'
section
variable {X:Cx} {CX:CXT} {k:Nat} {f C:Addr} {fd:FuncData} {ps:List Str} {sp:Sp} {dvs:List V} {ds:List Value} {E:XK} {x m:Str} {p pos apos:Pos} {e o:Expr} {es:List Expr} {ta:TE} {t:TA}
theorem a5a {pins:List (Addr × Obj)} {σ:St} {H:Hp} {s:Shared} {Q:VK} {us:List Value} {vs:List V} (F:ud X.prog X.w X.K X.mg X.base CX k f fd ps sp) (hr:xq k X.A) (hb:Binds X.K fd ps ds) (hd:Vals dvs ds) (hx:Passes CX X E)
    (I:Inv X pins σ H s) (r:Vals vs us) (h:sp (vs++dvs) H Q E):wpAny (model X.prog X.w) X.A (call (.ref f) us) (EP X pins σ Q) X.xe s:=by
  have r2:Vals (vs++dvs) (us++ds):=r.append hd
  have hl:(us++ds).length=ps.length:=by rw [← r2.length]; exact F.len _ _ _ _ h
  refine wpAny_call (codeAny_mono (F.run X.A X.stack s H ⟨us,[]⟩ (us++ds) (vs++dvs) Q E hr I.env0 (hb s us I.kIn hl) r2 h) fun r s' hq=>?_)
  cases r with
  | error e=>exact hx pins σ H s e s' I hq
  | ok fl =>
    cases fl with
    | ret u=>exact I.after hq
    | next=>exact False.elim hq
    | brk=>exact False.elim hq
    | cont=>exact False.elim hq
theorem Tc (F:ud X.prog X.w X.K X.mg X.base CX k f fd ps sp) (hr:xq k X.A) (hg:Gl X x) (hm:X.mg x=some (.ref f)) (hk:PySem.W.keepIn X.K (.ref f)=true) (hb:Binds X.K fd ps ds) (hd:Vals dvs ds) (hx:Passes CX X E)
    (ha:PA X (e::es) t) (hdb:(x==("__debug__" : Str))=false:=by decide) (he:starEach (e::es) X.env=(false,eval e X.env)::starEach es X.env:=by rfl) (hpl:(backTo pos (starEach es X.env)).any (·.1)=false:=by rfl) :
    PE X (.Call (.Name x p) (e::es) [] pos) (a5t sp dvs E t):=by
  intro pins s σ H Q I h
  refine wpAny_Call_Name_kw (J5 I hg hm ?_ hdb)
  refine PySem.W.callWith_K (h₀:=X.base) I.ok.mod.kin hk (thn (ha pos pins s σ H _ I h) fun us s1 ⟨vs,H1,I1,r,q⟩=>⟨I1.kIn,?_⟩) he hpl
  exact a5a F hr hb hd hx I1 r q
structure Mk (K:PySem.W.Frag) (C f:Addr):Prop where
  makes:PySem.W.makesIn K C=true
  init:PySem.W.findIn K (.ref C) "__init__" = some (some (.ref f))
  fn:PySem.W.isFn K (.ref f)=true
  kp:PySem.W.keepIn K (.ref C)=true
end
section
variable {X:Cx} {CX:CXT} {k:Nat} {f C:Addr} {fd:FuncData} {ps ks:List Str} {sp:Sp} {E:XK} {x m:Str} {p pos apos kpos:Pos} {e o:Expr} {es:List Expr} {kws:List Keyword} {te ta:TE} {t tk:TA} {nm:Option Str}
structure a79 (K:PySem.W.Frag) (fd:FuncData) (ps ks:List Str) (g:List Value→List Value→List Value) (gV:List V→List V→List V):Prop where
  to:∀ (s:Shared) (us ws:List Value),K.In s.heap→(g us ws).length=ps.length→BindsTo s fd ⟨us,ks.zip ws⟩ (ps.zip (g us ws))
  rel:∀ {vs:List V} {us:List Value} {zs:List V} {ws:List Value},Vals vs us→Vals zs ws→Vals (gV vs zs) (g us ws)
variable {g:List Value→List Value→List Value} {gV:List V→List V→List V}
end
structure jr (N P:List Str) (sc:Scope):Prop where
  kind:sc.kind=.function
  co:sc.isCoroutine=false
  gen:sc.isGenerator=false
  nd:N.Nodup
  pre:N.take P.length=P
  par:∀ x∈P,sc.names.lookup x=some .local∨sc.names.lookup x=some .cell
  nofree:∀ y∈sc.names,y.2≠.free
theorem K8 {kindOf:Str→Option NameKind} {x:Str}:∀ {binds:List (Str × Value)} {m:Str→Option Value},(∀ v,(x,v)∉binds)→bindL kindOf binds m x=m x
  | [],_,_=>rfl
  | (n,v)::r,m,h=>by
    unfold bindL
    rw [K8 fun w hw=>h w (List.mem_cons_of_mem _ hw)]
    split
    · have:x≠n:=by rintro rfl; exact h v List.mem_cons_self
      simp [this]
    · rfl
theorem Kz {kindOf:Str→Option NameKind} {x:Str}:∀ {binds:List (Str × Value)} {m:Str→Option Value},(∀ v,(x,v)∉binds)→bindC kindOf binds m x=m x
  | [],_,_=>rfl
  | (n,v)::r,m,h=>by
    unfold bindC
    rw [Kz fun w hw=>h w (List.mem_cons_of_mem _ hw)]
    split
    · rfl
    · have:x≠n:=by rintro rfl; exact h v List.mem_cons_self
      simp [this]
theorem Jk {kindOf:Str→Option NameKind} {x:Str} {v:Value}:∀ {P:List Str} {vs:List Value} {i:Nat} {m:Str→Option Value},P.Nodup→P[i]? = some x→vs[i]? = some v→kindOf x=some .local →
    bindL kindOf (P.zip vs) m x=some v
  | [],_,_,_,_,h,_,_=>by simp at h
  | _::_,[],_,_,_,_,h,_=>by simp at h
  | p::P,w::vs,0,m,nd,h1,h2,hk=>by
    simp at h1 h2; subst h1; subst h2
    show bindL kindOf ((p,w)::P.zip vs) m p=_
    unfold bindL
    rw [K8 fun v hv=>(List.nodup_cons.mp nd).1 (List.of_mem_zip hv).1,if_pos hk]
    simp
  | p::P,w::vs,i+1,m,nd,h1,h2,hk=>by
    show bindL kindOf ((p,w)::P.zip vs) m x=_
    unfold bindL
    exact Jk (i:=i) (List.nodup_cons.mp nd).2 (by simpa using h1) (by simpa using h2) hk
theorem Ky {kindOf:Str→Option NameKind} {x:Str} {v:Value}:∀ {P:List Str} {vs:List Value} {i:Nat} {m:Str→Option Value},P.Nodup→P[i]? = some x→vs[i]? = some v→kindOf x≠some .local →
    bindC kindOf (P.zip vs) m x=some v
  | [],_,_,_,_,h,_,_=>by simp at h
  | _::_,[],_,_,_,_,h,_=>by simp at h
  | p::P,w::vs,0,m,nd,h1,h2,hk=>by
    simp at h1 h2; subst h1; subst h2
    show bindC kindOf ((p,w)::P.zip vs) m p=_
    unfold bindC
    rw [Kz fun v hv=>(List.nodup_cons.mp nd).1 (List.of_mem_zip hv).1,if_neg hk]
    simp
  | p::P,w::vs,i+1,m,nd,h1,h2,hk=>by
    show bindC kindOf ((p,w)::P.zip vs) m x=_
    unfold bindC
    exact Ky (i:=i) (List.nodup_cons.mp nd).2 (by simpa using h1) (by simpa using h2) hk
def start (N:List Str) (vs:List V):St:=vs.map some++List.replicate (N.length - vs.length) none
def Qg (CX:CXT) (P:Program) (w:World) (K:PySem.W.Frag) (mg:Str→Option Value) (base:Heap) (N:List Str) (qual:Str) (scope:Scope) (f:Addr) (cd:Value) (A:Around) (outer:List Env) (s:Shared) (H:Hp) (E:XK):Cx where
  prog:=P
  w:=w
  K:=K
  mg:=mg
  base:=base
  A:=A.deeper (envOfC qual scope s.heap.objs.size f cd)
  N:=N
  s₀:=s
  H₀:=H
  env:=envOfC qual scope s.heap.objs.size f cd
  outer:=outer
  stack:=envOfC qual scope s.heap.objs.size f cd::outer
  ex:=[]
  calm:=true
  fn:=fun _=>true
  pn:=[]
  xe:=fun e s'=>wpAny (model P w) (A.deeper (envOfC qual scope s.heap.objs.size f cd)) (leaving (envOfC qual scope s.heap.objs.size f cd) e) (fun _ s''=>CX outer H s E e s'') (fun e' s''=>CX outer H s E e' s'') s'
theorem O5 {sc:Scope} {n:Nat} {x:Str} (h:sc.names.lookup x=some .cell):∃ c,(cellsFrom n sc.names []).lookup x=some c:=by
  have q:=PySem.W.cellsFrom_some sc.names n [] (.inl h)
  exact Option.isSome_iff_exists.mp q
theorem Ui {CX:CXT} {P:Program} {w:World} {K:PySem.W.Frag} {mg:Str→Option Value} {base:Heap} {N ps:List Str} {qual:Str} {scope:Scope} {f:Addr} {cd:Value} {A:Around} {outer:List Env} {s s1:Shared} {H:Hp} {E:XK} {us:List Value} {vs:List V}
    (S:jr N ps scope) (hd:A.handled=none) (e0:a02 P w K mg base A outer s H) (hl:vs.length=ps.length) (r:Vals vs us)
    (x:InCallC s s.heap.objs.size (bindL (envOfC qual scope s.heap.objs.size f cd).kindOf (ps.zip us) fun _=>none) (cellsFrom (s.heap.objs.size+1) scope.names []) (bindC (envOfC qual scope s.heap.objs.size f cd).kindOf (ps.zip us) fun _=>none) s1) :
    Inv (Qg CX P w K mg base N qual scope f cd A outer s H E) [] (start N vs) H s1:=by
  have hpl:ps.length≤N.length:=by have:=congrArg List.length S.pre; rw [List.length_take] at this; omega
  obtain ⟨h1,tk,rfl,hk⟩:=x.done
  have noA:∀ b:Addr,b∉(Qg CX P w K mg base N qual scope f cd A outer s H E).ex:=fun b z=>absurd (show b∈([]:List Addr) from z) (by simp)
  refine ⟨⟨e0.mod,S.kind,rfl,rfl,Nat.le_refl _,fun y z c h1 h2=>?_,fun y hy=>?_,fun y c _ h=>?_,fun _=>hd,Around.frames_deeper e0.frames,.inr ⟨rfl,rfl⟩,fun b z=>absurd z (noA b),e0.bs,e0.bsz,fun b _ _=>noA b,fun b z=>absurd z (noA b),e0.Nq,e0.frf⟩,
    rfl,e0.bare,Un.kept hk,⟨_,x.toInCall.ns,fun i y v h1 h2 h3=>?_⟩,fun y c h=>⟨_,x.cell y c h⟩,e0.hok.fresh (Nat.le_refl _),fun y c h=>?_,fun p hp=>absurd (show p∈([]:List (Addr × Obj)) from hp) (by simp),e0.hok.kept hk,?_⟩
  · exact name_of_addr x.apart (PySem.mem_of_lookup h1) (PySem.mem_of_lookup h2)
  · have hy:scope.names.lookup y=some .cell∨scope.names.lookup y=some .free:=hy
    rcases hy with hy | hy
    · exact O5 hy
    · exact absurd rfl (S.nofree _ (PySem.mem_of_lookup hy))
  · exact Nat.le_of_lt (x.above y c (PySem.mem_of_lookup h))
  · have hi:i<vs.length:=by
      unfold start at h2
      by_cases hi:i<vs.length
      · exact hi
      · rw [List.getElem?_append_right (by simpa using hi)] at h2
        rw [List.getElem?_replicate] at h2
        split at h2 <;> cases h2
    have ha:vs[i]? = some v:=by
      unfold start at h2
      rw [List.getElem?_append_left (by simpa using hi),List.getElem?_map] at h2
      cases e:vs[i]? with
      | none=>rw [e] at h2; cases h2
      | some a=>rw [e] at h2; cases h2; rfl
    obtain ⟨u,hu,rv⟩:=r.get ha
    have hp:ps[i]? = some y:=by
      rw [← S.pre,List.getElem?_take_of_lt (by omega)]; exact h1
    have ndP:ps.Nodup:=by rw [← S.pre]; exact S.nd.sublist (List.take_sublist _ _)
    refine ⟨u,rv,?_⟩
    rcases S.par y (List.mem_of_getElem? hp) with k | k
    · exact .inl ⟨k,Jk ndP hp hu k⟩
    · obtain ⟨c,e⟩:=O5 (n:=s.heap.objs.size+1) k
      refine .inr ⟨.inl k,c,e,?_⟩
      have q:=x.cell y c e
      rw [Ky ndP hp hu (by show scope.names.lookup y≠_; rw [k]; decide)] at q
      exact q
  · exact e0.hok.fresh (Nat.le_of_lt (x.above y c (PySem.mem_of_lookup h)))
  · unfold start
    show _=N.length
    rw [List.length_append,List.length_map,List.length_replicate]
    omega
theorem a2j {CX:CXT} {P:Program} {w:World} {K:PySem.W.Frag} {mg:Str→Option Value} {base:Heap} {k:Nat} {f:Addr} {name qual:Str} {params:Arguments} {body:List Stmt} {scope:Scope} {dV kV doc pm cdv ct oc:Value} {an od:Option Addr}
    {osl:Array (Option Value)} {N ps:List Str} {sp:Sp} (lk:K.lookup f=some ⟨oc,od,.func (PySem.W.fnOf name qual params body scope dV kV doc pm an cdv ct),osl⟩) (hcd:PySem.W.codeIn K cdv qual=true) (S:jr N ps scope)
    (len:∀ vs H Q E,sp vs H Q E→vs.length=ps.length)
    (hbody:∀ (A:Around) (outer:List Env) (s:Shared) (H:Hp) (vs:List V) (Q:VK) (E:XK),xq k (A.deeper (envOfC qual scope s.heap.objs.size f cdv))→sp vs H Q E →
      ∃ t,PSs (Qg CX P w K mg base N qual scope f cdv A outer s H E) body t∧t { nx:=fun _ H'=>Q .non H',rt:=Q } (start N vs) H) :
    ud P w K mg base CX (k+1) f (PySem.W.fnOf name qual params body scope dV kV doc pm an cdv ct) ps sp:=by
  refine ⟨len,fun A outer s H args us vs Q E hr e0 hb r hsp=>?_⟩
  have hl:=len _ _ _ _ hsp
  have KX:K.In s.heap:=e0.mod.kin.keeps fun b o e=>(e0.bs b o e).1
  have lim:s.heap.NoLimit:=e0.mod.nolimit.keeps fun b o e=>(e0.bs b o e).1
  have hkind:∀ y∈ps.zip us,scope.names.lookup y.1=some .local∨(scope.names.lookup y.1=some .cell∧((cellsFrom (s.heap.objs.size+1) scope.names []).lookup y.1).isSome=true):=fun ⟨n,v⟩ hy=>by
    rcases S.par n (List.of_mem_zip hy).1 with q | q
    · exact .inl q
    · exact .inr ⟨q,PySem.W.cellsFrom_some _ _ _ (.inl q)⟩
  refine codeAny_call_function hr.depth (KX _ _ lk) rfl S.co S.gen rfl (PySem.W.codeRec_of KX hcd) (hb _ _ _ _ ?_)
  refine wpAny_newFunctionEnv_cells S.kind hkind fun env he s1 x=>?_
  subst he
  refine ⟨lim.keeps x.toInCall.keep,codeAny_func ?_⟩
  obtain ⟨t,ht,hq⟩:=hbody A outer s H vs Q E (hr.deeper _) hsp
  have I:Inv (Qg CX P w K mg base N qual scope f cdv A outer s H E) [] (start N vs) H s1:=Ui S hr.hd e0 hl r x
  refine wpAny_mono (ht [] s1 (start N vs) H _ I hq) (fun fl s' hs=>?_) fun e s' hs=>hs
  have fin:∀ {σ':St} {H':Hp} {v:V} {u:Value},Inv (Qg CX P w K mg base N qual scope f cdv A outer s H E) [] σ' H' s'→RelV v u→Q v H'→CE outer P w H s Q u s' :=
    fun {σ' H' v u} J rv q=>⟨v,H',J.os,J.bare,J.base,J.hok,rv,q⟩
  cases fl with
  | ret u =>
    obtain ⟨v,σ',H',J,rv,q⟩:=hs
    exact fin J rv q
  | next =>
    obtain ⟨σ',H',J,q⟩:=hs
    exact fin (v:=V.non) (u:=Value.none) J rfl q
  | brk =>
    obtain ⟨_,_,_,q⟩:=hs
    exact False.elim q
  | cont =>
    obtain ⟨_,_,_,q⟩:=hs
    exact False.elim q
end L2
namespace L2
open PySem PySem.Spec PyProof.Rows
section
variable {X:Cx} {x:Str} {p pos:Pos} {e:Expr} {es:List Expr} {t:TA} {id T:String} {r:List V→Hp→VK→Prop}
def tCB (r:List V→Hp→VK→Prop) (t:TA):TE:=fun σ H Q=>t σ H fun vs H1=>r vs H1 Q
theorem qb (hc:Aa X (.builtin id) r) (hg:Gl X x) (hm:X.mg x=none) (hv:bootBuiltins x=some (.builtin id)) (ha:PA X (e::es) t) (hn:x ≠ "__name__" := by decide) (hdb:(x==("__debug__" : Str))=false:=by decide)
    (he:starEach (e::es) X.env=(false,eval e X.env)::starEach es X.env:=by rfl) (hpl:(backTo pos (starEach es X.env)).any (·.1)=false:=by rfl):PE X (.Call (.Name x p) (e::es) [] pos) (tCB r t):=by
  intro pins s σ H Q I h
  refine wpAny_Call_Name_kw (Ko I hg hm hv ?_ hn hdb)
  exact PyProof.Rows.callWith_builtin1 (thn (ha pos pins s σ H _ I h) fun us s1 z7=>by obtain ⟨vs,H1,I1,r1,q1⟩:=z7; exact hc pins s1 σ H1 vs us Q I1 r1 q1) he hpl
theorem m9 (hc:Aa X (.type T) r) (hg:Gl X x) (hm:X.mg x=none) (hv:bootBuiltins x=some (.type T)) (ha:PA X (e::es) t) (hn:x ≠ "__name__" := by decide) (hdb:(x==("__debug__" : Str))=false:=by decide)
    (he:starEach (e::es) X.env=(false,eval e X.env)::starEach es X.env:=by rfl) (hpl:(backTo pos (starEach es X.env)).any (·.1)=false:=by rfl):PE X (.Call (.Name x p) (e::es) [] pos) (tCB r t):=by
  intro pins s σ H Q I h
  refine wpAny_Call_Name_kw (Ko I hg hm hv ?_ hn hdb)
  exact PyProof.Rows.callWith_type1 (thn (ha pos pins s σ H _ I h) fun us s1 z7=>by obtain ⟨vs,H1,I1,r1,q1⟩:=z7; exact hc pins s1 σ H1 vs us Q I1 r1 q1) he hpl
end
end L2
end
section
namespace HT
open PySem PyProof.Rows
section
open PySem.SeqAt
open PySem.AutoSeq1 (wpAny_loadPart')
open PySem.MeetsSeq PySem.MeetsSeq2 PySem.MeetsSeq3
end
section
variable {prog:Program} {w:World} {A:Around} {E:Value→Shared→Prop} {s:Shared}
theorem a0q {t b:Addr} {vs ws:List Value} {Q:Value→Shared→Prop} (ht:IsTup s.heap t vs.toArray) (hb:IsTup s.heap b ws.toArray) (hv:vs≠[])
    (h1:ws=[]→Q (.ref t) s) (h2:ws≠[]→Q (.ref s.heap.objs.size) { s with heap:=s.heap.push { cls:=.type "tuple",data:=.seq (vs++ws).toArray } })
    (hsz:vs.length+ws.length≤sizeLine):wpAny (model prog w) A (binaryOp .Add (.ref t) (.ref b)) Q E s:=by
  obtain ⟨⟨cls,dd,data,sl⟩,ho,hc,n,hd⟩:=id ht
  obtain ⟨⟨cls2,dd2,data2,sl2⟩,ho2,hc2,n2,hd2⟩:=id hb
  simp only at hc hd hc2 hd2
  subst hc hd hc2 hd2
  have e:vs.toArray++ws.toArray=(vs++ws).toArray:=by simp
  by_cases hw:ws=[]
  · exact concat_meets ⟨_,ho,rfl⟩ ⟨_,ho2,rfl⟩ noFill_tuple_add seq_tuple_add PySem.F.slot_tuple_add PySem.F.entry_tuple_add (PySem.F.args_tuple_add_2 _ _)
      (tuple_addW1 t b vs.toArray ws.toArray n n2 dd dd2 sl sl2 (by simpa using hv) (by simp [hw])) ⟨ho,ho2,h1 hw⟩
  · refine concat_meets ⟨_,ho,rfl⟩ ⟨_,ho2,rfl⟩ noFill_tuple_add seq_tuple_add PySem.F.slot_tuple_add PySem.F.entry_tuple_add (PySem.F.args_tuple_add_2 _ _)
      (tuple_addW2 t b vs.toArray ws.toArray n n2 dd dd2 sl sl2 (by simpa using hv) (by simpa using hw) (by rw [List.size_toArray,List.size_toArray]; exact hsz)) ⟨ho,ho2,?_⟩
    rw [e]
    exact h2 hw
def sIx (n d:Nat):Option Int→Nat
  | none=>d
  | some v=>if v<0 then (v+(n:Int)).toNat else min v.toNat n
theorem a3n (n d:Nat) (hd:d≤n) (o:Option Int):sIx n d o≤n:=by
  cases o with
  | none=>exact hd
  | some v =>
    show (if v<0 then (v+(n:Int)).toNat else min v.toNat n)≤n
    by_cases hv:v<0
    · rw [if_pos hv]; omega
    · rw [if_neg hv]; exact Nat.min_le_right _ _
theorem S8 (v:Int) (n d:Nat):(if v<0 then max (v+(n:Int)) 0 else min v (n:Int))=((sIx n d (some v):Nat):Int):=by
  show (if v<0 then max (v+(n:Int)) 0 else min v (n:Int))=(((if v<0 then (v+(n:Int)).toNat else min v.toNat n):Nat):Int)
  by_cases hv:v<0
  · simp only [if_pos hv]; omega
  · simp only [if_neg hv]; omega
theorem Q9 (lo hi:Option Int) (n:Nat):Builtin.Slice.sliceAdjust lo hi 1 (n:Int)=(((sIx n 0 lo:Nat):Int),((sIx n n hi:Nat):Int)):=by
  have h1:¬ ((1:Int)<0):=by omega
  unfold Builtin.Slice.sliceAdjust
  simp only [h1,if_false]
  refine Prod.ext ?_ ?_
  · cases lo with
    | none=>rfl
    | some v=>exact S8 v n 0
  · cases hi with
    | none=>rfl
    | some v=>exact S8 v n n
theorem Qn (i j:Nat):Builtin.Slice.slicePlaces (i:Int) (j:Int) 1=j - i:=by
  unfold Builtin.Slice.slicePlaces
  have h1:(1:Int) > 0:=by omega
  simp only [h1,if_true,Int.ediv_one]
  split <;> omega
theorem Hh {v:Value} {o:Option Int} {Q:Option Int→Shared→Prop} (p:IsPart v o) (h:Q o s):wpAny (model prog w) A (Builtin.Slice.slicePartIndex v) Q E s:=by
  cases p with
  | none=>exact slicePart_none h
  | int i t=>exact slicePart_int h
theorem Dk {sl:Addr} {vl vu:Value} {lo hi:Option Int} {n:Nat} {Q:Int × Int × Nat→Shared→Prop} (hs:s.heap.IsSliceOf sl vl vu .none) (pl:IsPart vl lo) (pu:IsPart vu hi)
    (h:Q (((sIx n 0 lo:Nat):Int),1,sIx n n hi - sIx n 0 lo) s):wpAny (model prog w) A (Builtin.Slice.sliceApplied (.ref sl) (pure (n:Int))) Q E s:=by
  obtain ⟨os,hos,hcs,hds⟩:=id hs
  unfold Builtin.Slice.sliceApplied Builtin.Slice.sliceFields
  refine wpAny_bind (wpAny_bind (wpAny_field hos hds (x:=vl) rfl (wpAny_bind (wpAny_field hos hds (x:=vu) rfl (wpAny_bind (wpAny_field hos hds (x:=.none) rfl (wpAny_pure ?_)))))))
  refine wpAny_bind (slicePart_none ?_)
  show wpAny _ _ (if ((1:Int)==0)=true then _ else _) _ _ s
  rw [if_neg (by decide)]
  refine wpAny_bind (Hh pl (wpAny_bind (Hh pu (wpAny_bind (wpAny_pure ?_)))))
  show wpAny _ _ (match Builtin.Slice.sliceAdjust lo hi 1 (n:Int) with | (lo,hi)=>pure (lo,(1:Int),Builtin.Slice.slicePlaces lo hi 1)) _ _ s
  rw [Q9 lo hi n]
  show wpAny _ _ (pure (((sIx n 0 lo:Nat):Int),(1:Int),Builtin.Slice.slicePlaces ((sIx n 0 lo:Nat):Int) ((sIx n n hi:Nat):Int) 1)) _ _ s
  rw [Qn]
  exact wpAny_pure h
theorem Xm (xs:Array Value) (i k:Nat):((List.range k).filterMap fun (m:Nat)=>xs[((i:Int)+(m:Int) * 1).toNat]?).toArray=((xs.toList.drop i).take k).toArray:=by
  have e:(fun (m:Nat)=>xs[((i:Int)+(m:Int) * 1).toNat]?)=fun m=>xs[i+m]?:=by
    funext m
    have:((i:Int)+(m:Int) * 1).toNat=i+m:=by omega
    rw [this]
  rw [e]
  have:=pick_run xs i k
  rw [List.filterMap_map] at this
  have e2:((fun x=>xs[x]?) ∘ fun x=>i+x)=fun m=>xs[i+m]?:=rfl
  rw [e2] at this
  rw [this]
theorem Cp {t sl:Addr} {items:Array Value} {vl vu:Value} {lo hi:Option Int} {Q:Value→Shared→Prop} (ht:IsTup s.heap t items) (hs:s.heap.IsSliceOf sl vl vu .none) (pl:IsPart vl lo) (pu:IsPart vu hi)
    (hw:¬ (sIx items.size 0 lo=0∧sIx items.size items.size hi=items.size))
    (h:Q (.ref s.heap.objs.size) { s with heap:=s.heap.push { cls:=.type "tuple",data:=.seq ((items.toList.drop (sIx items.size 0 lo)).take (sIx items.size items.size hi - sIx items.size 0 lo)).toArray } })
    (hsz:items.size≤sizeLine):wpAny (model prog w) A (getItem (.ref t) (.ref sl)) Q E s:=by
  have htake:sizeOk (.seq ((items.toList.drop (sIx items.size 0 lo)).take (sIx items.size items.size hi - sIx items.size 0 lo)).toArray):=by
    show ((items.toList.drop (sIx items.size 0 lo)).take (sIx items.size items.size hi - sIx items.size 0 lo)).toArray.size≤sizeLine
    rw [List.size_toArray,List.length_take,List.length_drop,Array.length_toList]
    omega
  have hj:sIx items.size items.size hi≤items.size:=a3n _ _ (Nat.le_refl _) hi
  obtain ⟨os,hos,hcs,hds⟩:=id hs
  have hTs:s.TypeIs (.ref sl) "slice" := ⟨os,hos,hcs⟩
  unfold getItem
  try with_reducible refine wpAny_holding ?_
  first | refine wpAny_bind (wpAny_pure ?_) | skip
  refine wpAny_bind (wpAny_sequenceKey ht.typeIs (by decide) ?_)
  refine wpAny_bind (wpAny_callSpecial?_slot (name:=Str.ofString "__getitem__") ht.typeIs PyProof.Rows.slot_tuple_getitem
    (wpAny_call_entry PyProof.Rows.slot_tuple_getitem ht.typeIs entry_tuple_getitem ?_ (args_tuple_getitem _ _)))
  show wpAny _ _ (Builtin.Tuple.tupleItemsOf (.ref t) >>= _) _ _ s
  refine wpAny_bind (tupleItemsOf_ ht ?_)
  refine wpAny_bind (wpAny_typeOf hTs ?_)
  rw [if_pos (by decide)]
  refine wpAny_bind (Dk hs pl pu ?_)
  have hno:¬ ((((sIx items.size 0 lo:Nat):Int)==0&&(1:Int)==1&&(sIx items.size items.size hi - sIx items.size 0 lo)==items.size)=true):=by
    intro q
    rw [Bool.and_eq_true,Bool.and_eq_true] at q
    have q1:((sIx items.size 0 lo:Nat):Int)=0:=eq_of_beq q.1.1
    have q2:sIx items.size items.size hi - sIx items.size 0 lo=items.size:=eq_of_beq q.2
    exact hw ⟨by omega,by omega⟩
  show wpAny _ _ (if (((sIx items.size 0 lo:Nat):Int)==0&&(1:Int)==1&&(sIx items.size items.size hi - sIx items.size 0 lo)==items.size)=true then _ else _) _ _ s
  rw [if_neg hno,Xm]
  first
    | exact wpAny_bind (m:=Builtin.Tuple.tupleExact _) (wpAny_newObj_type (wpAny_pure ⟨_,rfl,wpAny_pure h⟩) htake)
    | exact wpAny_bind (m:=Builtin.Tuple.tupleExact _) (wpAny_newObj_type (wpAny_bind (wpAny_pure (wpAny_pure ⟨_,rfl,wpAny_pure h⟩))) htake)
    | exact wpAny_bind (wpAny_bind (m:=Builtin.Tuple.tupleExact _) (wpAny_newObj_type (wpAny_pure (wpAny_pure ⟨_,rfl,wpAny_pure h⟩)) htake))
    | exact wpAny_bind (wpAny_bind (m:=Builtin.Tuple.tupleExact _) (wpAny_newObj_type (wpAny_pure ⟨_,rfl,wpAny_pure h⟩) htake))
end
end HT
namespace L2
open PySem PySem.Spec PyProof.Rows
abbrev TO:=St→Hp→(Option Int→Hp→Prop)→Prop
def PO (X:Cx) (e:Option Expr) (t:TO):Prop :=
  ∀ (pins:List (Addr × Obj)) (s:Shared) (σ:St) (H:Hp) (Q:Option Int→Hp→Prop),Inv X pins σ H s→t σ H Q →
    wpAny (model X.prog X.w) X.A (evalPart e X.env) (fun u s'=>∃ o H',Inv X pins σ H' s'∧IsPart u o∧Q o H') X.xe s
def a5v (t:TE):TO:=fun σ H Q=>t σ H fun x H1=>∃ i,x=.int i∧Q (some i) H1
section
variable {X:Cx} {e:Expr} {te:TE} {lo hi:Option Expr} {tl th:TO} {pos p2:Pos}
theorem a0p (h:PE X e te):PO X (some e) (a5v te):=by
  intro pins s σ H Q I hw
  rw [evalPart_some]
  refine thn (h pins s σ H _ I hw) fun u s1 z0=>?_
  obtain ⟨x,H1,I1,r1,q1⟩:=z0
  obtain ⟨i,rfl,q⟩:=q1
  obtain ⟨t,rfl⟩:=r1
  exact ⟨some i,H1,I1,.int i t,q⟩
def SlR (X:Cx) (r:V→Option Int→Option Int→Hp→VK→Prop):Prop :=
  ∀ (pins:List (Addr × Obj)) (s:Shared) (σ:St) (H:Hp) (x:V) (v vl vu:Value) (lo hi:Option Int) (sl:Addr) (Q:VK),Inv X pins σ H s→RelV x v→s.heap.IsSliceOf sl vl vu .none→IsPart vl lo→IsPart vu hi→r x lo hi H Q →
    ∃ T id,typeLookup (.type T) "__getitem__" = pure (some (.builtin id))∧s.TypeIs v T∧wpAny (model X.prog X.w) X.A (getItem v (.ref sl)) (EP X pins σ Q) X.xe s
theorem SlR.or {r r':V→Option Int→Option Int→Hp→VK→Prop} (h:SlR X r) (h':SlR X r'):SlR X (fun x lo hi H Q=>r x lo hi H Q∨r' x lo hi H Q):=by
  intro pins s σ H x v vl vu lo hi sl Q I rx hs pl pu q
  rcases q with q | q
  · exact h pins s σ H x v vl vu lo hi sl Q I rx hs pl pu q
  · exact h' pins s σ H x v vl vu lo hi sl Q I rx hs pl pu q
def tSl (r:V→Option Int→Option Int→Hp→VK→Prop) (te:TE) (tl th:TO):TE:=fun σ H Q=>te σ H fun x H1=>tl σ H1 fun l H2=>th σ H2 fun u H3=>r x l u H3 Q
theorem Xg {r:V→Option Int→Option Int→Hp→VK→Prop} (hr:SlR X r) (he:PE X e te) (hl:PO X lo tl) (hu:PO X hi th):PE X (.Subscript e (.Slice lo hi none p2) pos) (tSl r te tl th):=by
  intro pins s σ H Q I h
  refine Subscript_ (thn (he pins s σ H _ I h) fun v s1 z0=>?_)
  obtain ⟨x,H1,I1,r1,q1⟩:=z0
  refine wpAny_Slice (thn (hl pins s1 σ H1 _ I1 q1) fun vl s2 ⟨l,H2,I2,pl,q2⟩=>thn (hu pins s2 σ H2 _ I2 q2) fun vu s3 ⟨u,H3,I3,pu,q3⟩=>?_)
  rw [evalPart_none]
  refine wpAny_pure ?_
  have I4:Inv X pins σ H3 { s3 with heap:=s3.heap.push { cls:=.type "slice",data:=.fields #[vl,vu,.none] } }:=I3.kept (t':=s3.toks) fun b ob q=>Heap.get?_push_of_some _ q
  obtain ⟨T,id,hT,ht,hg⟩:=hr pins { s3 with heap:=s3.heap.push { cls:=.type "slice",data:=.fields #[vl,vu,.none] } } σ H3 x v vl vu l u s3.heap.objs.size Q I4 r1 (Heap.IsSliceOf.new ..) pl pu q3
  show wpAny (model X.prog X.w) X.A (subscriptTail e (.Slice lo hi none p2) v (.ref s3.heap.objs.size)) (EP X pins σ Q) X.xe { s3 with heap:=s3.heap.push { cls:=.type "slice",data:=.fields #[vl,vu,.none] } }
  exact tail_any (ops:=[.ref s3.heap.objs.size,v]) ht hT hg (by with_unfolding_all rfl)
def W8 (xs:List V) (lo hi:Option Int):List V:=(xs.drop (HT.sIx xs.length 0 lo)).take (HT.sIx xs.length xs.length hi - HT.sIx xs.length 0 lo)
theorem Eh (xs:List V) (lo hi:Option Int):(W8 xs lo hi).length≤xs.length:=by
  unfold W8
  rw [List.length_take,List.length_drop]
  omega
def a7r (K:PySem.W.Frag):V→Option Int→Option Int→Hp→VK→Prop:=fun x lo hi H Q=>∃ a xs,x=.ref a∧SqT K H a xs ∧
  ¬ (HT.sIx xs.length 0 lo=0∧HT.sIx xs.length xs.length hi=xs.length)∧∀ p,H p=none→Q (.ref p) (upd H p (.tup (W8 xs lo hi)))
theorem a3e:SlR X (a7r X.K):=by
  intro pins s σ H x v vl vu lo hi sl Q I rx hs pl pu h
  obtain ⟨a,xs,rfl,hx,hw,q⟩:=h
  cases rx
  obtain ⟨its,r,ht,hz⟩:=I.tuple hx
  have hlen:its.toArray.size=xs.length:=by rw [List.size_toArray]; exact r.length.symm
  refine ⟨"tuple",_,PyProof.Rows.slot_tuple_getitem.lookup,ht.typeIs,?_⟩
  refine HT.Cp ht hs pl pu (by rw [hlen]; exact hw) ?_ (by rw [hlen]; exact hz)
  rw [hlen]
  refine ⟨.ref s.heap.objs.size,_,I.laid (t':=s.toks) (o:=.tup (W8 xs lo hi)) (fun b ob q=>Heap.get?_push_of_some _ q) (Nat.le_refl _) ?_,rfl,q _ (I.hok.fresh (Nat.le_refl _))⟩
  exact ⟨Nat.le_trans (Eh xs lo hi) hz,_,(r.drop (HT.sIx xs.length 0 lo)).take (HT.sIx xs.length xs.length hi - HT.sIx xs.length 0 lo),Yo.new _ _⟩
def a5w (K:PySem.W.Frag):R2:=fun x y H Q=>∃ a b xs ys,x=.ref a∧y=.ref b∧SqT K H a xs∧SqT K H b ys∧xs≠[]∧xs.length+ys.length≤sizeLine ∧
  (ys=[]→Q (.ref a) H)∧(ys≠[]→∀ p,H p=none→Q (.ref p) (upd H p (.tup (xs++ys))))
theorem Vals.Nm {xs:List V} {us:List Value} (r:Vals xs us):us=[]↔xs=[]:=by
  cases r with
  | nil=>simp
  | cons _ _=>simp
theorem a01:OpR X (binaryOp .Add) (a5w X.K):=by
  intro pins s σ H x y v u Q I rx ry h
  obtain ⟨a,b,xs,ys,rfl,rfl,ha,hb,hx,hz,q1,q2⟩:=h
  cases rx
  cases ry
  obtain ⟨its,r1,p1,_⟩:=I.tuple ha
  obtain ⟨its2,r2,p2,_⟩:=I.tuple hb
  refine HT.a0q p1 p2 (fun z=>hx (r1.Nm.mp z)) (fun z=>⟨.ref a,H,I,rfl,q1 (r2.Nm.mp z)⟩) (fun z=>?_) (by rw [← r1.length,← r2.length]; exact hz)
  refine ⟨.ref s.heap.objs.size,_,I.laid (t':=s.toks) (o:=.tup (xs++ys)) (fun b ob q=>Heap.get?_push_of_some _ q) (Nat.le_refl _) ?_,rfl,q2 (fun w=>z (r2.Nm.mpr w)) _ (I.hok.fresh (Nat.le_refl _))⟩
  exact ⟨by rw [List.length_append]; exact hz,_,r1.append r2,Yo.new _ _⟩
end
end L2
namespace L2
open PySem PySem.Spec PyProof.Rows
def ixN (n:Nat) (i:Int):Option Nat:=if 0≤i then (if i<n then some i.toNat else none) else if -(n:Int)≤i then some (i+n).toNat else none
def atI {α:Type} (xs:List α) (i:Int):Option α:=(ixN xs.length i).bind fun j=>xs[j]?
theorem Td {n:Nat} {i:Int} {j:Nat} (h:ixN n i=some j):seqIndex? i n=some j∧j<n∧-(n:Int)≤i∧i<n:=by
  unfold ixN at h
  by_cases h0:0≤i
  · rw [if_pos h0] at h
    by_cases h1:i<n
    · rw [if_pos h1] at h
      have e:i.toNat=j:=Option.some.inj h
      exact ⟨by rw [seqIndex_of h0 h1,e],by omega,by omega,h1⟩
    · rw [if_neg h1] at h; cases h
  · rw [if_neg h0] at h
    by_cases h1:-(n:Int)≤i
    · rw [if_pos h1] at h
      have e:(i+n).toNat=j:=Option.some.inj h
      exact ⟨by rw [seqIndex_neg (by omega) h1,e],by omega,h1,by omega⟩
    · rw [if_neg h1] at h; cases h
theorem M4 {α:Type} {xs:List α} {i:Int} {v:α} (h:atI xs i=some v):∃ j,seqIndex? i xs.length=some j∧xs[j]? = some v∧j<xs.length∧-(xs.length:Int)≤i∧i<xs.length:=by
  unfold atI at h
  cases e:ixN xs.length i with
  | none=>rw [e] at h; cases h
  | some j =>
    rw [e] at h
    obtain ⟨h1,h2,h3,h4⟩:=Td e
    exact ⟨j,h1,h,h2,h3,h4⟩
def Ir (b:Expr):Prop:=∀ o i,subscripted b false o i=operate [o,i] (getItem o i)
def IxR (X:Cx) (r:R2):Prop :=
  ∀ (value slice:Expr) (pins:List (Addr × Obj)) (s:Shared) (σ:St) (H:Hp) (x y:V) (v u:Value) (Q:VK),Inv X pins σ H s→RelV x v→RelV y u→r x y H Q →
    subscripted slice false v u=operate [v,u] (getItem v u)→wpAny (model X.prog X.w) X.A (subscriptTail value slice v u) (EP X pins σ Q) X.xe s
def MtR (X:Cx) (id:String) (r:V→List V→Hp→VK→Prop):Prop :=
  ∀ (pins:List (Addr × Obj)) (s:Shared) (σ:St) (H:Hp) (x:V) (xs:List V) (v:Value) (us:List Value) (Q:VK),Inv X pins σ H s→RelV x v→Vals xs us→r x xs H Q →
    wpAny (model X.prog X.w) X.A (call (.builtin id) (v::us)) (EP X pins σ Q) X.xe s
section
variable {X:Cx} {a b:Expr} {ta tb:TE} {pos:Pos}
theorem IxR.or {r r':R2} (h:IxR X r) (h':IxR X r'):IxR X (fun x y H Q=>r x y H Q∨r' x y H Q):=by
  intro value slice pins s σ H x y v u Q I rx ry q hs
  rcases q with q | q
  · exact h value slice pins s σ H x y v u Q I rx ry q hs
  · exact h' value slice pins s σ H x y v u Q I rx ry q hs
theorem MtR.or {id:String} {r r':V→List V→Hp→VK→Prop} (h:MtR X id r) (h':MtR X id r'):MtR X id (fun x xs H Q=>r x xs H Q∨r' x xs H Q):=by
  intro pins s σ H x xs v us Q I rx rs q
  rcases q with q | q
  · exact h pins s σ H x xs v us Q I rx rs q
  · exact h' pins s σ H x xs v us Q I rx rs q
theorem a0f {r:R2} (hr:IxR X r) (ha:PE X a ta) (hb:PE X b tb) (hs:Ir b):PE X (.Subscript a b pos) (tOp r ta tb):=by
  intro pins s σ H Q I h
  exact Subscript_ (a6q ha hb I h fun v u s2 x y H2 I2 rx ry q=>hr a b pins s2 σ H2 x y v u Q I2 rx ry q (hs _ _))
def a7p (K:PySem.W.Frag):R2:=fun x y H Q=>∃ p xs i v,x=.ref p∧y=.int i∧SqL K H p xs∧atI xs i=some v∧Q v H
def a7e (K:PySem.W.Frag):R2:=fun x y H Q=>∃ p xs i v,x=.ref p∧y=.int i∧SqT K H p xs∧atI xs i=some v∧Q v H
def a7g:R2:=fun x y H Q=>∃ z i c,x=.str z∧y=.int i∧z.length≤sizeLine∧atI z.cps.toList i=some c∧Q (.str ⟨#[c]⟩) H
theorem Mh:IxR X (a7p X.K):=by
  intro value slice pins s σ H x y v u Q I rx ry h hs
  obtain ⟨p,xs,i,z,rfl,rfl,hq,he,q⟩:=h
  cases rx
  obtain ⟨t,rfl⟩:=ry
  obtain ⟨its,r,pl,hz⟩:=I.list hq
  obtain ⟨j,h1,h2,h3,h4,h5⟩:=M4 he
  obtain ⟨w,ew,rw'⟩:=r.get h2
  have hl:=r.length
  have hn:=Gn
  have fin:EP X pins σ Q w s:=⟨z,H,I,rw',q⟩
  by_cases h0:0≤i
  · have hj:i.toNat=j:=by
      rw [seqIndex_of h0 h5] at h1
      exact Option.some.inj h1
    exact item_listR pl.isList h0 (by omega) (by rw [hj]; simpa using ew) fin hs
  · have hj:(i+(its.toArray.size:Int)).toNat=j:=by
      rw [seqIndex_neg (by omega) h4] at h1
      rw [List.size_toArray,← hl]
      exact Option.some.inj h1
    exact subscriptTail_builtinR (x:=w) pl.isList.typeIs slot_list_getitem.lookup
      (wpAny_getItem_list_neg (Q:=fun r s'=>r=w∧EP X pins σ Q r s') pl.isList (by omega) (by rw [List.size_toArray] <;> omega) (by omega) (by rw [hj]; simpa using ew) ⟨rfl,fin⟩) hs
theorem a3w:IxR X (a7e X.K):=by
  intro value slice pins s σ H x y v u Q I rx ry h hs
  obtain ⟨p,xs,i,z,rfl,rfl,hq,he,q⟩:=h
  cases rx
  obtain ⟨t,rfl⟩:=ry
  obtain ⟨its,r,pl,hz⟩:=I.tuple hq
  obtain ⟨j,h1,h2,h3,h4,h5⟩:=M4 he
  obtain ⟨w,ew,rw'⟩:=r.get h2
  have hl:=r.length
  have hn:=Gn
  have fin:EP X pins σ Q w s:=⟨z,H,I,rw',q⟩
  exact subscriptTail_builtinR (x:=w) pl.typeIs slot_tuple_getitem.lookup
    (getItem_tuple (j:=j) (Q:=fun r s'=>r=w∧EP X pins σ Q r s') pl (by omega) (by omega) (by rw [List.size_toArray,← hl]; exact h1) (by simpa using ew) ⟨rfl,fin⟩) hs
theorem a3p:IxR X a7g:=by
  intro value slice pins s σ H x y v u Q I rx ry h hs
  obtain ⟨z,i,c,rfl,rfl,hz,he,q⟩:=h
  obtain ⟨t,rfl⟩:=rx
  obtain ⟨t',rfl⟩:=ry
  obtain ⟨j,h1,h2,h3,h4,h5⟩:=M4 he
  have hl:z.cps.toList.length=z.length:=by simp [Str.length]
  rw [hl] at h1 h4 h5
  have hn:=Gn
  exact tail_any (typeIs_str s z t) slot_str_getitem.lookup (getItem_str (c:=c) (by
    have e1:decide (i < -(2 ^ 63:Int))=false:=decide_eq_false (by omega)
    have e2:decide (i ≥ 2 ^ 63)=false:=decide_eq_false (by omega)
    rw [e1,e2,Bool.or_false]) (by rw [h1]; simpa using h2) ⟨.str ⟨#[c]⟩,H,I.tok _,⟨_,rfl⟩,q⟩) hs
theorem Q6 (its:List Value) (n j:Nat) (u:Value):Obj.mapSeq (·.setIfInBounds j u) { cls:=.type "list",data:=.seq its.toArray n } = { cls:=.type "list",data:=.seq (its.set j u).toArray n }:=by
  simp [Obj.mapSeq]
theorem Inv.lst {pins:List (Addr × Obj)} {σ:St} {H:Hp} {s:Shared} {p:Addr} {xs:List V} (I:Inv X pins σ H s) (h:H p=some (.lst xs)) :
    ∃ (its:List Value) (n:Nat),Vals xs its∧s.heap.get? p=some { cls:=.type "list",data:=.seq its.toArray n }∧xs.length≤sizeLine:=by
  obtain ⟨z,its,n,r,e⟩:=I.hok p _ h
  exact ⟨its,n,r,e,z⟩
theorem Inv.a4u {pins:List (Addr × Obj)} {σ:St} {H:Hp} {s:Shared} {p:Addr} {xs ys:List V} {its its':List Value} {n n':Nat} {f:Obj→Obj} (I:Inv X pins σ H s) (h:H p=some (.lst xs))
    (ho:s.heap.get? p=some { cls:=.type "list",data:=.seq its.toArray n }) (hf:f { cls:=.type "list",data:=.seq its.toArray n } = { cls:=.type "list",data:=.seq its'.toArray n' }) (r:Vals ys its') (hz:ys.length≤sizeLine) (t:Nat) :
    Inv X pins σ (upd H p (.lst ys)) { s with heap:=s.heap.update p f,toks:=t }:=by
  have e:(s.heap.update p f).get? p=some { cls:=.type "list",data:=.seq its'.toArray n' }:=by
    rw [Heap.get?_update_self f ho (by rw [hf] <;> rfl),hf]
  refine I.write (x:=p) (e:=p) (by rw [h]; trivial) (.inl rfl) (fun b u hb q=>(Heap.get?_update_other _ _ (Ne.symm hb)).trans q) ⟨_,e⟩ ?_
  exact ⟨hz,its',n',r,e⟩
def a2q:V→V→V→Hp→(Hp→Prop)→Prop:=fun o i v H Q=>∃ p xs k j,o=.ref p∧i=.int k∧H p=some (.lst xs)∧ixN xs.length k=some j∧Q (upd H p (.lst (xs.set j v)))
theorem set_list:a76 X a2q:=by
  intro pins s σ H o i v ov iv u Q I ro ri rv h
  obtain ⟨p,xs,k,j,rfl,rfl,hp,hj,q⟩:=h
  cases ro
  obtain ⟨t,rfl⟩:=ri
  obtain ⟨its,n,r,ho,hz⟩:=I.lst hp
  obtain ⟨h1,h2,h3,h4⟩:=Td hj
  have hl:=r.length
  have hn:=Gn
  have I':Inv X pins σ (upd H p (.lst (xs.set j v))) { s with heap:=s.heap.update p (Obj.mapSeq (·.setIfInBounds j u)) } :=
    I.a4u hp ho (Q6 its n j u) (r.set rv j) (by rw [List.length_set]; exact hz) s.toks
  by_cases h0:0≤k
  · have hk:k.toNat=j:=by
      rw [seqIndex_of h0 h4] at h1
      exact Option.some.inj h1
    exact PySem.W.ki_setAt ho h0 (by omega) (by rw [List.size_toArray,← hl]; exact h4) (by rw [hk]; exact ⟨_,I',q⟩)
  · have hk:(k+(its.toArray.size:Int)).toNat=j:=by
      rw [seqIndex_neg (by omega) h3] at h1
      rw [List.size_toArray,← hl]
      exact Option.some.inj h1
    exact PySem.W.ki_setBack ho (by omega) (by rw [List.size_toArray,← hl]; exact h3) (by omega) (by rw [hk]; exact ⟨_,I',q⟩)
theorem Kd (lo hi:Option Int) (n:Nat):(sliceBounds lo hi none n).1=((HT.sIx n 0 lo:Nat):Int)∧(sliceBounds lo hi none n).2.1=((HT.sIx n n hi:Nat):Int)∧(sliceBounds lo hi none n).2.2=1:=by
  refine ⟨?_,?_,rfl⟩
  · cases lo with
    | none=>simp [sliceBounds,HT.sIx]
    | some i =>
      simp only [sliceBounds,HT.sIx,Option.getD_none,show (1:Int) > 0 by decide,if_true]
      by_cases h:i<0
      · simp only [h,if_true] <;> omega
      · simp only [h,if_false] <;> omega
  · cases hi with
    | none=>simp [sliceBounds,HT.sIx]
    | some i =>
      simp only [sliceBounds,HT.sIx,Option.getD_none,show (1:Int) > 0 by decide,if_true]
      by_cases h:i<0
      · simp only [h,if_true] <;> omega
      · simp only [h,if_false] <;> omega
theorem Hy (its:List Value) (lo hi:Option Int):slicePick its.toArray lo hi none=((its.drop (HT.sIx its.length 0 lo)).take (HT.sIx its.length its.length hi - HT.sIx its.length 0 lo)).toArray:=by
  obtain ⟨h1,h2,h3⟩:=Kd lo hi its.toArray.size
  unfold slicePick
  rw [h1,h2,h3]
  simp only [sliceRange_one,pick_run,List.size_toArray] <;> rfl
def a7j (K:PySem.W.Frag):V→Option Int→Option Int→Hp→VK→Prop:=fun x lo hi H Q=>∃ a xs,x=.ref a∧SqL K H a xs∧∀ p,H p=none→Q (.ref p) (upd H p (.lst (W8 xs lo hi)))
theorem Zu:SlR X (a7j X.K):=by
  intro pins s σ H x v vl vu lo hi sl Q I rx hs pl pu h
  obtain ⟨a,xs,rfl,hx,q⟩:=h
  cases rx
  obtain ⟨its,r,ht,hz⟩:=I.list hx
  have hlen:=r.length
  refine ⟨"list",_,slot_list_getitem.lookup,ht.isList.typeIs,?_⟩
  refine wpAny_getItem_list_slice ht.isList hs pl pu .none (by simp) ?_ (by rw [List.size_toArray] <;> omega)
  rw [Hy,← hlen]
  refine ⟨.ref s.heap.objs.size,_,I.laid (t':=s.toks) (o:=.lst (W8 xs lo hi)) (fun b ob q=>Heap.get?_push_of_some _ q) (Nat.le_refl _) ?_,rfl,q _ (I.hok.fresh (Nat.le_refl _))⟩
  exact ⟨Nat.le_trans (Eh xs lo hi) hz,_,0,(r.drop (HT.sIx xs.length 0 lo)).take (HT.sIx xs.length xs.length hi - HT.sIx xs.length 0 lo),Heap.get?_push_size _ rfl⟩
theorem um:Aa X (.builtin "len") (fun xs H Q=>∃ p ys,xs=[.ref p]∧(SqL X.K H p ys∨SqT X.K H p ys)∧Q (.int ys.length) H):=by
  intro pins s σ H xs us Q I r h
  obtain ⟨p,ys,rfl,hq,q⟩:=h
  obtain ⟨u,rfl,rx⟩:=vals1 r
  cases rx
  have hn:=Gn
  rcases hq with hq | hq
  · obtain ⟨its,r',pl,hz⟩:=I.list hq
    have hlen:=r'.length
    exact Calls.call_len_list pl.isList (by simp only [List.size_toArray] <;> omega) ⟨.int ys.length,H,I.tok _,⟨s.toks+1,by rw [List.size_toArray,hlen]⟩,q⟩
  · obtain ⟨its,r',pl,hz⟩:=I.tuple hq
    have hlen:=r'.length
    exact len_tuple pl (by simp only [List.size_toArray] <;> omega) ⟨.int ys.length,H,I.tok _,⟨s.toks+1,by rw [List.size_toArray,hlen]⟩,q⟩
theorem Jx:Aa X (.builtin "len") (fun xs H Q=>∃ z,xs=[.str z]∧z.length≤sizeLine∧Q (.int z.length) H):=by
  intro pins s σ H xs us Q I r h
  obtain ⟨z,rfl,hz,q⟩:=h
  obtain ⟨u,rfl,t,rfl⟩:=vals1 r
  have hn:=Gn
  exact len_str (by omega) ⟨.int z.length,H,I.tok _,⟨_,rfl⟩,q⟩
theorem Aa.or {f:Value} {r r':List V→Hp→VK→Prop} (h:Aa X f r) (h':Aa X f r'):Aa X f (fun xs H Q=>r xs H Q∨r' xs H Q):=by
  intro pins s σ H xs us Q I rs q
  rcases q with q | q
  · exact h pins s σ H xs us Q I rs q
  · exact h' pins s σ H xs us Q I rs q
theorem yx:Aa X (.type "list") (fun xs H Q=>∃ p ys,xs=[.ref p]∧(SqL X.K H p ys∨SqT X.K H p ys)∧∀ l,H l=none→Q (.ref l) (upd H l (.lst ys))):=by
  intro pins s σ H xs us Q I r h
  obtain ⟨p,ys,rfl,hq,q⟩:=h
  obtain ⟨u,rfl,rx⟩:=vals1 r
  cases rx
  have fin:∀ (its:List Value),Vals ys its→ys.length≤sizeLine→∀ (h':Heap) (c':Nat),(∀ b o',s.heap.get? b=some o'→h'.get? b=some o') →
      h'.get? s.heap.objs.size=some { cls:=.type "list",dict:=none,data:=.seq its.toArray c',slots:=#[] }→EP X pins σ Q (.ref s.heap.objs.size) { s with heap:=h' }:=fun its r' hz h' c' kp e =>
    ⟨.ref s.heap.objs.size,_,I.laid (t':=s.toks) kp (Nat.le_refl _) (show qe X.prog X.w _ h' _ (.lst ys) from ⟨hz,its,c',r',e⟩),rfl,q _ (I.hok.fresh (Nat.le_refl _))⟩
  rcases hq with hq | hq
  · obtain ⟨its,r',pl,hz⟩:=I.list hq
    have hlen:=r'.length
    obtain ⟨o,ho,hc,n,hd⟩:=pl.isList
    exact call_list_seq p (.inl rfl) ho hc hd (fun h' c' kp e=>fin its r' hz h' c' kp e) (by simp only [List.size_toArray] <;> omega)
  · obtain ⟨its,r',pl,hz⟩:=I.tuple hq
    have hlen:=r'.length
    obtain ⟨o,ho,hc,n,hd⟩:=pl
    exact call_list_seq p (.inr rfl) ho hc hd (fun h' c' kp e=>fin its r' hz h' c' kp e) (by simp only [List.size_toArray] <;> omega)
theorem Bu:Aa X (.type "tuple") (fun xs H Q=>∃ p ys,xs=[.ref p]∧((SqL X.K H p ys∧∀ l,H l=none→Q (.ref l) (upd H l (.tup ys)))∨(SqT X.K H p ys∧Q (.ref p) H))):=by
  intro pins s σ H xs us Q I r h
  obtain ⟨p,ys,rfl,h⟩:=h
  obtain ⟨u,rfl,rx⟩:=vals1 r
  cases rx
  rcases h with ⟨hq,q⟩ | ⟨hq,q⟩
  · obtain ⟨its,r',pl,hz⟩:=I.list hq
    have hlen:=r'.length
    refine call_tuple_list pl.isList (fun h' kp=>?_) (by simp only [List.size_toArray] <;> omega)
    have I1:Inv X pins σ H { s with heap:=h' }:=I.kept (t':=s.toks) kp
    have I2:Inv X pins σ (upd H h'.objs.size (.tup ys)) { s with heap:=h'.push { cls:=.type "tuple",data:=.seq its.toArray } } :=
      I1.laid (t':=s.toks) (fun b o e=>Heap.get?_push_of_some _ e) (Nat.le_refl _) (show qe X.prog X.w _ _ _ (.tup ys) from ⟨hz,its,r',Yo.new _ _⟩)
    exact ⟨.ref h'.objs.size,_,I2,rfl,q _ (I1.hok.fresh (Nat.le_refl _))⟩
  · obtain ⟨its,r',pl,hz⟩:=I.tuple hq
    exact call_tuple_same pl ⟨.ref p,H,I,rfl,q⟩
def tyV (K:PySem.W.Frag) (T:String) (x:V) (H:Hp):Prop:=match x with
  | .str _=>T = "str"
  | .int _=>T = "int"
  | .ref p=>(T = "list" ∧ ∃ xs,SqL K H p xs)∨(T = "tuple" ∧ ∃ o,K.lookup p=some o∧o.cls=.type "tuple" ∧ o.dict=none) ∨
      (T = "dict" ∧ ((∃ kvs,H p=some (.dK kvs))∨∃ kvs,H p=some (.dT kvs)))∨(T = "set" ∧ ∃ S n,H p=some (.set S n))
  | _=>False
theorem a2z {pins:List (Addr × Obj)} {σ:St} {H:Hp} {s:Shared} {T:String} {x:V} {v:Value} (I:Inv X pins σ H s) (r:RelV x v) (ty:tyV X.K T x H) :
    s.TypeIs v T∧∀ a,v=.ref a→∃ ob,s.heap.get? a=some ob∧ob.dict=none:=by
  cases x with
  | str z =>
    obtain ⟨t,rfl⟩:=r
    cases (show T = "str" from ty)
    exact ⟨typeIs_str s z t,fun _ e=>nomatch e⟩
  | int i =>
    obtain ⟨t,rfl⟩:=r
    cases (show T = "int" from ty)
    exact ⟨typeIs_int s i t,fun _ e=>nomatch e⟩
  | ref p =>
    cases r
    rcases ty with ⟨rfl,xs,hq⟩ | ⟨rfl,o,hk,hc,hd⟩ | ⟨rfl,hk⟩ | ⟨rfl,S,n,hk⟩
    · obtain ⟨its,_,pl,_⟩:=I.list hq
      refine ⟨pl.isList.typeIs,fun a e=>?_⟩
      cases e
      obtain ⟨o,n,e,c,hd,_⟩:=pl
      exact ⟨o,e,hd⟩
    · refine ⟨⟨o,I.kIn p o hk,hc⟩,fun a e=>?_⟩
      cases e
      exact ⟨o,I.kIn _ o hk,hd⟩
    · have z:∃ o,s.heap.get? p=some o∧o.ExactDict:=by
        rcases hk with ⟨kvs,hk⟩ | ⟨kvs,hk⟩
        · obtain ⟨_,_,_,_,o,_,_,e,ex,_⟩:=I.hok p _ hk
          exact ⟨o,e,ex⟩
        · obtain ⟨_,_,_,_,o,_,_,e,ex,_⟩:=I.hok p _ hk
          exact ⟨o,e,ex⟩
      obtain ⟨o,e,ex⟩:=z
      refine ⟨⟨o,e,ex.1⟩,fun a e2=>?_⟩
      cases e2
      exact ⟨o,e,ex.2.1⟩
    · obtain ⟨o,_,_,_,e,ex,_⟩:=I.hok p _ hk
      refine ⟨⟨o,e,ex.1⟩,fun a e2=>?_⟩
      cases e2
      exact ⟨o,e,ex.2.1⟩
  | _=>exact False.elim ty
def tBM (K:PySem.W.Frag) (T:String) (r:V→List V→Hp→VK→Prop) (to:TE) (t:TA):TE:=fun σ H Q=>to σ H fun x H1=>tyV K T x H1∧t σ H1 fun xs H2=>r x xs H2 Q
variable {o e:Expr} {es:List Expr} {to:TE} {t:TA} {name:Str} {apos cpos:Pos} {T id:String} {r:V→List V→Hp→VK→Prop}
theorem Qt (pa:PlainAttrs T) (slot:Slot T name id) (hty:typeOf (.builtin id)=pure (.type "method_descriptor")) (hm:MtR X id r) (ho:PE X o to) (ha:PA X (e::es) t)
    (hbase:attributeBase o name X.env (eval o X.env)=eval o X.env:=by rfl)
    (hfew:((backTo cpos (starEach (e::es) X.env)).all (fun x=>!x.1)&&(backToKw cpos (keywordEach [] X.env)).all (fun x=>x.1.isSome)
      && decide ((e::es).length+([]:List Keyword).length+(if ([]:List Keyword).isEmpty then 0 else 1)<30))=true:=by rfl)
    (hline:(apos.endLine==cpos.line)=true:=by rfl) (hs:starEach (e::es) X.env=(false,eval e X.env)::starEach es X.env:=by rfl) (hplain:(backTo cpos (starEach es X.env)).any (·.1)=false:=by rfl) :
    PE X (.Call (.Attribute o name apos) (e::es) [] cpos) (tBM X.K T r to t):=by
  intro pins s σ H Q I h
  refine wpAny_Call_method_late hbase hfew hline rfl (thn (ho pins s σ H _ I h) fun v s1 z0=>?_)
  obtain ⟨x,H1,I1,r1,ty,q1⟩:=z0
  obtain ⟨h1,h2⟩:=a2z I1 r1 ty
  refine ⟨T,id,pa,slot,hty,h1,h2,?_⟩
  have hA:=ha cpos pins s1 σ H1 _ I1 q1
  rw [hs] at hA ⊢
  refine Calls.callWith_builtin (by show (false||(backTo cpos (starEach es X.env)).any (·.1))=false; rw [hplain] <;> rfl) (Calls.evalArgs_plain ?_)
  exact thn hA fun us s2 ⟨vs,H2,I2,r2,q2⟩=>hm pins s2 σ H2 x vs v us Q I2 r1 r2 q2
end
end L2
namespace L2
open PySem PySem.Spec PyProof.Rows
def MtM (X:Cx) (id:String) (r:V→List V→Hp→VK→Prop):Prop :=
  ∀ (pins:List (Addr × Obj)) (s:Shared) (σ:St) (H:Hp) (x:V) (xs:List V) (v:Value) (us:List Value) (Q:VK),Inv X pins σ H s→RelV x v→Vals xs us→r x xs H Q →
    wpAny (model X.prog X.w) X.A (call (.builtin id) (v::us)) (EP X pins σ Q) X.xe s
theorem Vals.one {x:V} {us:List Value} (h:Vals [x] us):∃ u,us=[u]∧RelV x u:=by
  cases h with
  | cons r t=>cases t; exact ⟨_,rfl,r⟩
theorem Vals.two {x y:V} {us:List Value} (h:Vals [x,y] us):∃ u v,us=[u,v]∧RelV x u∧RelV y v:=by
  cases h with
  | cons r t=>obtain ⟨v,e,q⟩:=Vals.one t; exact ⟨_,v,congrArg _ e,r,q⟩
theorem Vals.zero:∀ {us:List Value},Vals [] us→us=[]
  | _,.nil=>rfl
theorem Vals.rep {xs:List V} {us:List Value} (h:Vals xs us):∀ k:Nat,Vals (List.replicate k xs).flatten (List.replicate k us).flatten
  | 0=>.nil
  | k+1=>by
    rw [List.replicate_succ,List.replicate_succ,List.flatten_cons,List.flatten_cons]
    exact Vals.append h (Vals.rep h k)
section
variable {X:Cx} {pins:List (Addr × Obj)} {σ:St} {H:Hp} {s:Shared} {l b:Addr} {xs ys zs:List V}
theorem Inv.a73 {its its':List Value} {n:Nat} {f:Array Value→Array Value} {t':Nat} (I:Inv X pins σ H s) (hH:H l=some (.lst xs))
    (e:s.heap.get? l=some { cls:=.type "list",data:=.seq its.toArray n }) (hf:f its.toArray=its'.toArray) (hv:Vals ys its') (hz:ys.length≤sizeLine) :
    Inv X pins σ (upd H l (.lst ys)) { s with heap:=s.heap.update l (Obj.mapSeq f),toks:=t' }:=by
  have q:=PySem.IsL.update e f
  rw [hf] at q
  refine I.write (x:=l) (e:=l) (by rw [hH]; exact trivial) (.inl rfl) (fun b' u hb hu=>(Heap.get?_update_other s.heap (Obj.mapSeq f) (Ne.symm hb)).trans hu) ⟨_,q⟩ ?_
  exact ⟨hz,its',_,hv,q⟩
theorem Inv.a7k {its:List Value} {t':Nat} (I:Inv X pins σ H s) (hv:Vals ys its) (hz:ys.length≤sizeLine) :
    Inv X pins σ (upd H s.heap.objs.size (.lst ys)) { s with heap:=s.heap.push { cls:=.type "list",data:=.seq its.toArray },toks:=t' } :=
  I.laid (fun _ _ q=>Heap.get?_push_of_some _ q) (Nat.le_refl _) ⟨hz,its,0,hv,Heap.get?_push_size _ rfl⟩
theorem Inv.fresh (I:Inv X pins σ H s):H s.heap.objs.size=none:=I.hok.fresh (Nat.le_refl _)
theorem Inv.a6x (I:Inv X pins σ H s) (hH:H l=some (.lst xs)):xs.length≤sizeLine∧∃ (its:List Value) (n:Nat),Vals xs its∧xs.length=its.length∧s.heap.get? l=some { cls:=.type "list",data:=.seq its.toArray n }:=by
  obtain ⟨z,its,n,r,e⟩:=I.hok l _ hH
  exact ⟨z,its,n,r,r.length,e⟩
end
section
variable {X:Cx}
def Mr:V→List V→Hp→VK→Prop:=fun x vs H Q=>∃ l xs y,x=.ref l∧vs=[y]∧H l=some (.lst xs)∧xs.length<sizeLine∧Q .non (upd H l (.lst (xs++[y])))
theorem vd:MtM X "list.append" Mr:=by
  intro pins s σ H x vs v us Q I rx rv h
  obtain ⟨l,xs,y,rfl,rfl,hH,hz,q⟩:=h
  cases rx
  obtain ⟨u,rfl,ru⟩:=rv.one
  obtain ⟨z,its,n,r,hl,e⟩:=I.a6x hH
  refine call_meets F.slot_list_append ⟨_,e,rfl⟩ F.entry_list_append (F.args_list_append_2 _ _) (PySem.list_append l its.toArray n u (by rw [List.size_toArray]; omega)) ⟨e,?_⟩
  refine ⟨.non,_,I.a73 (its':=its++[u]) hH e (by simp) (r.append (.cons ru .nil)) ?_,rfl,q⟩
  rw [List.length_append,List.length_singleton]
  omega
end
section
variable {prog:Program} {w:World} {A:Around} {E:Value→Shared→Prop} {s:Shared}
end
section
variable {X:Cx}
end
end L2
end
section
namespace L2
open PySem PySem.Spec PyProof.Rows
section
variable {κ:Type} [DecidableEq κ]
def G7 (kvs:List (κ × V)) (k:κ):Option V:=(kvs.find? fun kv=>decide (kv.1=k)).map (·.2)
def putK (kvs:List (κ × V)) (k:κ) (v:V):List (κ × V) :=
  if (kvs.any fun kv=>decide (kv.1=k))=true then kvs.map (fun kv=>if kv.1=k then (kv.1,v) else kv) else kvs++[(k,v)]
def a2k (kvs:List (κ × V)) (k:κ):List (κ × V):=kvs.filter fun kv=>decide (kv.1≠k)
theorem Bp {p:κ × V} {r:List (κ × V)} {k:κ} (e:p.1=k):G7 (p::r) k=some p.2:=by simp [G7,List.find?_cons,e]
theorem Bh {p:κ × V} {r:List (κ × V)} {k:κ} (e:¬ p.1=k):G7 (p::r) k=G7 r k:=by simp [G7,List.find?_cons,e]
theorem O7 (k:κ):∀ kvs:List (κ × V),(kvs.any fun kv=>decide (kv.1=k))=(G7 kvs k).isSome
  | []=>rfl
  | p::r=>by
    rw [List.any_cons]
    by_cases e:p.1=k
    · simp only [Bp e,decide_eq_true e,Bool.true_or,Option.isSome_some]
    · rw [Bh e,decide_eq_false e,Bool.false_or]; exact O7 k r
theorem Aq (kvs:List (κ × V)) (k:κ) (v:V):(putK kvs k v).length≤kvs.length+1:=by
  unfold putK
  split
  · rw [List.length_map]; omega
  · rw [List.length_append,List.length_cons,List.length_nil]; omega
theorem J9.yh {o:Option V} {u:Option Value} (r:J9 o u):o.isSome=u.isSome:=by
  cases o with
  | none=>cases u with
    | none=>rfl
    | some _=>exact (show False from r).elim
  | some _=>cases u with
    | none=>exact (show False from r).elim
    | some _=>rfl
theorem J9.getD {o:Option V} {u:Option Value} {d:V} {d':Value} (r:J9 o u) (rd:RelV d d'):RelV (o.getD d) (u.getD d'):=by
  cases o with
  | none=>cases u with
    | none=>exact rd
    | some _=>exact (show False from r).elim
  | some _=>cases u with
    | none=>exact (show False from r).elim
    | some _=>exact r
theorem KV.val {kvs:List (κ × V)} {vs:List (κ × Value)} (r:KV kvs vs) (k:κ):J9 (G7 kvs k) (valueAt vs k):=by
  unfold KV at r
  induction r with
  | nil=>exact True.intro
  | @cons p q ps qs h t ih =>
    obtain ⟨h1,h2⟩:=h
    by_cases e:p.1=k
    · have e':q.1=k:=h1.symm.trans e
      have b:valueAt (q::qs) k=some q.2:=by simp [valueAt,List.find?_cons,e']
      rw [Bp e,b]; exact h2
    · have e':¬ q.1=k:=fun z=>e (h1.trans z)
      have b:valueAt (q::qs) k=valueAt qs k:=by simp [valueAt,List.find?_cons,e']
      rw [Bh e,b]; exact ih
theorem KV.any {kvs:List (κ × V)} {vs:List (κ × Value)} (r:KV kvs vs) (k:κ):(kvs.any fun kv=>decide (kv.1=k))=vs.any fun kv=>decide (kv.1=k):=by
  unfold KV at r
  induction r with
  | nil=>rfl
  | cons h t ih=>rw [List.any_cons,List.any_cons,ih,h.1]
theorem KV.repl {kvs:List (κ × V)} {vs:List (κ × Value)} (r:KV kvs vs) (k:κ) {y:V} {u:Value} (ry:RelV y u) :
    KV (kvs.map fun kv=>if kv.1=k then (kv.1,y) else kv) (vs.map fun kv=>if kv.1=k then (kv.1,u) else kv):=by
  unfold KV at r ⊢
  induction r with
  | nil=>exact .nil
  | @cons p q ps qs h t ih =>
    rw [List.map_cons,List.map_cons]
    refine .cons ?_ ih
    obtain ⟨h1,h2⟩:=h
    by_cases e:p.1=k
    · rw [if_pos e,if_pos (h1.symm.trans e)]; exact ⟨h1,ry⟩
    · rw [if_neg e,if_neg (fun z=>e (h1.trans z))]; exact ⟨h1,h2⟩
theorem KV.put {kvs:List (κ × V)} {vs:List (κ × Value)} (r:KV kvs vs) (k:κ) {y:V} {u:Value} (ry:RelV y u):KV (putK kvs k y) (stored vs k u):=by
  unfold putK stored
  rw [r.any k]
  by_cases e:(vs.any fun kv=>decide (kv.1=k))=true
  · rw [if_pos e,if_pos e]; exact r.repl k ry
  · rw [if_neg e,if_neg e]; exact Paired.snoc r ⟨rfl,ry⟩
theorem KV.drop {kvs:List (κ × V)} {vs:List (κ × Value)} (r:KV kvs vs) (k:κ):KV (a2k kvs k) (without vs k):=by
  unfold KV at r ⊢
  unfold a2k without
  induction r with
  | nil=>exact .nil
  | @cons p q ps qs h t ih =>
    obtain ⟨h1,h2⟩:=h
    rw [List.filter_cons,List.filter_cons]
    by_cases e:p.1=k
    · have a:¬ decide (p.1≠k)=true:=by simp [e]
      have b:¬ decide (q.1≠k)=true:=by simp [h1.symm.trans e]
      rw [if_neg a,if_neg b]; exact ih
    · have e':¬ q.1=k:=fun z=>e (h1.trans z)
      have a:decide (p.1≠k)=true:=by simp [e]
      have b:decide (q.1≠k)=true:=by simp [e']
      rw [if_pos a,if_pos b]; exact .cons ⟨h1,h2⟩ ih
theorem KV.keys {kvs:List (κ × V)} {vs:List (κ × Value)} (r:KV kvs vs):kvs.map (·.1)=vs.map (·.1):=by
  unfold KV at r
  induction r with
  | nil=>rfl
  | cons h t ih=>rw [List.map_cons,List.map_cons,ih,h.1]
theorem KV.length {kvs:List (κ × V)} {vs:List (κ × Value)} (r:KV kvs vs):kvs.length=vs.length:=Paired.length r
end
theorem Np {P:Program} {w:World} {k:Key} {u:Value} (r:RelV (kV k) u):(jd P w).is k u=true:=by
  cases k with
  | inl i=>obtain ⟨t,e⟩:=(show ∃ t,u=Value.int i t from r); subst e; exact Ln P w i t
  | inr x=>obtain ⟨t,e⟩:=(show ∃ t,u=Value.str x t from r); subst e; exact M9 P w x t
theorem Em {P:Program} {w:World}:∀ {ks:List Key} {us:List Value},Vals (ks.map kV) us→ItemsAre (jd P w) ks us
  | [],_,r=>by rw [List.map_nil] at r; cases r; exact .nil
  | k::ks,_,r=>by
    rw [List.map_cons] at r
    cases r with
    | cons h t=>exact .cons (Np h) (Em t)
abbrev KT (H:Hp):List (List Key × V)→List (List Key × Addr × Value)→Prop:=Paired fun p q=>p.1=q.1∧H q.2.1=some (.tup (p.1.map kV))∧RelV p.2 q.2.2
theorem KT.val {H:Hp} {kvs:List (List Key × V)} {xs:List (List Key × Addr × Value)} (r:KT H kvs xs) (k:List Key):J9 (G7 kvs k) ((atKey xs k).map (·.2)):=by
  induction r with
  | nil=>exact True.intro
  | @cons p q ps qs h t ih =>
    obtain ⟨h1,_,h2⟩:=h
    by_cases e:p.1=k
    · have e':q.1=k:=h1.symm.trans e
      have b:atKey (q::qs) k=some q.2:=by simp [atKey,List.find?_cons,e']
      rw [Bp e,b]; exact h2
    · have e':¬ q.1=k:=fun z=>e (h1.trans z)
      have b:atKey (q::qs) k=atKey qs k:=by simp [atKey,List.find?_cons,e']
      rw [Bh e,b]; exact ih
theorem KT.repl {H:Hp} {kvs:List (List Key × V)} {xs:List (List Key × Addr × Value)} (r:KT H kvs xs) (k:List Key) {y:V} {u:Value} (ry:RelV y u) :
    KT H (kvs.map fun kv=>if kv.1=k then (kv.1,y) else kv) (xs.map (putAt k u)):=by
  induction r with
  | nil=>exact .nil
  | @cons p q ps qs h t ih =>
    rw [List.map_cons,List.map_cons]
    refine .cons ?_ ih
    obtain ⟨h1,h2,h3⟩:=h
    unfold putAt
    by_cases e:p.1=k
    · rw [if_pos e,if_pos (h1.symm.trans e)]; exact ⟨h1,h2,ry⟩
    · rw [if_neg e,if_neg (fun z=>e (h1.trans z))]; exact ⟨h1,h2,h3⟩
theorem KT.put {H:Hp} {kvs:List (List Key × V)} {xs:List (List Key × Addr × Value)} (r:KT H kvs xs) (k:List Key) {b:Addr} {y:V} {u:Value} (hb:H b=some (.tup (k.map kV))) (ry:RelV y u) :
    KT H (putK kvs k y) (storedH xs k b u):=by
  have e:(kvs.any fun kv=>decide (kv.1=k))=(atKey xs k).isSome:=by
    rw [O7,(r.val k).yh,Option.isSome_map]
  unfold putK storedH
  rw [e]
  by_cases q:(atKey xs k).isSome=true
  · rw [if_pos q,if_pos q]; exact r.repl k ry
  · rw [if_neg q,if_neg q]; exact Paired.snoc r ⟨rfl,hb,ry⟩
theorem KT.keeps {H H':Hp} {kvs:List (List Key × V)} {xs:List (List Key × Addr × Value)} (r:KT H kvs xs) (ht:∀ b ys,H b=some (.tup ys)→H' b=some (.tup ys)):KT H' kvs xs :=
  Paired.a6y r fun _ _ z=>⟨z.1,ht _ _ z.2.1,z.2.2⟩
section
variable {P:Program} {w:World} {H:Hp} {h:Heap} {a:Addr}
theorem a4i {u:HO} (ok:HOk P w H h) (e:Rd H a u):qe P w H h a u:=e.ok ok
theorem Fy {kvs:List (Key × V)} (ok:HOk P w H h) (e:Rd H a (.dK kvs)):kvs.length≤sizeLine∧(a==sysModules)=false∧∃ vs,KV kvs vs∧h.DictOf (jd P w) a vs :=
  show qe P w H h a (.dK kvs) from a4i ok e
theorem a4d {kvs:List (Key × V)} (ok:HOk P w H h) (e:H a=some (.dK kvs)):kvs.length≤sizeLine∧(a==sysModules)=false∧∃ vs,KV kvs vs∧h.DictOf (jd P w) a vs:=Fy ok (.inl e)
theorem Gz {ks:List Key} (ok:HOk P w H h) (e:H a=some (.tup (ks.map kV))):(tupleKind (jd P w)).is h ks a:=by
  obtain ⟨_,its,r,o,h1,h2,_,n,h3⟩:=(show qe P w H h a (.tup (ks.map kV)) from ok a _ e)
  exact ⟨o,its.toArray,n,h1,h2,h3,by simpa using Em r⟩
theorem J1 {kvs:List (List Key × V)} (ok:HOk P w H h) (e:Rd H a (.dT kvs)):kvs.length≤sizeLine∧(a==sysModules)=false ∧
    ∃ xs,KT H kvs xs∧h.DictOfH (tupleKind (jd P w)) a xs:=by
  obtain ⟨z,y,xs,r,o,es,ep,h1,h2,h3,h4,h5⟩:=(show qe P w H h a (.dT kvs) from a4i ok e)
  refine ⟨z,y,xs,r,o,es,ep,h1,h2,h3,h4,fun x hx=>?_,h5⟩
  have all:∀ {l:List (List Key × V)} {m:List (List Key × Addr × Value)},KT H l m→∀ x∈m,(tupleKind (jd P w)).is h x.1 x.2.1:=by
    intro l m q
    induction q with
    | nil=>intro x hx; exact nomatch hx
    | @cons p q ps qs hq t ih =>
      intro x hx
      rcases List.mem_cons.mp hx with e | hx
      · subst e
        exact Gz ok (by rw [← hq.1]; exact hq.2.1)
      · exact ih x hx
  exact all r x hx
theorem Wg {kvs:List (List Key × V)} (ok:HOk P w H h) (e:H a=some (.dT kvs)):kvs.length≤sizeLine∧(a==sysModules)=false ∧
    ∃ xs,KT H kvs xs∧h.DictOfH (tupleKind (jd P w)) a xs:=J1 ok (.inl e)
end
def Q7 (H:Hp) (a:Addr) (y:V) (r:Option V):Prop :=
  (∃ kvs k,Rd H a (.dK kvs)∧y=kV k∧r=G7 kvs k)∨∃ kvs k b,Rd H a (.dT kvs)∧y=.ref b∧H b=some (.tup (k.map kV))∧r=G7 kvs k
def Zf (H:Hp) (a:Addr) (y v:V) (H':Hp):Prop :=
  (∃ kvs k,H a=some (.dK kvs)∧y=kV k∧kvs.length<sizeLine∧H'=upd H a (.dK (putK kvs k v))) ∨
  ∃ kvs k b,H a=some (.dT kvs)∧y=.ref b∧H b=some (.tup (k.map kV))∧kvs.length<sizeLine∧H'=upd H a (.dT (putK kvs k v))
theorem Q7.k {H:Hp} {a:Addr} {kvs:List (Key × V)} {k:Key} (e:H a=some (.dK kvs)):Q7 H a (kV k) (G7 kvs k):=.inl ⟨kvs,k,.inl e,rfl,rfl⟩
theorem Q7.t {H:Hp} {a b:Addr} {kvs:List (List Key × V)} {k:List Key} (e:H a=some (.dT kvs)) (eb:H b=some (.tup (k.map kV))):Q7 H a (.ref b) (G7 kvs k):=.inr ⟨kvs,k,b,.inl e,rfl,eb,rfl⟩
theorem Zf.k {H:Hp} {a:Addr} {kvs:List (Key × V)} {k:Key} {v:V} (e:H a=some (.dK kvs)) (hl:kvs.length<sizeLine):Zf H a (kV k) v (upd H a (.dK (putK kvs k v))):=.inl ⟨kvs,k,e,rfl,hl,rfl⟩
theorem Zf.t {H:Hp} {a b:Addr} {kvs:List (List Key × V)} {k:List Key} {v:V} (e:H a=some (.dT kvs)) (eb:H b=some (.tup (k.map kV))) (hl:kvs.length<sizeLine) :
    Zf H a (.ref b) v (upd H a (.dT (putK kvs k v))):=.inr ⟨kvs,k,b,e,rfl,eb,hl,rfl⟩
section
variable {X:Cx} {pins:List (Addr × Obj)} {σ:St} {H:Hp} {s:Shared} {a:Addr} {y v:V} {u r:Value} {o:Option V} {A:Around} {E:Value→Shared→Prop}
theorem Inv.big (I:Inv X pins σ H s):sysModules<s.heap.objs.size:=by
  have h:mainGlobals<s.heap.objs.size:=(I.mod.glob.keeps I.bk).lt
  exact Nat.lt_trans (by decide) h
theorem K5 {Q:Value→Shared→Prop} (hu:A.units+1<cLine) (I:Inv X pins σ H s) (g:Q7 H a y (some v)) (ry:RelV y u) (h:∀ w' s',Inv X pins σ H s'→RelV v w'→Q w' s') :
    wpAny (model X.prog X.w) A (getItem (.ref a) u) Q E s:=by
  rcases g with ⟨kvs,k,e,ey,l⟩ | ⟨kvs,k,b,e,ey,eb,l⟩
  · subst ey
    obtain ⟨z,hd,vs,rel,dd⟩:=Fy I.hok e
    obtain ⟨w',hw,rw'⟩:=J9.some_of (v:=v) (o:=valueAt vs k) (by rw [l]; exact rel.val k)
    exact wpAny_getItem_of (Np ry) dd.mapOf hw (h w' _ (I.tok _) rw')
  · subst ey
    cases (show u=Value.ref b from ry)
    obtain ⟨z,hd,xs,rel,dd⟩:=J1 I.hok e
    obtain ⟨w',hw,rw'⟩:=J9.some_of (v:=v) (o:=(atKey xs k).map (·.2)) (by rw [l]; exact rel.val k)
    obtain ⟨p,hp,hp2⟩:=Option.map_eq_some_iff.mp hw
    refine wpAny_getItem_heap (tupleKind_room_in1 hu) (Gz I.hok eb) dd hp ?_
    rw [hp2]
    exact h w' _ (I.tok _) rw'
theorem a7x {Q:Value→Shared→Prop} (hu:A.units+1<cLine) (I:Inv X pins σ H s) (g:Q7 H a y o) (ry:RelV y u) (h:∀ s',Inv X pins σ H s'→Q (.bool o.isSome) s') :
    wpAny (model X.prog X.w) A (compareOp .In u (.ref a)) Q E s:=by
  rcases g with ⟨kvs,k,e,ey,l⟩ | ⟨kvs,k,b,e,ey,eb,l⟩
  · subst ey
    obtain ⟨z,hd,vs,rel,dd⟩:=Fy I.hok e
    refine wpAny_in_of (Np ry) hd dd.mapOf ?_
    rw [← (rel.val k).yh,← l]
    exact h _ (I.tok _)
  · subst ey
    cases (show u=Value.ref b from ry)
    obtain ⟨z,hd,xs,rel,dd⟩:=J1 I.hok e
    refine wpAny_in_heap (tupleKind_room_in1 hu) (Gz I.hok eb) hd dd ?_
    have q:=(rel.val k).yh
    rw [Option.isSome_map] at q
    rw [← q,← l]
    exact h _ (I.tok _)
theorem a0z {Q:Value→Shared→Prop} (hu:A.units+1<cLine) (I:Inv X pins σ H s) (g:Q7 H a y o) (ry:RelV y u) (h:∀ s',Inv X pins σ H s'→Q (.bool (!o.isSome)) s') :
    wpAny (model X.prog X.w) A (compareOp .NotIn u (.ref a)) Q E s:=by
  rcases g with ⟨kvs,k,e,ey,l⟩ | ⟨kvs,k,b,e,ey,eb,l⟩
  · subst ey
    obtain ⟨z,hd,vs,rel,dd⟩:=Fy I.hok e
    refine wpAny_notIn_of (Np ry) hd dd.mapOf ?_
    rw [← (rel.val k).yh,← l]
    exact h _ (I.tok _)
  · subst ey
    cases (show u=Value.ref b from ry)
    obtain ⟨z,hd,xs,rel,dd⟩:=J1 I.hok e
    refine wpAny_notIn_heap (tupleKind_room_in1 hu) (Gz I.hok eb) hd dd ?_
    have q:=(rel.val k).yh
    rw [Option.isSome_map] at q
    rw [← q,← l]
    exact h _ (I.tok _)
theorem Lw {h':Heap} {t':Nat} {ob:HO} (I:Inv X pins σ H s) (mu:Mut (H a)) (hs:Heap.SameBut a s.heap h') (he:∃ q,h'.get? a=some q) (new:qe X.prog X.w (upd H a ob) h' a ob) :
    Inv X pins σ (upd H a ob) { s with heap:=h',toks:=t' } :=
  I.write (x:=a) (e:=a) mu (.inl rfl) (fun b q hb z=>(hs.2 b hb).trans z) he new
theorem Yq {P:Program} {w:World} {H':Hp} {h':Heap} {kvs:List (Key × V)} {vs:List (Key × Value)} (z:kvs.length≤sizeLine) (hd:(a==sysModules)=false) (rel:KV kvs vs) (dd:h'.DictOf (jd P w) a vs) :
    qe P w H' h' a (.dK kvs):=⟨z,hd,vs,rel,dd⟩
theorem Tj {H':Hp} {Q:Unit→Shared→Prop} (hu:A.units+1<cLine) (I:Inv X pins σ H s) (g:Zf H a y v H') (ry:RelV y u) (rv:RelV v r) (h:∀ s',Inv X pins σ H' s'→Q () s') :
    wpAny (model X.prog X.w) A (setItem (.ref a) u r) Q E s:=by
  rcases g with ⟨kvs,k,e,ey,l,eH⟩ | ⟨kvs,k,b,e,ey,eb,l,eH⟩
  · subst ey eH
    obtain ⟨z,hd,vs,rel,dd⟩:=a4d I.hok e
    have hz:vs.length≤sizeLine:=by rw [← rel.length]; exact z
    have hl:(putK kvs k v).length≤sizeLine:=by have:=Aq kvs k v; omega
    refine wpAny_setItem_pairs (hsz:=hz) (Np ry) dd fun h' dd' hs=>h _ ?_
    have he:∃ q,h'.get? a=some q:=let ⟨q,_,_,hq,_⟩:=dd'; ⟨q,hq⟩
    exact Lw I (by rw [e]; exact True.intro) hs he (Yq hl hd (rel.put k rv) dd')
  · subst ey eH
    cases (show u=Value.ref b from ry)
    obtain ⟨z,hd,xs,rel,dd⟩:=Wg I.hok e
    have hz:xs.length≤sizeLine:=by rw [← Paired.length rel]; exact z
    have hl:(putK kvs k v).length≤sizeLine:=by have:=Aq kvs k v; omega
    refine wpAny_setItem_heap (hsz:=hz) (tupleKind_room_in1 hu) (Gz I.hok eb) dd fun h' dd' hs=>h _ ?_
    obtain ⟨q,es,ep,hq,h2,h3,h4,_,h5⟩:=dd'
    refine Lw I (by rw [e]; exact True.intro) hs ⟨q,hq⟩ ⟨hl,hd,_,(rel.put k eb rv).keeps fun c ys ec=>?_,q,es,ep,hq,h2,h3,h4,h5⟩
    rw [d7 (a5h ec e (fun z=>nomatch z))]
    exact ec
end
section
variable {X:Cx} {pins:List (Addr × Obj)} {σ:St} {H:Hp} {s:Shared} {a:Addr} {kvs:List (Key × V)} {k:Key} {u:Value} {A:Around} {E:Value→Shared→Prop}
theorem a4p {Q:Value→Shared→Prop} (I:Inv X pins σ H s) (e:Rd H a (.dK kvs)) (h:∀ t s',Inv X pins σ H s'→Q (.int kvs.length t) s'):wpAny (model X.prog X.w) A (call (.builtin "len") [.ref a]) Q E s:=by
  obtain ⟨z,hd,vs,rel,dd⟩:=Fy I.hok e
  refine call_len_dict hd dd (by rw [← rel.length]; rw [sizeLine_eq] at z; omega) ?_
  rw [← rel.length]
  exact h _ _ (I.tok _)
end
def a3t (i:Expr):Prop:=∀ ov iv,subscripted i false ov iv=operate [ov,iv] (getItem ov iv)
theorem Vu {prog:Program} {w:World} {A:Around} {E:Value→Shared→Prop} {s:Shared} {env:Env} {value slice:Expr} {pos:Pos} {T id:String} {Q:Value→Shared→Prop}
    (hl:typeLookup (.type T) "__getitem__" = pure (some (.builtin id))) (hs:a3t slice)
    (h:wpAny (model prog w) A (eval value env) (fun o s₁=>wpAny (model prog w) A (eval slice env) (fun i s₂=>s₂.TypeIs o T∧wpAny (model prog w) A (getItem o i) Q E s₂) E s₁) E s) :
    wpAny (model prog w) A (eval (.Subscript value slice pos) env) Q E s:=by
  refine Subscript_ (wpAny_mono h (fun o s₁ h₁=>wpAny_mono h₁ (fun i s₂ h₂=>?_) fun _ _ x=>x) fun _ _ x=>x)
  obtain ⟨hT,h₂⟩:=h₂
  unfold subscriptTail
  refine wpAny_bind ?_
  rw [getitemInPython_of_ne hT.not_modules]
  refine wpAny_bind (wpAny_specialOf hT hl ?_)
  have fin:wpAny (model prog w) A (subscripted slice false o i) (fun r s₃=>wpAny (model prog w) A (letTemporaryGo value o r >>= fun _=>pure r) Q E s₃) E s₂:=by
    rw [hs o i]
    exact wpAny_operating (wpAny_mono h₂ (fun r s₃ h₃=>wpAny_bind (wpAny_letTemporaryGo (wpAny_pure h₃))) fun _ _ x=>x)
  first
    | exact wpAny_pure (wpAny_bind fin)
    | exact wpAny_bind (wpAny_pure (wpAny_bind fin))
    | exact wpAny_bind fin
theorem Es {X:Cx} {pins:List (Addr × Obj)} {σ:St} {H:Hp} {s:Shared} {a:Addr} {y:V} {o:Option V} (I:Inv X pins σ H s) (g:Q7 H a y o):s.TypeIs (.ref a) "dict" := by
  rcases g with ⟨kvs,k,e,_,_⟩ | ⟨kvs,k,b,e,_,_,_⟩
  · obtain ⟨_,_,vs,_,dd⟩:=Fy I.hok e
    exact dd.typeIs
  · obtain ⟨_,_,xs,_,dd⟩:=J1 I.hok e
    exact dd.typeIs
def a5u (td ty:TE):TE:=fun σ H Q=>td σ H fun x H1=>ty σ H1 fun y H2=>∃ a v,x=.ref a∧Q7 H2 a y (some v)∧Q v H2
def a5s (td ty tv:TE):TS:=fun D σ H=>tv σ H fun v H1=>td σ H1 fun x H2=>ty σ H2 fun y H3=>∃ a H4,x=.ref a∧Zf H3 a y v H4∧D.nx σ H4
section
variable {X:Cx} {o i e value:Expr} {pos pos' tpos:Pos} {td ty tv:TE}
theorem Zg (hu:X.A.units+1<cLine) (ho:PE X o td) (hi:PE X i ty) (hs:a3t i):PE X (.Subscript o i pos) (a5u td ty):=by
  intro pins s σ H Q I h
  refine Vu PySem.F.slot_dict_getitem.lookup hs (thn (ho pins s σ H _ I h) fun u s1 ⟨x,H1,I1,rx,q1⟩=>thn (hi pins s1 σ H1 _ I1 q1) fun iv s2 ⟨y,H2,I2,ry,a,v,ex,g,q2⟩=>?_)
  subst ex
  obtain rfl:u=Value.ref a:=rx
  exact ⟨Es I2 g,K5 hu I2 g ry fun w' s3 I3 rw'=>⟨v,H2,I3,rw',q2⟩⟩
theorem Ss (hu:X.A.units+1<cLine) (ho:PE X o td) (hi:PE X i ty) (hv:PE X value tv) (hs:swapsWith value (some (.Subscript o i pos')) pos.line X.env=pure false) :
    PS X (.Assign [.Subscript o i pos'] value pos) (a5s td ty tv):=by
  intro pins s σ H D I h
  refine wpAny_Assign_Subscript (thn (hv pins s σ H _ I h) fun r s1 ⟨v,H1,I1,rv,q1⟩=>thn (ho pins s1 σ H1 _ I1 q1) fun u s2 ⟨x,H2,I2,rx,q2⟩=>thn (hi pins s2 σ H2 _ I2 q2) fun iv s3 ⟨y,H3,I3,ry,a,H4,ex,g,q3⟩=>?_) hs
  subst ex
  obtain rfl:u=Value.ref a:=rx
  exact Tj hu I3 g ry rv fun s4 I4=>⟨σ,H4,I4,q3⟩
end
theorem X6 {P:Program} {w:World} {H:Hp} (h:Heap) (hb:sysModules<h.objs.size):qe P w H (h.push { cls:=.type "dict",data:=.dict #[] }) h.objs.size (.dK []) :=
  ⟨Nat.zero_le _,beq_eq_false_iff_ne.mpr (Ne.symm (Nat.ne_of_lt hb)),[],.nil,Heap.DictOf.new h⟩
theorem Xi {P:Program} {w:World} {H:Hp} (h:Heap) (hb:sysModules<h.objs.size):qe P w H (h.push { cls:=.type "dict",data:=.dict #[] }) h.objs.size (.dT []) :=
  ⟨Nat.zero_le _,beq_eq_false_iff_ne.mpr (Ne.symm (Nat.ne_of_lt hb)),[],.nil,_,#[],0,Heap.get?_push_size _ rfl,⟨rfl,rfl,rfl⟩,rfl,rfl,List.nodup_nil⟩
def a3k:TE:=fun _ H Q=>∀ p,H p=none→Q (.ref p) (upd H p (.dT []))
section
variable {X:Cx} {pos:Pos}
theorem Yb:PE X (.Dict [] [] pos) a3k:=fun pins s σ H Q I h =>
  wpAny_Dict_empty ⟨.ref s.heap.objs.size,_,I.laid (a:=s.heap.objs.size) (o:=.dT []) (t':=s.toks) (fun _ _ q=>Heap.get?_push_of_some _ q) (Nat.le_refl _) (Xi s.heap I.big),rfl,h _ (I.hok.fresh (Nat.le_refl _))⟩
end
def Uj:List (TE × TE)→St→Hp→(List (V × V)→Hp→Prop)→Prop
  | [],_,H,Q=>Q [] H
  | (tk,tv)::r,σ,H,Q=>tk σ H fun x H1=>tv σ H1 fun y H2=>Uj r σ H2 fun ps H3=>Q ((x,y)::ps) H3
abbrev VV:List (V × V)→List (Value × Value)→Prop:=Paired fun p q=>RelV p.1 q.1∧RelV p.2 q.2
def PPs (X:Cx) (pos:Pos) (keys:List (Option Expr)) (values:List Expr) (trs:List (TE × TE)):Prop :=
  ∀ (pins:List (Addr × Obj)) (s:Shared) (σ:St) (H:Hp) (Q:List (V × V)→Hp→Prop),Inv X pins σ H s→Uj trs σ H Q →
    wpAny (model X.prog X.w) X.A (evalPairs (pairTrees keys values X.env pos)) (fun vs s'=>∃ ps H',Inv X pins σ H' s'∧VV ps vs∧Q ps H') X.xe s
theorem a1d {X:Cx} {pos:Pos}:PPs X pos [] [] []:=fun pins s σ H Q I h=>pairTrees_nil_walk ⟨[],H,I,.nil,h⟩
theorem Xj {X:Cx} {pos:Pos} {k v:Expr} {ks:List (Option Expr)} {vs:List Expr} {tk tv:TE} {trs:List (TE × TE)} (hk:PE X k tk) (hv:PE X v tv) (hr:PPs X pos ks vs trs) :
    PPs X pos (some k::ks) (v::vs) ((tk,tv)::trs):=fun pins s σ H Q I h =>
  pairTrees_cons_walk (thn (hk pins s σ H _ I h) fun u s1 ⟨x,H1,I1,rx,q1⟩=>thn (hv pins s1 σ H1 _ I1 q1) fun w2 s2 ⟨y,H2,I2,ry,q2⟩ =>
    thn (hr pins s2 σ H2 _ I2 q2) fun ws s3 z7=>by obtain ⟨ps,H3,I3,rel,q3⟩:=z7; exact ⟨(x,y)::ps,H3,I3,.cons ⟨rx,ry⟩ rel,q3⟩)
def Fx (kvs more:List (Key × V)):List (Key × V):=more.foldl (fun acc kv=>putK acc kv.1 kv.2) kvs
theorem KV.merge:∀ {more:List (Key × V)} {rs:List (Key × Value)} {kvs:List (Key × V)} {vs:List (Key × Value)},KV more rs→KV kvs vs→KV (Fx kvs more) (merged vs rs):=by
  intro more rs kvs vs r
  unfold KV at r
  induction r generalizing kvs vs with
  | nil=>intro q; exact q
  | @cons p q ps qs h t ih =>
    intro r0
    have e:KV (putK kvs p.1 p.2) (stored vs q.1 q.2):=by
      have:=r0.put p.1 h.2
      rw [← h.1]; exact this
    exact ih e
theorem Bq:∀ (more kvs:List (Key × V)),(Fx kvs more).length≤kvs.length+more.length
  | [],kvs=>by show kvs.length≤kvs.length+0; omega
  | p::r,kvs=>by
    have h1:=Bq r (putK kvs p.1 p.2)
    have h2:=Aq kvs p.1 p.2
    show (Fx (putK kvs p.1 p.2) r).length≤_
    rw [List.length_cons]; omega
theorem Gd {P:Program} {w:World}:∀ {kvs:List (Key × V)} {ws:List (Value × Value)},VV (kvs.map fun kv=>(kV kv.1,kv.2)) ws→∃ rs,Carries (jd P w) ws rs∧KV kvs rs
  | [],_,r=>by rw [List.map_nil] at r; cases r; exact ⟨[],True.intro,.nil⟩
  | p::kvs,_,r=>by
    rw [List.map_cons] at r
    cases r with
    | @cons a b as bs h t =>
      obtain ⟨rs,c,q⟩:=Gd (P:=P) (w:=w) t
      obtain ⟨b1,b2⟩:=b
      exact ⟨(p.1,b2)::rs,⟨Np h.1,rfl,c⟩,.cons ⟨rfl,h.2⟩ q⟩
def a6t (trs:List (TE × TE)):TE:=fun σ H Q=>∀ p,H p=none→Uj trs σ (upd H p (.dK [])) fun ps H2=>H2 p=some (.dK [])∧∃ kvs:List (Key × V),ps=kvs.map (fun kv=>(kV kv.1,kv.2))∧kvs.length≤15∧Q (.ref p) (upd H2 p (.dK (Fx [] kvs)))
theorem Zv {X:Cx} {pos:Pos} {keys:List (Option Expr)} {values:List Expr} {trs:List (TE × TE)} (h:PPs X pos keys values trs) (hall:keys.all (·.isSome)=true) (hl:keys.length=values.length) (h0:keys≠[])
    (h15:keys.length≤15):PE X (.Dict keys values pos) (a6t trs):=by
  intro pins s σ H Q I q
  have hn:=I.hok.fresh (Nat.le_refl s.heap.objs.size)
  have I1:=I.laid (a:=s.heap.objs.size) (o:=.dK []) (h':=s.heap.push { cls:=.type "dict",data:=.dict #[] }) (t':=s.toks) (fun _ _ q=>Heap.get?_push_of_some _ q) (Nat.le_refl _) (X6 s.heap I.big)
  refine wpAny_Dict_walk (knd:=jd X.prog X.w) hall hl h0 h15 (thn (h pins _ σ _ _ I1 (q _ hn)) fun ws s2 z0=>?_)
  obtain ⟨ps,H2,I2,rel,e,kvs,ep,lk,q2⟩:=z0
  subst ep
  obtain ⟨rs,c,rk⟩:=Gd (P:=X.prog) (w:=X.w) rel
  obtain ⟨z,hd,vs0,r0,dd⟩:=a4d I2.hok e
  cases r0
  refine ⟨rs,c,dd,fun h' dd' hs=>⟨.ref s.heap.objs.size,_,?_,rfl,q2⟩⟩
  have hz:(Fx [] kvs).length≤sizeLine:=by
    have h1:=Bq kvs []
    rw [List.length_nil] at h1
    rw [sizeLine_eq]; omega
  have he:∃ q,h'.get? s.heap.objs.size=some q:=let ⟨q,_,_,hq,_⟩:=dd'; ⟨q,hq⟩
  exact Lw I2 (by rw [e]; exact True.intro) hs he (Yq hz hd (rk.merge .nil) dd')
structure M1 (X:Cx) (o:Expr) (m:Str) (apos:Pos) (e:Expr) (cpos:Pos):Prop where
  base:attributeBase o m X.env (eval o X.env)=eval o X.env
  few:((backTo cpos (starEach [e] X.env)).all (fun x=>!x.1)&&(backToKw cpos (keywordEach [] X.env)).all (fun x=>x.1.isSome)
    && decide (([e]:List Expr).length+([]:List Keyword).length+(if ([]:List Keyword).isEmpty then 0 else 1)<30))=true
  line:(apos.endLine==cpos.line)=true
  trees:backTo cpos (starEach [e] X.env)=[(false,eval e X.env)]
structure M2 (X:Cx) (o:Expr) (m:Str) (apos:Pos) (e f:Expr) (cpos:Pos):Prop where
  base:attributeBase o m X.env (eval o X.env)=eval o X.env
  few:((backTo cpos (starEach [e,f] X.env)).all (fun x=>!x.1)&&(backToKw cpos (keywordEach [] X.env)).all (fun x=>x.1.isSome)
    && decide (([e,f]:List Expr).length+([]:List Keyword).length+(if ([]:List Keyword).isEmpty then 0 else 1)<30))=true
  line:(apos.endLine==cpos.line)=true
  trees:backTo cpos (starEach [e,f] X.env)=[(false,eval e X.env),(false,eval f X.env)]
def IsD (H:Hp) (a:Addr):Prop:=(∃ kvs,Rd H a (.dK kvs))∨∃ kvs,Rd H a (.dT kvs)
theorem a3x {X:Cx} {pins:List (Addr × Obj)} {σ:St} {H:Hp} {s:Shared} {a:Addr} (I:Inv X pins σ H s) (d:IsD H a) :
    s.TypeIs (.ref a) "dict" ∧ (∀ b,Value.ref a=.ref b→∃ ob,s.heap.get? b=some ob∧ob.dict=none)∧(a==sysModules)=false:=by
  rcases d with ⟨kvs,e⟩ | ⟨kvs,e⟩
  · obtain ⟨_,hd,vs,_,dd⟩:=Fy I.hok e
    refine ⟨dd.typeIs,fun b q=>?_,hd⟩
    cases q
    obtain ⟨ob,_,_,h1,h2,_⟩:=dd
    exact ⟨ob,h1,h2.2.1⟩
  · obtain ⟨_,hd,xs,_,dd⟩:=J1 I.hok e
    refine ⟨dd.typeIs,fun b q=>?_,hd⟩
    cases q
    obtain ⟨ob,_,_,h1,h2,_⟩:=dd
    exact ⟨ob,h1,h2.2.1⟩
section
variable {X:Cx} {pins:List (Addr × Obj)} {σ:St} {H:Hp} {s:Shared} {a:Addr} {y d:V} {u r:Value} {o:Option V} {A:Around} {E:Value→Shared→Prop}
theorem a3u {Q:Value→Shared→Prop} (hu:A.units+1<cLine) (I:Inv X pins σ H s) (g:Q7 H a y o) (ry:RelV y u) (h:∀ w' s',Inv X pins σ H s'→RelV (o.getD .non) w'→Q w' s') :
    wpAny (model X.prog X.w) A (call (.builtin "dict.get") [.ref a,u]) Q E s:=by
  rcases g with ⟨kvs,k,e,ey,l⟩ | ⟨kvs,k,b,e,ey,eb,l⟩
  · subst ey
    obtain ⟨z,hd,vs,rel,dd⟩:=Fy I.hok e
    refine call_meetsIn PySem.F.slot_dict_get dd.typeIs PySem.F.entry_dict_get (PySem.F.args_dict_get_2 _ _) (meets_dict_get (jd X.prog X.w) a (Np ry) hd) ⟨_,dd.mapOf,h _ _ (I.tok _) ?_⟩
    rw [l]
    exact (rel.val k).getD rfl
  · subst ey
    cases (show u=Value.ref b from ry)
    obtain ⟨z,hd,xs,rel,dd⟩:=J1 I.hok e
    refine call_meetsIn PySem.F.slot_dict_get dd.typeIs PySem.F.entry_dict_get (PySem.F.args_dict_get_2 _ _) (meetsH_dict_get (tupleKind (jd X.prog X.w)) a b hd) ⟨tupleKind_room_in1 hu,k,xs,Gz I.hok eb,dd,h _ _ (I.tok _) ?_⟩
    rw [l]
    exact (rel.val k).getD rfl
end
def a2s (td ty:TE):TE:=fun σ H Q=>td σ H fun x H1=>∃ a,x=.ref a∧IsD H1 a∧ty σ H1 fun y H2=>∃ o,Q7 H2 a y o∧Q (o.getD .non) H2
section
variable {X:Cx} {o e f:Expr} {apos cpos:Pos} {td ty tx:TE}
theorem Xq (hu:X.A.units+1<cLine) (ho:PE X o td) (he:PE X e ty) (m:M1 X o "get" apos e cpos):PE X (.Call (.Attribute o "get" apos) [e] [] cpos) (a2s td ty):=by
  intro pins s σ H Q I h
  refine wpAny_Call_method m.base m.few m.line PySem.F.plainAttrs_dict PySem.F.slot_dict_get PySem.F.type_dict_get (thn (ho pins s σ H _ I h) fun u s1 z0=>?_)
  obtain ⟨x,H1,I1,rx,a,ex,d,q1⟩:=z0
  subst ex
  obtain rfl:u=Value.ref a:=rx
  obtain ⟨t1,t2,_⟩:=a3x I1 d
  refine ⟨t1,t2,?_⟩
  rw [m.trees]
  refine Calls.callWith_builtin rfl (Calls.evalArgs_plain (Calls.spliced_cons (thn (he pins s1 σ H1 _ I1 q1) fun iv s2 z0=>Calls.spliced_nil ?_)))
  obtain ⟨y,H2,I2,ry,ov,g,q2⟩:=z0
  exact a3u hu I2 g ry fun w' s3 I3 rw'=>⟨_,H2,I3,rw',q2⟩
end
section
variable {X:Cx} {pins:List (Addr × Obj)} {σ:St} {H:Hp} {s:Shared} {a:Addr} {kvs:List (Key × V)} {A:Around} {E:Value→Shared→Prop}
end
section
variable {X:Cx} {pins:List (Addr × Obj)} {σ:St} {H:Hp} {s:Shared} {a:Addr} {y:V} {u:Value} {A:Around} {E:Value→Shared→Prop}
end
end L2
end
section
namespace Att
open PySem PySem.W PySem.Calls PyProof.Rows
theorem Fl {P:Params} {h:Heap}:∀ (ns:List Int) (vs:List Value),WellAll P h vs (ns.map WData.int)→IntsAre vs ns:=by
  intro ns
  induction ns with
  | nil =>
    intro vs w
    rw [List.map_nil] at w
    cases w
    exact .nil
  | cons n ns ih =>
    intro vs w
    rw [List.map_cons] at w
    cases w with
    | cons a b =>
      cases a
      exact .cons _ _ (ih _ b)
theorem Vz {l:OpenLaw} {n:Nat} (hn:l.most=some n) {P:Params} {h:Heap} {args:List WData} {vals:List Value}
    (hpre:l.row.toRowW.claim.pre args=true) (hwl:WellAll P h vals args) :
    ∃ a vs ns,vals=[Value.ref a]∧args=[WData.list (ns.map WData.int)]∧h.get? a=some { cls:=.type "list",data:=.seq vs.toArray }∧IntsAre vs ns∧ns.length≤n:=by
  have hsh:WShape.hasAll [] args [.list .int]=true:=(pre_splitW hpre).1
  have hc:l.pre.holds [] { args:=args } = true:=(pre_splitW hpre).2
  obtain ⟨d,r,rfl,h1,h2⟩:=hasAllW_cons hsh
  obtain rfl:=hasAllW_nil h2
  obtain ⟨xs,rfl,h3⟩:=hasW_list h1
  obtain ⟨ns,rfl⟩:=items_int h3
  have hlen:ns.length≤n:=by
    unfold OpenLaw.pre at hc
    have h4:(WTm.not (.lt (.lit (.int (n:Int))) (.len (.arg 0)))).holds [] { args:=[.list (ns.map .int)] } = true:=by
      have h4:=(holds_andW hc).1
      rw [hn] at h4
      exact h4
    have h5:=condW_of h4 (w_not (w_lt w_lit (w_len_list (w_arg rfl))))
    rw [List.length_map] at h5
    refine Nat.le_of_not_lt fun q=>?_
    have q':(n:Int)<((ns.length:Nat):Int):=by omega
    first
      | (rw [decide_eq_true q'] at h5; exact absurd h5 (by decide))
      | (simp at h5; omega)
  cases hwl with
  | cons w1 w2 =>
    cases w2
    cases w1 with
    | list ho hall=>exact ⟨_,_,ns,rfl,rfl,ho,Fl ns _ hall,hlen⟩
theorem Ux (l:OpenLaw) (args:List WData):l.row.toRowW.claim.post args (.bool true) args=true :=
  postW_of (r:=l.row.toRowW) (X:=(true==true))
    (show WShape.has [] (.bool true) .bool=true by first | rfl | decide | simp [WShape.has,WShape.arms,WShape.armsAll])
    (show (WTm.eq .res (.lit (.bool true))).value [] { args:=args,res:=some (.bool true),after:=args } = some (.bool (true==true)) from w_eq_bool (w_res rfl) w_lit) rfl
theorem Mf {l:OpenLaw} {n:Nat} {q:Program} {loose:List Str} {XP:(Str→Option Value)→Heap→Prop} {YP:World→Heap→Prop} {d:DefRec}
    (hn:l.most=some n) (hdf:d.params.defaults=[])
    (call:∀ (w:World) (s₀ s₁:Shared) (mg mb:Str→Option Value) (fa:Addr) (o:Obj) (pm cd doc:Value) (a:Addr) (vs:List Value) (ns:List Int),
      Ground q loose [] XP w s₀ mg mb s₁.heap→YP w s₁.heap →
      s₁.heap.get? fa=some o→o.data=.func (docDef d.name d.params d.body d.scope pm cd doc)→s₁.heap.CodeRec cd d.name→mg d.name=some (.ref fa) →
      s₁.heap.get? a=some { cls:=.type "list",data:=.seq vs.toArray }→IntsAre vs ns→ns.length≤n→s₁.gens = #[] →
      codeAny (model l.prog w) callerA (.call (.ref fa) ⟨[.ref a],[]⟩) (fun r s'=>r=.ok (.ret (.bool true))∧OldK s₁.heap s'.heap∧s'.os=s₁.os∧AllBare s'.gens) s₁) :
    WalkO q loose XP YP l.row.toRowW d [] (fun f vs=>PySem.call f vs):=by
  intro w s₀ s₁ mg mb G Y fa o pm cd doc dV kV ho hd hcd hD hmg hg args vals as hpre hlay hrd hwl hlo
  obtain rfl:dV=.none:=Dflts.none hD hdf
  obtain rfl:kV=.none:=Dflts.noKw hD
  obtain ⟨a,vs,ns,rfl,rfl,hobj,hints,hlen⟩:=Vz hn hpre hwl
  refine enter_call (codeAny_mono (call w s₀ s₁ mg mb fa o pm cd doc a vs ns G Y ho (fd_plain hd) hcd hmg hobj hints hlen hg) fun r s' hq=>?_)
  obtain ⟨rfl,h2,h3,h4⟩:=hq
  exact ⟨.inl ⟨.bool true,.bool true,[],rfl,fun _=>rfl,.bool true,Ux l _,fun _=>⟨List.Pairwise.nil,fun _ hm=>(nomatch hm)⟩⟩,h2,h3,h4⟩
section
variable {prog:Program} {w:World} {A:Around} {E:Value→Shared→Prop} {s:Shared} {K:Frag}
end
end Att
namespace L2
open PySem PySem.Spec PyProof.Rows
theorem Jc:∀ {vs:List Value} {ns:List Int},IntsAre vs ns→Vals (ns.map V.int) vs
  | _,_,.nil=>.nil
  | _,_,.cons n t h=>.cons ⟨t,rfl⟩ (Jc h)
def Only (H:Hp):Prop:=∀ b,H b=none∨∃ o xs,H b=some (.frz o (.lst xs))
theorem Xk {P:Program} {w:World} {K:PySem.W.Frag} {mg mb:Str→Option Value} {CX:CXT} {k:Nat} {fa a:Addr} {fd:FuncData} {x:Str} {sp:Sp} {s₁:Shared} {vs:List Value} {ns:List Int}
    (KX:K.In s₁.heap) (hns:s₁.heap.Ns mainGlobals mg) (hb:s₁.heap.Ns builtinsNs mb) (hbb:∀ x:Str,x ≠ "__name__" → mb x=bootBuiltins x) (hlim:s₁.heap.NoLimit) (hg:s₁.gens = #[])
    (ha:s₁.heap.get? a=some { cls:=.type "list",data:=.seq vs.toArray }) (hi:IntsAre vs ns) (hl:ns.length≤sizeLine) (hr:xq k callerA)
    (F:∀ base:Heap,K.In base→base.Ns mainGlobals mg→ud P w K mg base CX k fa fd [x] sp) (hbind:∀ (s:Shared) (u:Value),BindsTo s fd ⟨[u],[]⟩ [(x,u)])
    (hsp:∀ H:Hp,Only H→SqL K H a (ns.map V.int)→sp [.ref a] H (fun v _=>v=.bl true) fun _ _ _=>False)
    (hCX:∀ H e s',CX [] H s₁ (fun _ _ _=>False) e s'→False) :
    codeAny (model P w) callerA (.call (.ref fa) ⟨[.ref a],[]⟩) (fun r s'=>r=.ok (.ret (.bool true))∧OldK s₁.heap s'.heap∧s'.os=s₁.os∧AllBare s'.gens) s₁:=by
  have rv:=Jc hi
  have lenV:=hi.length
  have core:∀ H:Hp,Only H→SqL K H a (ns.map V.int)→HOk P w H s₁.heap→(∀ b,H b≠none→b=a)→(H a≠none→K.lookup a=none) →
      codeAny (model P w) callerA (.call (.ref fa) ⟨[.ref a],[]⟩) (fun r s'=>r=.ok (.ret (.bool true))∧OldK s₁.heap s'.heap∧s'.os=s₁.os∧AllBare s'.gens) s₁:=by
    intro H hO hS hok hA hK
    have base_of:∀ {b:Addr} {o:Obj},s₁.heap.get? b=some o→H b=none→(Xe s₁.heap H).get? b=some o:=fun e n=>Xd e n
    have noA:∀ {b:Addr} {o:Obj} {es:Array DictEntry} {ep:Nat},s₁.heap.get? b=some o→o.data=.dict es ep→H b=none:=fun {b o es ep} e d=>by
      cases q:H b with
      | none=>rfl
      | some u =>
        have e':b=a:=hA b (by rw [q]; simp)
        subst e'
        rw [ha] at e; cases e
        have d':Data.seq vs.toArray _=Data.dict es ep:=d
        cases d'
    have nsK:∀ {b:Addr} {m:Str→Option Value},s₁.heap.Ns b m→(Xe s₁.heap H).Ns b m:=fun {b m} ⟨o,es,ep,e,d,r⟩=>⟨o,es,ep,base_of e (noA e d),d,r⟩
    have hKb:K.In (Xe s₁.heap H):=fun b o e=>base_of (KX b o e) (by
      cases q:H b with
      | none=>rfl
      | some u =>
        have e':b=a:=hA b (by rw [q]; simp)
        subst e'
        rw [hK (by rw [q]; simp)] at e; cases e)
    have hM:Mod K mg (Xe s₁.heap H):=⟨hKb,nsK hns,⟨mb,nsK hb,hbb⟩,let ⟨mc,h1,h2⟩:=hlim; ⟨mc,nsK h1,h2⟩⟩
    have e0:a02 P w K mg (Xe s₁.heap H) callerA [] s₁ H:=⟨rfl,hM,fun b o e=>a1r e,Nat.le_of_eq (Rk _ _),trivial,fun b hb=>absurd (show b∈([]:List Addr) from hb) (by simp),hok,.of_eq hg⟩
    refine codeAny_mono ((F _ hKb (nsK hns)).run callerA [] s₁ H ⟨[.ref a],[]⟩ [.ref a] [.ref a] _ _ hr e0 (hbind s₁ (.ref a)) (.cons rfl .nil) (hsp H hO hS)) fun r s' h=>?_
    cases r with
    | error e=>exact (hCX H e s' h).elim
    | ok fl =>
      cases fl with
      | next=>exact False.elim h
      | brk=>exact False.elim h
      | cont=>exact False.elim h
      | ret u =>
        obtain ⟨v,H',os,bare,un,hok',r',q⟩:=h
        have q':v=.bl true:=q
        subst q'
        obtain rfl:u=Value.bool true:=r'
        refine ⟨rfl,OldK.of_keep fun b o e=>?_,os,bare⟩
        cases q:H b with
        | none=>exact un.keep b o e q (by intro z; exact absurd (show b∈([]:List Addr) from z) (by simp)) (by simp)
        | some u =>
          rcases hO b with z | ⟨ob,xs,z⟩
          · rw [q] at z; cases z
          · have z2:=un.frzs b ob _ z
            obtain ⟨e1,_⟩:=hok b _ z
            obtain ⟨e2,_⟩:=hok' b _ z2
            rw [e] at e1; cases e1
            exact e2
  cases hk:K.lookup a with
  | some o =>
    have e:=KX a o hk
    rw [ha] at e
    cases e
    refine core (fun _=>none) (fun _=>.inl rfl) (.inr ⟨_,vs.toArray,_,hk,rfl,rfl,rfl,by rw [List.size_toArray,lenV]; exact hl,by simpa using rv⟩) (fun b u z=>by have z':(none:Option HO)=some u:=z; cases z') (fun b z=>absurd rfl z) fun z=>absurd rfl z
  | none =>
    refine core (fun b=>if b=a then some (.frz { cls:=.type "list",data:=.seq vs.toArray } (.lst (ns.map V.int))) else none) (fun b=>?_) (.inl (.inr ⟨{ cls:=.type "list",data:=.seq vs.toArray },if_pos rfl⟩)) (fun b u z=>?_) (fun b z=>?_) fun _=>hk
    · by_cases hb:b=a
      · exact .inr ⟨_,_,if_pos hb⟩
      · exact .inl (if_neg hb)
    · by_cases hb:b=a
      · have z':=(if_pos hb).symm.trans z
        cases z'
        subst hb
        exact ⟨ha,by rw [List.length_map]; exact hl,vs,_,rv,ha⟩
      · have z':=(if_neg hb).symm.trans z
        cases z'
    · by_cases hb:b=a
      · exact hb
      · exact absurd (if_neg hb) z
end L2
namespace L2
open PySem PySem.Spec PyProof.Rows
theorem a1i {l:PySem.W.OpenLaw} {n k:Nat} {q:Program} {loose:List Str} {XP:(Str→Option Value)→Heap→Prop} {YP:World→Heap→Prop} {d:DefRec} {K:Params→PySem.W.Frag} {CX:World→CXT} {sp:World→Sp} {x:Str}
    (hn:l.most=some n) (hn2:n≤sizeLine) (hdf:d.params.defaults=[]) (hr:xq k callerA)
    (hY:∀ (w:World) (h:Heap),YP w h→(K w.params).In h)
    (F:∀ (w:World) (mg:Str→Option Value) (fa:Addr) (h:Heap),(K w.params).In h→h.Ns mainGlobals mg→mg d.name=some (.ref fa) →
      ∃ fd:FuncData,(∀ (s:Shared) (u:Value),BindsTo s fd ⟨[u],[]⟩ [(x,u)]) ∧
        ∀ base:Heap,(K w.params).In base→base.Ns mainGlobals mg→ud l.prog w (K w.params) mg base (CX w) k fa fd [x] (sp w))
    (hsp:∀ (w:World) (H:Hp) (a:Addr) (ns:List Int),ns.length≤n→Only H→SqL (K w.params) H a (ns.map V.int)→sp w [.ref a] H (fun v _=>v=.bl true) fun _ _ _=>False)
    (hCX:∀ (w:World) (H:Hp) (s:Shared) (e:Value) (s':Shared),CX w [] H s (fun _ _ _=>False) e s'→False) :
    PySem.W.WalkO q loose XP YP l.row.toRowW d [] (fun f vs=>PySem.call f vs):=by
  refine Att.Mf hn hdf fun w s₀ s₁ mg mb fa o pm cd doc a vs ns G Y ho hd hcd hmg hobj hints hlen hg=>?_
  have KX:=hY w _ Y
  obtain ⟨fd,hb,hF⟩:=F w mg fa _ KX G.T.g hmg
  exact Xk KX G.T.g G.T.b G.T.builtins G.T.nolimit hg hobj hints (Nat.le_trans hlen hn2) hr hF hb (fun H hO hS=>hsp w H a ns hlen hO hS) fun H e s'=>hCX w H s₁ e s'
end L2
namespace L2
open PySem PySem.Spec PyProof.Rows
def yq (s:Stmt):Arguments:=match s with
  | .FunctionDef _ a _ _ _ _ _ _ _ _=>a
  | _=>{ posonlyargs:=[],args:=[],vararg:=none,kwonlyargs:=[],kw_defaults:=[],kwarg:=none,defaults:=[] }
def qm (s:Stmt):List Stmt:=match s with
  | .FunctionDef _ _ b _ _ _ _ _ _ _=>b
  | _=>[]
def dz (s:Stmt):Scope:=match s with
  | .FunctionDef _ _ _ _ _ _ sc _ _ _=>sc
  | _=>{ kind:=.function,names:=[],isGenerator:=false,isCoroutine:=false }
abbrev CX0:CXT:=fun _ _ _ _ _ _=>False
abbrev E0:XK:=fun _ _ _=>False
theorem a6a {X:Cx}:Passes CX0 X E0:=fun _ _ _ _ _ _ _ h=>h.elim
structure Fun (K:PySem.W.Frag) (x qual:Str) (st:Stmt) (f:Addr) (fd:FuncData):Prop where
  ex:∃ (oc:Value) (od:Option Addr) (kV doc pm:Value) (an:Option Addr) (cdv ct:Value) (osl:Array (Option Value)),
    fd=PySem.W.fnOf x qual (yq st) (qm st) (dz st) .none kV doc pm an cdv ct∧K.lookup f=some ⟨oc,od,.func fd,osl⟩∧PySem.W.codeIn K cdv qual=true
  kp:PySem.W.keepIn K (.ref f)=true
section
variable {P:Program} {w:World} {K:PySem.W.Frag} {mg:Str→Option Value} {base:Heap}
theorem Fun.ok {x qual:Str} {st:Stmt} {f:Addr} {fd:FuncData} {N ps:List Str} {k:Nat} {sp:Sp} (F:Fun K x qual st f fd) (S:jr N ps (dz st)) (len:∀ vs H Q E,sp vs H Q E→vs.length=ps.length)
    (hbody:∀ (cdv:Value) (A:Around) (outer:List Env) (s:Shared) (H:Hp) (vs:List V) (Q:VK) (E:XK),xq k (A.deeper (envOfC qual (dz st) s.heap.objs.size f cdv))→sp vs H Q E →
      ∃ t,PSs (Qg CX0 P w K mg base N qual (dz st) f cdv A outer s H E).nox (qm st) t∧t { nx:=fun _ H'=>Q .non H',rt:=Q } (start N vs) H):ud P w K mg base CX0 (k+1) f fd ps sp:=by
  obtain ⟨oc,od,kV,doc,pm,an,cdv,ct,osl,rfl,lk,hcd⟩:=F.ex
  refine a2j lk hcd S len fun A outer s H vs Q E hr hsp=>?_
  obtain ⟨t,h,q⟩:=hbody cdv A outer s H vs Q E hr hsp
  exact ⟨t,h.nox,q⟩
theorem Fun.binds {x qual:Str} {st:Stmt} {f:Addr} {fd:FuncData} {ps:List Str} (F:Fun K x qual st f fd)
    (h:∀ (kV doc pm:Value) (an:Option Addr) (cdv ct:Value) (us:List Value),us.length=ps.length→bindArgs (PySem.W.fnOf x qual (yq st) (qm st) (dz st) .none kV doc pm an cdv ct) ⟨us,[]⟩=pure (ps.zip us)):Binds K fd ps []:=by
  obtain ⟨oc,od,kV,doc,pm,an,cdv,ct,osl,rfl,lk,hcd⟩:=F.ex
  exact .all (h kV doc pm an cdv ct)
theorem bd1 {fd:FuncData} {ps:List Str} (h:∀ a,bindArgs fd ⟨[a],[]⟩=pure (ps.zip [a])) (us:List Value) (hl:us.length=1):bindArgs fd ⟨us,[]⟩=pure (ps.zip us):=by
  cases us with
  | nil=>exact nomatch hl
  | cons a us =>
  cases us with
  | cons _ _=>simp at hl
  | nil=>exact h a
theorem bd2 {fd:FuncData} {ps:List Str} (h:∀ a b,bindArgs fd ⟨[a,b],[]⟩=pure (ps.zip [a,b])) (us:List Value) (hl:us.length=2):bindArgs fd ⟨us,[]⟩=pure (ps.zip us):=by
  cases us with
  | nil=>exact nomatch hl
  | cons a us =>
  cases us with
  | nil=>exact nomatch hl
  | cons b us =>
  cases us with
  | cons _ _=>simp at hl
  | nil=>exact h a b
theorem bd3 {fd:FuncData} {ps:List Str} (h:∀ a b c,bindArgs fd ⟨[a,b,c],[]⟩=pure (ps.zip [a,b,c])) (us:List Value) (hl:us.length=3):bindArgs fd ⟨us,[]⟩=pure (ps.zip us):=by
  cases us with
  | nil=>exact nomatch hl
  | cons a us =>
  cases us with
  | nil=>exact nomatch hl
  | cons b us =>
  cases us with
  | nil=>exact nomatch hl
  | cons c us =>
  cases us with
  | cons _ _=>simp at hl
  | nil=>exact h a b c
theorem bd4 {fd:FuncData} {ps:List Str} (h:∀ a b c d,bindArgs fd ⟨[a,b,c,d],[]⟩=pure (ps.zip [a,b,c,d])) (us:List Value) (hl:us.length=4):bindArgs fd ⟨us,[]⟩=pure (ps.zip us):=by
  cases us with
  | nil=>exact nomatch hl
  | cons a us =>
  cases us with
  | nil=>exact nomatch hl
  | cons b us =>
  cases us with
  | nil=>exact nomatch hl
  | cons c us =>
  cases us with
  | nil=>exact nomatch hl
  | cons d us =>
  cases us with
  | cons _ _=>simp at hl
  | nil=>exact h a b c d
theorem bd5 {fd:FuncData} {ps:List Str} (h:∀ a b c d e,bindArgs fd ⟨[a,b,c,d,e],[]⟩=pure (ps.zip [a,b,c,d,e])) (us:List Value) (hl:us.length=5):bindArgs fd ⟨us,[]⟩=pure (ps.zip us):=by
  cases us with
  | nil=>exact nomatch hl
  | cons a us =>
  cases us with
  | nil=>exact nomatch hl
  | cons b us =>
  cases us with
  | nil=>exact nomatch hl
  | cons c us =>
  cases us with
  | nil=>exact nomatch hl
  | cons d us =>
  cases us with
  | nil=>exact nomatch hl
  | cons e us =>
  cases us with
  | cons _ _=>simp at hl
  | nil=>exact h a b c d e
theorem Vk {x qual:Str} {st:Stmt} {f:Addr} {oc:Value} {od an:Option Addr} {osl:Array (Option Value)} {kV doc pm cdv ct:Value} (l:K.lookup f=some ⟨oc,od,.func (PySem.W.fnOf x qual (yq st) (qm st) (dz st) .none kV doc pm an cdv ct),osl⟩)
    (c:PySem.W.codeIn K cdv qual=true) (k:PySem.W.keepIn K (.ref f)=true):Fun K x qual st f (PySem.W.fnOf x qual (yq st) (qm st) (dz st) .none kV doc pm an cdv ct):=⟨⟨oc,od,kV,doc,pm,an,cdv,ct,osl,rfl,l,c⟩,k⟩
end
theorem Cq {A:Around} {k:Nat} (hr:xq k A):A.units+1<cLine:=Nat.lt_of_le_of_lt (Nat.add_le_add_left (by decide:1≤64) _) hr.units
theorem yt {n:Nat} (h:n≤1000):n<sizeLine:=Nat.lt_of_le_of_lt h (by decide)
section
variable {X:Cx}
theorem pv (i:Nat) {x:Str} {pos:Pos} (hN:X.N[i]? = some x:=by rfl) (hv:Vis X.env.scope x:=by first | exact Or.inl rfl | exact Or.inr (Or.inl rfl) | exact Or.inr (Or.inr rfl)) (hd:(x==("__debug__" : Str))=false:=by decide)
    (hcd:(x==("__classdict__" : Str))=false:=by decide):PE X (.Name x pos) (J8 i):=U3 hN hv hd hcd
end
theorem Yw {A B:Prop} (h:B):if false=true then A else B:=by
  rw [if_neg Bool.false_ne_true]
  exact h
theorem Z7 {A B:Prop} (h:A):if true=true then A else B:=by
  rw [if_pos rfl]
  exact h
def Same (H H':Hp):Prop:=∀ b o,H b=some o→H' b=some o
theorem Same.refl (H:Hp):Same H H:=fun _ _ h=>h
theorem Same.trans {H H1 H2:Hp} (a:Same H H1) (b:Same H1 H2):Same H H2:=fun c o h=>b c o (a c o h)
theorem Same.free {H H':Hp} (e:Same H H') {l:Addr} (h:H' l=Option.none):H l=Option.none:=by
  cases q:H l with
  | none=>rfl
  | some o =>
    rw [e l o q] at h
    cases h
theorem Same.seq {K:PySem.W.Frag} {H H':Hp} {a:Addr} {xs:List V} (e:Same H H') (h:SqL K H a xs):SqL K H' a xs:=by
  rcases h with (h | ⟨o,h⟩) | h
  · exact .inl (.inl (e _ _ h))
  · exact .inl (.inr ⟨o,e _ _ h⟩)
  · exact .inr h
end L2
end
section
namespace L2
open PySem PySem.Spec PyProof.Rows
section
variable {X:Cx}
end
section
variable {κ:Type} [DecidableEq κ]
end
end L2
end
section
namespace C
open PySem
theorem jl {α:Type} {w:α} {P:Prop} (h:none=some w):P:=nomatch h
theorem Cw {α:Type} {c:Prop} [Decidable c] {o:Option α} {w:α} (h:(if c then o else none)=some w):c∧o=some w:=by
  by_cases z:c
  · rw [if_pos z] at h; exact ⟨z,h⟩
  · rw [if_neg z] at h; exact jl h
abbrev Key:=Sum Int Str
inductive T where
  | non | bl (b:Bool) | int (i:Int) | str (x:Str)
  | tup (xs:List T) | lst (xs:List T) | dic (kvs:List (Key × T)) | obj (n:Nat)
instance:Inhabited T:=⟨.non⟩
inductive SO where
  | dic (kvs:List (Key × T)) | lst (xs:List T) | dit (kvs:List (List Key × T))
abbrev Slot:=Option (T × Bool)
structure Sta where
  env:List Slot
  sto:List SO
abbrev M (α:Type):=Sta→Option (α × Sta)
def J6 (k:Key):List (Key × T)→Option T
  | []=>none
  | (q,t)::r=>if q=k then some t else J6 k r
def a0a (k:Key) (t:T) (kvs:List (Key × T)):List (Key × T) :=
  if kvs.any fun p=>decide (p.1=k) then kvs.map fun p=>if p.1=k then (p.1,t) else p else kvs++[(k,t)]
def keyOf:T→Option Key
  | .int i=>some (.inl i)
  | .str x=>some (.inr x)
  | _=>none
def Y0:Key→T
  | .inl i=>.int i
  | .inr x=>.str x
mutual
def dat:T→Option PyData
  | .non=>some .none
  | .bl b=>some (.bool b)
  | .int i=>some (.int i)
  | .str x=>if PyData.canLay0 (.str x) then some (.str x) else none
  | .tup xs=>(Ec xs).map .tuple
  | .lst xs=>(Ec xs).map .list
  | .dic _=>none
  | .obj _=>none
def Ec:List T→Option (List PyData)
  | []=>some []
  | x::r=>match dat x with
    | some a=>(Ec r).map (a :: ·)
    | none=>none
end
def eqD (a b:T):Option Bool:=match dat a with
  | some x=>match dat b with
    | some y=>if x.depth≤40 then some (PyData.eqv x y) else none
    | none=>none
  | none=>none
def a1y:List (Key × T)→List (Key × T)→Option Bool
  | [],_=>some true
  | (k,x)::r,ys=>match J6 k ys with
    | none=>some false
    | some y=>match eqD x y with
      | some e=>(a1y r ys).map (e && ·)
      | none=>none
def eqT:T→T→Option Bool
  | .dic a,.dic b=>if a.length=b.length then a1y a b else some false
  | x,y=>eqD x y
def au (t:T):M T:=fun s=>some (t,s)
def bf (i:Nat):M T:=fun s=>match s.env[i]? with
  | some (some (t,false))=>some (t,s)
  | some (some (t,true))=>some (t,{ s with env:=s.env.set i (some (t,false)) })
  | _=>none
def fj:M (List T):=fun s=>some ([],s)
def aq (a:M T) (r:M (List T)):M (List T):=fun s=>match a s with
  | some (t,s1)=>match r s1 with
    | some (ts,s2)=>some (t::ts,s2)
    | none=>none
  | none=>none
def W7:List Str→M (List T)
  | []=>fj
  | x::r=>aq (au (.str x)) (W7 r)
def gw (f:List T→Option T) (a:M (List T)):M T:=fun s=>match a s with
  | some (ts,s1)=>match f ts with
    | some t=>some (t,s1)
    | none=>none
  | none=>none
def mUn (f:T→Option T) (a:M T):M T:=fun s=>match a s with
  | some (t,s1)=>match f t with
    | some u=>some (u,s1)
    | none=>none
  | none=>none
def mOp (f:T→T→Option T) (a b:M T):M T:=fun s=>match a s with
  | some (t,s1)=>match b s1 with
    | some (u,s2)=>match f t u with
      | some v=>some (v,s2)
      | none=>none
    | none=>none
  | none=>none
abbrev Fn:=List T→List SO→Option (T × List SO)
def jo (F:Fn) (a:M (List T)):M T:=fun s=>match a s with
  | some (ts,s1)=>match F ts s1.sto with
    | some (t,sto)=>some (t,{ s1 with sto:=sto })
    | none=>none
  | none=>none
def fu (a:M T):M Bool:=fun s=>match a s with
  | some (.bl b,s1)=>some (b,s1)
  | _=>none
def a7u (a:M Bool):M Bool:=fun s=>match a s with
  | some (b,s1)=>some (!b,s1)
  | none=>none
def Hl (a b:M Bool):M Bool:=fun s=>match a s with
  | some (true,s1)=>b s1
  | some (false,s1)=>some (false,s1)
  | none=>none
def mOr (a b:M Bool):M Bool:=fun s=>match a s with
  | some (true,s1)=>some (true,s1)
  | some (false,s1)=>b s1
  | none=>none
def Mv (a:M Bool):M T:=fun s=>match a s with
  | some (b,s1)=>some (.bl b,s1)
  | none=>none
def mIf (c:M Bool) (a b:M T):M T:=fun s=>match c s with
  | some (true,s1)=>a s1
  | some (false,s1)=>b s1
  | none=>none
abbrev lim:Nat:=1000000
def G4 (i:Int):Bool:=decide (-(2 ^ 64)<i∧i<2 ^ 64)
def Aw:T→T→Option T
  | .int i,.int j=>some (.int (i+j))
  | .str x,.str y=>if x.length+y.length<lim then some (.str (x++y)) else none
  | .tup x,.tup y=>if x.length+y.length<lim then some (.tup (x++y)) else none
  | .lst x,.lst y=>if x.length+y.length<lim then some (.lst (x++y)) else none
  | _,_=>none
def a1x:T→T→Option T
  | .int i,.int j=>some (.int (i - j))
  | _,_=>none
def Hu:T→T→Option T
  | .int i,.int j=>if G4 i||G4 j then some (.int (i * j)) else none
  | .str x,.int j=>if 0≤j∧j≤1000∧x.length≤100 then some (.str ⟨((List.replicate j.toNat x.cps.toList).flatten).toArray⟩) else none
  | _,_=>none
def Nf:T→T→Option T
  | .int i,.int j=>if 0<j then some (.int (i%j)) else none
  | _,_=>none
def fdl:Nat:=2 ^ 200
def Iv:T→T→Option T
  | .int i,.int j=>if 0<j∧(j<1073741824∨j.natAbs<fdl) then some (.int (i / j)) else none
  | _,_=>none
def a1v:T→Option T
  | .int i=>some (.int (-i))
  | _=>none
def ltT:T→T→Option T
  | .int i,.int j=>some (.bl (decide (i<j)))
  | _,_=>none
def leT:T→T→Option T
  | .int i,.int j=>some (.bl (decide (i≤j)))
  | _,_=>none
def eqO (x y:T):Option T:=match eqT x y with
  | some b=>some (.bl b)
  | none=>none
def neO (x y:T):Option T:=match eqT x y with
  | some b=>some (.bl (!b))
  | none=>none
def ixI (n:Nat) (i:Int):Option Nat:=if 0≤i then (if i<n then some i.toNat else none) else if -(n:Int)≤i then some (i+n).toNat else none
def cu:T→T→Option T
  | .tup xs,.int i=>(ixI xs.length i).bind (xs[·]?)
  | .lst xs,.int i=>(ixI xs.length i).bind (xs[·]?)
  | .str x,.int i=>if x.length<lim then (ixI x.cps.toList.length i).bind fun j=>(x.cps.toList[j]?).map fun c=>.str ⟨#[c]⟩ else none
  | .dic kvs,k=>(keyOf k).bind (J6 · kvs)
  | _,_=>none
def Ju:List T→Option T
  | [.tup xs]=>some (.int xs.length)
  | [.lst xs]=>some (.int xs.length)
  | [.str x]=>if x.length<lim then some (.int x.length) else none
  | [.dic kvs]=>some (.int kvs.length)
  | _=>none
def inL (x:T):List T→Option Bool
  | []=>some false
  | y::r=>match eqD y x with
    | some e=>(inL x r).map (e || ·)
    | none=>none
def inT (x y:T):Option T:=match y with
  | .dic kvs=>(keyOf x).map fun q=>.bl (J6 q kvs).isSome
  | _=>if (dat x).isSome then (match y with
    | .tup ys=>(inL x ys).map .bl
    | .lst ys=>(inL x ys).map .bl
    | _=>none) else none
def wg (x y:T):Option T:=match inT x y with
  | some (.bl b)=>some (.bl (!b))
  | _=>none
def oh:List T→Option T
  | [.lst xs]=>some (.tup xs)
  | [.tup xs]=>some (.tup xs)
  | _=>none
def uz:List T→Option T
  | [.lst xs]=>some (.lst xs)
  | [.tup xs]=>some (.lst xs)
  | _=>none
def Fp:List T→Option (List Str)
  | []=>some []
  | .str x::r=>(Fp r).map (x :: ·)
  | _=>none
def G8 (x:Str):List Str→List Str
  | []=>[x]
  | y::r=>if decide (x.cps.toList<y.cps.toList) then x::y::r else y::G8 x r
def uf (l:List Str):List Str:=l.foldl (fun acc x=>G8 x acc) []
def yr:List T→Option T
  | [.lst xs]=>if xs.length<64 then (Fp xs).map fun l=>.lst ((uf l).map .str) else none
  | [.dic kvs]=>if kvs.length<64 then (Fp (kvs.map fun p=>Y0 p.1)).map fun l=>.lst ((uf l).map .str) else none
  | _=>none
def Bb:T→Bool
  | .non=>true
  | _=>false
def Li (x y:T):Option T:=if Bb y then some (.bl (Bb x)) else none
def Bg (x y:T):Option T:=if Bb y then some (.bl (!Bb x)) else none
def a7m:List T→Option T
  | [.int i]=>some (.int (if i<0 then -i else i))
  | _=>none
def ux (i:Nat):M T:=fun s=>match s.env[i]? with
  | some (some (.lst xs,_))=>some (.int xs.length,s)
  | some (some (.dic xs,_))=>some (.int xs.length,s)
  | _=>none
def Eo (i:Nat) (s:Sta):Bool:=match s.env[i]? with
  | some (some (.dic _,_))=>true
  | _=>false
def Eu (i:Nat) (s:Sta):Bool:=match s.env[i]? with
  | some (some (.lst _,_))=>true
  | _=>false
def mj (i:Nat) (k:M T):M T:=fun s=>if Eo i s then (match k s with
  | some (kt,s1)=>match s1.env[i]? with
    | some (some (.dic kvs,_))=>match (keyOf kt).bind (J6 · kvs) with
      | some t=>some (t,s1)
      | none=>none
    | _=>none
  | none=>none) else none
def qw (o k:M T):M T:=fun s=>match o s with
  | some (.obj n,s1)=>match k s1 with
    | some (.int i,s2)=>match s2.sto[n]? with
      | some (.lst xs)=>match (ixI xs.length i).bind (xs[·]?) with
        | some t=>some (t,s2)
        | none=>none
      | _=>none
    | _=>none
  | _=>none
def yu (o:M T):M T:=fun s=>match o s with
  | some (.obj n,s1)=>match s1.sto[n]? with
    | some (.lst xs)=>some (.int xs.length,s1)
    | _=>none
  | _=>none
def zc (a:M (List T)):M T:=fun s=>match a s with
  | some (ts,s1)=>some (.obj s1.sto.length,{ s1 with sto:=s1.sto++[.lst ts] })
  | none=>none
inductive Flow where
  | next | ret (t:T) | brk | cont
abbrev S:=Sta→Option (Flow × Sta)
def wz:S:=fun s=>some (.next,s)
def ju (a b:S):S:=fun s=>match a s with
  | some (.next,s1)=>b s1
  | r=>r
def uy (e:M T):S:=fun s=>match e s with
  | some (t,s1)=>some (.ret t,s1)
  | none=>none
def sIf (c:M Bool) (a b:S):S:=fun s=>match c s with
  | some (true,s1)=>a s1
  | some (false,s1)=>b s1
  | none=>none
def gk (i:Nat) (t:T) (own:Bool) (s:Sta):Sta:={ s with env:=s.env.set i (some (t,own)) }
def qj (i:Nat) (e:M T):S:=fun s=>match e s with
  | some (t,s1)=>some (.next,gk i t false s1)
  | none=>none
def sNew (i:Nat) (e:M T):S:=fun s=>match e s with
  | some (t,s1)=>some (.next,gk i t true s1)
  | none=>none
def uc (i:Nat) (e:M T):S:=fun s=>if Eu i s then (match e s with
  | some (t,s1)=>match s1.env[i]? with
    | some (some (.lst xs,true))=>if xs.length<lim then some (.next,gk i (.lst (xs++[t])) true s1) else none
    | _=>none
  | none=>none) else none
def a3g:T→Option (List T)
  | .lst xs=>some xs
  | .tup xs=>some xs
  | _=>none
def a0s (i:Nat) (e:M T):S:=fun s=>if Eu i s then (match e s with
  | some (t,s1)=>match a3g t,s1.env[i]? with
    | some ys,some (some (.lst xs,true))=>if xs.length+ys.length<lim then some (.next,gk i (.lst (xs++ys)) true s1) else none
    | _,_=>none
  | none=>none) else none
def Cv (i:Nat) (k v:M T):S:=fun s=>match v s with
  | some (t,s1)=>if Eo i s1 then (match k s1 with
    | some (kt,s2)=>match s2.env[i]?,keyOf kt with
      | some (some (.dic kvs,true)),some q=>if kvs.length<lim then some (.next,gk i (.dic (a0a q t kvs)) true s2) else none
      | _,_=>none
    | none=>none) else none
  | none=>none
def Xb (i:Nat):S:=fun s=>match s.env[i]? with
  | some (some (.lst xs,true))=>some (.next,gk i (.lst xs.reverse) true s)
  | _=>none
def sNx (u:S):S:=fun s=>match u s with
  | some (.next,s1)=>some (.next,s1)
  | _=>none
def a06 (i:Nat):S:=fun s=>match s.env[i]? with
  | some (some (t,true))=>some (.ret t,s)
  | _=>none
def Ag (o k v:M T):S:=fun s=>match v s with
  | some (t,s1)=>match o s1 with
    | some (.obj n,s2)=>match k s2 with
      | some (.int i,s3)=>match s3.sto[n]? with
        | some (.lst xs)=>match ixI xs.length i with
          | some j=>some (.next,{ s3 with sto:=s3.sto.set n (.lst (xs.set j t)) })
          | none=>none
        | _=>none
      | _=>none
    | _=>none
  | none=>none
def Fj (i:Nat) (v:M T):S:=fun s=>match s.env[i]? with
  | some (some (.obj n,false))=>match s.sto[n]? with
    | some (.lst _)=>match v s with
      | some (t,s1)=>match s1.sto[n]? with
        | some (.lst xs)=>if xs.length<lim then some (.next,{ s1 with sto:=s1.sto.set n (.lst (xs++[t])) }) else none
        | _=>none
      | none=>none
    | _=>none
  | _=>none
abbrev G:=T→Sta→Option Sta
def hName (i:Nat):G:=fun t s=>some (gk i t false s)
def wu (is:List Nat):G:=fun t s=>match t with
  | .tup xs=>if xs.length=is.length then some ((is.zip xs).foldl (fun s p=>gk p.1 p.2 false s) s) else none
  | _=>none
def sGo (g:G) (m:M T):S:=fun s=>match m s with
  | some (t,s1)=>match g t s1 with
    | some s2=>some (.next,s2)
    | none=>none
  | none=>none
def forL (g:G) (b:S):List T→S
  | []=>fun s=>some (.next,s)
  | t::r=>fun s=>match g t s with
    | some s1=>match b s1 with
      | some (.next,s2)=>forL g b r s2
      | some (.cont,s2)=>forL g b r s2
      | some (.brk,s2)=>some (.next,s2)
      | some (.ret v,s2)=>some (.ret v,s2)
      | none=>none
    | none=>none
def Bt (g:G) (it:M (List T)) (b:S):S:=fun s=>match it s with
  | some (ts,s1)=>forL g b ts s1
  | none=>none
def rangeT (n:Nat):List T:=(List.range n).map fun (k:Nat)=>.int (k:Int)
def m8 (a:M T):M (List T):=fun s=>match a s with
  | some (.int n,s1)=>if n.natAbs<lim then some (rangeT n.toNat,s1) else none
  | _=>none
def Ae (a:M T):M (List T):=fun s=>match a s with
  | some (.lst xs,s1)=>if xs.length<lim then some (xs,s1) else none
  | some (.tup xs,s1)=>if xs.length<lim then some (xs,s1) else none
  | _=>none
def Lg (s:Slot):Slot:=match s with
  | some (t,_)=>some (t,false)
  | none=>none
def j8 (s:Sta):Sta:={ s with env:=s.env.map Lg }
def vq (g:G) (c:M Bool) (e:M T):List T→Sta→List T→Option (List T × Sta)
  | [],s,acc=>some (acc,s)
  | t::r,s,acc=>match g t s with
    | some s1=>match c s1 with
      | some (true,s2)=>match e s2 with
        | some (u,s3)=>if acc.length<lim then vq g c e r (j8 s3) (acc++[u]) else none
        | none=>none
      | some (false,s2)=>vq g c e r (j8 s2) acc
      | none=>none
    | none=>none
def Cr:M Bool:=fun s=>some (true,s)
def j6 (is:List Nat) (env:List Slot):List Slot:=is.foldl (fun e i=>match e[i]? with
  | some (some (t,_))=>e.set i (some (t,false))
  | _=>e) env
def v7 (nv:Nat) (cap:List Nat) (g:G) (it:M (List T)) (c:M Bool) (e:M T):M T:=fun s=>match it s with
  | some (ts,s1) =>
    let env:=j6 cap s1.env
    match vq g c e ts ⟨List.replicate nv none++cap.map (fun i=>(env[i]?).getD none),s1.sto⟩ [] with
    | some (us,s2)=>some (.lst us,⟨env,s2.sto⟩)
    | none=>none
  | none=>none
def Ab (n:Nat) (b:S):Fn:=fun ts sto=>match b ⟨ts.map (fun t=>some (t,false))++List.replicate (n - ts.length) none,sto⟩ with
  | some (.ret t,s)=>some (t,s.sto)
  | some (.next,s)=>some (.non,s.sto)
  | _=>none
section
variable {s s':Sta} {t v:T} {a b:M T}
theorem J4 {f:T→T→Option T} (h:mOp f a b s=some (v,s')):∃ t s1 u,a s=some (t,s1)∧b s1=some (u,s')∧f t u=some v:=by
  unfold mOp at h
  cases ha:a s with
  | none=>rw [ha] at h; cases h
  | some p =>
    obtain ⟨t,s1⟩:=p; rw [ha] at h; dsimp only at h
    cases hb:b s1 with
    | none=>rw [hb] at h; cases h -- here
    | some p =>
      obtain ⟨u,s2⟩:=p; rw [hb] at h; dsimp only at h
      cases hf:f t u with
      | none=>rw [hf] at h; cases h
      | some w=>rw [hf] at h; cases h; exact ⟨t,s1,u,rfl,hb,hf⟩
theorem a0d {f:T→Option T} (h:mUn f a s=some (v,s')):∃ t,a s=some (t,s')∧f t=some v:=by
  unfold mUn at h
  cases ha:a s with
  | none=>rw [ha] at h; cases h
  | some p =>
    obtain ⟨t,s1⟩:=p; rw [ha] at h; dsimp only at h
    cases hf:f t with
    | none=>rw [hf] at h; cases h
    | some w=>rw [hf] at h; cases h; exact ⟨t,rfl,hf⟩
theorem vm {f:List T→Option T} {a:M (List T)} (h:gw f a s=some (v,s')):∃ ts,a s=some (ts,s')∧f ts=some v:=by
  unfold gw at h
  cases ha:a s with
  | none=>rw [ha] at h; cases h
  | some p =>
    obtain ⟨t,s1⟩:=p; rw [ha] at h; dsimp only at h
    cases hf:f t with
    | none=>rw [hf] at h; cases h
    | some w=>rw [hf] at h; cases h; exact ⟨t,rfl,hf⟩
theorem u5 {r:M (List T)} {ts:List T} (h:aq a r s=some (ts,s')):∃ t s1 us,a s=some (t,s1)∧r s1=some (us,s')∧ts=t::us:=by
  unfold aq at h
  cases ha:a s with
  | none=>rw [ha] at h; cases h
  | some p =>
    obtain ⟨t,s1⟩:=p; rw [ha] at h; dsimp only at h
    cases hb:r s1 with
    | none=>rw [hb] at h; cases h -- here
    | some p=>obtain ⟨u,s2⟩:=p; rw [hb] at h; cases h; exact ⟨t,s1,u,rfl,hb,rfl⟩
theorem Vf {F:Fn} {a:M (List T)} (h:jo F a s=some (v,s')):∃ ts s1 sto,a s=some (ts,s1)∧F ts s1.sto=some (v,sto)∧s' = { s1 with sto:=sto }:=by
  unfold jo at h
  cases ha:a s with
  | none=>rw [ha] at h; cases h
  | some p =>
    obtain ⟨t,s1⟩:=p; rw [ha] at h; dsimp only at h
    cases hf:F t s1.sto with
    | none=>rw [hf] at h; cases h
    | some w=>obtain ⟨w,sto⟩:=w; rw [hf] at h; cases h; exact ⟨t,s1,sto,rfl,hf,rfl⟩
theorem Bk {b:Bool} (h:fu a s=some (b,s')):a s=some (.bl b,s'):=by
  unfold fu at h
  cases ha:a s with
  | none=>rw [ha] at h; cases h
  | some p =>
    obtain ⟨t,s1⟩:=p; rw [ha] at h
    cases t <;> first | (cases h; rfl) | (cases h)
theorem Rj {c:M Bool} (h:Mv c s=some (v,s')):∃ b,c s=some (b,s')∧v=.bl b:=by
  unfold Mv at h
  cases ha:c s with
  | none=>rw [ha] at h; cases h
  | some p=>obtain ⟨t,s1⟩:=p; rw [ha] at h; cases h; exact ⟨t,rfl,rfl⟩
theorem Ou {c d:M Bool} {b:Bool} (h:Hl c d s=some (b,s')):(∃ s1,c s=some (true,s1)∧d s1=some (b,s'))∨(c s=some (false,s')∧b=false):=by
  unfold Hl at h
  cases ha:c s with
  | none=>rw [ha] at h; cases h
  | some p =>
    obtain ⟨k,s1⟩:=p; rw [ha] at h
    cases k with
    | true=>exact .inl ⟨s1,rfl,h⟩
    | false=>cases h; exact .inr ⟨rfl,rfl⟩
theorem a0g {c d:M Bool} {b:Bool} (h:mOr c d s=some (b,s')):(∃ s1,c s=some (false,s1)∧d s1=some (b,s'))∨(c s=some (true,s')∧b=true):=by
  unfold mOr at h
  cases ha:c s with
  | none=>rw [ha] at h; cases h
  | some p =>
    obtain ⟨k,s1⟩:=p; rw [ha] at h
    cases k with
    | false=>exact .inl ⟨s1,rfl,h⟩
    | true=>cases h; exact .inr ⟨rfl,rfl⟩
theorem Wi {i:Nat} (h:bf i s=some (v,s')):(s.env[i]? = some (some (v,false))∧s'=s)∨(s.env[i]? = some (some (v,true))∧s' = { s with env:=s.env.set i (some (v,false)) }):=by
  unfold bf at h
  split at h
  · rename_i t e; cases h; exact .inl ⟨e,rfl⟩
  · rename_i t e; cases h; exact .inr ⟨e,rfl⟩
  · cases h
end
end C
end
section
namespace L2
open PySem PySem.Spec PyProof.Rows
section
variable {pr:Program} {wd:World} {Ar:Around} {Rs:Result→Shared→Prop} {s:Shared}
theorem Ld {el tgt itr:Expr} {cs:List Expr} {scp:Scope} {ps:Pos} {itv accv:Value} {en:Env} (J:Nat→Shared→Prop)
    (turn:∀ n z,J n z→wpAny (model pr wd) Ar (pyNext itv) (fun nx z1=>match nx with
      | none=>Rs (.ok .next) z1
      | some v=>wpAny (model pr wd) Ar (letOwnedTupleGo tgt itv v) (fun _ z2=>wpAny (model pr wd) Ar (assign tgt en v) (fun _ z3 =>
          wpAny (model pr wd) Ar (forIn cs true fun c go=>if go=true then do let ok ← isTrue c en (eval c en); pure (ForInStep.yield ok) else pure (ForInStep.yield go)) (fun ok z4 =>
            if ok=true then wpAny (model pr wd) Ar (eval el en) (fun x z5 =>
              wpAny (model pr wd) Ar (call (.builtin "list.append") [accv,x]) (fun _ z6=>∃ m,m<n∧J m z6) (fun _ _=>False) z5) (fun _ _=>False) z4
            else ∃ m,m<n∧J m z4) (fun _ _=>False) z3) (fun _ _=>False) z2) (fun _ _=>False) z1) (fun _ _=>False) z)
    (n:Nat) (h:J n s) :
    codeAny (model pr wd) Ar (.compLoop (.ListComp el [⟨tgt,itr,cs,0⟩] scp ps) 0 itv accv en) Rs s:=by
  refine codeAny_loop rfl J (fun k z hz=>?_) n h
  show wpAny _ Ar ((compTurn (.ListComp el [⟨tgt,itr,cs,0⟩] scp ps) 0 itv accv en).onRaise (fun ex=>do noteFrame ex en; theTreesLotGoes ex)) _ _ z
  refine wpAny_noted ?_
  rw [compTurn_list]
  refine wpAny_bind (wpAny_standAt (wpAny_bind (wpAny_mono (turn k z hz) (fun nx z1 g1=>?_) fun _ _ no=>no.elim)))
  cases nx with
  | none=>exact wpAny_pure g1
  | some v =>
    refine wpAny_bind (wpAny_mono g1 (fun _ z2 g2=>?_) fun _ _ no=>no.elim)
    refine wpAny_bind (wpAny_mono g2 (fun _ z3 g3=>wpAny_bind (wpAny_mono g3 (fun ok z4 g4=>?_) fun _ _ no=>no.elim)) fun _ _ no=>no.elim)
    cases ok with
    | false=>exact wpAny_pure (And.intro rfl g4)
    | true =>
      exact wpAny_bind (wpAny_bind (wpAny_mono g4 (fun x z5 g5=>wpAny_bind (wpAny_mono g5 (fun _ z6 g6=>wpAny_pure (wpAny_pure (And.intro rfl g6))) fun _ _ no=>no.elim)) fun _ _ no=>no.elim))
end
def Qf (env:Env):List (Str × NameKind)→List (Str × Addr)→List (Str × Addr)
  | [],cs=>cs
  | (n,k)::r,cs=>Qf env r (if (k==NameKind.free)=true then (match env.cells.lookup n with | some c=>(n,c)::cs | none=>cs) else cs)
def zj (env:Env) (names:List (Str × NameKind)):Bool:=names.all fun y=>!(y.2==NameKind.free)||(env.cells.lookup y.1).isSome
theorem Ba {scope:Scope} {env:Env} (h:zj env scope.names=true):closureFor scope env=pure (Qf env scope.names []):=by
  have key:∀ (l:List (Str × NameKind)) (cs:List (Str × Addr)),zj env l=true →
      (forIn (m:=Sem) l cs fun x r=>(do
        if (x.2==NameKind.free)=true then
          let c ← cellOf env x.1
          pure (ForInStep.yield ((x.1,c)::r))
        else pure (ForInStep.yield r)))=pure (Qf env l cs):=by
    intro l
    induction l with
    | nil=>intro cs _; rfl
    | cons x r ih =>
      intro cs h
      obtain ⟨n,k⟩:=x
      unfold zj at h
      rw [List.all_cons,Bool.and_eq_true] at h -- here
      obtain ⟨h1,h2⟩:=h
      rw [List.forIn_cons]
      by_cases hk:(k==NameKind.free)=true
      · have h1':(env.cells.lookup n).isSome=true:=by simpa [hk] using h1
        obtain ⟨c,hc⟩:=Option.isSome_iff_exists.mp h1'
        have e:cellOf env n=pure c:=by unfold cellOf; rw [hc]
        simp only [hk,if_true,e,pure_bind]
        rw [ih _ h2]
        simp only [Qf,hk,if_true,hc]
      · simp only [hk,if_false,pure_bind,Bool.false_eq_true]
        rw [ih _ h2]
        simp only [Qf,hk,if_false,Bool.false_eq_true]
  have:=key scope.names [] h
  unfold closureFor
  simpa using this
def n8 (X:Cx) (scope:Scope) (N:List Str) (C:Addr) (s₀:Shared) (H₀:Hp) (ex:List Addr) (pn:List (Addr × Obj)):Cx :=
  { X with N:=N,s₀:=s₀,H₀:=H₀,env:=compEnvC scope (Qf X.env scope.names []) C X.env,outer:=X.stack,ex:=ex,fn:=fun _=>false,pn:=pn,xe:=fun _ _=>False }
structure Gi (X:Cx) (scope:Scope) (N:List Str):Prop where
  has:zj X.env scope.names=true
  kind:scope.kind=.function
  nocell:∀ y∈scope.names,y.2≠.cell
  names:∀ y∈scope.names,y.2=.local→scope.names.lookup y.1=some .local
def a5b (X:Cx) (scope:Scope) (x:Str):Prop :=
  (X.env.kindOf x=some .cell∨X.env.kindOf x=some .free)∧Vis X.env.scope x∧((relabel scope X.env).names.lookup x=some .cell∨(relabel scope X.env).names.lookup x=some .free)
theorem Fo {env:Env}:∀ (l:List (Str × NameKind)) (cs:List (Str × Addr)),(∀ x c,cs.lookup x=some c→env.cells.lookup x=some c) →
    ∀ x c,(Qf env l cs).lookup x=some c→env.cells.lookup x=some c
  | [],cs,h,x,c,e=>h x c e
  | (n,k)::r,cs,h,x,c,e=>by
    rw [Qf] at e
    refine Fo r _ (fun y d q=>?_) x c e
    split at q
    · split at q
      · rename_i c' hc'
        rw [List.lookup_cons] at q
        split at q
        · rename_i hb
          cases q
          have hyn:=eq_of_beq hb
          rw [hyn]; exact hc'
        · exact h y d q
      · exact h y d q
    · exact h y d q
theorem Rq {env:Env}:∀ (l:List (Str × NameKind)) (cs:List (Str × Addr)) (x:Str),(∃ c,cs.lookup x=some c)→∃ c,(Qf env l cs).lookup x=some c
  | [],cs,x,h=>h
  | (n,k)::r,cs,x,h=>by
    rw [Qf]
    refine Rq r _ x ?_
    split
    · split
      · rename_i c' hc'
        rw [List.lookup_cons]
        split
        · exact ⟨_,rfl⟩
        · exact h
      · exact h
    · exact h
theorem V1 {env:Env}:∀ (l:List (Str × NameKind)) (cs:List (Str × Addr)) (x:Str),zj env l=true→(x,NameKind.free)∈l→∃ c,(Qf env l cs).lookup x=some c
  | [],cs,x,_,h=>by simp at h
  | (n,k)::r,cs,x,hh,h=>by
    unfold zj at hh
    rw [List.all_cons,Bool.and_eq_true] at hh
    rw [Qf]
    rcases List.mem_cons.mp h with e | h'
    · injection e with e1 e2
      subst e1; subst e2
      have h1:(env.cells.lookup x).isSome=true:=by simpa using hh.1
      obtain ⟨c,hc⟩:=Option.isSome_iff_exists.mp h1
      refine Rq r _ x ?_
      simp [hc]
    · exact V1 r _ x hh.2 h'
theorem mem_of_lookup {α:Type}:∀ {l:List (Str × α)} {x:Str} {k:α},l.lookup x=some k→(x,k)∈l
  | [],_,_,h=>by simp at h
  | (n,k')::r,x,k,h=>by
    rw [List.lookup_cons] at h
    split at h
    · rename_i hb
      cases h
      have hyn:=eq_of_beq hb
      rw [hyn]; exact List.mem_cons_self
    · exact List.mem_cons_of_mem _ (mem_of_lookup h)
theorem Pg {scope:Scope} {env:Env} (nc:∀ y∈scope.names,y.2≠.cell) {x:Str} (h:(relabel scope env).names.lookup x=some .cell∨(relabel scope env).names.lookup x=some .free):(x,NameKind.free)∈scope.names:=by
  have:∃ k,(x,k)∈(relabel scope env).names∧(k=.cell∨k=.free):=by
    rcases h with h | h
    · exact ⟨_,mem_of_lookup h,.inl rfl⟩
    · exact ⟨_,mem_of_lookup h,.inr rfl⟩
  obtain ⟨k,hm,hk⟩:=this
  obtain ⟨⟨n,k'⟩,hm',e⟩:=List.mem_map.mp hm
  dsimp only at e
  split at e
  · rename_i hc
    cases e
    simp only [Bool.and_eq_true,beq_iff_eq] at hc
    obtain ⟨⟨h1,_⟩,_⟩:=hc
    subst h1; exact hm'
  · cases e
    rcases hk with rfl | rfl
    · exact absurd rfl (nc _ hm')
    · exact hm'
def PTs (X:Cx) (ifs:List Expr) (t:TT):Prop:=∀ (pins:List (Addr × Obj)) (s:Shared) (σ:St) (H:Hp) (Q:Bool→Hp→Prop),Inv X pins σ H s→t σ H Q →
  wpAny (model X.prog X.w) X.A (forIn ifs true fun c r=>if r=true then do let ok ← isTrue c X.env (eval c X.env); pure (ForInStep.yield ok) else pure (ForInStep.yield r)) (TP X pins σ Q) X.xe s
theorem a07 {X:Cx}:PTs X [] (fun _ H Q=>Q true H):=fun pins s σ H Q I h=>wpAny_tests_nil ⟨H,I,h⟩
theorem Zk {X:Cx} {c:Expr} {t:TT} (h:PT X c t):PTs X [c] t:=fun pins s σ H Q I q=>wpAny_tests_one (h pins s σ H Q I q)
def Lp (X:Cx) (scope:Scope) (N:List Str) (g:TG) (tc:TT) (te:TE) (σ:St) (J:It) (H1:Hp) (Q:VK):Prop:=∀ D,H1 D=none→∃ σ0:St,σ0.length=N.length ∧
  (∀ (i:Nat) (v:V) (x:Str),σ0[i]? = some (some v)→N[i]? = some x→Vis (relabel scope X.env) x→∃ k:Nat,X.N[k]? = some x∧σ[k]? = some (some v)∧a5b X scope x) ∧
  ∃ W:Nat→Nat→St→Hp→Prop,(∃ m,W 0 m σ0 (upd H1 D (.lst [])))∧∀ i m σ' H',W i m σ' H' →
    (J.stop i H'∧Q (.ref D) H')∨(J.go i H'∧∀ x H2,J.yld i H' x H2→g x σ' H2 fun σ2 H3=>tc σ2 H3 fun b H4=>if b=true then te σ2 H4 fun y H5=>∃ l,H5 D=some (.lst l)∧l.length<sizeLine∧∃ m',m'<m∧W (i+1) m' σ2 (upd H5 D (.lst (l++[y]))) else ∃ m',m'<m∧W (i+1) m' σ2 H4)
def a1m (X:Cx) (scope:Scope) (N:List Str) (wi:TI) (g:TG) (tc:TT) (te:TE):TE:=fun σ H Q=>wi σ H fun J H1=>Lp X scope N g tc te σ J H1 Q
section
variable {X:Cx} {scope:Scope} {N:List Str}
theorem V5 (sc:Gi X scope N) {pins:List (Addr × Obj)} {σ:St} {H:Hp} {s:Shared} {fp:List Addr} (I:Inv X pins σ H s) (hf:∀ b∈fp,Lj X pins H b) (hfl:∀ b∈fp,b<s.heap.objs.size) :
    (n8 X scope N s.heap.objs.size s H fp (X.pn++pins)).Ok where
  mod:=I.ok.mod
  kind:=sc.kind
  glob:=I.ok.glob
  blt:=I.ok.blt
  above:=Nat.le_refl _
  inj:=fun x y c h1 h2=>I.ok.inj x y c (Fo _ [] (fun _ _ z=>by simp at z) x c h1) (Fo _ [] (fun _ _ z=>by simp at z) y c h2)
  has:=fun x h=>V1 _ [] x sc.has (Pg sc.nocell h)
  cab:=fun x c h=>by cases h
  hd:=I.ok.hd
  frames:=I.ok.frames
  stk:=.inl rfl
  exf:=fun b hb=>⟨Nat.ne_of_lt (hfl b hb),fun x c h=>(hf b hb).2.2.2.2.1 x c (Fo _ [] (fun _ _ z=>by simp at z) x c h)⟩
  bs:=I.bs
  bsz:=Nat.le_trans I.ok.bsz I.sz
  noex:=fun b o e hb=>by
    rcases (hf b hb).2.2.2.1 with z | z
    · exact I.ok.noex b o e z
    · exact absurd (Nat.lt_of_lt_of_le (Heap.lt_size e) (Nat.le_trans I.ok.bsz z)) (Nat.lt_irrefl _)
  exfs:=fun b hb z=>by
    rcases List.mem_cons.mp (I.Ku b z) with e | e
    · exact (hf b hb).2.1 e
    · exact (hf b hb).2.2.1 e
  Nq:=I.stack
  frf:=I.Lk
theorem Qw (sc:Gi X scope N) {pins:List (Addr × Obj)} {σ σ0:St} {H:Hp} {s:Shared} {fp:List Addr} {h':Heap} {m:Str→Option Value} {tk:Nat} (I:Inv X pins σ H s) (hf:∀ b∈fp,Lj X pins H b) (hfl:∀ b∈fp,b<s.heap.objs.size)
    (hl:σ0.length=N.length) (h0:∀ (i:Nat) (v:V) (x:Str),σ0[i]? = some (some v)→N[i]? = some x→Vis (relabel scope X.env) x→∃ k:Nat,X.N[k]? = some x∧σ[k]? = some (some v)∧a5b X scope x)
    (hn:h'.Ns s.heap.objs.size m) (hk:∀ b o,s.heap.get? b=some o→h'.get? b=some o) :
    Inv (n8 X scope N s.heap.objs.size s H fp (X.pn++pins)) [] σ0 H { s with heap:=h',toks:=tk } where
  ok:=V5 sc I hf hfl
  os:=rfl
  bare:=I.bare
  base:=Un.kept hk
  loc:=⟨m,hn,fun i x v e1 e2 e3=>by
    obtain ⟨k,n2,n3,ck,cv,cr⟩:=h0 i v x e2 e1 e3
    obtain ⟨m0,_,hl0⟩:=I.loc
    obtain ⟨u,r,l⟩:=hl0 k x v n2 n3 cv
    refine ⟨u,r,.inr ⟨cr,?_⟩⟩
    rcases l with ⟨l1,_⟩ | ⟨_,c,hc,z⟩
    · rcases ck with q | q <;> (rw [l1] at q; cases q)
    · obtain ⟨c',hc'⟩:=V1 (env:=X.env) scope.names [] x sc.has (Pg sc.nocell cr)
      have q:=Fo scope.names [] (fun _ _ z=>by simp at z) x c' hc'
      rw [hc] at q; cases q
      obtain ⟨o,ho,hd⟩:=z
      exact ⟨c,hc',o,hk _ _ ho,hd⟩⟩
  cell:=fun x c e=>by
    obtain ⟨v,o,ho,hd⟩:=I.cell x c (Fo scope.names [] (fun _ _ z=>by simp at z) x c e)
    exact ⟨v,o,hk _ _ ho,hd⟩
  free:=I.hok.fresh (Nat.le_refl _)
  freeC:=fun x c e=>I.freeC x c (Fo scope.names [] (fun _ _ z=>by simp at z) x c e)
  pin:=fun p hp=>by
    have hp':p∈X.pn++pins:=by simpa [n8] using hp
    obtain ⟨a,b,c,d,e⟩:=I.pin p hp'
    refine ⟨hk _ _ a,b,Nat.ne_of_lt (Heap.lt_size a),fun z=>?_,e⟩
    rcases List.mem_cons.mp (I.Ku p.1 z) with q | q
    · exact c q
    · exact d q
  hok:=I.hok.kept hk
  len:=hl
theorem Nz {pins:List (Addr × Obj)} {σ σ':St} {H H':Hp} {s s':Shared} {fp:List Addr} {h':Heap} (I:Inv X pins σ H s) (hf:∀ b∈fp,Lj X pins H b)
    (J:Inv (n8 X scope N s.heap.objs.size s H fp (X.pn++pins)) [] σ' H' s') (hs:Heap.SameBut s.heap.objs.size s'.heap h'):Inv X pins σ H' { s' with heap:=h' }:=by
  have kb:∀ b o,b≠s.heap.objs.size→s'.heap.get? b=some o→h'.get? b=some o:=fun b o n e=>hs.extBut b o n e
  have ne:∀ b o,s.heap.get? b=some o→b≠s.heap.objs.size:=fun b o e=>Nat.ne_of_lt (Heap.lt_size e)
  have fr:H' s.heap.objs.size=none:=J.free
  have u0:Un (frs X.stack) fp H H' s.heap s'.heap:=J.base
  have u:Un (frs X.stack) fp H H' s.heap h':=⟨fun b o e n h1 h2=>kb b o (ne b o e) (u0.keep b o e n h1 h2),fun b o e n h1 h2=>by
      obtain ⟨sl,q⟩:=u0.slot b o e n h1 h2
      exact ⟨sl,kb b _ (ne b o e) q⟩,u0.free,fun b o e h=>by
      obtain ⟨o',q⟩:=u0.there b o e h
      exact ⟨o',kb b _ (ne b o e) q⟩,u0.tups,u0.frzs,u0.tbls⟩
  have hok:HOk X.prog X.w H' h':=fun b o e=>by
    refine (J.hok b o e).stay (fun c v hc q=>kb c v ?_ q) (fun _ q=>q) fun _ _ q=>q
    rcases hc with z | z
    · rw [z]; intro y; rw [y] at e; rw [fr] at e; cases e
    · intro y; rw [y] at z; rw [fr] at z; cases z
  have hos:s'.os=s.os:=J.os
  obtain ⟨hh,g,d,t,os'⟩:=s'
  obtain rfl:os'=s.os:=hos
  exact Inv.call (X:=X) (s:=s) (H:=H) (h':=h') (g':=g) (d':=d) (t':=t) (ch:=fp) I u hok J.bare fun b hb=>⟨(hf b hb).2.2.2.1,(hf b hb).2.1,(hf b hb).2.2.2.2.1,(hf b hb).2.2.2.2.2⟩
variable {tg iter elt:Expr} {ifs:List Expr} {pos:Pos} {g:TG} {tc:TT} {te:TE}
theorem Gp (sc:Gi X scope N) (calm:X.calm=true)
    (hg:∀ C s₀ H₀ ex pn,PG (n8 X scope N C s₀ H₀ ex pn) tg g) (hc:∀ C s₀ H₀ ex pn,PTs (n8 X scope N C s₀ H₀ ex pn) ifs tc) (he:∀ C s₀ H₀ ex pn,PE (n8 X scope N C s₀ H₀ ex pn) elt te)
    {pins:List (Addr × Obj)} {σ:St} {H1:Hp} {s₂:Shared} {it:Addr} {fp:List Addr} {tn:Nat→Heap→Prop} {J:It} {Q:VK} {E:Value→Shared→Prop} {RR:Value→Addr→Result→Shared→Prop}
    (I:Inv X pins σ H1 s₂) (T:Turn X.prog X.w X.K tg J fp it tn) (st2:tn 0 s₂.heap) (f2:∀ b∈fp,Lj X pins H1 b) (q:Lp X scope N g tc te σ J H1 Q)
    (hRR:∀ D s₃ H3 σ' H' s',Inv X pins σ H3 s₃→(∀ b∈fp,Lj X pins H3 b)→Inv (n8 X scope N s₃.heap.objs.size s₃ H3 fp (X.pn++pins)) [] σ' H' s'→Q (.ref D) H'→RR (.ref D) s₃.heap.objs.size (.ok .next) s') :
    wpAny (model X.prog X.w) X.A (newList []) (fun acc s₃=>wpAny (model X.prog X.w) X.A (newFunctionEnv scope X.env.globals (Qf X.env scope.names []) [] X.env.qual none .none (some X.env)) (fun cenv s₄ =>
      codeAny (model X.prog X.w) X.A (.compStart (.ListComp elt [⟨tg,iter,ifs,0⟩] scope pos) 0 (.ref it) acc { cenv with scope:=relabel scope X.env }) (RR acc cenv.locals) s₄) E s₃) E s₂:=by
  refine wpAny_newObj_type (wpAny_newFunctionEnv sc.nocell (by intro y hy; simp at hy) (fun h₁ hns₁ hsb₁=>?_) sc.kind)
  dsimp only at hns₁ hsb₁ ⊢
  have I3:Inv X pins σ (upd H1 s₂.heap.objs.size (.lst [])) { s₂ with heap:=s₂.heap.push { cls:=.type "list",dict:=none,data:=.seq ([]:List Value).toArray } } :=
    I.laid (t':=s₂.toks) (fun b ob q=>Heap.get?_push_of_some _ q) (Nat.le_refl _) ⟨Nat.zero_le _,[],_,.nil,Heap.get?_push_size _ rfl⟩
  generalize hs3:({ s₂ with heap:=s₂.heap.push { cls:=.type "list",dict:=none,data:=.seq ([]:List Value).toArray } }:Shared)=s₃ at I3
  have hheap:s₂.heap.push { cls:=.type "list",dict:=none,data:=.seq ([]:List Value).toArray } = s₃.heap:=by rw [← hs3]
  have hstate:∀ (h:Heap) (t:Nat),({ s₂ with heap:=h,toks:=t }:Shared) = { s₃ with heap:=h,toks:=t }:=fun h t=>by rw [← hs3]
  rw [hheap] at hns₁ hsb₁ ⊢
  have lt2:∀ b∈fp,b<s₂.heap.objs.size:=fun b hb=>by
    obtain ⟨o,ho,_⟩:=T.obj _ _ st2 b hb
    exact Heap.lt_size ho
  have sz3:s₃.heap.objs.size=s₂.heap.objs.size+1:=by rw [← hheap,Heap.size_push]
  have k23:∀ b o,s₂.heap.get? b=some o→s₃.heap.get? b=some o:=fun b o e=>by rw [← hheap]; exact Heap.get?_push_of_some _ e
  have f3:∀ b∈fp,Lj X pins (upd H1 s₂.heap.objs.size (.lst [])) b:=fun b hb=>⟨by rw [d7 (Nat.ne_of_lt (lt2 b hb))]; exact (f2 b hb).1,(f2 b hb).2⟩
  have lt3:∀ b∈fp,b<s₃.heap.objs.size:=fun b hb=>by rw [sz3]; exact Nat.lt_succ_of_lt (lt2 b hb)
  obtain ⟨σ0,hl,h0,W,⟨m0,w0⟩,turn⟩:=q s₂.heap.objs.size (I.hok.fresh (Nat.le_refl _))
  have k34:∀ b o,s₃.heap.get? b=some o→h₁.get? b=some o:=fun b o e=>hsb₁.extBut b o (Nat.ne_of_lt (Heap.lt_size e)) (Heap.get?_push_of_some _ e)
  rw [hstate]
  have J0:=Qw (tk:=s₂.toks+([]:List (Str × Value)).length) sc I3 f3 lt3 hl h0 hns₁ k34
  have st4:tn 0 h₁:=T.keep _ _ _ st2 fun b _ o e=>k34 b o (k23 b o e)
  have key:∀ s₄:Shared,s₄ = { s₃ with heap:=h₁,toks:=s₂.toks+([]:List (Str × Value)).length }→codeAny (model X.prog X.w) X.A (.compLoop (.ListComp elt [⟨tg,iter,ifs,0⟩] scope pos) 0 (.ref it) (.ref s₂.heap.objs.size)
      (n8 X scope N s₃.heap.objs.size s₃ (upd H1 s₂.heap.objs.size (.lst [])) fp (X.pn++pins)).env) (RR (.ref s₂.heap.objs.size) s₃.heap.objs.size) s₄:=by
    rintro s₄ rfl
    generalize hX:n8 X scope N s₃.heap.objs.size s₃ (upd H1 s₂.heap.objs.size (.lst [])) fp (X.pn++pins)=X' at J0
    have hP:X'.prog=X.prog:=by rw [← hX]; rfl
    have hW:X'.w=X.w:=by rw [← hX]; rfl
    have hA:X'.A=X.A:=by rw [← hX]; rfl
    have hxe:X'.xe=fun _ _=>False:=by rw [← hX]; rfl
    have hK:X'.K=X.K:=by rw [← hX]; rfl
    have hcal:X'.calm=true:=by rw [← hX]; exact calm
    have stat:∀ {H':Hp},(∀ b∈fp,H' b=none)→∀ b∈fp,Lj X' [] H' b:=fun hn b hb=>by
      have z:=V5 sc I3 f3 lt3
      rw [hX] at z
      refine ⟨hn b hb,(z.exf b (by rw [← hX]; exact hb)).1,z.exfs b (by rw [← hX]; exact hb),.inl (by rw [← hX]; exact hb),(z.exf b (by rw [← hX]; exact hb)).2,fun p hp=>?_⟩
      have hp':p∈X.pn++pins:=by rw [← hX] at hp; simpa [n8] using hp
      exact (f3 b hb).2.2.2.2.2 p hp'
    have hg':PG X' tg g:=by rw [← hX]; exact hg _ _ _ _ _
    have hc':PTs X' ifs tc:=by rw [← hX]; exact hc _ _ _ _ _
    have he':PE X' elt te:=by rw [← hX]; exact he _ _ _ _ _
    have fin:∀ σ' H' s',Inv X' [] σ' H' s'→Q (.ref s₂.heap.objs.size) H'→RR (.ref s₂.heap.objs.size) s₃.heap.objs.size (.ok .next) s':=fun σ' H' s' I' q'=>hRR _ s₃ _ σ' H' s' I3 f3 (by rw [hX]; exact I') q'
    have T':Turn X'.prog X'.w X'.K tg J fp it tn:=by rw [hP,hW,hK]; exact T
    rw [← hP,← hW,← hA]
    refine Ld (J:=fun n s'=>∃ i σ' H',Inv X' [] σ' H' s'∧tn i s'.heap∧(∀ b∈fp,H' b=none)∧W i n σ' H') ?_ m0 ⟨0,σ0,_,J0,st4,fun b hb=>(f3 b hb).1,w0⟩
    rintro n s5 ⟨i,σ5,H5,I5,st5,fr5,w5⟩
    rcases turn i n σ5 H5 w5 with ⟨stop,qn⟩ | ⟨go,step⟩
    · refine thn (T'.done X' rfl rfl rfl hcal i [] s5 σ5 H5 _ I5 (stat fr5) st5 stop) fun r s6 z0=>?_
      obtain ⟨hr,I6⟩:=z0
      subst hr
      exact fin _ _ _ I6 qn
    · refine thn (T'.item X' rfl rfl rfl hcal i [] s5 σ5 H5 _ I5 (stat fr5) st5 go) fun r s6 z0=>?_
      obtain ⟨u,hr,h6⟩:=z0
      subst hr
      refine thn h6 fun _ s7 z0=>?_
      obtain ⟨x,H7,I7,r7,y7,st7,fr7⟩:=z0
      have I7':=I7.pinned (stat fr7) (T'.obj _ _ st7)
      have a1:=hg' _ s7 σ5 H7 x u _ I7' r7 (step x H7 y7)
      rw [hxe] at a1
      refine thn a1 fun _ s8 z0=>?_
      obtain ⟨σ8,H8,I8,q8⟩:=z0
      have a2:=hc' _ s8 σ8 H8 _ I8 q8
      rw [hxe] at a2
      refine thn a2 fun ok s9 z0=>?_
      obtain ⟨H9,I9,q9⟩:=z0
      have again:∀ {σ7:St} {H7:Hp} {s':Shared} {m':Nat},Inv X' ([]++Kl fp s7.heap) σ7 H7 s'→m'<n→W (i+1) m' σ7 H7→∃ m,m<n∧∃ i σ' H',Inv X' [] σ' H' s'∧tn i s'.heap∧(∀ b∈fp,H' b=none)∧W i m σ' H':=fun {σ7 H7 s' m'} I7 hm w7=>by
        refine ⟨m',hm,i+1,σ7,H7,I7.Bo,T'.keep _ _ _ st7 fun b hb o e=>(I7.pin (b,o) (List.mem_append_right _ (List.mem_append_right _ (vf hb e)))).1,fun b hb=>?_,w7⟩
        obtain ⟨o,e,d⟩:=T'.obj _ _ st7 b hb
        exact (I7.pin (b,o) (List.mem_append_right _ (List.mem_append_right _ (vf hb e)))).2.1
      cases ok with
      | false =>
        rw [if_neg Bool.false_ne_true] at q9 ⊢
        obtain ⟨m',hm,w9⟩:=q9
        exact again I9 hm w9
      | true =>
        rw [if_pos rfl] at q9 ⊢
        have a3:=he' _ s9 σ8 H9 _ I9 q9
        rw [hxe] at a3
        refine thn a3 fun xv s10 z0=>?_
        obtain ⟨y,H10,I10,r10,l,hl10,hz10,m',hm,w10⟩:=z0
        have a4:=vd (X:=X') _ s10 σ8 H10 (.ref s₂.heap.objs.size) [y] (.ref s₂.heap.objs.size) [xv] (fun _ H'=>H'=upd H10 s₂.heap.objs.size (.lst (l++[y]))) I10 rfl (.cons r10 .nil) ⟨_,l,y,rfl,rfl,hl10,hz10,rfl⟩
        rw [hxe] at a4
        refine thn a4 fun _ s11 z0=>?_
        obtain ⟨v,H11,I11,_,e11⟩:=z0
        subst e11
        exact again I11 hm w10
  exact codeAny_compStart_list (key _ rfl) (T.self _ 0 _ _ _ st4 (key _ rfl))
theorem a0j {wi:TI} (sc:Gi X scope N) (calm:X.calm=true) (hi:PI X tg iter wi)
    (hg:∀ C s₀ H₀ ex pn,PG (n8 X scope N C s₀ H₀ ex pn) tg g) (hc:∀ C s₀ H₀ ex pn,PTs (n8 X scope N C s₀ H₀ ex pn) ifs tc) (he:∀ C s₀ H₀ ex pn,PE (n8 X scope N C s₀ H₀ ex pn) elt te)
    (hs:∀ x,foldedSetIterable iter X.env x=pure x:=by intro _; rfl):PE X (.ListComp elt [⟨tg,iter,ifs,0⟩] scope pos) (a1m X scope N wi g tc te):=by
  intro pins s σ H Q I h
  rw [eval_ListComp]
  refine wpAny_comprehension_free (use:=none) rfl hs (Ba sc.has) sc.kind sc.names ?_
  refine wpAny_mono (hi pins s σ H _ I h) (fun x s₁ h₁=>wpAny_mono h₁ (fun itv s₂ h₂=>?_) fun _ _ e=>e) fun _ _ e=>e
  obtain ⟨it,fp,tn,J,H1,rfl,I2,T,st2,f2,q⟩:=h₂
  refine Gp (RR:=fun acc C=>compPost (model X.prog X.w) X.A X.xe none (EP X pins σ Q) acc C) sc calm hg hc he I2 T st2 f2 q ?_
  intro D s₃ H3 σ' H' s' I3 f3 I' qn
  obtain ⟨m,hn,_⟩:=I'.loc
  exact ⟨m,hn,fun h' hs'=>⟨.ref D,H',Nz I3 f3 I' hs',rfl,qn⟩⟩
theorem Zy {wi:TI} {y:Str} {py spos:Pos} {i:Nat} (sc:Gi X scope N) (calm:X.calm=true) (hi:PI X tg iter wi)
    (hg:∀ C s₀ H₀ ex pn,PG (n8 X scope N C s₀ H₀ ex pn) tg g) (hc:∀ C s₀ H₀ ex pn,PTs (n8 X scope N C s₀ H₀ ex pn) ifs tc) (he:∀ C s₀ H₀ ex pn,PE (n8 X scope N C s₀ H₀ ex pn) elt te)
    (hgN:PG X (.Name y py) (Hv i)) (hsw:swapsWith (.ListComp elt [⟨tg,iter,ifs,0⟩] scope pos) (some (.Name y py)) spos.line X.env=pure true)
    (hs:∀ x,foldedSetIterable iter X.env x=pure x:=by intro _; rfl):PS X (.Assign [.Name y py] (.ListComp elt [⟨tg,iter,ifs,0⟩] scope pos) spos) (Yu (a1m X scope N wi g tc te) (Hv i)):=by
  intro pins s σ H D I h
  rw [exec_Assign_Name_used _ _ _ _ hsw] -- here
  refine wpAny_bind (wpAny_standAt (wpAny_bind ?_)) -- here
  show wpAny _ X.A (do let _ ← comprehension (.ListComp elt [⟨tg,iter,ifs,0⟩] scope pos) scope X.env _ (newList []) false (eval iter X.env) (some (assign (.Name y py) X.env))) _ _ s
  refine wpAny_bind (wpAny_mono (wpAny_comprehension_free (use:=some (assign (.Name y py) X.env)) (Q:=fun _ s'=>SP X pins D .next s') rfl hs (Ba sc.has) sc.kind sc.names ?_) (fun _ s' hq=>wpAny_pure (wpAny_pure hq)) fun _ _ e=>e)
  refine wpAny_mono (hi pins s σ H _ I h) (fun x s₁ h₁=>wpAny_mono h₁ (fun itv s₂ h₂=>?_) fun _ _ e=>e) fun _ _ e=>e
  obtain ⟨it,fp,tn,J,H1,rfl,I2,T,st2,f2,q⟩:=h₂
  refine Gp (RR:=fun acc C=>compPost (model X.prog X.w) X.A X.xe (some (assign (.Name y py) X.env)) (fun _ s'=>SP X pins D .next s') acc C) sc calm hg hc he I2 T st2 f2 q ?_
  intro D' s₃ H3 σ' H' s' I3 f3 I' qn
  obtain ⟨m,hn,_⟩:=I'.loc
  obtain ⟨oC,es,ep,hoC,hdC,hrest⟩:=id hn
  have IX:Inv X pins σ H' s':=Nz I3 f3 I' (.refl ..)
  have fC:Lj X pins H' s₃.heap.objs.size:=I3.a3h (Nat.le_refl _) I'.free
  have IXp:=IX.pinned (fp:=[s₃.heap.objs.size]) (fun b hb=>by rw [List.mem_singleton.mp hb]; exact fC) (fun b hb=>by
    rw [List.mem_singleton.mp hb]
    exact ⟨oC,hoC,fun v z=>by rw [hdC] at z; cases z⟩)
  show wpAny _ X.A (assign (.Name y py) X.env (.ref D')) _ _ _
  refine thn (hgN _ s' σ H' (.ref D') (.ref D') _ IXp rfl qn) fun _ s'' z0=>?_
  obtain ⟨σ'',H'',I'',q''⟩:=z0
  have pC:=I''.pin (s₃.heap.objs.size,oC) (List.mem_append_right _ (List.mem_append_right _ (vf (by simp) hoC)))
  refine ⟨m,⟨oC,es,ep,pC.1,hdC,hrest⟩,fun h' hs'=>⟨σ'',H'',?_,q''⟩⟩
  exact I''.Bo.turned (h':=h') (t':=s''.toks) (it:=s₃.heap.objs.size) (fun b o ne e=>hs'.extBut b o ne e) pC.2.1 fC.2.1 fC.2.2.2.1 fC.2.2.2.2.1 fC.2.2.2.2.2
end
end L2
end
section
namespace C
open PySem PySem.Spec PyProof.Rows L2
mutual
inductive Rep (K:PySem.W.Frag) (S:Hp) (as:List Addr):V→T→Prop where
  | non:Rep K S as .non .non
  | bl (b:Bool):Rep K S as (.bl b) (.bl b)
  | int (i:Int):Rep K S as (.int i) (.int i)
  | str (x:Str):Rep K S as (.str x) (.str x)
  | tup {a:Addr} {vs:List V} {ts:List T}:SqT K S a vs→jy K S as vs ts→Rep K S as (.ref a) (.tup ts)
  | lst {a:Addr} {vs:List V} {ts:List T}:SqL K S a vs→jy K S as vs ts→Rep K S as (.ref a) (.lst ts)
  | dic {a:Addr} {kvs:List (L2.Key × V)} {ts:List (L2.Key × T)}:Rd S a (.dK kvs)→xg K S as kvs ts→Rep K S as (.ref a) (.dic ts)
  | obj {n:Nat} {a:Addr}:as[n]? = some a→Rep K S as (.ref a) (.obj n)
inductive jy (K:PySem.W.Frag) (S:Hp) (as:List Addr):List V→List T→Prop where
  | nil:jy K S as [] []
  | cons {v:V} {t:T} {vs:List V} {ts:List T}:Rep K S as v t→jy K S as vs ts→jy K S as (v::vs) (t::ts)
inductive xg (K:PySem.W.Frag) (S:Hp) (as:List Addr):List (L2.Key × V)→List (L2.Key × T)→Prop where
  | nil:xg K S as [] []
  | cons {k:L2.Key} {v:V} {t:T} {vs:List (L2.Key × V)} {ts:List (L2.Key × T)}:Rep K S as v t→xg K S as vs ts→xg K S as ((k,v)::vs) ((k,t)::ts)
end
theorem o9 {S S':Hp} {a:Addr} {u:HO} (e:Same S S') (h:Rd S a u):Rd S' a u:=by
  rcases h with h | ⟨o,h⟩
  · exact .inl (e _ _ h)
  · exact .inr ⟨o,e _ _ h⟩
theorem j5 {K:PySem.W.Frag} {S S':Hp} {a:Addr} {xs:List V} (e:Same S S') (h:SqT K S a xs):SqT K S' a xs:=by
  rcases h with h | h
  · exact .inl (o9 e h)
  · exact .inr h
theorem gn {K:PySem.W.Frag} {S S':Hp} {a:Addr} {xs:List V} (e:Same S S') (h:SqL K S a xs):SqL K S' a xs:=by
  rcases h with h | h
  · exact .inl (o9 e h)
  · exact .inr h
section
variable {K:PySem.W.Frag} {S S':Hp} {as as':List Addr}
theorem Uw {α:Type} {l r:List α} {n:Nat} {a:α} (h:l[n]? = some a):(l++r)[n]? = some a:=by
  have:=(List.getElem?_eq_some_iff.mp h).1
  rw [List.getElem?_append_left this]; exact h
theorem Mt {n:Nat} {a:Addr} (x:∃ l,as'=as++l) (h:as[n]? = some a):as'[n]? = some a:=by obtain ⟨l,rfl⟩:=x; exact Uw h
theorem Rep.mono (e:Same S S') (x:∃ l,as'=as++l) {v:V} {t:T} (h:Rep K S as v t):Rep K S' as' v t :=
  Rep.rec (motive_1:=fun v t _=>Rep K S' as' v t) (motive_2:=fun v t _=>jy K S' as' v t) (motive_3:=fun v t _=>xg K S' as' v t) .non .bl .int .str (fun h _ i=>.tup (j5 e h) i) (fun h _ i=>.lst (gn e h) i) (fun h _ i=>.dic (o9 e h) i) (fun h=>.obj (Mt x h)) .nil (fun _ _ a b=>.cons a b) .nil (fun _ _ a b=>.cons a b) h
theorem jy.mono (e:Same S S') (x:∃ l,as'=as++l) {v:List V} {t:List T} (h:jy K S as v t):jy K S' as' v t :=
  jy.rec (motive_1:=fun v t _=>Rep K S' as' v t) (motive_2:=fun v t _=>jy K S' as' v t) (motive_3:=fun v t _=>xg K S' as' v t) .non .bl .int .str (fun h _ i=>.tup (j5 e h) i) (fun h _ i=>.lst (gn e h) i) (fun h _ i=>.dic (o9 e h) i) (fun h=>.obj (Mt x h)) .nil (fun _ _ a b=>.cons a b) .nil (fun _ _ a b=>.cons a b) h
theorem xg.mono (e:Same S S') (x:∃ l,as'=as++l) {v:List (L2.Key × V)} {t:List (L2.Key × T)} (h:xg K S as v t):xg K S' as' v t :=
  xg.rec (motive_1:=fun v t _=>Rep K S' as' v t) (motive_2:=fun v t _=>jy K S' as' v t) (motive_3:=fun v t _=>xg K S' as' v t) .non .bl .int .str (fun h _ i=>.tup (j5 e h) i) (fun h _ i=>.lst (gn e h) i) (fun h _ i=>.dic (o9 e h) i) (fun h=>.obj (Mt x h)) .nil (fun _ _ a b=>.cons a b) .nil (fun _ _ a b=>.cons a b) h
inductive Ca (K:PySem.W.Frag) (S:Hp) (as:List Addr):List (List L2.Key × V)→List (List L2.Key × T)→Prop where
  | nil:Ca K S as [] []
  | cons {k:List L2.Key} {v:V} {t:T} {vs:List (List L2.Key × V)} {ts:List (List L2.Key × T)}:Rep K S as v t→Ca K S as vs ts→Ca K S as ((k,v)::vs) ((k,t)::ts)
theorem Ca.mono (e:Same S S') (x:∃ l,as'=as++l) {v:List (List L2.Key × V)} {t:List (List L2.Key × T)} (h:Ca K S as v t):Ca K S' as' v t:=by
  induction h with
  | nil=>exact .nil
  | cons h _ ih=>exact .cons (h.mono e x) ih
theorem Ca.length {vs:List (List L2.Key × V)} {ts:List (List L2.Key × T)} (h:Ca K S as vs ts):vs.length=ts.length:=by
  induction h with
  | nil=>rfl
  | cons _ _ ih=>exact congrArg (· + 1) ih
theorem jy.length {vs:List V} {ts:List T} (h:jy K S as vs ts):vs.length=ts.length :=
  jy.rec (motive_1:=fun _ _ _=>True) (motive_2:=fun v t _=>v.length=t.length) (motive_3:=fun _ _ _=>True) trivial (fun _=>trivial) (fun _=>trivial) (fun _=>trivial) (fun _ _ _=>trivial) (fun _ _ _=>trivial) (fun _ _ _=>trivial) (fun _=>trivial) rfl (fun _ _ _ i=>congrArg (· + 1) i) trivial (fun _ _ _ _=>trivial) h
theorem xg.length {vs:List (L2.Key × V)} {ts:List (L2.Key × T)} (h:xg K S as vs ts):vs.length=ts.length :=
  xg.rec (motive_1:=fun _ _ _=>True) (motive_2:=fun _ _ _=>True) (motive_3:=fun v t _=>v.length=t.length) trivial (fun _=>trivial) (fun _=>trivial) (fun _=>trivial) (fun _ _ _=>trivial) (fun _ _ _=>trivial) (fun _ _ _=>trivial) (fun _=>trivial) trivial (fun _ _ _ _=>trivial) rfl (fun _ _ _ i=>congrArg (· + 1) i) h
theorem jy.get:∀ {vs:List V} {ts:List T} {i:Nat} {t:T},jy K S as vs ts→ts[i]? = some t→∃ v,vs[i]? = some v∧Rep K S as v t
  | _,_,_,_,.nil,e=>by simp at e
  | _,_,0,_,.cons r _,e=>by simp at e; subst e; exact ⟨_,rfl,r⟩
  | _,_,i+1,t,.cons _ r,e=>by
    obtain ⟨v,h1,h2⟩:=jy.get (i:=i) (t:=t) r (by simpa using e)
    exact ⟨v,by simpa using h1,h2⟩
theorem jy.append {vs:List V} {ts:List T} {ws:List V} {us:List T} (h:jy K S as vs ts) (q:jy K S as ws us):jy K S as (vs++ws) (ts++us) :=
  jy.rec (motive_1:=fun _ _ _=>True) (motive_2:=fun v t _=>jy K S as (v++ws) (t++us)) (motive_3:=fun _ _ _=>True) trivial (fun _=>trivial) (fun _=>trivial) (fun _=>trivial) (fun _ _ _=>trivial) (fun _ _ _=>trivial) (fun _ _ _=>trivial) (fun _=>trivial) q (fun h _ _ i=>.cons h i) trivial (fun _ _ _ _=>trivial) h
theorem jy.drop:∀ (n:Nat) {vs:List V} {ts:List T},jy K S as vs ts→jy K S as (vs.drop n) (ts.drop n)
  | 0,_,_,r=>r
  | _+1,_,_,.nil=>.nil
  | n+1,_,_,.cons _ r=>jy.drop n r
theorem xg.get (k:L2.Key):∀ {vs:List (L2.Key × V)} {ts:List (L2.Key × T)},xg K S as vs ts→(∃ v t,G7 vs k=some v∧J6 k ts=some t∧Rep K S as v t)∨(G7 vs k=none∧J6 k ts=none)
  | _,_,.nil=>.inr ⟨rfl,rfl⟩
  | _,_,.cons (k:=q) (v:=v) (t:=t) (vs:=vs) (ts:=ts) h r=>by
    by_cases e:q=k
    · exact .inl ⟨v,t,Bp (p:=(q,v)) e,by rw [J6,if_pos e],h⟩
    · rw [Bh (p:=(q,v)) e,J6,if_neg e]
      exact xg.get k r
end
structure Bas where
  S:Hp
  as:List Addr
  H:Hp
structure a0r (B:Bas) (S:Hp) (as:List Addr) (H:Hp):Prop where
  same:Same B.S S
  more:∃ l,as=B.as++l
  keep:∀ p o,B.H p=some o→B.S p=none→p∉B.as→H p=some o∧S p=none∧p∉as
structure Ext (S H S' H':Hp):Prop where
  s:Same S S'
  h:Same H H'
  sub:Same S' H'
  new:∀ p,S' p≠none→S p≠none∨H p=none
theorem Ext.refl {S H:Hp} (h:Same S H):Ext S H S H:=⟨Same.refl _,Same.refl _,h,fun _ q=>.inl q⟩
theorem Same.upd {H:Hp} {p:Addr} (h:H p=none) (o:HO):Same H (upd H p o):=fun b u q=>by rw [d7 (iu q h)]; exact q
theorem Ext.laid {S H:Hp} (h:Same S H) {p:Addr} (n:H p=none) (o:HO):Ext S H (upd S p o) (upd H p o) where
  s:=Same.upd (h.free n) o
  h:=Same.upd n o
  sub:=fun b u q=>by
    by_cases e:b=p
    · subst e; rw [cj] at q ⊢; exact q
    · rw [d7 e] at q ⊢; exact h _ _ q
  new:=fun b q=>by
    by_cases e:b=p
    · subst e; exact .inr n
    · rw [d7 e] at q; exact .inl q
theorem Ext.trans {S H S1 H1 S2 H2:Hp} (a:Ext S H S1 H1) (b:Ext S1 H1 S2 H2):Ext S H S2 H2 where
  s:=a.s.trans b.s
  h:=a.h.trans b.h
  sub:=b.sub
  new:=fun p q=>by
    rcases b.new p q with z | z
    · exact a.new p z
    · exact .inr (a.h.free z)
def Own (K:PySem.W.Frag) (S:Hp) (as:List Addr) (H:Hp) (p:Addr):T→Prop
  | .lst ts=>∃ vs,H p=some (.lst vs)∧jy K S as vs ts
  | .dic ts=>∃ kvs,H p=some (.dK kvs)∧xg K S as kvs ts
  | _=>False
structure Ck (K:PySem.W.Frag) (B:Bas) (S:Hp) (as:List Addr) (H:Hp) (p:Addr) (t:T):Prop where
  own:Own K S as H p t
  out:S p=none
  nas:p∉as
  new:B.H p=none
def Uk (K:PySem.W.Frag) (S:Hp) (as:List Addr) (H:Hp) (a:Addr):SO→Prop
  | .dic ts=>∃ kvs,H a=some (.dK kvs)∧xg K S as kvs ts
  | .lst ts=>∃ vs,H a=some (.lst vs)∧jy K S as vs ts
  | .dit ts=>∃ kvs,H a=some (.dT kvs)∧Ca K S as kvs ts
structure Aj (K:PySem.W.Frag) (S:Hp) (as:List Addr) (H:Hp) (sto:List SO):Prop where
  len:as.length=sto.length
  nd:as.Nodup
  at':∀ (n:Nat) so,sto[n]? = some so→∃ a,as[n]? = some a∧S a=none∧Uk K S as H a so
structure Rel (K:PySem.W.Frag) (B:Bas) (st:Sta) (σ:L2.St) (H:Hp) (ps:List (V × T)) (S:Hp) (as:List Addr):Prop where
  sub:Same S H
  grow:a0r B S as H
  slots:∀ (i:Nat) t f,st.env[i]? = some (some (t,f))→∃ v,σ[i]? = some (some v)∧(f=false→Rep K S as v t)∧(f=true→∃ p,v=.ref p∧Ck K B S as H p t)
  apart:∀ (i j:Nat) t u p,st.env[i]? = some (some (t,true))→st.env[j]? = some (some (u,true))→σ[i]? = some (some (.ref p))→σ[j]? = some (some (.ref p))→i=j
  sto:Aj K S as H st.sto
  pend:∀ p∈ps,Rep K S as p.1 p.2
  len:σ.length=st.env.length
section
variable {K:PySem.W.Frag} {B:Bas} {st:Sta} {σ:L2.St} {H H' S S':Hp} {ps:List (V × T)} {as:List Addr}
theorem nol {as:List Addr}:∃ l:List Addr,as=as++l:=⟨[],(List.append_nil _).symm⟩
theorem Own.mono {p:Addr} {t:T} (hs:Same S S') (hh:H p=H' p) (o:Own K S as H p t):Own K S' as H' p t:=by
  cases t with
  | lst ts=>obtain ⟨vs,h,r⟩:=o; exact ⟨vs,hh ▸ h,r.mono hs nol⟩
  | dic ts=>obtain ⟨vs,h,r⟩:=o; exact ⟨vs,hh ▸ h,r.mono hs nol⟩
  | _=>exact o.elim
theorem Own.there {p:Addr} {t:T} (o:Own K S as H p t):∃ ob,H p=some ob:=by
  cases t with
  | lst ts=>obtain ⟨vs,h,r⟩:=o; exact ⟨_,h⟩
  | dic ts=>obtain ⟨vs,h,r⟩:=o; exact ⟨_,h⟩
  | _=>exact o.elim
theorem Uk.mono {a:Addr} {so:SO} (hs:Same S S') (hh:H a=H' a) (o:Uk K S as H a so):Uk K S' as H' a so:=by
  cases so with
  | dic ts=>obtain ⟨vs,h,r⟩:=o; exact ⟨vs,hh ▸ h,r.mono hs nol⟩
  | lst ts=>obtain ⟨vs,h,r⟩:=o; exact ⟨vs,hh ▸ h,r.mono hs nol⟩
  | dit ts=>obtain ⟨vs,h,r⟩:=o; exact ⟨vs,hh ▸ h,r.mono hs nol⟩
theorem Uk.there {a:Addr} {so:SO} (o:Uk K S as H a so):∃ ob,H a=some ob:=by
  cases so with
  | dic ts=>obtain ⟨vs,h,r⟩:=o; exact ⟨_,h⟩
  | lst ts=>obtain ⟨vs,h,r⟩:=o; exact ⟨_,h⟩
  | dit ts=>obtain ⟨vs,h,r⟩:=o; exact ⟨_,h⟩
theorem Ext.outs (x:Ext S H S' H') {p:Addr} {o:HO} (h:H p=some o) (n:S p=none):S' p=none:=by
  cases q:S' p with
  | none=>rfl
  | some u =>
    rcases x.new p (by rw [q]; exact Option.some_ne_none _) with z | z
    · exact absurd n z
    · rw [h] at z; cases z
theorem Aj.ext {sto:List SO} (r:Aj K S as H sto) (x:Ext S H S' H'):Aj K S' as H' sto where
  len:=r.len
  nd:=r.nd
  at':=fun n so e=>by
    obtain ⟨a,h1,h2,h3⟩:=r.at' n so e
    obtain ⟨ob,ho⟩:=h3.there
    exact ⟨a,h1,x.outs ho h2,h3.mono x.s (by rw [ho,x.h _ _ ho])⟩
theorem Rel.ext (r:Rel K B st σ H ps S as) (x:Ext S H S' H'):Rel K B st σ H' ps S' as where
  sub:=x.sub
  grow:=⟨r.grow.same.trans x.s,r.grow.more,fun p o h1 h2 h3=>by
    obtain ⟨a,b,c⟩:=r.grow.keep p o h1 h2 h3
    exact ⟨x.h _ _ a,x.outs a b,c⟩⟩
  slots:=fun i t f e=>by
    obtain ⟨v,h1,h2,h3⟩:=r.slots i t f e
    refine ⟨v,h1,fun q=>(h2 q).mono x.s nol,fun q=>?_⟩
    obtain ⟨p,e,o⟩:=h3 q
    obtain ⟨ob,ho⟩:=o.own.there
    exact ⟨p,e,o.own.mono x.s (by rw [ho,x.h _ _ ho]),x.outs ho o.out,o.nas,o.new⟩
  apart:=r.apart
  sto:=r.sto.ext x
  pend:=fun p hp=>(r.pend p hp).mono x.s nol
  len:=r.len
theorem Rel.push (r:Rel K B st σ H ps S as) {v:V} {t:T} (h:Rep K S as v t):Rel K B st σ H ((v,t)::ps) S as :=
  ⟨r.sub,r.grow,r.slots,r.apart,r.sto,fun p hp=>by
    rcases List.mem_cons.mp hp with rfl | z
    · exact h
    · exact r.pend p z,r.len⟩
theorem Rel.drop {p:V × T} (r:Rel K B st σ H (p::ps) S as):Rel K B st σ H ps S as :=
  ⟨r.sub,r.grow,r.slots,r.apart,r.sto,fun q hq=>r.pend q (List.mem_cons_of_mem _ hq),r.len⟩
theorem Rel.top {v:V} {t:T} (r:Rel K B st σ H ((v,t)::ps) S as):Rep K S as v t:=r.pend (v,t) List.mem_cons_self
theorem Rel.top2 {v:V} {t:T} {q:V × T} (r:Rel K B st σ H (q::(v,t)::ps) S as):Rep K S as v t:=r.pend (v,t) (List.mem_cons_of_mem _ List.mem_cons_self)
end
inductive tOf (K:PySem.W.Frag) (B:Bas) (m:M T) (σ:L2.St) (H:Hp) (Q:VK):Prop
  | mk (st:Sta) (ps:List (V × T)) (S:Hp) (as:List Addr) (R:Rel K B st σ H ps S as) (t:T) (st':Sta) (e:m st=some (t,st')) (q:∀ v H' S' as',Rel K B st' σ H' ((v,t)::ps) S' as'→Q v H')
inductive cOf (K:PySem.W.Frag) (B:Bas) (m:M Bool) (σ:L2.St) (H:Hp) (Q:Bool→Hp→Prop):Prop
  | mk (st:Sta) (ps:List (V × T)) (S:Hp) (as:List Addr) (R:Rel K B st σ H ps S as) (b:Bool) (st':Sta) (e:m st=some (b,st')) (q:∀ H' S' as',Rel K B st' σ H' ps S' as'→Q b H')
inductive aOf (K:PySem.W.Frag) (B:Bas) (m:M (List T)) (σ:L2.St) (H:Hp) (Q:List V→Hp→Prop):Prop
  | mk (st:Sta) (ps:List (V × T)) (S:Hp) (as:List Addr) (R:Rel K B st σ H ps S as) (ts:List T) (st':Sta) (e:m st=some (ts,st')) (q:∀ vs H' S' as',Rel K B st' σ H' ps S' as'→jy K S' as' vs ts→Q vs H')
theorem _root_.L2.PE.imp {X:Cx} {e:Expr} {t t':TE} (h:PE X e t) (i:∀ σ H Q,t' σ H Q→t σ H Q):PE X e t':=fun pins s σ H Q I q=>h pins s σ H Q I (i σ H Q q)
theorem _root_.L2.PT.imp {X:Cx} {e:Expr} {t t':TT} (h:PT X e t) (i:∀ σ H Q,t' σ H Q→t σ H Q):PT X e t':=fun pins s σ H Q I q=>h pins s σ H Q I (i σ H Q q)
theorem _root_.L2.PA.imp {X:Cx} {e:List Expr} {t t':TA} (h:PA X e t) (i:∀ σ H Q,t' σ H Q→t σ H Q):PA X e t':=fun pos pins s σ H Q I q=>h pos pins s σ H Q I (i σ H Q q)
theorem _root_.L2.PS.imp {X:Cx} {e:Stmt} {t t':TS} (h:PS X e t) (i:∀ D σ H,t' D σ H→t D σ H):PS X e t':=fun pins s σ H D I q=>h pins s σ H D I (i D σ H q)
theorem _root_.L2.PSs.imp {X:Cx} {e:List Stmt} {t t':TS} (h:PSs X e t) (i:∀ D σ H,t' D σ H→t D σ H):PSs X e t':=fun pins s σ H D I q=>h pins s σ H D I (i D σ H q)
def r2 (K:PySem.W.Frag) (f:T→T→Option T):R2:=fun x y H Q=>∃ S as t u w,Same S H∧Rep K S as x t∧Rep K S as y u∧f t u=some w∧∀ v H' S',Ext S H S' H'→Rep K S' as v w→Q v H'
def r1 (K:PySem.W.Frag) (f:T→Option T):V→Hp→VK→Prop:=fun x H Q=>∃ S as t w,Same S H∧Rep K S as x t∧f t=some w∧∀ v H' S',Ext S H S' H'→Rep K S' as v w→Q v H'
def rL (K:PySem.W.Frag) (f:List T→Option T):List V→Hp→VK→Prop:=fun xs H Q=>∃ S as ts w,Same S H∧jy K S as xs ts∧f ts=some w∧∀ v H' S',Ext S H S' H'→Rep K S' as v w→Q v H'
abbrev OpT (X:Cx) (f:Value→Value→Sem Value) (g:T→T→Option T):Prop:=OpR X f (r2 X.K g)
abbrev UnT (X:Cx) (f:Value→Sem Value) (g:T→Option T):Prop:=UnR X f (r1 X.K g)
abbrev Vy (X:Cx) (f:Value) (g:List T→Option T):Prop:=Aa X f (rL X.K g)
section
variable {X:Cx} {B:Bas} {a b c:Expr} {m m1 m2:M T} {pos:Pos}
theorem Dv {v:V} {t:T} {e:Expr} (h:PE X e (tC v)) (r:∀ S as,Rep X.K S as v t):PE X e (tOf X.K B (au t)):=h.imp fun σ H Q z9=>by
  obtain ⟨st,ps,S,as,R,t',st',e,q⟩:=z9
  cases e
  exact q v H S as (R.push (r S as))
theorem bw {i:Int} {j:Nat}:PE X (.Constant (.int i) j pos) (tOf X.K B (au (.int i))):=Dv Zc fun _ _=>.int i
theorem a4b {i:Bool} {j:Nat}:PE X (.Constant (.bool i) j pos) (tOf X.K B (au (.bl i))):=Dv a6d fun _ _=>.bl i
theorem wk {i:Str} {j:Nat}:PE X (.Constant (.str i) j pos) (tOf X.K B (au (.str i))):=Dv Z1 fun _ _=>.str i
theorem yj {j:Nat}:PE X (.Constant .none j pos) (tOf X.K B (au .non)):=Dv a4c fun _ _=>.non
theorem jg {op:Operator} {f:T→T→Option T} (ho:OpT X (binaryOp op) f) (ha:PE X a (tOf X.K B m1)) (hb:PE X b (tOf X.K B m2)):PE X (.BinOp a op b pos) (tOf X.K B (mOp f m1 m2)) :=
  (a2c ho ha hb).imp fun σ H Q z9=>by
    obtain ⟨st,ps,S,as,R,t,st',e,q⟩:=z9
    obtain ⟨t1,s1,t2,e1,e2,e3⟩:=J4 e
    refine ⟨st,ps,S,as,R,t1,s1,e1,fun v H1 S1 as1 R1=>⟨s1,_,S1,as1,R1,t2,st',e2,fun u H2 S2 as2 R2=>?_⟩⟩
    exact ⟨S2,as2,t1,t2,t,R2.sub,R2.top2,R2.top,e3,fun w H3 S3 x r=>q w H3 S3 as2 ((R2.drop.drop.ext x).push r)⟩
end
end C
end
section
namespace C
open PySem PySem.Spec PyProof.Rows L2
section
variable {K:PySem.W.Frag} {B:Bas} {st:Sta} {σ:L2.St} {H H' S S':Hp} {ps:List (V × T)} {as:List Addr}
theorem Rel.freeze (r:Rel K B st σ H ps S as) {i:Nat} {t:T} (e:st.env[i]? = some (some (t,true))) :
    ∃ v S',σ[i]? = some (some v)∧Rel K B { st with env:=st.env.set i (some (t,false)) } σ H ((v,t)::ps) S' as:=by
  obtain ⟨v,h1,_,h3⟩:=r.slots i t true e
  obtain ⟨p,rfl,o⟩:=h3 rfl
  obtain ⟨ob,ho⟩:=o.own.there
  have hi:i<st.env.length:=(List.getElem?_eq_some_iff.mp e).1
  have sS:Same S (upd S p ob):=Same.upd o.out ob
  have rep:Rep K (upd S p ob) as (.ref p) t:=by
    have w:=o.own
    cases t with
    | lst ts=>obtain ⟨vs,h,q⟩:=w; rw [ho] at h; cases h; exact .lst (SqL.of cj) (q.mono sS nol)
    | dic ts=>obtain ⟨vs,h,q⟩:=w; rw [ho] at h; cases h; exact .dic (.inl cj) (q.mono sS nol)
    | _=>exact w.elim
  have outs:∀ q,S q=none→q≠p→upd S p ob q=none:=fun q h n=>by rw [d7 n]; exact h
  refine ⟨.ref p,upd S p ob,h1,?_⟩
  refine Rel.push (v:=.ref p) (t:=t) ⟨?_,?_,?_,?_,?_,?_,?_⟩ rep
  · intro b u q
    by_cases z:b=p
    · subst z; rw [cj] at q; cases q; exact ho
    · rw [d7 z] at q; exact r.sub _ _ q
  · refine ⟨r.grow.same.trans sS,r.grow.more,fun q w a b c=>?_⟩
    obtain ⟨x,y,z⟩:=r.grow.keep q w a b c
    refine ⟨x,outs q y fun n=>?_,z⟩
    subst n; rw [o.new] at a; cases a
  · intro j u f ej
    by_cases hij:i=j
    · subst hij
      rw [List.getElem?_set_self hi] at ej
      cases ej
      exact ⟨.ref p,h1,fun _=>rep,fun z=>by cases z⟩
    · rw [List.getElem?_set_ne hij] at ej
      obtain ⟨v',a1,a2,a3⟩:=r.slots j u f ej
      refine ⟨v',a1,fun z=>(a2 z).mono sS nol,fun z=>?_⟩
      subst z
      obtain ⟨p',rfl,o'⟩:=a3 rfl
      refine ⟨p',rfl,o'.own.mono sS rfl,outs p' o'.out fun n=>?_,o'.nas,o'.new⟩
      subst n
      exact hij (r.apart i j t u p' e ej h1 a1)
  · intro j k u w q ej ek
    have hj:st.env[j]? = some (some (u,true)):=by
      by_cases hij:i=j
      · subst hij; rw [List.getElem?_set_self hi] at ej; cases ej
      · rwa [List.getElem?_set_ne hij] at ej
    have hk:st.env[k]? = some (some (w,true)):=by
      by_cases hij:i=k
      · subst hij; rw [List.getElem?_set_self hi] at ek; cases ek
      · rwa [List.getElem?_set_ne hij] at ek
    exact r.apart j k u w q hj hk
  · refine ⟨r.sto.len,r.sto.nd,fun n so en=>?_⟩
    obtain ⟨a,a1,a2,a3⟩:=r.sto.at' n so en
    refine ⟨a,a1,outs a a2 fun z=>?_,a3.mono sS rfl⟩
    subst z
    exact o.nas (List.mem_of_getElem? a1)
  · exact fun q hq=>(r.pend q hq).mono sS nol
  · show σ.length=(st.env.set i _).length
    rw [List.length_set]; exact r.len
end
section
variable {X:Cx} {B:Bas} {a b c:Expr} {m m1 m2:M T} {pos:Pos}
theorem ak (i:Nat) {e:Expr} (h:PE X e (J8 i)):PE X e (tOf X.K B (bf i)):=h.imp fun σ H Q z9=>by
  obtain ⟨st,ps,S,as,R,t,st',e,q⟩:=z9
  rcases Wi e with ⟨e1,rfl⟩ | ⟨e1,rfl⟩
  · obtain ⟨v,h1,h2,_⟩:=R.slots i t false e1
    exact ⟨v,h1,q v H S as (R.push (h2 rfl))⟩
  · obtain ⟨v,S',h1,R'⟩:=R.freeze e1
    exact ⟨v,h1,q v H S' as R'⟩
theorem c7:PA X [] (aOf X.K B fj):=qg.imp fun σ H Q z9=>by
  obtain ⟨st,ps,S,as,R,ts,st',e,q⟩:=z9
  cases e
  exact q [] H S as R .nil
theorem aj {es:List Expr} {ms:M (List T)} (ha:PE X a (tOf X.K B m)) (hr:PA X es (aOf X.K B ms)) (hs:starEach (a::es) X.env=(false,eval a X.env)::starEach es X.env:=by rfl):PA X (a::es) (aOf X.K B (aq m ms)) :=
  (jj ha hr hs).imp fun σ H Q z9=>by
    obtain ⟨st,ps,S,as,R,ts,st',e,q⟩:=z9
    obtain ⟨t,s1,us,e1,e2,rfl⟩:=u5 e
    refine ⟨st,ps,S,as,R,t,s1,e1,fun v H1 S1 as1 R1=>⟨s1,_,S1,as1,R1,us,st',e2,fun vs H2 S2 as2 R2 rs=>?_⟩⟩
    exact q (v::vs) H2 S2 as2 R2.drop (.cons R2.top rs)
theorem g8 {es:List Expr} {ms:M (List T)} {k:Nat} (h:PA X es (aOf X.K B ms)) (hm:∀ st ts st',ms st=some (ts,st')→ts.length≤1000):PE X (.Tuple es k pos) (tOf X.K B (gw (fun l=>some (.tup l)) ms)) :=
  (O6 h).imp fun σ H Q z9=>by
    obtain ⟨st,ps,S,as,R,t,st',e,q⟩:=z9
    obtain ⟨ts,e1,e2⟩:=vm e
    cases e2
    refine ⟨st,ps,S,as,R,ts,st',e1,fun vs H1 S1 as1 R1 rs=>⟨?_,fun p hp=>?_⟩⟩
    · rw [rs.length]; exact Nat.le_of_lt (yt (hm _ _ _ e1))
    · have x:=Ext.laid R1.sub hp (.tup vs)
      exact q _ _ _ _ ((R1.ext x).push (.tup (SqT.of cj) (rs.mono x.s nol)))
theorem Gy {es:List Expr} {ms:M (List T)} (h:PA X es (aOf X.K B ms)) (hm:∀ st ts st',ms st=some (ts,st')→ts.length≤1000):PE X (.List es pos) (tOf X.K B (gw (fun l=>some (.lst l)) ms)) :=
  (Vq h).imp fun σ H Q z9=>by
    obtain ⟨st,ps,S,as,R,t,st',e,q⟩:=z9
    obtain ⟨ts,e1,e2⟩:=vm e
    cases e2
    refine ⟨st,ps,S,as,R,ts,st',e1,fun vs H1 S1 as1 R1 rs=>⟨?_,fun p hp=>?_⟩⟩
    · rw [rs.length]; exact Nat.le_of_lt (yt (hm _ _ _ e1))
    · have x:=Ext.laid R1.sub hp (.lst vs)
      exact q _ _ _ _ ((R1.ext x).push (.lst (SqL.of cj) (rs.mono x.s nol)))
theorem d8:∀ st ts st',fj st=some (ts,st')→ts.length≤0:=fun st ts st' e=>by cases e; exact Nat.le_refl _
theorem ao {r:M (List T)} {n:Nat} (h:∀ st ts st',r st=some (ts,st')→ts.length≤n):∀ st ts st',aq m r st=some (ts,st')→ts.length≤n+1:=fun st ts st' e=>by
  obtain ⟨t,s1,us,e1,e2,rfl⟩:=u5 e
  exact Nat.succ_le_succ (h _ _ _ e2)
theorem jq {ms:M (List T)} {f:List T→Option T} {e:Expr} (h:PE X e (tCB (rL X.K f) (aOf X.K B ms))):PE X e (tOf X.K B (gw f ms)) :=
  h.imp fun σ H Q z9=>by
    obtain ⟨st,ps,S,as,R,t,st',e,q⟩:=z9
    obtain ⟨ts,e1,e2⟩:=vm e
    refine ⟨st,ps,S,as,R,ts,st',e1,fun vs H1 S1 as1 R1 rs=>⟨S1,as1,ts,t,R1.sub,rs,e2,fun v H2 S2 x r=>?_⟩⟩
    exact q v H2 S2 as1 ((R1.ext x).push r)
theorem O8 {f:T→T→Option T} {e:Expr} (h:PE X e (tOp (r2 X.K f) (tOf X.K B m1) (tOf X.K B m2))):PE X e (tOf X.K B (mOp f m1 m2)) :=
  h.imp fun σ H Q z9=>by
    obtain ⟨st,ps,S,as,R,t,st',e,q⟩:=z9
    obtain ⟨t1,s1,t2,e1,e2,e3⟩:=J4 e
    refine ⟨st,ps,S,as,R,t1,s1,e1,fun v H1 S1 as1 R1=>⟨s1,_,S1,as1,R1,t2,st',e2,fun u H2 S2 as2 R2=>?_⟩⟩
    exact ⟨S2,as2,t1,t2,t,R2.sub,R2.top2,R2.top,e3,fun w H3 S3 x r=>q w H3 S3 as2 ((R2.drop.drop.ext x).push r)⟩
theorem Xn {f:T→Option T} {e:Expr} (h:PE X e (tUn (r1 X.K f) (tOf X.K B m))):PE X e (tOf X.K B (mUn f m)) :=
  h.imp fun σ H Q z9=>by
    obtain ⟨st,ps,S,as,R,t,st',e,q⟩:=z9
    obtain ⟨t1,e1,e3⟩:=a0d e
    refine ⟨st,ps,S,as,R,t1,st',e1,fun v H1 S1 as1 R1=>⟨S1,as1,t1,t,R1.sub,R1.top,e3,fun w H3 S3 x r=>q w H3 S3 as1 ((R1.drop.ext x).push r)⟩⟩
theorem Vs {op:CmpOp} {f:T→T→Option T} (ho:OpT X (compareOp op) f) (ha:PE X a (tOf X.K B m1)) (hb:PE X b (tOf X.K B m2)) (hm:behindInMarks op b=false):PE X (.Compare a [op] [b] pos) (tOf X.K B (mOp f m1 m2)):=O8 (N6 ho ha hb hm)
theorem a4y {op:UnaryOp} {f:T→Option T} (ho:UnT X (unaryOp op) f) (ha:PE X a (tOf X.K B m)):PE X (.UnaryOp op a pos) (tOf X.K B (mUn f m)):=Xn (a6l ho ha)
theorem Cy {e:Expr} (h:PT X e (a3o (tOf X.K B m))):PT X e (cOf X.K B (fu m)):=h.imp fun σ H Q z9=>by
  obtain ⟨st,ps,S,as,R,t,st',e,q⟩:=z9
  refine ⟨st,ps,S,as,R,.bl t,st',Bk e,fun v H1 S1 as1 R1=>?_⟩
  cases R1.top
  exact ⟨t,rfl,q H1 S1 as1 R1.drop⟩
theorem jc {op:CmpOp} {f:T→T→Option T} (ho:OpT X (compareOp op) f) (ha:PE X a (tOf X.K B m1)) (hb:PE X b (tOf X.K B m2)) (hm:behindInMarks op b=false):PT X (.Compare a [op] [b] pos) (cOf X.K B (fu (mOp f m1 m2))) :=
  Cy ((Tq ho ha hb hm).imp fun σ H Q z9=>by
    obtain ⟨st,ps,S,as,R,t,st',e,q⟩:=z9
    obtain ⟨t1,s1,t2,e1,e2,e3⟩:=J4 e
    refine ⟨st,ps,S,as,R,t1,s1,e1,fun v H1 S1 as1 R1=>⟨s1,_,S1,as1,R1,t2,st',e2,fun u H2 S2 as2 R2=>?_⟩⟩
    exact ⟨S2,as2,t1,t2,t,R2.sub,R2.top2,R2.top,e3,fun w H3 S3 x r=>q w H3 S3 as2 ((R2.drop.drop.ext x).push r)⟩)
theorem a4h {e:Expr} (h:PE X e (tOf X.K B m)) (he:∀ whole,isTrue e X.env whole=(do let v ← whole; standAt e.pos; holding [v] (truthy v)):=by intro _; rfl):PT X e (cOf X.K B (fu m)) :=
  Cy ((a4j h he).imp fun σ H Q h=>h)
theorem Cg {c1:M Bool} (ha:PT X a (cOf X.K B c1)):PW X (.BoolOp .And [a] pos) (cOf X.K B c1):=pw_and1 ha
theorem a3i {c1:M Bool} (ha:PT X a (cOf X.K B c1)):PW X (.BoolOp .Or [a] pos) (cOf X.K B c1):=pw_or1 ha
theorem a3v {e:Expr} {t t':TT} (h:PW X e t) (i:∀ σ H Q,t' σ H Q→t σ H Q):PW X e t':=fun whole pins s σ H Q I q=>h whole pins s σ H Q I (i σ H Q q)
theorem Ho {c1 c2:M Bool} {rest:List Expr} (ha:PT X a (cOf X.K B c1)) (hb:PW X (.BoolOp .And (b::rest) pos) (cOf X.K B c2)):PW X (.BoolOp .And (a::b::rest) pos) (cOf X.K B (Hl c1 c2)) :=
  a3v (pw_and ha hb) fun σ H Q z9=>by
    obtain ⟨st,ps,S,as,R,t,st',e,q⟩:=z9
    rcases Ou e with ⟨s1,e1,e2⟩ | ⟨e1,rfl⟩
    · exact ⟨st,ps,S,as,R,true,s1,e1,fun H1 S1 as1 R1=>Z7 (⟨s1,ps,S1,as1,R1,t,st',e2,q⟩)⟩
    · exact ⟨st,ps,S,as,R,false,st',e1,fun H1 S1 as1 R1=>Yw (q H1 S1 as1 R1)⟩
theorem a6o {c1 c2:M Bool} {rest:List Expr} (ha:PT X a (cOf X.K B c1)) (hb:PW X (.BoolOp .Or (b::rest) pos) (cOf X.K B c2)):PW X (.BoolOp .Or (a::b::rest) pos) (cOf X.K B (mOr c1 c2)) :=
  a3v (pw_or ha hb) fun σ H Q z9=>by
    obtain ⟨st,ps,S,as,R,t,st',e,q⟩:=z9
    rcases a0g e with ⟨s1,e1,e2⟩ | ⟨e1,rfl⟩
    · exact ⟨st,ps,S,as,R,false,s1,e1,fun H1 S1 as1 R1=>Yw (⟨s1,ps,S1,as1,R1,t,st',e2,q⟩)⟩
    · exact ⟨st,ps,S,as,R,true,st',e1,fun H1 S1 as1 R1=>Z7 (q H1 S1 as1 R1)⟩
theorem Zb {op:BoolOp} (ha:PE X a (tOf X.K B m)):PE X (.BoolOp op [a] pos) (tOf X.K B m):=a3c ha
theorem Ys {rest:List Expr} (ha:PE X a (tOf X.K B m1)) (hb:PE X (.BoolOp .And (b::rest) pos) (tOf X.K B m2)):PE X (.BoolOp .And (a::b::rest) pos) (tOf X.K B (Mv (Hl (fu m1) (fu m2)))) :=
  (a2i ha hb).imp fun σ H Q z9=>by
    obtain ⟨st,ps,S,as,R,t,st',e,q⟩:=z9
    obtain ⟨b,e1,rfl⟩:=Rj e
    rcases Ou e1 with ⟨s1,e2,e3⟩ | ⟨e2,rfl⟩
    · refine ⟨st,ps,S,as,R,.bl true,s1,Bk e2,fun v H1 S1 as1 R1=>?_⟩
      cases R1.top
      exact ⟨true,rfl,Z7 (⟨s1,ps,S1,as1,R1.drop,.bl b,st',Bk e3,q⟩)⟩
    · refine ⟨st,ps,S,as,R,.bl false,st',Bk e2,fun v H1 S1 as1 R1=>?_⟩
      cases R1.top
      exact ⟨false,rfl,Yw (q _ H1 S1 as1 (R1.drop.push (.bl _)))⟩
end
end C
end
section
namespace C
open PySem PySem.Spec PyProof.Rows L2
theorem Y8 {a b:S} {s s':Sta} {fl:Flow} (h:ju a b s=some (fl,s')):(∃ s1,a s=some (.next,s1)∧b s1=some (fl,s'))∨(a s=some (fl,s')∧fl≠.next):=by
  unfold ju at h
  split at h
  · rename_i s1 e; exact .inl ⟨s1,e,h⟩
  · rename_i r hr; exact .inr ⟨h,fun z=>by subst z; exact hr _ h⟩
theorem Wb {e:M T} {s s':Sta} {fl:Flow} (h:uy e s=some (fl,s')):∃ t,e s=some (t,s')∧fl=.ret t:=by
  unfold uy at h
  split at h
  · rename_i t s1 e; cases h; exact ⟨t,e,rfl⟩
  · cases h
theorem Zt {c:M Bool} {a b:S} {s s':Sta} {fl:Flow} (h:sIf c a b s=some (fl,s')):(∃ s1,c s=some (true,s1)∧a s1=some (fl,s'))∨(∃ s1,c s=some (false,s1)∧b s1=some (fl,s')):=by
  unfold sIf at h
  split at h
  · rename_i s1 e; exact .inl ⟨s1,e,h⟩
  · rename_i s1 e; exact .inr ⟨s1,e,h⟩
  · cases h
theorem Xo {i:Nat} {e:M T} {s s':Sta} {fl:Flow} (h:qj i e s=some (fl,s')):∃ t s1,e s=some (t,s1)∧fl=.next∧s'=gk i t false s1:=by
  unfold qj at h
  split at h
  · rename_i t s1 e; cases h; exact ⟨t,s1,e,rfl,rfl⟩
  · cases h
theorem Xh {i:Nat} {e:M T} {s s':Sta} {fl:Flow} (h:sNew i e s=some (fl,s')):∃ t s1,e s=some (t,s1)∧fl=.next∧s'=gk i t true s1:=by
  unfold sNew at h
  split at h
  · rename_i t s1 e; cases h; exact ⟨t,s1,e,rfl,rfl⟩
  · cases h
theorem X8 {g:G} {it:M (List T)} {b:S} {s s':Sta} {fl:Flow} (h:Bt g it b s=some (fl,s')):∃ ts s1,it s=some (ts,s1)∧forL g b ts s1=some (fl,s'):=by
  unfold Bt at h
  split at h
  · rename_i ts s1 e; exact ⟨ts,s1,e,h⟩
  · cases h
theorem Mi {i:Nat} {e:M T} {s s':Sta} {fl:Flow} (h:uc i e s=some (fl,s')) :
    Eu i s=true∧∃ t s1 xs,e s=some (t,s1)∧s1.env[i]? = some (some (.lst xs,true))∧xs.length<lim∧fl=.next∧s'=gk i (.lst (xs++[t])) true s1:=by
  unfold uc at h
  split at h
  · rename_i hd
    refine ⟨hd,?_⟩
    split at h
    · rename_i t s1 e
      split at h
      · rename_i xs ex
        split at h
        · rename_i hl; cases h; exact ⟨t,s1,xs,e,ex,hl,rfl,rfl⟩
        · cases h
      · cases h
    · cases h
  · cases h
theorem N5 {i:Nat} {k v:M T} {s s':Sta} {fl:Flow} (h:Cv i k v s=some (fl,s')) :
    ∃ t s1 kt s2 kvs q,v s=some (t,s1)∧Eo i s1=true∧k s1=some (kt,s2)∧s2.env[i]? = some (some (.dic kvs,true))∧keyOf kt=some q∧kvs.length<lim∧fl=.next∧s'=gk i (.dic (a0a q t kvs)) true s2:=by
  unfold Cv at h
  split at h
  · rename_i t s1 e
    split at h
    · rename_i hd
      split at h
      · rename_i kt s2 ek
        split at h
        · rename_i kvs q ex eq
          split at h
          · rename_i hl; cases h; exact ⟨t,s1,kt,s2,_,_,e,hd,ek,ex,eq,hl,rfl,rfl⟩
          · cases h
        · cases h
      · cases h
    · cases h
  · cases h
section
variable {K:PySem.W.Frag} {B:Bas} {st:Sta} {σ:L2.St} {H H' S S':Hp} {ps ps2:List (V × T)} {as as':List Addr}
theorem Rel.pick (r:Rel K B st σ H ps S as) (h:∀ p∈ps2,p∈ps):Rel K B st σ H ps2 S as :=
  ⟨r.sub,r.grow,r.slots,r.apart,r.sto,fun p hp=>r.pend p (h p hp),r.len⟩
theorem J2 {α:Type} {l:List α} {i:Nat} {x:α} (h:l.length≤i):l.set i x=l:=List.set_eq_of_length_le h
theorem Rel.put (r:Rel K B st σ H ps S as) {i:Nat} {v:V} {t:T} (h:Rep K S as v t):Rel K B (gk i t false st) (σ.set i (some v)) H ps S as:=by
  by_cases hi:i<st.env.length
  · have hs:i<σ.length:=by rw [r.len]; exact hi
    refine ⟨r.sub,r.grow,fun j u f e=>?_,fun j k u w p ej ek sj sk=>?_,r.sto,r.pend,by show _=(st.env.set i _).length; rw [List.length_set,List.length_set]; exact r.len⟩
    · have e:(st.env.set i (some (t,false)))[j]? = some (some (u,f)):=e
      by_cases hij:i=j
      · subst hij
        rw [List.getElem?_set_self hi] at e; cases e
        exact ⟨v,List.getElem?_set_self hs,fun _=>h,fun z=>by cases z⟩
      · rw [List.getElem?_set_ne hij] at e ⊢
        exact r.slots j u f e
    · have ej:(st.env.set i (some (t,false)))[j]? = some (some (u,true)):=ej
      have ek:(st.env.set i (some (t,false)))[k]? = some (some (w,true)):=ek
      have hij:i≠j:=fun z=>by subst z; rw [List.getElem?_set_self hi] at ej; cases ej
      have hik:i≠k:=fun z=>by subst z; rw [List.getElem?_set_self hi] at ek; cases ek
      rw [List.getElem?_set_ne hij] at ej sj
      rw [List.getElem?_set_ne hik] at ek sk
      exact r.apart j k u w p ej ek sj sk
  · have e1:gk i t false st=st:=by unfold gk; rw [J2 (Nat.le_of_not_lt hi)]
    have e2:σ.set i (some v)=σ:=J2 (by rw [r.len]; exact Nat.le_of_not_lt hi)
    rw [e1,e2]; exact r
def Dz (st:Sta) (σ:L2.St) (p:Addr):Prop:=∀ (j:Nat) u,st.env[j]? = some (some (u,true))→σ[j]? = some (some (.ref p))→False
theorem Rel.a4w (r:Rel K B st σ H ps S as) {i:Nat} {p:Addr} {t:T} (h:Ck K B S as H p t) (hn:Dz st σ p):Rel K B (gk i t true st) (σ.set i (some (.ref p))) H ps S as:=by
  by_cases hi:i<st.env.length
  · have hs:i<σ.length:=by rw [r.len]; exact hi
    refine ⟨r.sub,r.grow,fun j u f e=>?_,fun j k u w q ej ek sj sk=>?_,r.sto,r.pend,by show _=(st.env.set i _).length; rw [List.length_set,List.length_set]; exact r.len⟩
    · have e:(st.env.set i (some (t,true)))[j]? = some (some (u,f)):=e
      by_cases hij:i=j
      · subst hij
        rw [List.getElem?_set_self hi] at e; cases e
        exact ⟨.ref p,List.getElem?_set_self hs,(fun z=>by cases z),fun _=>⟨p,rfl,h⟩⟩
      · rw [List.getElem?_set_ne hij] at e ⊢
        exact r.slots j u f e
    · have ej:(st.env.set i (some (t,true)))[j]? = some (some (u,true)):=ej
      have ek:(st.env.set i (some (t,true)))[k]? = some (some (w,true)):=ek
      by_cases hij:i=j
      · by_cases hik:i=k
        · rw [← hij,← hik]
        · subst hij
          rw [List.getElem?_set_self hs] at sj; cases sj
          rw [List.getElem?_set_ne hik] at ek sk
          exact (hn k w ek sk).elim
      · rw [List.getElem?_set_ne hij] at ej sj
        by_cases hik:i=k
        · subst hik
          rw [List.getElem?_set_self hs] at sk; cases sk
          exact (hn j u ej sj).elim
        · rw [List.getElem?_set_ne hik] at ek sk
          exact r.apart j k u w q ej ek sj sk
  · have e1:gk i t true st=st:=by unfold gk; rw [J2 (Nat.le_of_not_lt hi)]
    have e2:σ.set i (some (.ref p))=σ:=J2 (by rw [r.len]; exact Nat.le_of_not_lt hi)
    rw [e1,e2]; exact r
theorem Rel.turn (r:Rel K B st σ H ps S as) {i:Nat} {t t':T} {p:Addr} {ob:HO} (e:st.env[i]? = some (some (t,true))) (hp:σ[i]? = some (some (.ref p))) (h:Own K S as (upd H p ob) p t') :
    Rel K B (gk i t' true st) σ (upd H p ob) ps S as:=by
  obtain ⟨v,h1,_,h3⟩:=r.slots i t true e
  rw [hp] at h1; cases h1
  obtain ⟨p',ep,o⟩:=h3 rfl
  cases ep
  have hi:i<st.env.length:=(List.getElem?_eq_some_iff.mp e).1
  have other:∀ q,q≠p→H q=upd H p ob q:=fun q n=>(d7 n).symm
  refine ⟨fun b u q=>?_,⟨r.grow.same,r.grow.more,fun q w a b c=>?_⟩,fun j u f ej=>?_,fun j k u w q ej ek sj sk=>?_,⟨r.sto.len,r.sto.nd,fun n so en=>?_⟩,r.pend,by show _=(st.env.set i _).length; rw [List.length_set]; exact r.len⟩
  · have n:b≠p:=fun z=>by subst z; rw [o.out] at q; cases q
    rw [d7 n]; exact r.sub _ _ q
  · obtain ⟨x,y,z⟩:=r.grow.keep q w a b c
    have n:q≠p:=fun z=>by subst z; rw [o.new] at a; cases a
    exact ⟨by rw [d7 n]; exact x,y,z⟩
  · have ej:(st.env.set i (some (t',true)))[j]? = some (some (u,f)):=ej
    by_cases hij:i=j
    · subst hij
      rw [List.getElem?_set_self hi] at ej; cases ej
      exact ⟨.ref p,hp,(fun z=>by cases z),fun _=>⟨p,rfl,h,o.out,o.nas,o.new⟩⟩
    · rw [List.getElem?_set_ne hij] at ej
      obtain ⟨v',a1,a2,a3⟩:=r.slots j u f ej
      refine ⟨v',a1,a2,fun z=>?_⟩
      subst z
      obtain ⟨p',rfl,o'⟩:=a3 rfl
      have n:p'≠p:=fun z=>by subst z; exact hij (r.apart i j t u p' e ej hp a1)
      exact ⟨p',rfl,o'.own.mono (Same.refl _) (other p' n),o'.out,o'.nas,o'.new⟩
  · have back:∀ (j:Nat) u,(st.env.set i (some (t',true)))[j]? = some (some (u,true))→∃ u',st.env[j]? = some (some (u',true)):=fun j u ej=>by
      by_cases hij:i=j
      · subst hij; exact ⟨t,e⟩
      · rw [List.getElem?_set_ne hij] at ej; exact ⟨u,ej⟩
    obtain ⟨u',ej'⟩:=back j u ej
    obtain ⟨w',ek'⟩:=back k w ek
    exact r.apart j k u' w' q ej' ek' sj sk
  · obtain ⟨a,a1,a2,a3⟩:=r.sto.at' n so en
    have n:a≠p:=fun z=>by subst z; exact o.nas (List.mem_of_getElem? a1)
    exact ⟨a,a1,a2,a3.mono (Same.refl _) (other a n)⟩
theorem Rel.Ru (r:Rel K B st σ H ps S as) {n:Nat} {so so':SO} {a:Addr} {ob:HO} (e:st.sto[n]? = some so) (ha:as[n]? = some a) (h:Uk K S as (upd H a ob) a so') :
    Rel K B { st with sto:=st.sto.set n so' } σ (upd H a ob) ps S as:=by
  have ma:a∈as:=List.mem_of_getElem? ha
  have hn:n<st.sto.length:=(List.getElem?_eq_some_iff.mp e).1
  have sa:S a=none:=by
    obtain ⟨a',a1,a2,_⟩:=r.sto.at' n so e
    rw [ha] at a1; cases a1; exact a2
  have other:∀ q,q≠a→H q=upd H a ob q:=fun q n=>(d7 n).symm
  refine ⟨fun b u q=>?_,⟨r.grow.same,r.grow.more,fun q w x y z=>?_⟩,fun j u f ej=>?_,r.apart,⟨by rw [List.length_set]; exact r.sto.len,r.sto.nd,fun k so2 en=>?_⟩,r.pend,r.len⟩
  · have n:b≠a:=fun z=>by subst z; rw [sa] at q; cases q
    rw [d7 n]; exact r.sub _ _ q
  · obtain ⟨x1,y1,z1⟩:=r.grow.keep q w x y z
    have n:q≠a:=fun z=>by subst z; exact z1 ma
    exact ⟨by rw [d7 n]; exact x1,y1,z1⟩
  · obtain ⟨v',a1,a2,a3⟩:=r.slots j u f ej
    refine ⟨v',a1,a2,fun z=>?_⟩
    obtain ⟨p',rfl,o'⟩:=a3 z
    have n:p'≠a:=fun z=>by subst z; exact o'.nas ma
    exact ⟨p',rfl,o'.own.mono (Same.refl _) (other p' n),o'.out,o'.nas,o'.new⟩
  · by_cases hk:n=k
    · subst hk
      rw [List.getElem?_set_self hn] at en; cases en
      exact ⟨a,ha,sa,h⟩
    · rw [List.getElem?_set_ne hk] at en
      obtain ⟨b,b1,b2,b3⟩:=r.sto.at' k so2 en
      have n:b≠a:=fun z=>by
        subst z
        have l1:=(List.getElem?_eq_some_iff.mp b1).1
        have l2:=(List.getElem?_eq_some_iff.mp ha).1
        exact hk ((List.getElem?_inj (i:=n) (j:=k) l2 r.sto.nd).mp (by rw [ha,b1]))
      exact ⟨b,b1,b2,b3.mono (Same.refl _) (other b n)⟩
end
def Fin (K:PySem.W.Frag) (B:Bas) (D:Ends) (ps:List (V × T)):Flow→Sta→Prop
  | .next,st'=>∀ σ' H' S' as',Rel K B st' σ' H' ps S' as'→D.nx σ' H'
  | .ret t,st'=>∀ v σ' H' S' as',Rel K B st' σ' H' ((v,t)::ps) S' as'→D.rt v H'
  | .brk,st'=>∀ σ' H' S' as',Rel K B st' σ' H' ps S' as'→D.bk σ' H'
  | .cont,st'=>∀ σ' H' S' as',Rel K B st' σ' H' ps S' as'→D.ct σ' H'
inductive sOf (K:PySem.W.Frag) (B:Bas) (s:S) (D:Ends) (σ:L2.St) (H:Hp):Prop
  | mk (st:Sta) (ps:List (V × T)) (S0:Hp) (as:List Addr) (R:Rel K B st σ H ps S0 as) (fl:Flow) (st':Sta) (e:s st=some (fl,st')) (q:Fin K B D ps fl st')
inductive gOf (K:PySem.W.Frag) (B:Bas) (g:G) (v:V) (σ:L2.St) (H:Hp) (Q:L2.St→Hp→Prop):Prop
  | mk (st:Sta) (ps:List (V × T)) (S:Hp) (as:List Addr) (t:T) (R:Rel K B st σ H ((v,t)::ps) S as) (st':Sta) (e:g t st=some st') (q:∀ σ' H' S' as',Rel K B st' σ' H' ps S' as'→Q σ' H')
inductive fOf (K:PySem.W.Frag) (B:Bas) (m:M T) (σ:L2.St) (H:Hp) (Q:VK):Prop
  | mk (st:Sta) (ps:List (V × T)) (S:Hp) (as:List Addr) (R:Rel K B st σ H ps S as) (t:T) (st':Sta) (e:m st=some (t,st')) (q:∀ p H' S' as',Rel K B st' σ H' ps S' as'→Ck K B S' as' H' p t→Dz st' σ p→Q (.ref p) H')
section
variable {X:Cx} {B:Bas} {a b c e:Expr} {m m1 m2:M T} {pos:Pos} {u v:S}
theorem lq:PSs X [] (sOf X.K B wz):=Zw.imp fun D σ H z9=>by
  obtain ⟨st,ps,S,as,R,fl,st',e,q⟩:=z9
  cases e; exact q σ H S as R
theorem dg {st:Stmt} {rest:List Stmt} (h1:PS X st (sOf X.K B u)) (h2:PSs X rest (sOf X.K B v)):PSs X (st::rest) (sOf X.K B (ju u v)):=(Nx h1 h2).imp fun D σ H z9=>by
  obtain ⟨st,ps,S,as,R,fl,st',e,q⟩:=z9
  rcases Y8 e with ⟨s1,e1,e2⟩ | ⟨e1,hn⟩
  · exact ⟨st,ps,S,as,R,.next,s1,e1,fun σ' H' S' as' R'=>⟨s1,ps,S',as',R',fl,st',e2,q⟩⟩
  · refine ⟨st,ps,S,as,R,fl,st',e1,?_⟩
    cases fl with
    | next=>exact absurd rfl hn
    | ret t=>exact q
    | brk=>exact q
    | cont=>exact q
theorem ig {st:Stmt} (h1:PS X st (sOf X.K B u)):PSs X [st] (sOf X.K B u):=Ek h1
theorem jt (he:PE X e (tOf X.K B m)):PS X (.Return (some e) pos) (sOf X.K B (uy m)):=(a2u he).imp fun D σ H z9=>by
  obtain ⟨st,ps,S,as,R,fl,st',e,q⟩:=z9
  obtain ⟨t,e1,rfl⟩:=Wb e
  exact ⟨st,ps,S,as,R,t,st',e1,fun v H' S' as' R'=>q v σ H' S' as' R'⟩
theorem v8 {c1:M Bool} {sa sb:List Stmt} (hc:PT X c (cOf X.K B c1)) (ha:PSs X sa (sOf X.K B u)) (hb:PSs X sb (sOf X.K B v)):PS X (.If c sa sb pos) (sOf X.K B (sIf c1 u v)):=(a4t hc ha hb).imp fun D σ H z9=>by
  obtain ⟨st,ps,S,as,R,fl,st',e,q⟩:=z9
  rcases Zt e with ⟨s1,e1,e2⟩ | ⟨s1,e1,e2⟩
  · exact ⟨st,ps,S,as,R,true,s1,e1,fun H1 S1 as1 R1=>Z7 ⟨s1,ps,S1,as1,R1,fl,st',e2,q⟩⟩
  · exact ⟨st,ps,S,as,R,false,s1,e1,fun H1 S1 as1 R1=>Yw ⟨s1,ps,S1,as1,R1,fl,st',e2,q⟩⟩
theorem yg (i:Nat) {tg:Expr} (h:PG X tg (Hv i)):PG X tg (gOf X.K B (hName i)):=fun pins s σ H x u Q I r z9=>h pins s σ H x u Q I r (by
  obtain ⟨st,ps,S,as,t,R,st',e,q⟩:=z9
  cases e
  exact q _ H S as (R.drop.put R.top))
theorem iz (i:Nat) {te:TE} {s:Stmt} (h:PS X s (Yu te (Hv i))) (hm:∀ σ H Q,tOf X.K B m σ H Q→te σ H Q):PS X s (sOf X.K B (qj i m)):=h.imp fun D σ H z9=>by
  obtain ⟨st,ps,S,as,R,fl,st',e,q⟩:=z9
  obtain ⟨t,s1,e1,rfl,rfl⟩:=Xo e
  exact hm σ H _ ⟨st,ps,S,as,R,t,s1,e1,fun v H' S' as' R'=>q _ H' S' as' (R'.drop.put R'.top)⟩
theorem Kv (i:Nat) {te:TE} {s:Stmt} (h:PS X s (Yu te (Hv i))) (hm:∀ σ H Q,fOf X.K B m σ H Q→te σ H Q):PS X s (sOf X.K B (sNew i m)):=h.imp fun D σ H z9=>by
  obtain ⟨st,ps,S,as,R,fl,st',e,q⟩:=z9
  obtain ⟨t,s1,e1,rfl,rfl⟩:=Xh e
  exact hm σ H _ ⟨st,ps,S,as,R,t,s1,e1,fun p H' S' as' R' o n=>q _ H' S' as' (R'.a4w o n)⟩
end
end C
end
section
namespace C
open PySem PySem.Spec PyProof.Rows L2
section
variable {K:PySem.W.Frag} {B:Bas} {st:Sta} {σ:L2.St} {H H' S S':Hp} {ps ps2:List (V × T)} {as as':List Addr}
theorem Own.more {p:Addr} {t:T} (hs:Same S S') (x:∃ l,as'=as++l) (hh:H p=H' p) (o:Own K S as H p t):Own K S' as' H' p t:=by
  cases t with
  | lst ts=>obtain ⟨vs,h,r⟩:=o; exact ⟨vs,hh ▸ h,r.mono hs x⟩
  | dic ts=>obtain ⟨vs,h,r⟩:=o; exact ⟨vs,hh ▸ h,r.mono hs x⟩
  | _=>exact o.elim
theorem Rel.call {sto':List SO} (r:Rel K B st σ H ps S as) (g:a0r ⟨S,as,H⟩ S' as' H') (sub:Same S' H') (so:Aj K S' as' H' sto'):Rel K B { st with sto:=sto' } σ H' ps S' as' where
  sub:=sub
  grow:=by
    refine ⟨r.grow.same.trans g.same,?_,fun p o a b c=>?_⟩
    · obtain ⟨l,e⟩:=r.grow.more
      obtain ⟨l',e'⟩:=g.more
      exact ⟨l++l',by rw [e',e,List.append_assoc]⟩
    · obtain ⟨x,y,z⟩:=r.grow.keep p o a b c
      exact g.keep p o x y z
  slots:=fun i t f e=>by
    obtain ⟨v,h1,h2,h3⟩:=r.slots i t f e
    refine ⟨v,h1,fun q=>(h2 q).mono g.same g.more,fun q=>?_⟩
    obtain ⟨p,rfl,o⟩:=h3 q
    obtain ⟨ob,ho⟩:=o.own.there
    obtain ⟨x,y,z⟩:=g.keep p ob ho o.out o.nas
    exact ⟨p,rfl,o.own.more g.same g.more (by rw [ho,x]),y,z,o.new⟩
  apart:=r.apart
  sto:=so
  pend:=fun p hp=>(r.pend p hp).mono g.same g.more
  len:=r.len
end
def spF (K:PySem.W.Frag) (ar:Nat) (F:Fn):Sp:=fun vs H Q _=>∃ S as sto ts t sto',Same S H∧Aj K S as H sto∧jy K S as vs ts∧ts.length=ar∧F ts sto=some (t,sto') ∧
  ∀ v H' S' as',a0r ⟨S,as,H⟩ S' as' H'→Same S' H'→Aj K S' as' H' sto'→Rep K S' as' v t→Q v H'
section
variable {X:Cx} {B:Bas} {a b c e:Expr} {m m1 m2:M T} {pos p:Pos} {u v:S} {es:List Expr} {ms:M (List T)} {k:Nat} {f:Addr} {fd:FuncData} {pn:List Str} {F:Fn} {x:Str}
theorem a1n (G:ud X.prog X.w X.K X.mg X.base CX0 k f fd pn (spF X.K pn.length F)) (hr:xq k X.A) (hg:Gl X x) (hm:X.mg x=some (.ref f)) (hk:PySem.W.keepIn X.K (.ref f)=true) (hb:Binds X.K fd pn [])
    (ha:PA X (e::es) (aOf X.K B ms)) (hl:∀ st ts st',ms st=some (ts,st')→ts.length=pn.length) (hdb:(x==("__debug__" : Str))=false:=by decide)
    (he:starEach (e::es) X.env=(false,eval e X.env)::starEach es X.env:=by rfl) (hpl:(backTo pos (starEach es X.env)).any (·.1)=false:=by rfl) :
    PE X (.Call (.Name x p) (e::es) [] pos) (tOf X.K B (jo F ms)) :=
  (Tc G hr hg hm hk hb .nil a6a ha hdb he hpl).imp fun σ H Q z9=>by
    obtain ⟨st,ps,S,as,R,t,st',e,q⟩:=z9
    obtain ⟨ts,s1,sto,e1,e2,rfl⟩:=Vf e
    refine ⟨st,ps,S,as,R,ts,s1,e1,fun vs H1 S1 as1 R1 rs=>?_⟩
    show spF X.K pn.length F (vs++[]) H1 Q E0
    rw [List.append_nil]
    exact ⟨S1,as1,s1.sto,ts,t,sto,R1.sub,R1.sto,rs,hl _ _ _ e1,e2,fun v H2 S2 as2 g sub so r=>q v H2 S2 as2 ((R1.call g sub so).push r)⟩
theorem eq_nil:∀ st ts st',fj st=some (ts,st')→ts.length=0:=fun st ts st' e=>by cases e; rfl
theorem d9 {r:M (List T)} {n:Nat} (h:∀ st ts st',r st=some (ts,st')→ts.length=n):∀ st ts st',aq m r st=some (ts,st')→ts.length=n+1:=fun st ts st' e=>by
  obtain ⟨t,s1,us,e1,e2,rfl⟩:=u5 e
  exact congrArg (· + 1) (h _ _ _ e2)
end
section
variable {P:Program} {w:World} {K:PySem.W.Frag} {mg:Str→Option Value} {base:Heap}
theorem W2 {N:List Str} {vs:List V} {i:Nat} {v:V} (h:vs[i]? = some v):(L2.start N vs)[i]? = some (some v):=by
  unfold L2.start
  have hi:=(List.getElem?_eq_some_iff.mp h).1
  rw [List.getElem?_append_left (by rw [List.length_map]; exact hi),List.getElem?_map,h]; rfl
theorem Km {S H:Hp} {as:List Addr} {sto:List SO} {vs:List V} {ts:List T} {N:List Str} (h1:Same S H) (h2:Aj K S as H sto) (h3:jy K S as vs ts) (hN:ts.length≤N.length) :
    Rel K ⟨S,as,H⟩ ⟨ts.map (fun t=>some (t,false))++List.replicate (N.length - ts.length) none,sto⟩ (L2.start N vs) H [] S as:=by
  have key:∀ (i:Nat) t fl,(ts.map (fun t=>some (t,false))++List.replicate (N.length - ts.length) (none:Slot))[i]? = some (some (t,fl))→fl=false∧ts[i]? = some t:=fun i t fl e=>by
    by_cases hi:i<ts.length
    · rw [List.getElem?_append_left (by rw [List.length_map]; exact hi),List.getElem?_map] at e
      cases z:ts[i]? with
      | none=>rw [z] at e; cases e
      | some t'=>rw [z] at e; cases e; exact ⟨rfl,rfl⟩
    · rw [List.getElem?_append_right (by rw [List.length_map]; exact Nat.le_of_not_lt hi)] at e
      have:=List.eq_of_mem_replicate (List.mem_of_getElem? e)
      cases this
  refine ⟨h1,⟨Same.refl _,nol,fun p o a b c=>⟨a,b,c⟩⟩,fun i t fl e=>?_,fun i j t u p ei ej=>?_,h2,(fun p hp=>by cases hp),?_⟩
  · obtain ⟨rfl,e'⟩:=key i t fl e
    obtain ⟨v,hv,r⟩:=h3.get e'
    exact ⟨v,W2 hv,fun _=>r,fun z=>by cases z⟩
  · obtain ⟨z,_⟩:=key i t true ei; cases z
  · unfold L2.start
    rw [List.length_append,List.length_append,List.length_map,List.length_map,List.length_replicate,List.length_replicate,h3.length]
theorem uw {x qual:Str} {st:Stmt} {f:Addr} {fd:FuncData} {N ps:List Str} {k:Nat} {b:S} (F:Fun K x qual st f fd) (Sc:jr N ps (dz st)) (hN:ps.length≤N.length)
    (hb:∀ (cdv:Value) (A:Around) (outer:List Env) (s:Shared) (H:Hp) (E:XK) (B:Bas),xq k (A.deeper (envOfC qual (dz st) s.heap.objs.size f cdv)) →
      PSs (Qg CX0 P w K mg base N qual (dz st) f cdv A outer s H E).nox (qm st) (sOf K B b)):ud P w K mg base CX0 (k+1) f fd ps (spF K ps.length (Ab N.length b)):=by
  refine F.ok Sc (fun vs H Q E h=>?_) fun cdv A outer s H vs Q E hr h=>?_
  · obtain ⟨S,as,sto,ts,t,sto',h1,h2,h3,h4,_⟩:=h
    rw [h3.length,h4]
  · obtain ⟨S,as,sto,ts,t,sto',h1,h2,h3,h4,h5,q⟩:=h
    refine ⟨_,hb cdv A outer s H E ⟨S,as,H⟩ hr,?_⟩
    have lv:vs.length=ps.length:=by rw [h3.length,h4]
    have R:Rel K ⟨S,as,H⟩ ⟨ts.map (fun t=>some (t,false))++List.replicate (N.length - ts.length) none,sto⟩ (L2.start N vs) H [] S as:=Km h1 h2 h3 (by rw [h4]; exact hN)
    unfold Ab at h5
    split at h5
    · rename_i t' s' e
      cases h5
      exact ⟨_,[],S,as,R,.ret t,s',e,fun v σ' H' S' as' R'=>q v H' S' as' R'.grow R'.sub R'.sto R'.top⟩
    · rename_i s' e
      cases h5
      exact ⟨_,[],S,as,R,.next,s',e,fun σ' H' S' as' R'=>q .non H' S' as' R'.grow R'.sub R'.sto .non⟩
    · cases h5
end
end C
end
section
namespace C
open PySem PySem.Spec PyProof.Rows L2
theorem Wr {g:G} {b:S} {t:T} {r:List T} {s s':Sta} {fl:Flow} (h:forL g b (t::r) s=some (fl,s')):∃ s1 fb s2,g t s=some s1∧b s1=some (fb,s2) ∧
    (match fb with | .next=>forL g b r s2=some (fl,s') | .cont=>forL g b r s2=some (fl,s') | .brk=>fl=.next∧s'=s2 | .ret v=>fl=.ret v∧s'=s2):=by
  rw [forL] at h
  dsimp only at h
  split at h
  · rename_i s1 e1
    split at h
    · rename_i s2 e2; exact ⟨s1,.next,s2,e1,e2,h⟩
    · rename_i s2 e2; exact ⟨s1,.cont,s2,e1,e2,h⟩
    · rename_i s2 e2; cases h; exact ⟨s1,.brk,_,e1,e2,rfl,rfl⟩
    · rename_i v s2 e2; cases h; exact ⟨s1,.ret v,_,e1,e2,rfl,rfl⟩
    · cases h
  · cases h
structure Ik (K:PySem.W.Frag) (S:Hp) (as:List Addr) (H:Hp) (J:It) (ts:List T):Prop where
  go:∀ (i:Nat) t,ts[i]? = some t→J.go i H∧∀ x H',J.yld i H x H'→∃ S',Ext S H S' H'∧Rep K S' as x t
  stop:∀ i,ts.length≤i→J.stop i H
inductive iOf (K:PySem.W.Frag) (B:Bas) (m:M (List T)) (σ:L2.St) (H:Hp) (R:It→Hp→Prop):Prop
  | mk (st:Sta) (ps:List (V × T)) (S:Hp) (as:List Addr) (R0:Rel K B st σ H ps S as) (ts:List T) (st':Sta) (e:m st=some (ts,st')) (z:ts.length≤sizeLine) (q:∀ J H' S' as' ps',Rel K B st' σ H' (ps'++ps) S' as'→(∀ S as H,(∀ p∈ps',Rep K S as p.1 p.2)→Same S H→Ik K S as H J ts)→R J H')
section
variable {X:Cx} {tg l:Expr} {tl:TE}
def iSq (K:PySem.W.Frag) (tl:TE):TI:=fun σ H R=>tl σ H fun x H1=>∃ a,x=.ref a∧(((∃ xs,SqL K H1 a xs)∧R (Itl K a) H1)∨((∃ xs,SqT K H1 a xs)∧R (Itt K a) H1))
theorem a5n (hl:PE X l tl):PI X tg l (iSq X.K tl):=by
  intro pins s σ H R I h
  refine thn (hl pins s σ H _ I h) fun v s1 z0=>?_
  obtain ⟨x,H1,I1,r1,q1⟩:=z0
  obtain ⟨a,e,q⟩:=q1
  subst e
  cases r1
  rcases q with ⟨⟨xs,hq⟩,q⟩ | ⟨⟨xs,hq⟩,q⟩
  · obtain ⟨its,rv,p,hz⟩:=I1.list hq
    refine wpAny_pyIter_list p.isList ?_
    refine ⟨s1.heap.objs.size,[s1.heap.objs.size],_,_,H1,rfl,I1.kept (t':=s1.toks) fun b o e=>Heap.get?_push_of_some _ e,Ut a _,⟨_,Heap.get?_push_size _ rfl,rfl,rfl⟩,fun b hb=>?_,q⟩
    have e:b=s1.heap.objs.size:=by simpa using hb
    subst e
    exact I1.a3h (Nat.le_refl _) (I1.hok.fresh (Nat.le_refl _))
  · obtain ⟨its,rv,p,hz⟩:=I1.tuple hq
    refine wpAny_pyIter_tuple (show s1.heap.IsTuple a its.toArray from p) ?_
    refine ⟨s1.heap.objs.size,[s1.heap.objs.size],_,_,H1,rfl,I1.kept (t':=s1.toks) fun b o e=>Heap.get?_push_of_some _ e,Qu a _,⟨_,Heap.get?_push_size _ rfl,rfl,rfl⟩,fun b hb=>?_,q⟩
    have e:b=s1.heap.objs.size:=by simpa using hb
    subst e
    exact I1.a3h (Nat.le_refl _) (I1.hok.fresh (Nat.le_refl _))
end
section
variable {X:Cx} {B:Bas} {a b c e tg iter:Expr} {m m1 m2:M T} {pos p:Pos} {u v:S} {g:G} {it:M (List T)} {body:List Stmt}
theorem itL {K:PySem.W.Frag} {S:Hp} {as:List Addr} {H:Hp} {p:Addr} {vs:List V} {ts:List T} (sub:Same S H) (h:SqL K H p vs) (r:jy K S as vs ts):Ik K S as H (Itl K p) ts where
  go:=fun i t e=>by
    obtain ⟨v,hv,rv⟩:=r.get e
    exact ⟨⟨vs,v,h,hv⟩,fun x H' y=>⟨S,by rw [y.1]; exact Ext.refl sub,by have:=y.2 vs h; rw [hv] at this; cases this; exact rv⟩⟩
  stop:=fun i hi=>⟨vs,h,by rw [r.length]; exact hi⟩
theorem itT {K:PySem.W.Frag} {S:Hp} {as:List Addr} {H:Hp} {p:Addr} {vs:List V} {ts:List T} (sub:Same S H) (h:SqT K H p vs) (r:jy K S as vs ts):Ik K S as H (Itt K p) ts where
  go:=fun i t e=>by
    obtain ⟨v,hv,rv⟩:=r.get e
    exact ⟨⟨vs,v,h,hv⟩,fun x H' y=>⟨S,by rw [y.1]; exact Ext.refl sub,by have:=y.2 vs h; rw [hv] at this; cases this; exact rv⟩⟩
  stop:=fun i hi=>⟨vs,h,by rw [r.length]; exact hi⟩
theorem jx:lim≤sizeLine:=by rw [sizeLine_eq]; decide
theorem Di (h:PE X iter (tOf X.K B m)):PI X tg iter (iOf X.K B (Ae m)):=by
  intro pins s σ H R I hw
  refine a5n h pins s σ H R I ?_
  obtain ⟨st,ps,S,as,Rl,ts,st',e,hz,q⟩:=hw
  unfold Ae at e
  split at e
  · rename_i xs s1 e1
    split at e
    · rename_i hl
      cases e
      refine ⟨st,ps,S,as,Rl,_,_,e1,fun v H1 S1 as1 R1=>?_⟩
      have top:=R1.top
      cases top with
      | @lst a vs _ hs hr =>
        refine ⟨a,rfl,.inl ⟨⟨vs,gn R1.sub hs⟩,q _ H1 S1 as1 [(.ref a,.lst _)] R1 fun S2 as2 H2 hp hh=>?_⟩⟩
        have:=hp _ List.mem_cons_self
        cases this with
        | @lst _ vs2 _ hs2 hr2=>exact itL hh (gn hh hs2) hr2
    · cases e
  · rename_i xs s1 e1
    split at e
    · rename_i hl
      cases e
      refine ⟨st,ps,S,as,Rl,_,_,e1,fun v H1 S1 as1 R1=>?_⟩
      have top:=R1.top
      cases top with
      | @tup a vs _ hs hr =>
        refine ⟨a,rfl,.inr ⟨⟨vs,j5 R1.sub hs⟩,q _ H1 S1 as1 [(.ref a,.tup _)] R1 fun S2 as2 H2 hp hh=>?_⟩⟩
        have:=hp _ List.mem_cons_self
        cases this with
        | @tup _ vs2 _ hs2 hr2=>exact itT hh (j5 hh hs2) hr2
    · cases e
  · cases e
theorem Hj {a:M T} {ts:List T} {s s':Sta} (h:m8 a s=some (ts,s')):∃ n:Int,a s=some (.int n,s')∧(-1000000<n∧n<1000000)∧ts=rangeT n.toNat:=by
  unfold m8 at h
  split at h
  · rename_i n s1 e
    split at h
    · rename_i hl; cases h; exact ⟨n,e,by have:n.natAbs<1000000:=hl; (clear e hl; omega),rfl⟩
    · cases h
  · cases h
theorem Qa {n i:Nat} {t:T} (h:(rangeT n)[i]? = some t):i<n∧t=.int (i:Int):=by
  unfold rangeT at h
  rw [List.getElem?_map] at h
  cases z:(List.range n)[i]? with
  | none=>rw [z] at h; cases h
  | some k =>
    rw [z] at h; cases h
    obtain ⟨hi,e⟩:=List.getElem?_eq_some_iff.mp z
    rw [List.getElem_range] at e; subst e
    rw [List.length_range] at hi
    exact ⟨hi,rfl⟩
theorem Bm (hg:Gl X "range") (hm:X.mg "range" = none) (h:PE X a (tOf X.K B m)) (hs:starEach [a] X.env=[(false,eval a X.env)]:=by rfl):PI X tg (.Call (.Name "range" p) [a] [] pos) (iOf X.K B (m8 m)):=by
  intro pins s σ H R I hw
  refine W0 (ta:=G3 (tOf X.K B m) Yy) hg hm (jj h qg hs) hs pins s σ H R I ?_
  obtain ⟨st,ps,S,as,Rl,ts,st',e,hz,q⟩:=hw
  obtain ⟨n,e1,hl,rfl⟩:=Hj e
  refine ⟨st,ps,S,as,Rl,_,_,e1,fun v H1 S1 as1 R1=>?_⟩
  cases R1.top
  refine ⟨n,rfl,by (clear R1 q hz e e1 Rl I hs h hm hg; omega),by (clear R1 q hz e e1 Rl I hs h hm hg; omega),q _ H1 S1 as1 [] R1.drop fun S2 as2 H2 _ hh=>⟨fun i t e=>?_,fun i hi=>?_⟩⟩
  · obtain ⟨hi,rfl⟩:=Qa e
    refine ⟨hi,fun x H' y=>⟨S2,by rw [y.1]; exact Ext.refl hh,?_⟩⟩
    have:=y.2; subst this
    rw [Int.zero_add]; exact .int _
  · show n.toNat≤i
    unfold rangeT at hi
    rwa [List.length_map,List.length_range] at hi
theorem Gv (hp:PassesOwn (model X.prog X.w) X.A X.env X.xe) (hc:X.calm=true) (hi:PI X tg iter (iOf X.K B it)) (hg:PG X tg (gOf X.K B g)) (hb:PSs X body (sOf X.K B u)) (hsz:∀ st ts st',it st=some (ts,st')→ts.length≤sizeLine)
    (hs:∀ x,foldedSetIterable iter X.env x=pure x:=by intro _; rfl):PS X (.For tg iter body [] pos) (sOf X.K B (Bt g it u)):=(Z4 hp hc hi hg hb hs).imp fun D σ H z9=>by
  obtain ⟨st,ps,S,as,R,fl,st',e,q⟩:=z9
  obtain ⟨ts,s1,e1,e2⟩:=X8 e
  refine ⟨st,ps,S,as,R,ts,s1,e1,hsz _ _ _ e1,fun J H1 S1 as1 ps' R1 facts=>?_⟩
  refine ⟨fun i m σ H=>m=ts.length - i∧i≤ts.length∧∃ sti Si asi,Rel X.K B sti σ H (ps'++ps) Si asi∧forL g u (ts.drop i) sti=some (fl,st'),⟨ts.length,by simp,Nat.zero_le _,s1,S1,as1,R1,by simpa using e2⟩,?_⟩
  rintro i m σ2 H2 ⟨rfl,hi,sti,Si,asi,Ri,ei⟩
  have F:=facts Si asi H2 (fun p hp=>Ri.pend p (List.mem_append_left _ hp)) Ri.sub
  have sub:∀ p∈ps,p∈ps'++ps:=fun p hp=>List.mem_append_right _ hp
  by_cases hlt:i<ts.length
  · rw [List.drop_eq_getElem_cons hlt] at ei
    obtain ⟨s2,fb,s3,eg,eb,er⟩:=Wr ei
    have ht:ts[i]? = some ts[i]:=List.getElem?_eq_getElem hlt
    refine .inr ⟨(F.go i _ ht).1,fun σ' H'=>∃ sti Si asi,Rel X.K B sti σ' H' (ps'++ps) Si asi∧forL g u (ts.drop (i+1)) sti=some (fl,st'),fun σ' H' h=>⟨ts.length - (i+1),by (clear h ht er eb eg ei sub F Ri hi facts R1 e2 e1 q e R hs hsz hb hg hc hp; omega),rfl,hlt,h⟩,fun x H' y=>?_⟩
    obtain ⟨S',ex,rx⟩:=(F.go i _ ht).2 x H' y
    refine ⟨sti,ps'++ps,S',asi,_,(Ri.ext ex).push rx,s2,eg,fun σ3 H3 S3 as3 R3=>⟨s2,ps'++ps,S3,as3,R3,fb,s3,eb,?_⟩⟩
    cases fb with
    | next=>exact fun σ' H' S' as' R'=>⟨s3,S',as',R',er⟩
    | cont=>exact fun σ' H' S' as' R'=>⟨s3,S',as',R',er⟩
    | brk =>
      obtain ⟨rfl,rfl⟩:=er
      exact fun σ' H' S' as' R'=>q σ' H' S' as' (R'.pick sub)
    | ret v =>
      obtain ⟨rfl,rfl⟩:=er
      exact fun v σ' H' S' as' R'=>q v σ' H' S' as' (R'.pick fun p hp=>by
        rcases List.mem_cons.mp hp with rfl | z
        · exact List.mem_cons_self
        · exact List.mem_cons_of_mem _ (sub p z))
  · have hie:i=ts.length:=by (clear sub F ei Ri facts R1 e2 e1 q e R hs hsz hb hg hc hp; omega)
    subst hie
    rw [List.drop_length] at ei
    cases ei
    exact .inl ⟨F.stop _ (Nat.le_refl _),q σ2 H2 Si asi (Ri.pick sub)⟩
end
end C
end
section
namespace C
open PySem PySem.Spec PyProof.Rows L2
section
variable {K:PySem.W.Frag} {B:Bas} {st:Sta} {σ:L2.St} {H H' S S':Hp} {ps ps2:List (V × T)} {as as':List Addr}
theorem Rel.Uv (r:Rel K B st σ H ps S as) {i:Nat} {t:T} (e:st.env[i]? = some (some (t,true))):∃ S',Rel K B { st with env:=st.env.set i (some (t,false)) } σ H ps S' as:=by
  obtain ⟨v,S',_,R⟩:=r.freeze e
  exact ⟨S',R.drop⟩
theorem Rel.j6:∀ (cap:List Nat) {st:Sta} {S:Hp},Rel K B st σ H ps S as→∃ S',Rel K B { st with env:=j6 cap st.env } σ H ps S' as
  | [],st,S,r=>⟨S,r⟩
  | i::l,st,S,r=>by
    unfold C.j6
    rw [List.foldl_cons]
    split
    · rename_i t f e
      cases f with
      | true =>
        obtain ⟨S1,R1⟩:=r.Uv e
        exact Rel.j6 l R1
      | false =>
        have e2:st.env.set i (some (t,false))=st.env:=by
          apply List.ext_getElem?
          intro j
          by_cases hij:i=j
          · subst hij
            rw [List.getElem?_set_self (List.getElem?_eq_some_iff.mp e).1,e]
          · rw [List.getElem?_set_ne hij]
        rw [e2]
        exact Rel.j6 l r
    · exact Rel.j6 l r
def Ad (env:List Slot):Nat→List Slot
  | 0=>env
  | n+1=>match (Ad env n)[n]? with
    | some (some (t,_))=>(Ad env n).set n (some (t,false))
    | _=>Ad env n
theorem Ew (env:List Slot):∀ n,(Ad env n).length=env.length
  | 0=>rfl
  | n+1=>by
    rw [Ad]
    split
    · rw [List.length_set]; exact Ew env n
    · exact Ew env n
theorem Ea (env:List Slot):∀ (n j:Nat),(Ad env n)[j]? = if j<n then (env[j]?).map Lg else env[j]?
  | 0,j=>by rw [if_neg (Nat.not_lt_zero _)]; rfl
  | n+1,j=>by
    have ihn:=Ea env n n
    rw [if_neg (Nat.lt_irrefl _)] at ihn
    have ihj:=Ea env n j
    rw [Ad,ihn]
    by_cases hj:j=n
    · subst hj
      rw [if_pos (Nat.lt_succ_self _)]
      cases z:env[j]? with
      | none=>simp only [z,Option.map_none]; rw [ihn,z]
      | some s =>
        have hl:j<(Ad env j).length:=by rw [Ew]; exact (List.getElem?_eq_some_iff.mp z).1
        cases s with
        | none=>simp only [Option.map_some]; rw [ihn,z]; rfl
        | some p=>obtain ⟨t,f⟩:=p; simp only [Option.map_some]; rw [List.getElem?_set_self hl]; rfl
    · have e1:(if j<n+1 then (env[j]?).map Lg else env[j]?)=(if j<n then (env[j]?).map Lg else env[j]?):=by
        by_cases hlt:j<n
        · rw [if_pos hlt,if_pos (Nat.lt_succ_of_lt hlt)]
        · rw [if_neg hlt,if_neg (by (clear ihj ihn; omega))]
      rw [e1,← ihj]
      split
      · rw [List.getElem?_set_ne (Ne.symm hj)]
      · rfl
theorem Sx (env:List Slot):Ad env env.length=env.map Lg:=by
  apply List.ext_getElem?
  intro j
  rw [Ea,List.getElem?_map]
  by_cases hj:j<env.length
  · rw [if_pos hj]
  · rw [if_neg hj,List.getElem?_eq_none (Nat.le_of_not_lt hj)]; rfl
theorem Rel.Ad (r:Rel K B st σ H ps S as):∀ n,∃ S',Rel K B { st with env:=C.Ad st.env n } σ H ps S' as
  | 0=>⟨S,r⟩
  | n+1=>by
    obtain ⟨S1,R1⟩:=Rel.Ad r n
    rw [C.Ad]
    split
    · rename_i t f e
      cases f with
      | true=>exact R1.Uv e
      | false =>
        have e2:(C.Ad st.env n).set n (some (t,false))=C.Ad st.env n:=by
          apply List.ext_getElem?
          intro j
          by_cases hij:n=j
          · subst hij
            rw [List.getElem?_set_self (List.getElem?_eq_some_iff.mp e).1,e]
          · rw [List.getElem?_set_ne hij]
        rw [e2]
        exact ⟨S1,R1⟩
    · exact ⟨S1,R1⟩
theorem Rel.j8 (r:Rel K B st σ H ps S as):∃ S',Rel K B (j8 st) σ H ps S' as:=by
  obtain ⟨S',R⟩:=r.Ad st.env.length
  rw [Sx] at R
  exact ⟨S',R⟩
def Yk (st:Sta):Prop:=∀ (i:Nat) t,st.env[i]?≠some (some (t,true))
theorem uq (st:Sta):Yk (C.j8 st):=fun i t e=>by
  unfold C.j8 at e
  rw [List.getElem?_map] at e
  cases z:st.env[i]? with
  | none=>rw [z] at e; cases e
  | some s =>
    rw [z] at e
    cases s with
    | none=>cases e
    | some p=>obtain ⟨t,f⟩:=p; cases e
theorem Rel.rebase (r:Rel K B st σ H ps S as) (n:Yk st):Rel K ⟨S,as,H⟩ st σ H ps S as :=
  ⟨r.sub,⟨Same.refl _,nol,fun p o a b c=>⟨a,b,c⟩⟩,fun i t f e=>by
    obtain ⟨v,h1,h2,_⟩:=r.slots i t f e
    exact ⟨v,h1,h2,fun z=>by subst z; exact absurd e (n i t)⟩,r.apart,r.sto,r.pend,r.len⟩
end
theorem T9 {g:G} {c:M Bool} {e:M T} {t:T} {r acc us:List T} {s s':Sta} (h:vq g c e (t::r) s acc=some (us,s')):∃ s1 b s2,g t s=some s1∧c s1=some (b,s2) ∧
    ((b=true∧∃ u s3,e s2=some (u,s3)∧acc.length<lim∧vq g c e r (j8 s3) (acc++[u])=some (us,s'))∨(b=false∧vq g c e r (j8 s2) acc=some (us,s'))):=by
  rw [vq] at h
  split at h
  · rename_i s1 e1
    split at h
    · rename_i s2 e2
      split at h
      · rename_i u s3 e3
        split at h
        · rename_i hl; exact ⟨s1,true,s2,e1,e2,.inl ⟨rfl,u,s3,e3,hl,h⟩⟩
        · cases h
      · cases h
    · rename_i s2 e2; exact ⟨s1,false,s2,e1,e2,.inr ⟨rfl,h⟩⟩
    · cases h
  · cases h
theorem Tv {nv:Nat} {cap:List Nat} {g:G} {it:M (List T)} {c:M Bool} {e:M T} {s s':Sta} {v:T} (h:v7 nv cap g it c e s=some (v,s')):∃ ts s1 us s2,it s=some (ts,s1) ∧
    vq g c e ts ⟨List.replicate nv none++cap.map (fun i=>((j6 cap s1.env)[i]?).getD none),s1.sto⟩ []=some (us,s2)∧v=.lst us∧s'=⟨j6 cap s1.env,s2.sto⟩:=by
  unfold v7 at h
  split at h
  · rename_i ts s1 e1
    dsimp only at h
    split at h
    · rename_i us s2 e2; cases h; exact ⟨ts,s1,us,s2,e1,e2,rfl,rfl⟩
    · cases h
  · cases h
section
variable {K:PySem.W.Frag} {B:Bas} {st:Sta} {σ:L2.St} {H H' S S':Hp} {ps ps2:List (V × T)} {as as':List Addr} {D:Addr} {ob:HO}
theorem Aj.mem {sto:List SO} (r:Aj K S as H sto) {a:Addr} (h:a∈as):∃ o,H a=some o:=by
  obtain ⟨n,hn⟩:=List.getElem?_of_mem h
  have hl:=(List.getElem?_eq_some_iff.mp hn).1
  rw [r.len] at hl
  obtain ⟨a',h1,h2,h3⟩:=r.at' n _ (List.getElem?_eq_getElem hl)
  rw [hn] at h1; cases h1
  exact h3.there
theorem Rel.fresh (r:Rel K B st σ H ps S as) (h:H D=none):B.H D=none∧S D=none∧D∉as∧Dz st σ D:=by
  have sD:S D=none:=r.sub.free h
  have nD:D∉as:=fun z=>by obtain ⟨o,e⟩:=r.sto.mem z; rw [h] at e; cases e
  refine ⟨?_,sD,nD,fun j u e1 e2=>?_⟩
  · cases q:B.H D with
    | none=>rfl
    | some o =>
      have b1:B.S D=none:=by
        cases z:B.S D with
        | none=>rfl
        | some u=>have:=r.grow.same _ _ z; rw [sD] at this; cases this
      have b2:D∉B.as:=fun z=>by obtain ⟨l,e⟩:=r.grow.more; exact nD (by rw [e]; exact List.mem_append_left _ z)
      have:=(r.grow.keep D o q b1 b2).1
      rw [h] at this; cases this
  · obtain ⟨v,h1,_,h3⟩:=r.slots j u true e1
    rw [e2] at h1; cases h1
    obtain ⟨p,ep,o⟩:=h3 rfl
    cases ep
    obtain ⟨ob,ho⟩:=o.own.there
    rw [h] at ho; cases ho
theorem Rel.Zd (r:Rel K B st σ H ps S as) (bD:B.H D=none) (sD:S D=none) (nD:D∉as) (no:Dz st σ D):Rel K B st σ (upd H D ob) ps S as:=by
  have ne:∀ b u,S b=some u→b≠D:=fun b u e z=>by subst z; rw [sD] at e; cases e
  refine ⟨fun b u e=>by rw [d7 (ne b u e)]; exact r.sub _ _ e,⟨r.grow.same,r.grow.more,fun p o x y z=>?_⟩,fun i t f e=>?_,r.apart,⟨r.sto.len,r.sto.nd,fun n so e=>?_⟩,r.pend,r.len⟩
  · obtain ⟨a,b,c⟩:=r.grow.keep p o x y z
    exact ⟨by rw [d7 (fun w=>by subst w; rw [bD] at x; cases x)]; exact a,b,c⟩
  · obtain ⟨v,h1,h2,h3⟩:=r.slots i t f e
    refine ⟨v,h1,h2,fun z=>?_⟩
    obtain ⟨p,rfl,o⟩:=h3 z
    have n:p≠D:=fun w=>by subst w; subst z; exact no i t e h1
    exact ⟨p,rfl,o.own.mono (Same.refl _) (d7 n).symm,o.out,o.nas,o.new⟩
  · obtain ⟨a,h1,h2,h3⟩:=r.sto.at' n so e
    exact ⟨a,h1,h2,h3.mono (Same.refl _) (d7 (fun w=>by subst w; exact nD (List.mem_of_getElem? h1))).symm⟩
theorem Rel.a4n (r:Rel K B st σ H ps S as) (no:Yk st) (sD:S D=none) (nD:D∉as):Rel K ⟨S,as,upd H D ob⟩ st σ (upd H D ob) ps S as:=by
  have ne:∀ b u,S b=some u→b≠D:=fun b u e z=>by subst z; rw [sD] at e; cases e
  refine ⟨fun b u e=>by rw [d7 (ne b u e)]; exact r.sub _ _ e,⟨Same.refl _,nol,fun p o x y z=>⟨x,y,z⟩⟩,fun i t f e=>?_,r.apart,⟨r.sto.len,r.sto.nd,fun n so e=>?_⟩,r.pend,r.len⟩
  · obtain ⟨v,h1,h2,_⟩:=r.slots i t f e
    exact ⟨v,h1,h2,fun z=>by subst z; exact absurd e (no i t)⟩
  · obtain ⟨a,h1,h2,h3⟩:=r.sto.at' n so e
    exact ⟨a,h1,h2,h3.mono (Same.refl _) (d7 (fun w=>by subst w; exact nD (List.mem_of_getElem? h1))).symm⟩
end
theorem Az:∀ (cap:List Nat) (env:List Slot) (k:Nat),(∀ t,env[k]?≠some (some (t,true)))→∀ t,(j6 cap env)[k]?≠some (some (t,true))
  | [],env,k,h=>h
  | i::l,env,k,h=>by
    have e:j6 (i::l) env=j6 l (match env[i]? with | some (some (t,_))=>env.set i (some (t,false)) | _=>env):=rfl
    rw [e]
    refine Az l _ k fun t=>?_
    split
    · rename_i t' f e'
      by_cases hk:i=k
      · subst hk
        rw [List.getElem?_set_self (List.getElem?_eq_some_iff.mp e').1]
        intro z; cases z
      · rw [List.getElem?_set_ne hk]; exact h t
    · exact h t
theorem Ez:∀ (cap:List Nat) (env:List Slot) (k:Nat),k∈cap→∀ t,(j6 cap env)[k]?≠some (some (t,true))
  | [],env,k,h=>by simp at h
  | i::l,env,k,h=>by
    have e:j6 (i::l) env=j6 l (match env[i]? with | some (some (t,_))=>env.set i (some (t,false)) | _=>env):=rfl
    rw [e]
    rcases List.mem_cons.mp h with rfl | h' -- here
    · refine Az l _ k fun t=>?_
      split
      · rename_i t' f e'
        rw [List.getElem?_set_self (List.getElem?_eq_some_iff.mp e').1]
        intro z; cases z
      · rename_i hx
        intro z
        exact hx _ _ z
    · exact Ez l _ k h'
def gE (K:PySem.W.Frag) (g:G):TG:=fun v σ H Q=>∃ B,gOf K B g v σ H Q
def cE (K:PySem.W.Frag) (c:M Bool):TT:=fun σ H Q=>∃ B,cOf K B c σ H Q
def eE (K:PySem.W.Frag) (e:M T):TE:=fun σ H Q=>∃ B,tOf K B e σ H Q
theorem pgE {X:Cx} {tg:Expr} {g:G} (h:∀ B,PG X tg (gOf X.K B g)):PG X tg (gE X.K g):=fun pins s σ H x u Q I r ⟨B,q⟩=>h B pins s σ H x u Q I r q
theorem ptE {X:Cx} {e:Expr} {c:M Bool} (h:∀ B,PT X e (cOf X.K B c)):PT X e (cE X.K c):=fun pins s σ H Q I ⟨B,q⟩=>h B pins s σ H Q I q
theorem peE {X:Cx} {e:Expr} {m:M T} (h:∀ B,PE X e (tOf X.K B m)):PE X e (eE X.K m):=fun pins s σ H Q I ⟨B,q⟩=>h B pins s σ H Q I q
theorem Dp {X:Cx}:PTs X [] (cE X.K Cr):=fun pins s σ H Q I z9=>by
  obtain ⟨B,st,ps,S,as,R,b,st',e,q⟩:=z9
  cases e
  exact a07 pins s σ H Q I (q H S as R)
theorem X4 {X:Cx} {e:Expr} {c:M Bool} (h:∀ B,PT X e (cOf X.K B c)):PTs X [e] (cE X.K c):=Zk (ptE h)
section
variable {X:Cx} {scope:Scope} {N:List Str}
inductive CI (K:PySem.W.Frag) (B:Bas) (g:G) (c:M Bool) (e:M T) (ts us:List T) (env:List Slot) (s2:Sta) (σ:L2.St) (pp:List (V × T)) (D:Addr) (i m:Nat) (σ':L2.St) (H':Hp):Prop where
  | mk (sti:Sta) (Si:Hp) (asi:List Addr) (acc:List T) (accv:List V) (hm:m=ts.length - i) (hi:i≤ts.length) (Ri:Rel K ⟨Si,asi,H'⟩ sti σ' H' [] Si asi) (no:Yk sti) (Ro:Rel K B ⟨env,sti.sto⟩ σ H' pp Si asi) (hD:H' D=some (.lst accv)) (sD:Si D=none) (nD:D∉asi) (rA:jy K Si asi accv acc) (ei:vq g c e (ts.drop i) sti acc=some (us,s2)):CI K B g c e ts us env s2 σ pp D i m σ' H'
theorem S9 {B:Bas} {nv:Nat} {cap:List Nat} {g:G} {c:M Bool} {e:M T} {ts us:List T} {env:List Slot} {sto1:List SO} {s2:Sta} {σ:L2.St} {H1 S1:Hp} {as1:List Addr} {ps ps':List (V × T)} {J:It} {Q:VK}
    (hN:N.length=nv+cap.length) (hv:∀ i x,i<nv→N[i]? = some x→True)
    (hcap:∀ (j k:Nat),cap[j]? = some k→∃ x,N[nv+j]? = some x∧X.N[k]? = some x∧a5b X scope x)
    (R1:Rel X.K B ⟨env,sto1⟩ σ H1 (ps'++ps) S1 as1) (hno:∀ k∈cap,∀ t,env[k]?≠some (some (t,true)))
    (facts:∀ S as H,Same B.S S→(∃ l,as=B.as++l)→(∀ p∈ps',Rep X.K S as p.1 p.2)→Same S H→Ik X.K S as H J ts)
    (hc:vq g c e ts ⟨List.replicate nv none++cap.map (fun i=>(env[i]?).getD none),sto1⟩ []=some (us,s2))
    (fin:∀ D H' S' as',Rel X.K B ⟨env,s2.sto⟩ σ H' (ps'++ps) S' as'→Ck X.K B S' as' H' D (.lst us)→Dz ⟨env,s2.sto⟩ σ D→Q (.ref D) H') :
    Lp X scope N (gE X.K g) (cE X.K c) (eE X.K e) σ J H1 Q:=by
  intro D hD
  obtain ⟨bD,sD1,nD1,noD⟩:=R1.fresh hD
  have capg:∀ (i:Nat) s,(List.replicate nv (none:Slot)++cap.map (fun i=>(env[i]?).getD none))[i]? = some (some s)→∃ j k,i=nv+j∧cap[j]? = some k∧env[k]? = some (some s):=fun i s h=>by
    by_cases hi:i<nv
    · rw [List.getElem?_append_left (by rw [List.length_replicate]; exact hi)] at h
      have:=List.eq_of_mem_replicate (List.mem_of_getElem? h); cases this
    · rw [List.getElem?_append_right (by rw [List.length_replicate]; exact Nat.le_of_not_lt hi),List.length_replicate,List.getElem?_map] at h
      cases z:cap[i - nv]? with
      | none=>rw [z] at h; cases h
      | some k =>
        rw [z] at h
        refine ⟨i - nv,k,by (clear z h noD nD1 sD1 bD hD fin hc facts hno R1 hcap hv hN; omega),z,?_⟩
        cases w:env[k]? with
        | none=>simp [w] at h
        | some s'=>simp [w] at h; rw [h]
  have sig:∀ (j k:Nat) v,cap[j]? = some k→σ[k]? = some (some v)→(List.replicate nv (none:Option V)++cap.map (fun i=>(σ[i]?).getD none))[nv+j]? = some (some v):=fun j k v h1 h2=>by
    rw [List.getElem?_append_right (by rw [List.length_replicate]; (clear h2 h1 capg noD nD1 sD1 bD hD fin hc facts hno R1 hcap hv hN; omega)),List.length_replicate,Nat.add_sub_cancel_left,List.getElem?_map,h1]
    simp [h2]
  refine ⟨List.replicate nv none++cap.map (fun i=>(σ[i]?).getD none),by rw [List.length_append,List.length_replicate,List.length_map,hN],fun i v x h1 h2 _=>?_,?_⟩
  · by_cases hi:i<nv
    · rw [List.getElem?_append_left (by rw [List.length_replicate]; exact hi)] at h1
      have:=List.eq_of_mem_replicate (List.mem_of_getElem? h1); cases this
    · rw [List.getElem?_append_right (by rw [List.length_replicate]; exact Nat.le_of_not_lt hi),List.length_replicate,List.getElem?_map] at h1
      cases z:cap[i - nv]? with
      | none=>rw [z] at h1; cases h1
      | some k =>
        rw [z] at h1
        obtain ⟨y,n1,n2,ck⟩:=hcap _ _ z
        have e:nv+(i - nv)=i:=by (clear ck n2 n1 z h1 h2 sig capg noD nD1 sD1 bD hD fin hc facts hno R1 hcap hv hN; omega)
        rw [e,h2] at n1; cases n1
        refine ⟨k,n2,?_,ck⟩
        cases w:σ[k]? with
        | none=>simp [w] at h1
        | some s'=>simp [w] at h1; rw [h1]
  refine ⟨fun i m σ' H'=>CI X.K B g c e ts us env s2 σ (ps'++ps) D i m σ' H',⟨ts.length,.mk _ S1 as1 [] [] (by simp) (Nat.zero_le _) ?_ ?_ ?_ cj sD1 nD1 .nil hc⟩,?_⟩
  · refine Rel.a4n (B:=B) (H:=H1) ⟨R1.sub,R1.grow,fun i t f h=>?_,fun i j t u p hi hj=>?_,R1.sto,(fun p hp=>by cases hp),?_⟩ (fun i t h=>?_) sD1 nD1
    · obtain ⟨j,k,rfl,hk,ek⟩:=capg i _ h
      obtain ⟨v,h1,h2,h3⟩:=R1.slots k t f ek
      exact ⟨v,sig j k v hk h1,h2,h3⟩
    · obtain ⟨j,k,rfl,hk,ek⟩:=capg i _ hi
      exact absurd ek (hno k (List.mem_of_getElem? hk) t)
    · show (List.replicate nv (none:Option V)++cap.map _).length=(List.replicate nv (none:Slot)++cap.map _).length
      rw [List.length_append,List.length_append,List.length_replicate,List.length_replicate,List.length_map,List.length_map]
    · obtain ⟨j,k,rfl,hk,ek⟩:=capg i _ h
      exact absurd ek (hno k (List.mem_of_getElem? hk) t)
  · intro i t h
    obtain ⟨j,k,rfl,hk,ek⟩:=capg i _ h
    exact absurd ek (hno k (List.mem_of_getElem? hk) t)
  · exact R1.Zd bD sD1 nD1 noD
  rintro i m σ' H' ⟨sti,Si,asi,acc,accv,rfl,hi,Ri,no,Ro,hD',sD,nD,rA,ei⟩
  have F:=facts Si asi H' Ro.grow.same Ro.grow.more (fun p hp=>Ro.pend p (List.mem_append_left _ hp)) Ri.sub
  by_cases hlt:i<ts.length
  · rw [List.drop_eq_getElem_cons hlt] at ei
    obtain ⟨s3,b,s4,eg,ec,er⟩:=T9 ei
    have ht:ts[i]? = some ts[i]:=List.getElem?_eq_getElem hlt
    refine .inr ⟨(F.go i _ ht).1,fun x H2 y=>?_⟩
    obtain ⟨S2,ex,rx⟩:=(F.go i _ ht).2 x H2 y
    refine ⟨⟨Si,asi,H'⟩,sti,[],S2,asi,_,(Ri.ext ex).push rx,s3,eg,fun σ3 H3 S3 as3 R3=>⟨⟨Si,asi,H'⟩,s3,[],S3,as3,R3,b,s4,ec,fun H4 S4 as4 R4=>?_⟩⟩
    rcases er with ⟨rfl,w,s5,ee,hlen,erest⟩ | ⟨rfl,erest⟩
    · refine Z7 ⟨⟨Si,asi,H'⟩,s4,[],S4,as4,R4,w,s5,ee,fun y H5 S5 as5 R5=>?_⟩
      obtain ⟨S6,R6⟩:=R5.j8
      obtain ⟨k1,k2,k3⟩:=R6.grow.keep D _ hD' sD nD
      have Ro2:=Ro.call R6.grow R6.sub R6.sto
      refine ⟨accv,k1,?_,ts.length - (i+1),by (clear Ro2 k3 k2 k1 R6 R5 erest hlen ee ec R4 R3 rx ex ht eg ei F rA nD sD hD' Ro no Ri hi sig capg noD nD1 sD1 bD hD fin hc facts hno R1 hcap hv hN; omega),.mk (j8 s5) S6 as5 (acc++[w]) (accv++[y]) rfl hlt (R6.drop.a4n (uq _) k2 k3) (uq _) (Ro2.Zd bD k2 k3 noD) cj k2 k3 ((rA.mono R6.grow.same R6.grow.more).append (.cons R6.top .nil)) erest⟩
      rw [rA.length]; exact Nat.lt_of_lt_of_le hlen jx
    · refine Yw ?_
      obtain ⟨S6,R6⟩:=R4.j8
      obtain ⟨k1,k2,k3⟩:=R6.grow.keep D _ hD' sD nD
      have Ro2:=Ro.call R6.grow R6.sub R6.sto
      exact ⟨ts.length - (i+1),by (clear Ro2 k3 k2 k1 R6 ec erest R4 R3 rx ex y ht eg ei F rA nD sD hD' Ro no Ri hi sig capg noD nD1 sD1 bD hD fin hc facts hno R1 hcap hv hN; omega),.mk (j8 s4) S6 as4 acc accv rfl hlt (R6.rebase (uq _)) (uq _) Ro2 k1 k2 k3 (rA.mono R6.grow.same R6.grow.more) erest⟩
  · have hie:i=ts.length:=by (clear F ei rA nD sD hD' Ro no Ri sig capg noD nD1 sD1 bD hD fin hc facts hno R1 hcap hv hN; omega)
    subst hie
    rw [List.drop_length] at ei
    cases ei
    exact .inl ⟨F.stop _ (Nat.le_refl _),fin D H' Si asi Ro ⟨⟨accv,hD',rA⟩,sD,nD,bD⟩ noD⟩
theorem Rel.give {K:PySem.W.Frag} {B:Bas} {st:Sta} {σ:L2.St} {H S:Hp} {ps:List (V × T)} {as:List Addr} {p:Addr} {t:T} (r:Rel K B st σ H ps S as) (o:Ck K B S as H p t) (no:Dz st σ p):∃ S',Rel K B st σ H ((.ref p,t)::ps) S' as:=by
  obtain ⟨ob,ho⟩:=o.own.there
  have sS:Same S (upd S p ob):=Same.upd o.out ob
  have rep:Rep K (upd S p ob) as (.ref p) t:=by
    have w:=o.own
    cases t with
    | lst ts=>obtain ⟨vs,h,q⟩:=w; rw [ho] at h; cases h; exact .lst (SqL.of cj) (q.mono sS nol)
    | dic ts=>obtain ⟨vs,h,q⟩:=w; rw [ho] at h; cases h; exact .dic (.inl cj) (q.mono sS nol)
    | _=>exact w.elim
  have outs:∀ q,S q=none→q≠p→upd S p ob q=none:=fun q h n=>by rw [d7 n]; exact h
  refine ⟨upd S p ob,Rel.push (v:=.ref p) (t:=t) ⟨?_,?_,?_,r.apart,?_,fun q hq=>(r.pend q hq).mono sS nol,r.len⟩ rep⟩
  · intro b u q
    by_cases z:b=p
    · subst z; rw [cj] at q; cases q; exact ho
    · rw [d7 z] at q; exact r.sub _ _ q
  · refine ⟨r.grow.same.trans sS,r.grow.more,fun q w a b c=>?_⟩
    obtain ⟨x,y,z⟩:=r.grow.keep q w a b c
    refine ⟨x,outs q y fun n=>?_,z⟩
    subst n; rw [o.new] at a; cases a
  · intro j u f ej
    obtain ⟨v',a1,a2,a3⟩:=r.slots j u f ej
    refine ⟨v',a1,fun z=>(a2 z).mono sS nol,fun z=>?_⟩
    subst z
    obtain ⟨p',rfl,o'⟩:=a3 rfl
    refine ⟨p',rfl,o'.own.mono sS rfl,outs p' o'.out fun n=>?_,o'.nas,o'.new⟩
    subst n
    exact no j u ej a1
  · refine ⟨r.sto.len,r.sto.nd,fun n so en=>?_⟩
    obtain ⟨a,a1,a2,a3⟩:=r.sto.at' n so en
    refine ⟨a,a1,outs a a2 fun z=>?_,a3.mono sS rfl⟩
    subst z
    exact o.nas (List.mem_of_getElem? a1)
theorem Z2 {K:PySem.W.Frag} {B:Bas} {m:M T} {σ:L2.St} {H:Hp} {Q:VK} (h:tOf K B m σ H Q):fOf K B m σ H Q:=by
  obtain ⟨st,ps,S,as,R,t,st',e,q⟩:=h
  refine ⟨st,ps,S,as,R,t,st',e,fun p H' S' as' R' o n=>?_⟩
  obtain ⟨S2,R2⟩:=R'.give o n
  exact q _ H' S2 as' R2
theorem Dt {e:Expr} {B:Bas} {m:M T} (h:PE X e (fOf X.K B m)):PE X e (tOf X.K B m):=h.imp fun σ H Q=>Z2
variable {B:Bas} {nv:Nat} {cap:List Nat} {g:G} {it:M (List T)} {c:M Bool} {e:M T} {tg iter elt:Expr} {ifs:List Expr} {pos:Pos}
structure a4k (X:Cx) (scope:Scope) (N:List Str) (nv:Nat) (cap:List Nat):Prop where
  len:N.length=nv+cap.length
  at':∀ (j k:Nat),cap[j]? = some k→∃ x,N[nv+j]? = some x∧X.N[k]? = some x∧a5b X scope x
theorem Yv (co:a4k X scope N nv cap) (hsz:∀ st ts st',it st=some (ts,st')→ts.length≤sizeLine) {σ:L2.St} {H:Hp} {Q:VK} (h:fOf X.K B (v7 nv cap g it c e) σ H Q) :
    a1m X scope N (iOf X.K B it) (gE X.K g) (cE X.K c) (eE X.K e) σ H Q:=by
  obtain ⟨st,ps,S,as,R,t,st',e,q⟩:=h
  obtain ⟨ts,s1,us,s2,e1,e2,rfl,rfl⟩:=Tv e
  refine ⟨st,ps,S,as,R,ts,s1,e1,hsz _ _ _ e1,fun J H1 S1 as1 ps' R1 facts=>?_⟩
  obtain ⟨S2,R2⟩:=R1.j6 cap
  exact S9 co.len (fun _ _ _ _=>trivial) co.at' R2 (fun k hk=>Ez cap s1.env k hk) (fun S as H _ _=>facts S as H) e2 fun D H' S' as' R' o n=>q D H' S' as' (R'.pick fun p hp=>List.mem_append_right _ hp) o n
theorem Ie (co:a4k X scope N nv cap) (sc:Gi X scope N) (calm:X.calm=true) (hi:PI X tg iter (iOf X.K B it)) (hsz:∀ st ts st',it st=some (ts,st')→ts.length≤sizeLine)
    (hg:∀ C s₀ H₀ ex pn,PG (n8 X scope N C s₀ H₀ ex pn) tg (gE X.K g)) (hc:∀ C s₀ H₀ ex pn,PTs (n8 X scope N C s₀ H₀ ex pn) ifs (cE X.K c)) (he:∀ C s₀ H₀ ex pn,PE (n8 X scope N C s₀ H₀ ex pn) elt (eE X.K e))
    (hs:∀ x,foldedSetIterable iter X.env x=pure x:=by intro _; rfl):PE X (.ListComp elt [⟨tg,iter,ifs,0⟩] scope pos) (fOf X.K B (v7 nv cap g it c e)) :=
  (a0j sc calm hi hg hc he hs).imp fun σ H Q h=>Yv co hsz h
end
end C
end
section
namespace C
open PySem PySem.Spec PyProof.Rows L2
section
variable {X:Cx}
theorem Y5 {f:Value→Value→Sem Value} {g:T→T→Option T} {r:R2} (h:OpR X f r)
    (k:∀ S as x y t u w,Rep X.K S as x t→Rep X.K S as y u→g t u=some w→∀ (H:Hp) (Q:VK),Same S H→(∀ v H' S',Ext S H S' H'→Rep X.K S' as v w→Q v H')→r x y H Q):OpT X f g:=by
  intro pins s σ H x y v u Q I rx ry z8
  obtain ⟨S,as,t,w,z,sub,ht,hu,hf,q⟩:=z8
  exact h pins s σ H x y v u Q I rx ry (k S as x y t w z ht hu hf H Q sub q)
structure OI (g:T→Option T):Prop where
  n:g .non=none
  b:∀ x,g (.bl x)=none
  s:∀ x,g (.str x)=none
  t:∀ x,g (.tup x)=none
  l:∀ x,g (.lst x)=none
  d:∀ x,g (.dic x)=none
  o:∀ x,g (.obj x)=none
theorem OI.int {g:T→Option T} {w t:T} (h:OI g) (e:g t=some w):∃ i,t=.int i:=by
  cases t with
  | int i=>exact ⟨i,rfl⟩
  | non=>exact jl (h.n.symm.trans e)
  | bl x=>exact jl ((h.b x).symm.trans e)
  | str x=>exact jl ((h.s x).symm.trans e)
  | tup x=>exact jl ((h.t x).symm.trans e)
  | lst x=>exact jl ((h.l x).symm.trans e)
  | dic x=>exact jl ((h.d x).symm.trans e)
  | obj x=>exact jl ((h.o x).symm.trans e)
theorem Ds {K:PySem.W.Frag} {S:Hp} {as:List Addr} {x y:V} {t u w:T} {g:T→T→Option T} {P:Prop} (ht:Rep K S as x t) (hu:Rep K S as y u) (hf:g t u=some w)
    (n1:∀ u,OI (g · u)) (n2:∀ i,OI (g (.int i))) (k:∀ i j,x=.int i→y=.int j→g (.int i) (.int j)=some w→P):P:=by
  obtain ⟨i,rfl⟩:=(n1 u).int hf
  obtain ⟨j,rfl⟩:=(n2 i).int hf
  cases ht; cases hu
  exact k i j rfl rfl hf
theorem M7:OpT X (binaryOp .Sub) a1x:=Y5 a2p fun S as x y t u w ht hu hf H Q sub q =>
  Ds (g:=a1x) ht hu hf (fun u=>⟨rfl,fun _=>rfl,fun _=>rfl,fun _=>rfl,fun _=>rfl,fun _=>rfl,fun _=>rfl⟩) (fun i=>⟨rfl,fun _=>rfl,fun _=>rfl,fun _=>rfl,fun _=>rfl,fun _=>rfl,fun _=>rfl⟩) fun i j ex ey hf=>by
  subst ex ey; cases hf
  exact ⟨_,_,rfl,rfl,q _ H S (Ext.refl sub) (.int _)⟩
theorem ql:OpT X (binaryOp .Mod) Nf:=Y5 a2r fun S as x y t u w ht hu hf H Q sub q =>
  Ds (g:=Nf) ht hu hf (fun u=>⟨rfl,fun _=>rfl,fun _=>rfl,fun _=>rfl,fun _=>rfl,fun _=>rfl,fun _=>rfl⟩) (fun i=>⟨rfl,fun _=>rfl,fun _=>rfl,fun _=>rfl,fun _=>rfl,fun _=>rfl,fun _=>rfl⟩) fun i j ex ey hf=>by
  subst ex ey
  obtain ⟨hc,hf⟩:=Cw hf
  cases hf; exact ⟨_,_,rfl,rfl,hc,q _ H S (Ext.refl sub) (.int _)⟩
def a5g (i j:Int):Prop:=0<j∧(j<1073741824∨j.natAbs<fdl)
theorem Xy:OpR X (binaryOp .FloorDiv) (rI a5g fun i j=>.int (i / j)):=opI fun i j _ _ _ _ _ hc q=>by
  have h1:(0:Int)<j:=hc.1
  have h2:j.natAbs<2 ^ 200:=by
    rcases hc.2 with h | h
    · exact Nat.lt_trans (show j.natAbs<1073741824 by (clear q hc; omega)) (by decide)
    · exact h
  exact floordiv_int (by (clear h2 q hc; omega)) (by rw [Int.fdiv_eq_ediv_of_nonneg i (by (clear h2 q hc; omega))]; exact q) (.inl (PyProof.noPylong_of_log2 (Nat.lt_trans ((Nat.log2_lt (by (clear h2 q hc; omega))).mpr h2) (by decide))))
theorem zx:OpT X (binaryOp .FloorDiv) Iv:=Y5 Xy fun S as x y t u w ht hu hf H Q sub q =>
  Ds (g:=Iv) ht hu hf (fun u=>⟨rfl,fun _=>rfl,fun _=>rfl,fun _=>rfl,fun _=>rfl,fun _=>rfl,fun _=>rfl⟩) (fun i=>⟨rfl,fun _=>rfl,fun _=>rfl,fun _=>rfl,fun _=>rfl,fun _=>rfl,fun _=>rfl⟩) fun i j ex ey hf=>by
  subst ex ey
  obtain ⟨hc,hf⟩:=Cw hf
  cases hf; exact ⟨_,_,rfl,rfl,hc,q _ H S (Ext.refl sub) (.int _)⟩
theorem Us:OpT X (compareOp .Lt) ltT:=Y5 a6m fun S as x y t u w ht hu hf H Q sub q =>
  Ds (g:=ltT) ht hu hf (fun u=>⟨rfl,fun _=>rfl,fun _=>rfl,fun _=>rfl,fun _=>rfl,fun _=>rfl,fun _=>rfl⟩) (fun i=>⟨rfl,fun _=>rfl,fun _=>rfl,fun _=>rfl,fun _=>rfl,fun _=>rfl,fun _=>rfl⟩) fun i j ex ey hf=>by
  subst ex ey; cases hf
  exact ⟨_,_,rfl,rfl,q _ H S (Ext.refl sub) (.bl _)⟩
theorem Vp:UnT X (unaryOp .USub) a1v:=by
  intro pins s σ H x v Q I rx z8
  obtain ⟨S,as,t,w,sub,ht,hf,q⟩:=z8
  cases ht <;> simp only [a1v,reduceCtorEq] at hf
  cases hf
  exact a3d pins s σ H _ v Q I rx ⟨_,rfl,q _ H S (Ext.refl sub) (.int _)⟩
def a6v (K:PySem.W.Frag):R2:=fun x y H Q=>∃ l b xs zs,x=.ref l∧y=.ref b∧SqL K H l xs∧SqL K H b zs∧xs.length+zs.length≤sizeLine∧∀ p,H p=none→Q (.ref p) (upd H p (.lst (xs++zs)))
theorem Rp:OpR X (binaryOp .Add) (a6v X.K):=by
  intro pins s σ H x y v u Q I rx ry h
  obtain ⟨l,b,xs,zs,rfl,rfl,hH,hB,hz,q⟩:=h
  cases rx
  cases ry
  obtain ⟨its,r,p1,hl⟩:=I.list hH
  obtain ⟨its2,r2,p2,hl2⟩:=I.list hB
  obtain ⟨⟨cls,dd,data,sl⟩,n,ho,hc,hd0,hd⟩:=id p1
  obtain ⟨⟨cls2,dd2,data2,sl2⟩,n2,ho2,hc2,hd02,hd2⟩:=id p2
  simp only at hc hd hc2 hd2
  subst hc hd hc2 hd2
  refine concat_meets ⟨_,ho,rfl⟩ ⟨_,ho2,rfl⟩ noFill_list_add seq_list_add PySem.F.slot_list_add PySem.F.entry_list_add (PySem.F.args_list_add_2 _ _)
      (list_addW l b its.toArray its2.toArray n n2 dd dd2 sl sl2 (by rw [List.size_toArray,List.size_toArray,← r.length,← r2.length]; exact hz)) ⟨ho,ho2,?_⟩
  have ea:its.toArray++its2.toArray=(its++its2).toArray:=by simp
  rw [ea]
  exact ⟨.ref _,_,I.a7k (t':=s.toks) (r.append r2) (by rw [List.length_append]; exact hz),rfl,q _ I.fresh⟩
def a3s (K:PySem.W.Frag):R2:=fun x y H Q=>∃ a b ys,x=.ref a∧y=.ref b∧SqT K H a []∧SqT K H b ys∧Q (.ref b) H
theorem Xp:OpR X (binaryOp .Add) (a3s X.K):=by
  intro pins s σ H x y v u Q I rx ry h
  obtain ⟨a,b,ys,rfl,rfl,ha,hb,q⟩:=h
  cases rx
  cases ry
  obtain ⟨its,r1,p1,_⟩:=I.tuple ha
  obtain ⟨its2,r2,p2,_⟩:=I.tuple hb
  cases r1
  obtain ⟨⟨cls,dd,data,sl⟩,ho,hc,n,hd⟩:=id p1
  obtain ⟨⟨cls2,dd2,data2,sl2⟩,ho2,hc2,n2,hd2⟩:=id p2
  simp only at hc hd hc2 hd2
  subst hc hd hc2 hd2
  exact concat_meets ⟨_,ho,rfl⟩ ⟨_,ho2,rfl⟩ noFill_tuple_add seq_tuple_add PySem.F.slot_tuple_add PySem.F.entry_tuple_add (PySem.F.args_tuple_add_2 _ _)
      (tuple_addW0 a b _ its2.toArray n n2 dd dd2 sl sl2 (by rfl)) ⟨ho,ho2,⟨.ref b,H,I,rfl,q⟩⟩
theorem lg:OpT X (binaryOp .Add) Aw:=by
  intro pins s σ H x y v u Q I rx ry z8
  obtain ⟨S,as,t,t2,w,sub,ht,hu,hf,q⟩:=z8
  cases ht <;> first | exact nomatch (show none=some w from hf) | cases hu <;> first | exact nomatch (show none=some w from hf) | simp only [Aw] at hf
  · cases hf
    exact a3q pins s σ H _ _ v u Q I rx ry ⟨_,_,rfl,rfl,q _ H S (Ext.refl sub) (.int _)⟩
  · split at hf
    · rename_i hl; cases hf
      exact Q8 pins s σ H _ _ v u Q I rx ry ⟨_,_,rfl,rfl,Nat.le_trans (Nat.le_of_lt hl) jx,q _ H S (Ext.refl sub) (.str _)⟩
    · cases hf
  · rename_i a vs ts hs hr b ws us hs2 hr2
    split at hf
    · rename_i hl; cases hf
      have hz:vs.length+ws.length≤sizeLine:=by rw [hr.length,hr2.length]; exact Nat.le_trans (Nat.le_of_lt hl) jx
      cases hr with
      | nil=>exact Xp pins s σ H _ _ v u Q I rx ry ⟨_,_,_,rfl,rfl,j5 sub hs,j5 sub hs2,q _ H S (Ext.refl sub) (.tup hs2 hr2)⟩
      | @cons v0 t0 vs0 ts0 h1 h2 =>
        refine a01 pins s σ H _ _ v u Q I rx ry ⟨_,_,_,_,rfl,rfl,j5 sub hs,j5 sub hs2,by simp,hz,fun z=>?_,fun z p hp=>?_⟩
        · subst z
          cases hr2
          rw [List.append_nil] at q
          exact q _ H S (Ext.refl sub) (.tup hs (.cons h1 h2))
        · have x:=Ext.laid sub hp (.tup ((v0::vs0)++ws))
          exact q _ _ _ x (.tup (SqT.of cj) (((jy.cons h1 h2).append hr2).mono x.s nol))
    · cases hf
  · rename_i a vs ts hs hr b ws us hs2 hr2
    split at hf
    · rename_i hl; cases hf
      have hz:vs.length+ws.length≤sizeLine:=by rw [hr.length,hr2.length]; exact Nat.le_trans (Nat.le_of_lt hl) jx
      refine Rp pins s σ H _ _ v u Q I rx ry ⟨_,_,_,_,rfl,rfl,gn sub hs,gn sub hs2,hz,fun p hp=>?_⟩
      have x:=Ext.laid sub hp (.lst (vs++ws))
      exact q _ _ _ x (.lst (SqL.of cj) ((hr.append hr2).mono x.s nol))
    · cases hf
theorem a1k (x:Str) (n:Int) (h:0≤n):Txt.mul x n=⟨((List.replicate n.toNat x.cps.toList).flatten).toArray⟩:=by
  have key:∀ (k:Nat) (acc:Array Nat),(List.replicate k x.cps).foldl (· ++ ·) acc=acc++((List.replicate k x.cps.toList).flatten).toArray:=by
    intro k
    induction k with
    | zero=>intro acc; simp
    | succ k ih =>
      intro acc
      rw [List.replicate_succ,List.foldl_cons,ih,List.replicate_succ,List.flatten_cons]
      apply Array.ext'
      simp
  unfold Txt.mul
  by_cases h1:n<1
  · have:n=0:=by omega
    subst this
    rw [if_pos h1]; rfl
  · rw [if_neg h1]
    by_cases h2:(n==1||x.length==0)=true
    · rw [if_pos h2]
      rw [Bool.or_eq_true] at h2
      rcases h2 with h2 | h2
      · have:n=1:=by simpa using h2
        subst this
        cases x; simp
      · have h3:x.cps.size=0:=by simpa [Str.length] using h2
        obtain ⟨c⟩:=x
        have h4:c = #[]:=Array.eq_empty_of_size_eq_zero h3
        subst h4
        congr 1
        apply Array.ext'
        simp
    · rw [if_neg h2,key]
      congr 1
      apply Array.ext'
      simp
theorem Ak:OpT X (binaryOp .Mult) Hu:=by
  intro pins s σ H x y v u Q I rx ry z8
  obtain ⟨S,as,t,t2,w,sub,ht,hu,hf,q⟩:=z8
  cases ht <;> first | exact nomatch (show none=some w from hf) | cases hu <;> first | exact nomatch (show none=some w from hf) | simp only [Hu] at hf
  · split at hf
    · rename_i hb; cases hf
      refine a2m pins s σ H _ _ v u Q I rx ry ⟨_,_,rfl,rfl,?_,q _ H S (Ext.refl sub) (.int _)⟩
      rw [Bool.or_eq_true] at hb
      rcases hb with h | h
      · exact .inl (of_decide_eq_true h)
      · exact .inr (of_decide_eq_true h)
    · cases hf
  · rename_i z j
    split at hf
    · rename_i hb; cases hf
      obtain ⟨t',rfl⟩:=rx
      obtain ⟨t2',rfl⟩:=ry
      refine SB.mul ⟨?_,fun _ _=>?_,fun _ _=>?_⟩ fun t3 k=>⟨.str (Txt.mul z j),H,I.tok _,⟨_,rfl⟩,?_⟩
      · have h1:¬ j < -(2 ^ 63:Int):=by (clear q sub I; omega)
        have h2:¬ j ≥ 2 ^ 63:=by (clear h1 q sub I; omega)
        rw [decide_eq_false h1,decide_eq_false h2]; rfl
      · have h1:(z.length:Int)≤100:=by (clear q sub I; omega)
        have h2:(100:Int)≤(2 ^ 63 - 1) / j:=by
          have hj:0<j:=by
            rcases Int.lt_or_le 0 j with h | h
            · exact h
            · exfalso
              have:j=0:=by (clear h1 q hb sub I; omega)
              subst this
              rename_i a _; exact a (by decide)
          exact (Int.le_ediv_iff_mul_le hj).mpr (by (clear hj h1 q sub I; omega))
        (clear q hb sub I; omega)
      · have h3:z.length * j.toNat≤100 * 1000:=Nat.mul_le_mul hb.2.2 (by (clear q sub I; omega))
        unfold Builtin.Str.tooLong
        rw [sizeLine_eq]
        exact decide_eq_false (by (clear q hb sub I; omega))
      · rw [a1k z j hb.1]; exact q _ H S (Ext.refl sub) (.str _)
    · cases hf
end
end C
end
section
namespace C
open PySem PySem.Spec PyProof.Rows L2
section
variable {X:Cx} {B:Bas} {a b c e o:Expr} {m m1 m2:M T} {pos p:Pos}
theorem Ge (n:Nat) (i:Int):ixI n i=ixN n i:=rfl
theorem Q0 {K:PySem.W.Frag} {S:Hp} {as:List Addr} {y:V} {t:T} {q:L2.Key} (r:Rep K S as y t) (h:keyOf t=some q):y=kV q:=by
  cases r <;> simp only [keyOf,reduceCtorEq] at h <;> (cases h; rfl)
def a68:R2:=fun x y H Q=>∃ a v,x=.ref a∧Q7 H a y (some v)∧Q v H
theorem a0x (hu:X.A.units+1<cLine):IxR X a68:=by
  intro value slice pins s σ H x y v u Q I rx ry z8 hs
  obtain ⟨a,w,ex,g,q⟩:=z8
  subst ex
  cases rx
  refine tail_any (Es I g) slot_dict_getitem.lookup (K5 hu I g ry fun w' s' I' r'=>⟨w,H,I',r',q⟩) hs
theorem Wa (hu:X.A.units+1<cLine):IxR X (r2 X.K cu):=by
  intro value slice pins s σ H x y v u Q I rx ry z8 hs
  obtain ⟨S,as,t,t2,w,sub,ht,hu2,hf,q⟩:=z8
  cases ht with
  | @tup a vs ts h1 h2 =>
    cases hu2 <;> first | exact jl hf | skip
    rename_i i
    obtain ⟨j,e1,e2⟩:=Option.bind_eq_some_iff.mp hf
    obtain ⟨z,hz,rz⟩:=h2.get e2
    refine a3w value slice pins s σ H _ _ v u Q I rx ry ⟨a,vs,i,z,rfl,rfl,j5 sub h1,?_,q z H S (Ext.refl sub) rz⟩ hs
    rw [Ge,← h2.length] at e1
    unfold atI; rw [e1]; exact hz
  | @lst a vs ts h1 h2 =>
    cases hu2 <;> first | exact jl hf | skip
    rename_i i
    obtain ⟨j,e1,e2⟩:=Option.bind_eq_some_iff.mp hf
    obtain ⟨z,hz,rz⟩:=h2.get e2
    refine Mh value slice pins s σ H _ _ v u Q I rx ry ⟨a,vs,i,z,rfl,rfl,gn sub h1,?_,q z H S (Ext.refl sub) rz⟩ hs
    rw [Ge,← h2.length] at e1
    unfold atI; rw [e1]; exact hz
  | str z =>
    cases hu2 <;> first | exact jl hf | skip
    rename_i i
    obtain ⟨hl,hf⟩:=Cw hf
    obtain ⟨j,e1,e2⟩:=Option.bind_eq_some_iff.mp hf
    obtain ⟨cc,e3,e4⟩:=Option.map_eq_some_iff.mp e2
    subst e4
    refine a3p value slice pins s σ H _ _ v u Q I rx ry ⟨z,i,cc,rfl,rfl,Nat.le_trans (Nat.le_of_lt hl) jx,?_,q _ H S (Ext.refl sub) (.str _)⟩ hs
    rw [Ge] at e1
    unfold atI; rw [e1]; exact e3
  | @dic a kvs ts h1 h2 =>
    obtain ⟨k,e1,e2⟩:=Option.bind_eq_some_iff.mp hf
    have ey:=Q0 hu2 e1
    subst ey
    rcases h2.get k with ⟨z,t',a1,a2,a3⟩ | ⟨_,a2⟩
    · rw [e2] at a2; cases a2
      exact a0x hu value slice pins s σ H _ _ v u Q I rx ry ⟨a,z,rfl,.inl ⟨kvs,k,o9 sub h1,rfl,a1.symm⟩,q z H S (Ext.refl sub) a3⟩ hs
    · rw [e2] at a2; cases a2
  | _=>exact jl hf
theorem jh (hu:X.A.units+1<cLine) (ha:PE X a (tOf X.K B m1)) (hb:PE X b (tOf X.K B m2)) (hs:Ir b):PE X (.Subscript a b pos) (tOf X.K B (mOp cu m1 m2)):=O8 (a0f (Wa hu) ha hb hs)
theorem yd:Vy X (.builtin "len") Ju:=by
  intro pins s σ H xs us Q I rs z8
  obtain ⟨S,as,ts,w,sub,hr,hf,q⟩:=z8
  cases hr with
  | nil=>simp only [Ju,reduceCtorEq] at hf
  | @cons x t xs' ts' h1 h2 =>
    cases h2 with
    | cons h3 h4=>simp only [Ju,reduceCtorEq] at hf
    | nil =>
      cases h1 with
      | tup g1 g2=>simp only [Ju] at hf; cases hf; exact um pins s σ H _ us Q I rs ⟨_,_,rfl,.inr (j5 sub g1),by rw [g2.length]; exact q _ H S (Ext.refl sub) (.int _)⟩
      | lst g1 g2=>simp only [Ju] at hf; cases hf; exact um pins s σ H _ us Q I rs ⟨_,_,rfl,.inl (gn sub g1),by rw [g2.length]; exact q _ H S (Ext.refl sub) (.int _)⟩
      | str z =>
        simp only [Ju] at hf
        split at hf
        · rename_i hl; cases hf; exact Jx pins s σ H _ us Q I rs ⟨_,rfl,Nat.le_trans (Nat.le_of_lt hl) jx,q _ H S (Ext.refl sub) (.int _)⟩
        · cases hf
      | @dic a kvs ts g1 g2 =>
        simp only [Ju] at hf; cases hf
        obtain ⟨u,rfl,ru⟩:=rs.one
        cases ru
        exact a4p I (o9 sub g1) fun t s' I'=>⟨.int kvs.length,H,I',⟨t,rfl⟩,by rw [g2.length]; exact q _ H S (Ext.refl sub) (.int _)⟩
      | _=>simp only [Ju,reduceCtorEq] at hf
theorem vo:Vy X (.type "tuple") oh:=by
  intro pins s σ H xs us Q I rs z8
  obtain ⟨S,as,ts,w,sub,hr,hf,q⟩:=z8
  cases hr with
  | nil=>simp only [oh,reduceCtorEq] at hf
  | @cons x t xs' ts' h1 h2 =>
    cases h2 with
    | cons h3 h4=>simp only [oh,reduceCtorEq] at hf
    | nil =>
      cases h1 with
      | @tup a vs ts g1 g2=>simp only [oh] at hf; cases hf; exact Bu pins s σ H _ us Q I rs ⟨_,_,rfl,.inr ⟨j5 sub g1,q _ H S (Ext.refl sub) (.tup g1 g2)⟩⟩
      | @lst a vs ts g1 g2 =>
        simp only [oh] at hf; cases hf
        refine Bu pins s σ H _ us Q I rs ⟨_,_,rfl,.inl ⟨gn sub g1,fun p hp=>?_⟩⟩
        have x:=Ext.laid sub hp (.tup vs)
        exact q _ _ _ x (.tup (SqT.of cj) (g2.mono x.s nol))
      | _=>simp only [oh,reduceCtorEq] at hf
theorem zm:Vy X (.type "list") uz:=by
  intro pins s σ H xs us Q I rs z8
  obtain ⟨S,as,ts,w,sub,hr,hf,q⟩:=z8
  cases hr with
  | nil=>simp only [uz,reduceCtorEq] at hf
  | @cons x t xs' ts' h1 h2 =>
    cases h2 with
    | cons h3 h4=>simp only [uz,reduceCtorEq] at hf
    | nil =>
      cases h1 with
      | @tup a vs ts g1 g2 =>
        simp only [uz] at hf; cases hf
        refine yx pins s σ H _ us Q I rs ⟨_,_,rfl,.inr (j5 sub g1),fun p hp=>?_⟩
        have x:=Ext.laid sub hp (.lst vs)
        exact q _ _ _ x (.lst (SqL.of cj) (g2.mono x.s nol))
      | @lst a vs ts g1 g2 =>
        simp only [uz] at hf; cases hf
        refine yx pins s σ H _ us Q I rs ⟨_,_,rfl,.inl (gn sub g1),fun p hp=>?_⟩
        have x:=Ext.laid sub hp (.lst vs)
        exact q _ _ _ x (.lst (SqL.of cj) (g2.mono x.s nol))
      | _=>simp only [uz,reduceCtorEq] at hf
theorem xg.put {K:PySem.W.Frag} {S:Hp} {as:List Addr} {k:L2.Key} {v:V} {t:T} (r:Rep K S as v t):∀ {vs:List (L2.Key × V)} {ts:List (L2.Key × T)},xg K S as vs ts→xg K S as (putK vs k v) (a0a k t ts):=by
  intro vs ts h
  have any:∀ {vs:List (L2.Key × V)} {ts:List (L2.Key × T)},xg K S as vs ts→(vs.any fun kv=>decide (kv.1=k))=(ts.any fun p=>decide (p.1=k)):=by
    intro vs ts h
    induction vs generalizing ts with
    | nil=>cases h; rfl
    | cons p r ih=>cases h with | cons h1 h2=>rw [List.any_cons,List.any_cons,ih h2]
  have mp:∀ {vs:List (L2.Key × V)} {ts:List (L2.Key × T)},xg K S as vs ts→xg K S as (vs.map fun kv=>if kv.1=k then (kv.1,v) else kv) (ts.map fun p=>if p.1=k then (p.1,t) else p):=by
    intro vs ts h
    induction vs generalizing ts with
    | nil=>cases h; exact .nil
    | cons p rr ih =>
      cases h with
      | @cons q v0 t0 _ _ h1 h2 =>
        rw [List.map_cons,List.map_cons]
        by_cases e:q=k
        · rw [if_pos e,if_pos e]; exact .cons r (ih h2)
        · rw [if_neg e,if_neg e]; exact .cons h1 (ih h2)
  have ap:∀ {vs:List (L2.Key × V)} {ts:List (L2.Key × T)},xg K S as vs ts→xg K S as (vs++[(k,v)]) (ts++[(k,t)]):=by
    intro vs ts h
    induction vs generalizing ts with
    | nil=>cases h; exact .cons r .nil
    | cons p rr ih=>cases h with | cons h1 h2=>exact .cons h1 (ih h2)
  unfold putK a0a
  rw [any h]
  split
  · exact mp h
  · exact ap h
end
end C
end
section
namespace C
open PySem PySem.Spec PyProof.Rows L2
theorem Jt {i:Nat} {k:M T} {s s':Sta} {t:T} (h:mj i k s=some (t,s')):Eo i s=true∧∃ kt kvs f q,k s=some (kt,s')∧s'.env[i]? = some (some (.dic kvs,f))∧keyOf kt=some q∧J6 q kvs=some t:=by
  unfold mj at h
  split at h
  · rename_i hd
    refine ⟨hd,?_⟩
    split at h
    · rename_i kt s2 e2
      split at h
      · rename_i kvs f e3
        split at h
        · rename_i t' e4
          cases h
          obtain ⟨q,e5,e6⟩:=Option.bind_eq_some_iff.mp e4
          exact ⟨kt,kvs,f,q,e2,e3,e5,e6⟩
        · cases h
      · cases h
    · cases h
  · cases h
theorem Mg {i:Nat} {s s':Sta} {t:T} (h:ux i s=some (t,s')):s'=s∧((∃ xs f,s.env[i]? = some (some (.lst xs,f))∧t=.int xs.length)∨(∃ xs f,s.env[i]? = some (some (.dic xs,f))∧t=.int xs.length)):=by
  unfold ux at h
  split at h
  · rename_i xs f e; cases h; exact ⟨rfl,.inl ⟨xs,f,e,rfl⟩⟩
  · rename_i xs f e; cases h; exact ⟨rfl,.inr ⟨xs,f,e,rfl⟩⟩
  · cases h
section
variable {K:PySem.W.Frag} {B:Bas} {st:Sta} {σ:L2.St} {H S:Hp} {ps:List (V × T)} {as:List Addr}
theorem Rel.dictAt (r:Rel K B st σ H ps S as) {i:Nat} {kvs:List (L2.Key × T)} {f:Bool} (e:st.env[i]? = some (some (.dic kvs,f))):∃ p vs,σ[i]? = some (some (.ref p))∧Rd H p (.dK vs)∧xg K S as vs kvs:=by
  obtain ⟨v,h1,h2,h3⟩:=r.slots i _ f e
  cases f with
  | false =>
    have h:=h2 rfl
    cases h with
    | dic a b=>exact ⟨_,_,h1,o9 r.sub a,b⟩
  | true =>
    obtain ⟨p,rfl,o⟩:=h3 rfl
    obtain ⟨vs,h,q⟩:=o.own
    exact ⟨p,vs,h1,.inl h,q⟩
end
section
variable {X:Cx} {B:Bas} {a b c e o k d:Expr} {m mo mk md mv:M T} {pos p:Pos}
theorem Jm {i:Nat} {s:Sta} (h:Eo i s=true):∃ kvs f,s.env[i]? = some (some (.dic kvs,f)):=by
  unfold Eo at h
  split at h
  · rename_i kvs f e; exact ⟨kvs,f,e⟩
  · cases h
theorem Fq {i:Nat} {s:Sta} (h:Eu i s=true):∃ kvs f,s.env[i]? = some (some (.lst kvs,f)):=by
  unfold Eu at h
  split at h
  · rename_i kvs f e; exact ⟨kvs,f,e⟩
  · cases h
theorem Hi (i:Nat) (hu:X.A.units+1<cLine) (ho:PE X o (J8 i)) (hk:PE X k (tOf X.K B mk)) (hs:a3t k):PE X (.Subscript o k pos) (tOf X.K B (mj i mk)):=(Zg hu ho hk hs).imp fun σ H Q z9=>by
  obtain ⟨st,ps,S,as,R,t,st',e,q⟩:=z9
  obtain ⟨hd,kt,kvs,f,qk,e2,e3,e4,e5⟩:=Jt e
  obtain ⟨kvs0,f0,e0⟩:=Jm hd
  obtain ⟨p0,vs0,s0,_⟩:=R.dictAt e0
  refine ⟨_,s0,st,ps,S,as,R,kt,st',e2,fun u H2 S2 as2 R2=>?_⟩
  obtain ⟨p1,vs1,s1,rd1,h4⟩:=R2.dictAt e3
  rw [s0] at s1; cases s1
  have ey:=Q0 R2.top e4
  subst ey
  rcases h4.get qk with ⟨z,t',a1,a2,a3⟩ | ⟨_,a2⟩
  · rw [e5] at a2; cases a2
    exact ⟨p0,z,rfl,.inl ⟨vs1,qk,rd1,rfl,a1.symm⟩,q z H2 S2 as2 (R2.drop.push a3)⟩
  · rw [e5] at a2; cases a2
theorem V8 (i:Nat) {pos':Pos} (hu:X.A.units+1<cLine) (ho:PE X o (J8 i)) (hk:PE X k (tOf X.K B mk)) (hv:PE X e (tOf X.K B mv)) (hs:swapsWith e (some (.Subscript o k pos')) pos.line X.env=pure false) :
    PS X (.Assign [.Subscript o k pos'] e pos) (sOf X.K B (Cv i mk mv)):=(Ss hu ho hk hv hs).imp fun D σ H z9=>by
  obtain ⟨st,ps,S,as,R,fl,st',e,q⟩:=z9
  obtain ⟨t,s1,kt,s2,kvs,qk,e1,hd,e3,e4,e5,hl,rfl,rfl⟩:=N5 e
  obtain ⟨kvs0,f0,e0⟩:=Jm hd
  refine ⟨st,ps,S,as,R,t,s1,e1,fun v H1 S1 as1 R1=>?_⟩
  obtain ⟨p0,vs0,s0,rd0,_⟩:=R1.dictAt e0
  refine ⟨_,s0,s1,_,S1,as1,R1,kt,s2,e3,fun y H3 S3 as3 R3=>?_⟩
  obtain ⟨w,h1,_,h3⟩:=R3.slots i _ true e4
  rw [s0] at h1; cases h1
  obtain ⟨p',ep,ow⟩:=h3 rfl
  cases ep
  obtain ⟨vs,hH,h4⟩:=ow.own
  have ey:=Q0 R3.top e5
  subst ey
  exact ⟨p0,_,rfl,Zf.k hH (by rw [h4.length]; exact Nat.lt_of_lt_of_le hl jx),q _ _ S3 as3 (R3.drop.drop.turn e4 s0 ⟨_,cj,h4.put R3.top2⟩)⟩
end
end C
end
section
namespace C
open PySem PySem.Spec PyProof.Rows L2
theorem dw {ms:M (List T)} {n:Nat} (h:∀ st ts st',ms st=some (ts,st')→ts.length≤n) (hn:n≤1000):∀ st ts st',ms st=some (ts,st')→ts.length≤1000:=fun st ts st' e=>Nat.le_trans (h st ts st' e) hn
theorem Df {m:M T}:∀ st ts st',Ae m st=some (ts,st')→ts.length≤sizeLine:=fun st ts st' e=>by
  unfold Ae at e
  split at e
  · split at e
    · rename_i h; cases e; exact Nat.le_trans (Nat.le_of_lt h) jx
    · cases e
  · split at e
    · rename_i h; cases e; exact Nat.le_trans (Nat.le_of_lt h) jx
    · cases e
  · cases e
theorem Ay {m:M T}:∀ st ts st',m8 m st=some (ts,st')→ts.length≤sizeLine:=fun st ts st' e=>by
  obtain ⟨n,_,h,rfl⟩:=Hj e
  unfold rangeT
  rw [List.length_map,List.length_range]
  refine Nat.le_trans ?_ jx
  show n.toNat≤1000000
  omega
def m6 (P:Program) (w:World) (K:PySem.W.Frag) (mg:Str→Option Value) (base:Heap) (x:Str) (k:Nat) (ps:List Str) (F:Fn):Prop :=
  ∃ f fd,ud P w K mg base CX0 k f fd ps (spF K ps.length F)∧Binds K fd ps []∧PySem.W.keepIn K (.ref f)=true∧mg x=some (.ref f)
theorem m6.mono {P:Program} {w:World} {K:PySem.W.Frag} {mg:Str→Option Value} {base:Heap} {x:Str} {j k:Nat} {ps:List Str} {F:Fn} (d:m6 P w K mg base x j ps F) (h:j≤k):m6 P w K mg base x k ps F:=by
  obtain ⟨f,fd,h1,h2⟩:=d
  exact ⟨f,fd,h1.mono h,h2⟩
section
variable {X:Cx} {B:Bas} {a b c e o k:Expr} {m m1 m2:M T} {pos p:Pos} {es:List Expr} {ms:M (List T)} {F:Fn} {x:Str} {n:Nat} {pn:List Str}
theorem gb (D:m6 X.prog X.w X.K X.mg X.base x n pn F) (hr:xq n X.A) (hg:Gl X x)
    (ha:PA X (e::es) (aOf X.K B ms)) (hl:∀ st ts st',ms st=some (ts,st')→ts.length=pn.length) (hdb:(x==("__debug__" : Str))=false:=by decide)
    (he:starEach (e::es) X.env=(false,eval e X.env)::starEach es X.env:=by rfl) (hpl:(backTo pos (starEach es X.env)).any (·.1)=false:=by rfl) :
    PE X (.Call (.Name x p) (e::es) [] pos) (tOf X.K B (jo F ms)):=by
  obtain ⟨f,fd,h1,h2,h3,h4⟩:=D
  exact a1n h1 hr hg h4 h3 h2 ha hl hdb he hpl
theorem Za (h:PA X es (aOf X.K B ms)) (hm:∀ st ts st',ms st=some (ts,st')→ts.length≤1000):PE X (.List es pos) (fOf X.K B (gw (fun l=>some (.lst l)) ms)) :=
  (Vq h).imp fun σ H Q z9=>by
    obtain ⟨st,ps,S,as,R,t,st',e,q⟩:=z9
    obtain ⟨ts,e1,e2⟩:=vm e
    cases e2
    refine ⟨st,ps,S,as,R,ts,st',e1,fun vs H1 S1 as1 R1 rs=>⟨?_,fun p hp=>?_⟩⟩
    · rw [rs.length]; exact Nat.le_of_lt (yt (hm _ _ _ e1))
    · obtain ⟨bD,sD,nD,no⟩:=R1.fresh hp
      exact q p _ S1 as1 (R1.Zd bD sD nD no) ⟨⟨vs,cj,rs⟩,sD,nD,bD⟩ no
theorem Rel.listAt {K:PySem.W.Frag} {B:Bas} {st:Sta} {σ:L2.St} {H S:Hp} {ps:List (V × T)} {as:List Addr} (r:Rel K B st σ H ps S as) {i:Nat} {xs:List T} {f:Bool} (e:st.env[i]? = some (some (.lst xs,f))):∃ p vs,σ[i]? = some (some (.ref p))∧SqL K H p vs∧jy K S as vs xs:=by
  obtain ⟨v,h1,h2,h3⟩:=r.slots i _ f e
  cases f with
  | false =>
    have h:=h2 rfl
    cases h with
    | lst a b=>exact ⟨_,_,h1,gn r.sub a,b⟩
  | true =>
    obtain ⟨p,rfl,o⟩:=h3 rfl
    obtain ⟨vs,h,q⟩:=o.own
    exact ⟨p,vs,h1,SqL.of h,q⟩
theorem Bd (i:Nat) {st:Stmt} (h:PS X st (Xl (tBM X.K "list" Mr (J8 i) (G3 (tOf X.K B m) Yy)))):PS X st (sOf X.K B (uc i m)):=h.imp fun D σ H z9=>by
  obtain ⟨st,ps,S,as,R,fl,st',e,q⟩:=z9
  obtain ⟨hd,t,s1,xs,e1,e2,hl,rfl,rfl⟩:=Mi e
  obtain ⟨xs0,f0,e0⟩:=Fq hd
  obtain ⟨p0,vs0,s0,q0,_⟩:=R.listAt e0
  refine ⟨_,s0,.inl ⟨rfl,_,q0⟩,st,ps,S,as,R,t,s1,e1,fun v H1 S1 as1 R1=>?_⟩
  obtain ⟨w,h1,_,h3⟩:=R1.slots i _ true e2
  rw [s0] at h1; cases h1
  obtain ⟨p',ep,ow⟩:=h3 rfl
  cases ep
  obtain ⟨vs,hH,h4⟩:=ow.own
  exact ⟨p0,vs,v,rfl,rfl,hH,by rw [h4.length]; exact Nat.lt_of_lt_of_le hl jx,q _ _ S1 as1 (R1.drop.turn e2 s0 ⟨_,cj,h4.append (.cons R1.top .nil)⟩)⟩
end
end C
end
section
namespace C
open PySem PySem.Spec PyProof.Rows L2
section
variable {X:Cx} {B:Bas} {a b c e o k:Expr} {m m1 m2:M T} {pos p:Pos}
theorem Kc {K:PySem.W.Frag} {S:Hp} {as:List Addr}:∀ {vs:List V} {ts:List T} {l:List Str},jy K S as vs ts→Fp ts=some l→vs=l.map V.str
  | _,_,l,.nil,h=>by cases h; rfl
  | _,_,l,.cons (t:=t) h1 h2,h=>by
    cases h1 <;> first | exact jl h | skip
    obtain ⟨l',e1,e2⟩:=Option.map_eq_some_iff.mp h
    subst e2
    rw [Kc h2 e1]; rfl
theorem Inv.Eu {pins:List (Addr × Obj)} {σ:L2.St} {H:Hp} {s:Shared} {a:Addr} {xs:List V} (I:L2.Inv X pins σ H s) (h:SqL X.K H a xs):a<s.heap.objs.size:=by
  obtain ⟨its,_,⟨o,n,h1,_⟩,_⟩:=I.list h
  exact Heap.lt_size h1
theorem Gh:∀ {l:List Str} {us:List Value},Vals (l.map V.str) us→StrsAre us l
  | [],_,r=>by cases r; exact .nil
  | x::l,_,r=>by
    rw [List.map_cons] at r
    cases r with
    | cons r1 r2=>obtain ⟨t,rfl⟩:=r1; exact .cons x t (Gh r2)
theorem Ja {l:List Str} {us:List Value} (h:StrsAre us l):Vals (l.map V.str) us:=by
  induction h with
  | nil=>exact .nil
  | cons x t _ ih=>exact .cons ⟨t,rfl⟩ ih
abbrev Ac (a b:Str):Prop:=¬ b.cps.toList<a.cps.toList
theorem Fw {a b c:Str} (h1:Ac a b) (h2:Ac b c):Ac a c:=fun h=>by
  have h3:a.cps.toList≤b.cps.toList:=List.not_lt.mp h1
  have h4:b.cps.toList≤c.cps.toList:=List.not_lt.mp h2
  exact List.not_lt.mpr (List.le_trans h3 h4) h
theorem Qk {a b:Str} (h1:Ac a b) (h2:Ac b a):a=b:=by
  have h3:a.cps.toList≤b.cps.toList:=List.not_lt.mp h1
  have h4:b.cps.toList≤a.cps.toList:=List.not_lt.mp h2
  have h5:=List.le_antisymm h3 h4
  cases a; cases b
  simp at h5; subst h5; rfl
theorem El:∀ (p:Str) (l:List Str),risingS p l=true→(p::l).Pairwise Ac
  | p,[],_=>by simp
  | p,x::r,h=>by
    rw [risingS,Bool.and_eq_true] at h
    have ih:=El x r h.2
    have hx:Ac p x:=fun z=>by
      have:=h.1
      rw [ltCps_eq,decide_eq_true z] at this
      cases this
    refine List.pairwise_cons.mpr ⟨fun y hy=>?_,ih⟩
    rcases List.mem_cons.mp hy with rfl | hy -- here
    · exact hx
    · exact Fw hx (List.rel_of_pairwise_cons ih hy)
theorem M5 (l:List Str) (h:sortedS l=true):l.Pairwise Ac:=by
  cases l with
  | nil=>exact .nil
  | cons x r=>exact El x r h
theorem Er (x:Str):∀ l,(G8 x l).Perm (x::l)
  | []=>.refl _
  | y::r=>by
    rw [G8]
    split
    · exact .refl _
    · exact ((Er x r).cons y).trans (.swap x y r)
theorem Ke (x:Str):∀ l:List Str,l.Pairwise Ac→(G8 x l).Pairwise Ac
  | [],_=>by simp [G8]
  | y::r,h=>by
    rw [G8]
    split
    · rename_i hx
      have hx:=of_decide_eq_true hx
      have hxy:Ac x y:=fun z=>List.lt_irrefl _ (List.lt_trans hx z)
      refine List.pairwise_cons.mpr ⟨fun z hz=>?_,h⟩
      rcases List.mem_cons.mp hz with rfl | hz -- here
      · exact hxy
      · exact Fw hxy (List.rel_of_pairwise_cons h hz)
    · rename_i hx
      have hx:Ac y x:=fun z=>hx (decide_eq_true z)
      refine List.pairwise_cons.mpr ⟨fun z hz=>?_,Ke x r (List.pairwise_cons.mp h).2⟩
      rcases List.mem_cons.mp ((Er x r).mem_iff.mp hz) with rfl | hz
      · exact hx
      · exact List.rel_of_pairwise_cons h hz
theorem Cz:∀ (l acc:List Str),acc.Pairwise Ac→(l.foldl (fun acc x=>G8 x acc) acc).Pairwise Ac∧(l.foldl (fun acc x=>G8 x acc) acc).Perm (l++acc)
  | [],acc,h=>⟨h,.refl _⟩
  | x::l,acc,h=>by
    obtain ⟨h1,h2⟩:=Cz l (G8 x acc) (Ke x acc h)
    exact ⟨h1,h2.trans (((Er x acc).append_left l).trans (List.perm_middle))⟩
theorem Qp (l:List Str):(uf l).Pairwise Ac:=(Cz l [] .nil).1
theorem Cd (l:List Str):(uf l).Perm l:=by
  have:=(Cz l [] .nil).2
  rwa [List.append_nil] at this
theorem O9 {l l':List Str} (h1:sortedS l'=true) (h2:l'.Perm l):l'=uf l :=
  List.Perm.eq_of_pairwise (le:=Ac) (fun _ _ _ _=>Qk) (M5 l' h1) (Qp l) (h2.trans (Cd l).symm)
theorem Bc {K:PySem.W.Frag} {S:Hp} {as:List Addr}:∀ l:List Str,jy K S as (l.map V.str) (l.map T.str)
  | []=>.nil
  | x::l=>.cons (.str x) (Bc l)
theorem Px {pins:List (Addr × Obj)} {σ:L2.St} {H S:Hp} {s:Shared} {as:List Addr} {a:Addr} {l:List Str} {Q:VK} (I:L2.Inv X pins σ H s) (sub:Same S H) (g1:SqL X.K H a (l.map V.str)) (h64:l.length<64)
    (q:∀ v H' S',Ext S H S' H'→Rep X.K S' as v (.lst ((uf l).map .str))→Q v H'):wpAny (model X.prog X.w) X.A (call (.builtin "sorted") [.ref a]) (EP X pins σ Q) X.xe s:=by
  obtain ⟨its,r,p,hz⟩:=I.list g1
  refine sorted_strs p.isList (Gh r) (by rw [← r.length,List.length_map]; exact h64) fun out ss' a1 a2 a3=>?_
  have es:=O9 a3 a2
  subst es
  obtain ⟨e,he⟩:=sortedAll_at s.heap its out
  have hl:(List.map V.str (uf l)).length≤sizeLine:=by
    rw [List.length_map,(Cd l).length_eq]
    exact Nat.le_trans (Nat.le_of_lt h64) (by rw [sizeLine_eq]; decide)
  have hn:H (s.heap.objs.size+1)=none:=I.hok.fresh (Nat.le_succ _)
  have x:=Ext.laid sub hn (.lst ((uf l).map V.str))
  refine ⟨.ref (s.heap.objs.size+1),_,I.laid (a:=s.heap.objs.size+1) (o:=.lst ((uf l).map V.str)) (h':=sortedAll s.heap its out) (t':=s.toks) (fun _ _=>sortedAll_old) (Nat.le_succ _) ⟨hl,out.toList,e,Ja a1,he⟩,rfl,q _ _ _ x (.lst (SqL.of cj) (Bc _))⟩
theorem Im:Aa X (.builtin "sorted") (fun xs H Q=>∃ S as ts l,Same S H∧jy X.K S as xs [.lst ts]∧ts.length<64∧Fp ts=some l∧∀ v H' S',Ext S H S' H'→Rep X.K S' as v (.lst ((uf l).map .str))→Q v H'):=by
  intro pins s σ H xs us Q I rs z8
  obtain ⟨S,as,ts,l,sub,hr,h64,e1,q⟩:=z8
  cases hr with
  | cons h1 h2 =>
    cases h2
    cases h1 with
    | @lst a vs _ g1 g2 =>
      have ev:=Kc g2 e1
      subst ev
      obtain ⟨u,rfl,ru⟩:=rs.one
      cases ru
      have hl:=g2.length
      rw [List.length_map] at hl
      exact Px I sub (gn sub g1) (by (clear rs g2 g1 q e1 sub I; omega)) q
example (K:PySem.W.Frag):PySem.W.kitOne K (.type "bool") (.type "int")=some true:=by rfl
example (K:PySem.W.Frag):PySem.W.kitOne K (.type "str") (.type "int")=some false:=by rfl
end
end C
end
section
namespace C
open PySem PySem.Spec PyProof.Rows L2
section
variable {X:Cx} {B:Bas} {m:M T}
end
end C
end
section
namespace C
open PySem PySem.Spec PyProof.Rows L2
theorem Rel.newObj {K:PySem.W.Frag} {B:Bas} {st:Sta} {σ:L2.St} {H S:Hp} {ps:List (V × T)} {as:List Addr} {p:Addr} {ob:HO} {so:SO} (r:Rel K B st σ H ps S as) (hp:H p=none) (h:Uk K S (as++[p]) (upd H p ob) p so) :
    Rel K B { st with sto:=st.sto++[so] } σ (upd H p ob) ((.ref p,.obj st.sto.length)::ps) S (as++[p]):=by
  obtain ⟨bD,sD,nD,no⟩:=r.fresh hp
  have mo:∃ l,as++[p]=as++l:=⟨[p],rfl⟩
  have other:∀ q,q≠p→H q=upd H p ob q:=fun q n=>(d7 n).symm
  refine Rel.push (st:={ st with sto:=st.sto++[so] }) (H:=upd H p ob) (v:=.ref p) (t:=.obj st.sto.length) ⟨fun b u e=>?_,⟨r.grow.same,?_,fun q o a b c=>?_⟩,fun i t f e=>?_,r.apart,⟨?_,?_,fun n so2 e=>?_⟩,fun q hq=>(r.pend q hq).mono (Same.refl _) mo,r.len⟩ (.obj ?_)
  · rw [d7 (fun z=>by subst z; rw [sD] at e; cases e)]; exact r.sub _ _ e
  · obtain ⟨l,e⟩:=r.grow.more
    exact ⟨l++[p],by rw [e,List.append_assoc]⟩
  · obtain ⟨x,y,z⟩:=r.grow.keep q o a b c
    have n:q≠p:=fun w=>by subst w; rw [bD] at a; cases a
    refine ⟨by rw [d7 n]; exact x,y,fun m=>?_⟩
    rcases List.mem_append.mp m with m | m
    · exact z m
    · exact n (List.mem_singleton.mp m)
  · obtain ⟨v,h1,h2,h3⟩:=r.slots i t f e
    refine ⟨v,h1,fun z=>(h2 z).mono (Same.refl _) mo,fun z=>?_⟩
    obtain ⟨q,rfl,o⟩:=h3 z
    have n:q≠p:=fun w=>by subst w; subst z; exact no i t e h1
    refine ⟨q,rfl,o.own.more (Same.refl _) mo (other q n),o.out,fun m=>?_,o.new⟩
    rcases List.mem_append.mp m with m | m
    · exact o.nas m
    · exact n (List.mem_singleton.mp m)
  · show (as++[p]).length=(st.sto++[so]).length
    rw [List.length_append,List.length_append,r.sto.len]; rfl
  · refine List.nodup_append.mpr ⟨r.sto.nd,by simp,fun a ha b hb=>?_⟩
    rw [List.mem_singleton.mp hb]
    intro z; subst z; exact nD ha
  · have e:(st.sto++[so])[n]? = some so2:=e
    by_cases hn:n<st.sto.length
    · rw [List.getElem?_append_left hn] at e
      obtain ⟨a,h1,h2,h3⟩:=r.sto.at' n so2 e
      have na:a≠p:=fun z=>by subst z; exact nD (List.mem_of_getElem? h1)
      refine ⟨a,Uw h1,h2,?_⟩
      cases so2 with
      | dic ts=>obtain ⟨vs,x,y⟩:=h3; exact ⟨vs,by rw [d7 na]; exact x,y.mono (Same.refl _) mo⟩
      | lst ts=>obtain ⟨vs,x,y⟩:=h3; exact ⟨vs,by rw [d7 na]; exact x,y.mono (Same.refl _) mo⟩
      | dit ts=>obtain ⟨vs,x,y⟩:=h3; exact ⟨vs,by rw [d7 na]; exact x,y.mono (Same.refl _) mo⟩
    · rw [List.getElem?_append_right (Nat.le_of_not_lt hn)] at e
      have hn0:n - st.sto.length=0:=by
        have:=(List.getElem?_eq_some_iff.mp e).1
        simp at this; omega
      rw [hn0] at e; cases e
      have hne:n=as.length:=by rw [r.sto.len]; omega
      subst hne
      exact ⟨p,by rw [List.getElem?_append_right (Nat.le_refl _),Nat.sub_self]; rfl,sD,h⟩
  · rw [← r.sto.len,List.getElem?_append_right (Nat.le_refl _),Nat.sub_self]; rfl
def PN (X:Cx) (e:Expr) (N:L2.St→V→Prop):Prop:=PE X e (fun σ H Q=>∃ v,N σ v∧Q v H)
def MN (K:PySem.W.Frag) (m:M T) (N:L2.St→V→Prop):Prop:=∀ (B:Bas) (st:Sta) (σ:L2.St) (H:Hp) (ps:List (V × T)) (S:Hp) (as:List Addr) (t:T) (st':Sta),Rel K B st σ H ps S as→m st=some (t,st')→st'=st∧∃ v,N σ v∧Rep K S as v t
structure PM (X:Cx) (e:Expr) (m:M T) (N:L2.St→V→Prop):Prop where
  p:PN X e N
  m:MN X.K m N
section
variable {X:Cx} {B:Bas} {a b e e1 e2:Expr} {m m1 m2:M T} {N N1 N2:L2.St→V→Prop} {pos p:Pos}
end
end C
end
section
namespace C
open PySem PySem.Spec PyProof.Rows L2
inductive X7:List Expr→List Str→Prop where
  | nil:X7 [] []
  | cons {x:Str} {k:Nat} {q:Pos} {es:List Expr} {xs:List Str}:X7 es xs→X7 (.Constant (.str x) k q::es) (x::xs)
theorem Uo {X:Cx} {B:Bas}:∀ {es:List Expr} {xs:List Str},X7 es xs→PA X es (aOf X.K B (W7 xs))
  | _,_,.nil=>c7
  | _,_,.cons h=>aj wk (Uo h)
theorem len_strs:∀ (xs:List Str) (st:Sta) (ts:List T) (st':Sta),W7 xs st=some (ts,st')→ts.length≤xs.length
  | [],st,ts,st',e=>d8 st ts st' e
  | _::xs,st,ts,st',e=>ao (len_strs xs) st ts st' e
section
variable {X:Cx} {B:Bas} {a b c e o k:Expr} {m m1 m2:M T} {pos p p2:Pos}
theorem K6 (i:Nat) (hm:X.mg "len" = none) {es:Expr} (hg:Gl X "len") (h:PE X es (J8 i)) (he:starEach [es] X.env=(false,eval es X.env)::starEach [] X.env:=by rfl) (hpl:(backTo pos (starEach [] X.env)).any (·.1)=false:=by rfl) :
    PE X (.Call (.Name "len" p) [es] [] pos) (tOf X.K B (ux i)):=by
  have hc:Aa X (.builtin "len") (fun xs H Q=>∃ q,xs=[.ref q]∧((∃ ys,SqL X.K H q ys∧Q (.int ys.length) H)∨(∃ kvs,Rd H q (.dK kvs)∧Q (.int kvs.length) H))):=by
    intro pins s σ H xs us Q I rs z8
    obtain ⟨q,ex,h⟩:=z8
    rcases h with ⟨ys,h1,h2⟩ | ⟨kvs,h1,h2⟩
    · exact um pins s σ H xs us Q I rs ⟨q,ys,ex,.inl h1,h2⟩
    · subst ex
      obtain ⟨u,rfl,ru⟩:=rs.one
      cases ru
      exact a4p I h1 fun t s' I'=>⟨.int kvs.length,H,I',⟨t,rfl⟩,h2⟩
  refine (qb hc hg hm PySem.boot_len (jj h qg he) (by decide) (by decide) he hpl).imp fun σ H Q z0=>?_
  obtain ⟨st,ps,S,as,R,t,st',e,q⟩:=z0
  obtain ⟨rfl,h⟩:=Mg e
  rcases h with ⟨xs,f,e1,rfl⟩ | ⟨xs,f,e1,rfl⟩
  · obtain ⟨p0,vs,s0,h1,h2⟩:=R.listAt e1
    exact ⟨_,s0,p0,rfl,.inl ⟨vs,h1,by rw [h2.length]; exact q _ H S as (R.push (.int _))⟩⟩
  · obtain ⟨p0,vs,s0,h1,h2⟩:=R.dictAt e1
    exact ⟨_,s0,p0,rfl,.inr ⟨vs,h1,by rw [h2.length]; exact q _ H S as (R.push (.int _))⟩⟩
end
end C
end
section
namespace C
open PySem
mutual
theorem vp:∀ (t:T) {d:PyData},dat t=some d→d.canLay0=true
  | .non,_,h=>by simp only [dat] at h; cases h; simp only [PyData.canLay0]
  | .bl b,_,h=>by simp only [dat] at h; cases h; simp only [PyData.canLay0]
  | .int i,_,h=>by simp only [dat] at h; cases h; simp only [PyData.canLay0]
  | .str x,_,h=>by
    simp only [dat] at h
    split at h
    · rename_i hx; cases h; exact hx
    · cases h
  | .tup xs,_,h=>by
    simp only [dat] at h
    obtain ⟨l,e1,e2⟩:=Option.map_eq_some_iff.mp h
    subst e2
    simp only [PyData.canLay0]
    exact Ib xs e1
  | .lst xs,_,h=>by
    simp only [dat] at h
    obtain ⟨l,e1,e2⟩:=Option.map_eq_some_iff.mp h
    subst e2
    simp only [PyData.canLay0]
    exact Ib xs e1
  | .dic _,_,h=>by simp only [dat] at h; cases h
  | .obj _,_,h=>by simp only [dat] at h; cases h
theorem Ib:∀ (ts:List T) {l:List PyData},Ec ts=some l→PyData.canLayAll0 l=true
  | [],_,h=>by simp only [Ec] at h; cases h; simp only [PyData.canLayAll0]
  | x::r,_,h=>by
    simp only [Ec] at h
    split at h
    · rename_i a ea
      obtain ⟨l,e1,e2⟩:=Option.map_eq_some_iff.mp h
      subst e2
      simp only [PyData.canLayAll0]
      rw [vp x ea,Ib r e1]; rfl
    · cases h
end
theorem W6 {x:T} {r:List T} {l:List PyData} (h:Ec (x::r)=some l):∃ a l',dat x=some a∧Ec r=some l'∧l=a::l':=by
  simp only [Ec] at h
  split at h
  · rename_i a ea
    obtain ⟨l,e1,e2⟩:=Option.map_eq_some_iff.mp h
    exact ⟨a,l,ea,e1,e2.symm⟩
  · cases h
theorem Lx {t u:T} {b:Bool} (h:eqD t u=some b):∃ x y,dat t=some x∧dat u=some y∧x.depth≤40∧b=PyData.eqv x y:=by
  unfold eqD at h
  split at h
  · rename_i x ex
    split at h
    · rename_i y ey
      split at h
      · rename_i hd; cases h; exact ⟨x,y,ex,ey,hd,rfl⟩
      · cases h
    · cases h
  · cases h
theorem a0v {t u:T} {b:Bool} (h:eqT t u=some b):(∃ x y,t=.dic x∧u=.dic y∧((x.length=y.length∧a1y x y=some b)∨(x.length≠y.length∧b=false)))∨eqD t u=some b:=by
  unfold eqT at h
  split at h
  · split at h
    · rename_i hl; exact .inl ⟨_,_,rfl,rfl,.inl ⟨hl,h⟩⟩
    · rename_i hl; cases h; exact .inl ⟨_,_,rfl,rfl,.inr ⟨hl,rfl⟩⟩
  · exact .inr h
end C
end
section
namespace C
open PySem PySem.Spec PyProof.Rows L2
section
variable {X:Cx} {pins:List (Addr × Obj)} {σ:L2.St} {H S:Hp} {s:Shared} {as:List Addr}
theorem V0 (I:L2.Inv X pins σ H s) (sub:Same S H):(∀ {v:V} {t:T},Rep X.K S as v t→∀ {d:PyData} {u:Value},dat t=some d→RelV v u→∃ bs,Reads s.heap u d bs)∧∀ {vs:List V} {ts:List T},jy X.K S as vs ts→∀ {ds:List PyData} {us:List Value},Ec ts=some ds→Vals vs us→∃ bs,ReadsAll s.heap us ds bs:=by
  have tp:∀ {a:Addr} {vs:List V} {ts:List T},SqT X.K S a vs→jy X.K S as vs ts→(∀ {ds:List PyData} {us:List Value},Ec ts=some ds→Vals vs us→∃ bs,ReadsAll s.heap us ds bs)→∀ {d:PyData} {u:Value},dat (.tup ts)=some d→RelV (.ref a) u→∃ bs,Reads s.heap u d bs:=by
    intro a vs ts h _ q d u e r
    simp only [dat] at e
    obtain ⟨l,e1,e2⟩:=Option.map_eq_some_iff.mp e
    subst e2
    cases r
    obtain ⟨its,rv,⟨o,h1,h2,n,h3⟩,_⟩:=I.tuple (j5 sub h)
    obtain ⟨bs,rb⟩:=q e1 rv
    exact ⟨_,.tuple h1 h2 h3 rb⟩
  have ls:∀ {a:Addr} {vs:List V} {ts:List T},SqL X.K S a vs→jy X.K S as vs ts→(∀ {ds:List PyData} {us:List Value},Ec ts=some ds→Vals vs us→∃ bs,ReadsAll s.heap us ds bs)→∀ {d:PyData} {u:Value},dat (.lst ts)=some d→RelV (.ref a) u→∃ bs,Reads s.heap u d bs:=by
    intro a vs ts h _ q d u e r
    simp only [dat] at e
    obtain ⟨l,e1,e2⟩:=Option.map_eq_some_iff.mp e
    subst e2
    cases r
    obtain ⟨its,rv,⟨o,n,h1,h2,_,h3⟩,_⟩:=I.list (gn sub h)
    obtain ⟨bs,rb⟩:=q e1 rv
    exact ⟨_,.list h1 h2 h3 rb⟩
  have st:∀ (x:Str) {d:PyData} {u:Value},dat (.str x)=some d→RelV (.str x) u→∃ bs,Reads s.heap u d bs:=by
    intro x d u e r
    simp only [dat] at e
    split at e
    · cases e; obtain ⟨t,rfl⟩:=r; exact ⟨_,.str x t⟩
    · cases e
  have cn:∀ {v:V} {t:T} {vs:List V} {ts:List T},Rep X.K S as v t→jy X.K S as vs ts→(∀ {d:PyData} {u:Value},dat t=some d→RelV v u→∃ bs,Reads s.heap u d bs)→(∀ {ds:List PyData} {us:List Value},Ec ts=some ds→Vals vs us→∃ bs,ReadsAll s.heap us ds bs)→∀ {ds:List PyData} {us:List Value},Ec (t::ts)=some ds→Vals (v::vs) us→∃ bs,ReadsAll s.heap us ds bs:=by
    intro v t vs ts _ _ h q ds us e r
    obtain ⟨a,l,e1,e2,e3⟩:=W6 e
    subst e3
    cases r with
    | cons r1 r2 =>
      obtain ⟨b1,x1⟩:=h e1 r1
      obtain ⟨b2,x2⟩:=q e2 r2
      exact ⟨_,.cons x1 x2⟩
  have nl:∀ {ds:List PyData} {us:List Value},Ec []=some ds→Vals [] us→∃ bs,ReadsAll s.heap us ds bs:=by
    intro ds us e r; simp only [Ec] at e; cases e; cases r; exact ⟨_,.nil⟩
  have no:∀ {d:PyData} {u:Value},dat .non=some d→RelV .non u→∃ bs,Reads s.heap u d bs:=by
    intro d u e r; simp only [dat] at e; cases e; cases r; exact ⟨_,.none⟩
  have bo:∀ (b:Bool) {d:PyData} {u:Value},dat (.bl b)=some d→RelV (.bl b) u→∃ bs,Reads s.heap u d bs:=by
    intro b d u e r; simp only [dat] at e; cases e; cases r; exact ⟨_,.bool b⟩
  have it:∀ (i:Int) {d:PyData} {u:Value},dat (.int i)=some d→RelV (.int i) u→∃ bs,Reads s.heap u d bs:=by
    intro i d u e r; simp only [dat] at e; cases e; obtain ⟨t,rfl⟩:=r; exact ⟨_,.int i t⟩
  have di:∀ {a:Addr} {ts:List (L2.Key × T)} {d:PyData} {u:Value},dat (.dic ts)=some d→RelV (.ref a) u→∃ bs,Reads s.heap u d bs:=by
    intro a ts d u e; simp only [dat] at e; cases e
  have ob:∀ {a:Addr} {n:Nat} {d:PyData} {u:Value},dat (.obj n)=some d→RelV (.ref a) u→∃ bs,Reads s.heap u d bs:=by
    intro a n d u e; simp only [dat] at e; cases e
  exact ⟨fun h=>Rep.rec (motive_1:=fun v t _=>∀ {d:PyData} {u:Value},dat t=some d→RelV v u→∃ bs,Reads s.heap u d bs) (motive_2:=fun vs ts _=>∀ {ds:List PyData} {us:List Value},Ec ts=some ds→Vals vs us→∃ bs,ReadsAll s.heap us ds bs) (motive_3:=fun _ _ _=>True) no bo it st tp ls (fun _ _ _=>di) (fun _=>ob) nl cn trivial (fun _ _ _ _=>trivial) h,
    fun h=>jy.rec (motive_1:=fun v t _=>∀ {d:PyData} {u:Value},dat t=some d→RelV v u→∃ bs,Reads s.heap u d bs) (motive_2:=fun vs ts _=>∀ {ds:List PyData} {us:List Value},Ec ts=some ds→Vals vs us→∃ bs,ReadsAll s.heap us ds bs) (motive_3:=fun _ _ _=>True) no bo it st tp ls (fun _ _ _=>di) (fun _=>ob) nl cn trivial (fun _ _ _ _=>trivial) h⟩
theorem Rep.reads (I:L2.Inv X pins σ H s) (sub:Same S H) {v:V} {t:T} (h:Rep X.K S as v t) {d:PyData} {u:Value} (e:dat t=some d) (r:RelV v u):∃ bs,Reads s.heap u d bs:=(V0 I sub).1 h e r
theorem Uu (I:L2.Inv X pins σ H s) (sub:Same S H) {x y:V} {t u:T} {v w:Value} {b:Bool} {A:Around} (hx:Rep X.K S as x t) (hy:Rep X.K S as y u) (rx:RelV x v) (ry:RelV y w) (e:eqD t u=some b) (hu:A.units+40<cLine):SeqAt.EqAt A s v w b:=by
  obtain ⟨dx,dy,e1,e2,hd,rfl⟩:=Lx e
  obtain ⟨b1,x1⟩:=hx.reads I sub e1 rx
  obtain ⟨b2,x2⟩:=hy.reads I sub e2 ry
  exact SeqAt.eqAt_reads dx dy A s v w b1 b2 x1 x2 (vp _ e1) (vp _ e2) (by have:=Nat.min_le_left dx.depth dy.depth; (clear this x2 x1 e e2 e1 ry rx hy hx sub I; omega))
theorem Vg (I:L2.Inv X pins σ H s) (sub:Same S H) {A:Around} (hu:A.units+40<cLine) {kb:List (L2.Key × V)} {ub:List (L2.Key × T)} {wb:List (L2.Key × Value)} (rb:xg X.K S as kb ub) (vb:KV kb wb) :
    ∀ {ka:List (L2.Key × V)} {ua:List (L2.Key × T)} {wa:List (L2.Key × Value)} {r:Bool},xg X.K S as ka ua→KV ka wa→a1y ua ub=some r→PySem.W.KeqHits A s wb wa r
  | _,[],_,_,h0,va,e=>by
    cases h0
    simp only [a1y] at e; cases e
    cases va
    exact .nil
  | _,(k,_)::_,_,_,h0,va,e=>by
    cases h0 with | cons h q=>?_
    simp only [a1y] at e
    cases va with
    | @cons _ p2 _ _ hp hr =>
      obtain ⟨pk,pv⟩:=p2
      obtain ⟨ek,rv⟩:=hp
      dsimp only at ek rv
      subst ek
      rcases rb.get k with ⟨z,t',a1,a2,a3⟩ | ⟨a1,a2⟩
      · rw [a2] at e
        dsimp only at e
        have rel:=KV.val vb k
        rw [a1] at rel
        obtain ⟨w',hw,rw'⟩:=J9.some_of rel
        split at e
        · rename_i eb he
          obtain ⟨b',e1,e2⟩:=Option.map_eq_some_iff.mp e
          subst e2
          exact .hit hw (Uu I sub h a3 rv rw' he hu) (Vg I sub hu rb vb q hr e1)
        · cases e
      · rw [a2] at e
        cases e
        have rel:=KV.val vb k
        rw [a1] at rel
        exact .miss (J9.none_of rel)
end
section
variable {X:Cx}
theorem Jo {op:CmpOp} {neg:Bool} (hop:(op=.Eq∧neg=false)∨(op=.NotEq∧neg=true)) {g:T→T→Option T} (hg:∀ t u w,g t u=some w→∃ b,eqT t u=some b∧w=.bl (xor neg b)) (hu:X.A.units+64<cLine):OpT X (compareOp op) g:=by
  intro pins s σ H x y v u Q I rx ry z8
  obtain ⟨S,as,t,t2,w,sub,ht,hu2,hf,q⟩:=z8
  obtain ⟨b,e,rfl⟩:=hg _ _ _ hf
  have fin:EP X pins σ Q (.bool (xor neg b)) s:=⟨.bl (xor neg b),H,I,rfl,q _ H S (Ext.refl sub) (.bl _)⟩
  rcases a0v e with ⟨xs,ys,rfl,rfl,hd⟩ | he
  · cases ht with
    | @dic a kvs _ g1 g2 =>
      cases hu2 with
      | @dic a' kvs' _ k1 k2 =>
        cases rx
        cases ry
        obtain ⟨z,hs,vs,rel,dd⟩:=Fy I.hok (o9 sub g1)
        obtain ⟨z',hs',vs',rel',dd'⟩:=Fy I.hok (o9 sub k1)
        have l1:vs.length=xs.length:=by rw [← rel.length]; exact g2.length
        have l2:vs'.length=ys.length:=by rw [← rel'.length]; exact k2.length
        have hu1:X.A.in1.units+40<cLine:=by show X.A.units+1+40<cLine; (clear l2 l1 dd' rel' hs' z' dd rel hs z k2 k1 g2 g1 hf e hd fin q sub I hg hop; omega)
        rcases hd with ⟨hl,eb⟩ | ⟨hl,rfl⟩
        · have hits:vs.length=vs'.length→PySem.W.KeqHits X.A.in1 s vs' vs b:=fun _=>Vg I sub hu1 k2 rel' g2 rel eb
          have el:(vs.length==vs'.length)=true:=by rw [l1,l2,hl]; exact beq_self_eq_true _
          rcases hop with ⟨rfl,rfl⟩ | ⟨rfl,rfl⟩
          · refine PySem.W.keq_eq hs hs' dd dd' (by (clear hf fin q hg el hits eb hl hu1 l2 l1 dd' rel' hs' z' dd rel hs z k2 k1 g2 g1 e sub I; omega)) hits ?_
            rw [el]; simpa using fin
          · refine PySem.W.keq_ne hs hs' dd dd' (by (clear hf fin q hg el hits eb hl hu1 l2 l1 dd' rel' hs' z' dd rel hs z k2 k1 g2 g1 e sub I; omega)) hits ?_
            rw [el]; simpa using fin
        · have hits:vs.length=vs'.length→PySem.W.KeqHits X.A.in1 s vs' vs true:=fun h=>absurd (by rw [← l1,← l2]; exact h) hl
          have el:(vs.length==vs'.length)=false:=by rw [l1,l2]; exact beq_eq_false_iff_ne.mpr hl
          rcases hop with ⟨rfl,rfl⟩ | ⟨rfl,rfl⟩
          · refine PySem.W.keq_eq hs hs' dd dd' (by (clear hf fin q hg el hits e hl hu1 l2 l1 dd' rel' hs' z' dd rel hs z k2 k1 g2 g1 sub I; omega)) hits ?_
            rw [el]; simpa using fin
          · refine PySem.W.keq_ne hs hs' dd dd' (by (clear hf fin q hg el hits e hl hu1 l2 l1 dd' rel' hs' z' dd rel hs z k2 k1 g2 g1 sub I; omega)) hits ?_
            rw [el]; simpa using fin
  · obtain ⟨dx,dy,e1,e2,hd,rfl⟩:=Lx he
    obtain ⟨b1,x1⟩:=ht.reads I sub e1 rx
    obtain ⟨b2,x2⟩:=hu2.reads I sub e2 ry
    have hm:X.A.units+min dx.depth dy.depth<cLine:=by have:=Nat.min_le_left dx.depth dy.depth; (clear this x2 x1 he fin q hf e e2 e1 hu2 ht sub ry rx I hg hop; omega)
    rcases hop with ⟨rfl,rfl⟩ | ⟨rfl,rfl⟩
    · exact SeqAt.compareEq_reads x1 x2 (vp _ e1) (vp _ e2) hm (by simpa using fin)
    · exact SeqAt.compareNe_reads x1 x2 (vp _ e1) (vp _ e2) hm (by simpa using fin)
theorem qt (hu:X.A.units+64<cLine):OpT X (compareOp .Eq) eqO:=Jo (.inl ⟨rfl,rfl⟩) (fun t u w h=>by
  unfold eqO at h
  split at h
  · rename_i b e; cases h; exact ⟨b,e,by simp⟩
  · cases h) hu
theorem Je (hu:X.A.units+64<cLine):OpT X (compareOp .NotEq) neO:=Jo (.inr ⟨rfl,rfl⟩) (fun t u w h=>by
  unfold neO at h
  split at h
  · rename_i b e; cases h; exact ⟨b,e,by simp⟩
  · cases h) hu
open Classical in
noncomputable def Ze (h:Heap) (dx:PyData) (y:Value):Bool:=if e:∃ d bs,Reads h y d bs∧d.canLay0=true then PyData.eqv (Classical.choose e) dx else false
theorem Zh {h:Heap} {dx d:PyData} {y:Value} {bs:List Addr} (r:Reads h y d bs) (l:d.canLay0=true):Ze h dx y=PyData.eqv d dx:=by
  have e:∃ d bs,Reads h y d bs∧d.canLay0=true:=⟨d,bs,r,l⟩
  unfold Ze
  rw [dif_pos e]
  obtain ⟨bs',r',l'⟩:=Classical.choose_spec e
  rw [SeqAt.Reads.unique _ _ _ _ _ l' r' r]
theorem Tr {pins:List (Addr × Obj)} {σ:L2.St} {H S:Hp} {s:Shared} {as:List Addr} {A:Around} (I:L2.Inv X pins σ H s) (sub:Same S H) (hu:A.units+40<cLine) {x:V} {t:T} {v:Value} {dx:PyData} (hx:Rep X.K S as x t) (rx:RelV x v) (ex:dat t=some dx) :
    ∀ {vs:List V} {ts:List T} {us:List Value} {b:Bool},jy X.K S as vs ts→Vals vs us→inL t ts=some b→(∀ y∈us,SeqAt.EqAt A s y v (Ze s.heap dx y))∧us.any (Ze s.heap dx)=b
  | _,[],_,_,h0,r,e=>by cases h0; simp only [inL] at e; cases e; cases r; exact ⟨fun y h=>(nomatch h),rfl⟩
  | _,_::_,_,_,h0,r,e=>by
    cases h0 with | cons h q=>?_
    simp only [inL] at e
    cases r with
    | @cons _ u1 _ us1 r1 r2 =>
      split at e
      · rename_i eb he
        obtain ⟨b',e1,e2⟩:=Option.map_eq_some_iff.mp e
        subst e2
        obtain ⟨i1,i2⟩:=Tr I sub hu hx rx ex q r2 e1
        obtain ⟨dy,dx',f1,f2,hd,rfl⟩:=Lx he
        rw [ex] at f2; cases f2
        obtain ⟨b1,x1⟩:=h.reads I sub f1 r1
        have hb:=Zh (dx:=dx) x1 (vp _ f1)
        refine ⟨fun y hy=>?_,by rw [List.any_cons,i2,hb]⟩
        rcases List.mem_cons.mp hy with rfl | hy -- here
        · rw [hb]; exact Uu I sub h hx r1 rx he hu
        · exact i1 y hy
      · cases e
theorem Ma {t u w:T} (h:inT t u=some w):(∃ ys b,(u=.tup ys∨u=.lst ys)∧inL t ys=some b∧(dat t).isSome=true∧w=.bl b)∨(∃ kvs q,u=.dic kvs∧keyOf t=some q∧w=.bl (J6 q kvs).isSome):=by
  unfold inT at h
  split at h
  · obtain ⟨q,e1,e2⟩:=Option.map_eq_some_iff.mp h
    exact .inr ⟨_,q,rfl,e1,e2.symm⟩
  · split at h
    · rename_i hd
      split at h
      · obtain ⟨b,e1,e2⟩:=Option.map_eq_some_iff.mp h; exact .inl ⟨_,b,.inl rfl,e1,hd,e2.symm⟩
      · obtain ⟨b,e1,e2⟩:=Option.map_eq_some_iff.mp h; exact .inl ⟨_,b,.inr rfl,e1,hd,e2.symm⟩
      · cases h
    · cases h
theorem Jl {op:CmpOp} {neg:Bool} (hop:(op=.In∧neg=false)∨(op=.NotIn∧neg=true)) {g:T→T→Option T} (hg:∀ t u w,g t u=some w→∃ w',inT t u=some w'∧∃ b,w'=.bl b∧w=.bl (xor neg b)) (hu:X.A.units+64<cLine):OpT X (compareOp op) g:=by
  intro pins s σ H x y v u Q I rx ry z8
  obtain ⟨S,as,t,t2,w,sub,ht,hu2,hf,q⟩:=z8
  obtain ⟨w',ei,b0,rfl,rfl⟩:=hg _ _ _ hf
  rcases Ma ei with ⟨ys,b,hy,e,hdt,eb⟩ | ⟨kvs,qk,rfl,ek,eb⟩
  · cases eb
    obtain ⟨dx,ex⟩:=Option.isSome_iff_exists.mp hdt
    have fin:EP X pins σ Q (.bool (xor neg b0)) s:=⟨.bl (xor neg b0),H,I,rfl,q _ H S (Ext.refl sub) (.bl _)⟩
    have hu1:X.A.in1.units+40<cLine:=by show X.A.units+1+40<cLine; (clear fin ex e hdt hy q hf ei hu2 ht sub ry rx I hg hop; omega)
    rcases hy with rfl | rfl
    · cases hu2 with
      | @tup a vs _ g1 g2 =>
        cases ry
        obtain ⟨its,r,p,hz⟩:=I.tuple (j5 sub g1)
        obtain ⟨i1,i2⟩:=Tr I sub hu1 ht rx ex g2 r e
        have he:∀ y,y∈its.toArray→SeqAt.EqAt X.A.in1 s y v (Ze s.heap dx y):=fun y hy=>i1 y (by simpa using hy)
        have ha:its.toArray.any (Ze s.heap dx)=b0:=by rw [← i2]; simp
        rcases hop with ⟨rfl,rfl⟩ | ⟨rfl,rfl⟩
        · exact SeqAt.in_tupleAt _ (show s.heap.IsTuple a its.toArray from p) he (by rw [ha]; simpa using fin)
        · exact SeqAt.notIn_tupleAt _ (show s.heap.IsTuple a its.toArray from p) he (by rw [ha]; simpa using fin)
    · cases hu2 with
      | @lst a vs _ g1 g2 =>
        cases ry
        obtain ⟨its,r,p,hz⟩:=I.list (gn sub g1)
        obtain ⟨i1,i2⟩:=Tr I sub hu1 ht rx ex g2 r e
        have he:∀ y,y∈its.toArray→SeqAt.EqAt X.A.in1 s y v (Ze s.heap dx y):=fun y hy=>i1 y (by simpa using hy)
        have ha:its.toArray.any (Ze s.heap dx)=b0:=by rw [← i2]; simp
        rcases hop with ⟨rfl,rfl⟩ | ⟨rfl,rfl⟩
        · exact SeqAt.in_listAt _ p.isList he (by rw [ha]; simpa using fin)
        · exact SeqAt.notIn_listAt _ p.isList he (by rw [ha]; simpa using fin)
  · cases eb
    cases hu2 with
    | @dic a kv _ g1 g2 =>
      cases ry
      have ey:=Q0 ht ek
      subst ey
      have hs:(J6 qk kvs).isSome=(G7 kv qk).isSome:=by
        rcases g2.get qk with ⟨z,t',a1,a2,_⟩ | ⟨a1,a2⟩
        · simp [a1,a2]
        · simp [a1,a2]
      rw [hs] at q
      have gd:Q7 H a (kV qk) (G7 kv qk):=.inl ⟨kv,qk,o9 sub g1,rfl,rfl⟩
      rcases hop with ⟨rfl,rfl⟩ | ⟨rfl,rfl⟩
      · exact a7x (by (clear q hf hg gd hs ht rx g2 g1 ei ek sub I; omega)) I gd rx fun s' I'=>⟨.bl _,H,I',rfl,by simpa using q _ H S (Ext.refl sub) (.bl _)⟩
      · exact a0z (by (clear q hf hg gd hs ht rx g2 g1 ei ek sub I; omega)) I gd rx fun s' I'=>⟨.bl _,H,I',rfl,by simpa using q _ H S (Ext.refl sub) (.bl _)⟩
theorem Ej (hu:X.A.units+64<cLine):OpT X (compareOp .In) inT:=Jl (.inl ⟨rfl,rfl⟩) (fun t u w h=>by
  rcases Ma h with ⟨ys,b,h1,h2,h3,rfl⟩ | ⟨kvs,q,rfl,h2,rfl⟩
  · exact ⟨_,h,b,rfl,by simp⟩
  · exact ⟨_,h,_,rfl,by simp⟩) hu
theorem Js (hu:X.A.units+64<cLine):OpT X (compareOp .NotIn) wg:=Jl (.inr ⟨rfl,rfl⟩) (fun t u w h=>by
  unfold wg at h
  split at h
  · rename_i b e
    cases h
    exact ⟨_,e,b,rfl,by simp⟩
  · cases h) hu
end
end C
end
section
namespace C
open PySem PySem.Spec PyProof.Rows L2
def a7q (K:PySem.W.Frag) (ar:Nat) (F:Fn):Sp:=fun vs H Q _=>∃ S as sto ts t sto',Same S H∧Aj K S as H sto∧jy K S as vs ts∧ts.length=ar∧F ts sto=some (t,sto') ∧
  ∀ p H' S' as',a0r ⟨S,as,H⟩ S' as' H'→Same S' H'→Aj K S' as' H' sto'→Ck K ⟨S,as,H⟩ S' as' H' p t→Q (.ref p) H'
theorem a1l {g:G} {m:M T} {s s':Sta} {fl:Flow} (h:sGo g m s=some (fl,s')):∃ t s1,m s=some (t,s1)∧g t s1=some s'∧fl=.next:=by
  unfold sGo at h
  split at h
  · rename_i t s1 e
    split at h
    · rename_i s2 e2; cases h; exact ⟨t,s1,e,e2,rfl⟩
    · cases h
  · cases h
section
variable {X:Cx} {B:Bas} {a b c e:Expr} {m m1 m2:M T} {pos p:Pos} {u v:S} {es:List Expr} {ms:M (List T)} {k n:Nat} {f:Addr} {fd:FuncData} {pn:List Str} {F:Fn} {x:Str}
theorem a6n {g:G} {s:Stmt} (h:PS X s (Yu (tOf X.K B m) (gOf X.K B g))):PS X s (sOf X.K B (sGo g m)):=h.imp fun D σ H z9=>by
  obtain ⟨st,ps,S,as,R,fl,st',e,q⟩:=z9
  obtain ⟨t,s1,e1,e2,rfl⟩:=a1l e
  exact ⟨st,ps,S,as,R,t,s1,e1,fun v H' S' as' R'=>⟨s1,ps,S',as',t,R',st',e2,fun σ' H'' S'' as'' R''=>q σ' H'' S'' as'' R''⟩⟩
end
def U4 (P:Program) (w:World) (K:PySem.W.Frag) (mg:Str→Option Value) (base:Heap) (x:Str) (k:Nat) (ps:List Str) (F:Fn):Prop :=
  ∃ f fd,ud P w K mg base CX0 k f fd ps (a7q K ps.length F)∧Binds K fd ps []∧PySem.W.keepIn K (.ref f)=true∧mg x=some (.ref f)
theorem U4.mono {P:Program} {w:World} {K:PySem.W.Frag} {mg:Str→Option Value} {base:Heap} {x:Str} {j k:Nat} {ps:List Str} {F:Fn} (d:U4 P w K mg base x j ps F) (h:j≤k):U4 P w K mg base x k ps F:=by
  obtain ⟨f,fd,h1,h2⟩:=d
  exact ⟨f,fd,h1.mono h,h2⟩
section
variable {X:Cx} {B:Bas} {a b c e:Expr} {m m1 m2:M T} {pos p:Pos} {es:List Expr} {ms:M (List T)} {n:Nat} {pn:List Str} {F:Fn} {x:Str}
end
section
variable {P:Program} {w:World} {K:PySem.W.Frag} {mg:Str→Option Value} {base:Heap}
end
end C
end
section
namespace C
open PySem PySem.Spec PyProof.Rows L2
section
variable {X:Cx} {B:Bas} {a b c e:Expr} {m m1 m2:M T} {pos p p2 pos2:Pos}
def Rg:List Nat→TGs
  | []=>a72
  | i::is=>a3r (Hv i) (Rg is)
theorem Pn {K:PySem.W.Frag} {H S:Hp} {as:List Addr} {ps:List (V × T)}:∀ (is:List Nat) {vs:List V} {xs:List T} {st:Sta} {σ:L2.St} {Q:L2.St→Hp→Prop},Rel K B st σ H ps S as→jy K S as vs xs→xs.length=is.length →
    (∀ σ',Rel K B ((is.zip xs).foldl (fun s p=>gk p.1 p.2 false s) st) σ' H ps S as→Q σ' H)→Rg is vs σ H Q
  | [],_,_,_,_,_,R,.nil,_,q=>⟨rfl,q _ R⟩
  | i::is,_,_,_,_,_,R,.cons r rs,hl,q=>⟨_,_,rfl,Pn is (R.put (i:=i) r) rs (by simpa using hl) q⟩
  | [],_,_,_,_,_,_,.cons _ _,hl,_=>by simp at hl
  | _::_,_,_,_,_,_,_,.nil,hl,_=>by simp at hl
theorem En {is:List Nat} {tg:Expr} (h:PG X tg (a77 X.K is.length (Rg is))):PG X tg (gOf X.K B (wu is)):=fun pins s σ H x u Q I r z9=>h pins s σ H x u Q I r (by
  obtain ⟨st,ps,S,as,t,R,st',e,q⟩:=z9
  have top:=R.top
  cases t with
  | tup xs =>
    cases top with
    | @tup a vs _ g1 g2 =>
      obtain ⟨hl,e⟩:=Cw e
      cases e
      exact ⟨a,vs,rfl,j5 R.sub g1,by rw [g2.length]; exact hl,Pn is R.drop g2 hl fun σ' R'=>q σ' H S as R'⟩
  | _=>exact jl e)
end
end C
namespace C
open PySem PySem.Spec PyProof.Rows L2
end C
end
section
namespace C
open PySem PySem.Spec PyProof.Rows L2
section
variable {X:Cx} {B:Bas} {a b c e lo hi:Expr} {m m1 m2 ml mh:M T} {pos p p2:Pos}
theorem Jj {K:PySem.W.Frag} {S:Hp} {as:List Addr} {x:V} {t:T} (r:Rep K S as x t):decide (x=V.non)=Bb t:=by
  cases r <;> rfl
theorem Ob {K:PySem.W.Frag} {S:Hp} {as:List Addr} {x:V} {t:T} (r:Rep K S as x t) (h:Bb t=true):x=.non:=by
  cases r <;> first | rfl | cases h
theorem Tp:OpT X (compareOp .Is) Li:=by
  intro pins s σ H x y v u Q I rx ry z8
  obtain ⟨S,as,t,t2,w,sub,ht,hu2,hf,q⟩:=z8
  unfold Li at hf
  split at hf
  · rename_i hn; cases hf
    exact a2f pins s σ H x y v u Q I rx ry ⟨Ob hu2 hn,by rw [Jj ht]; exact q _ H S (Ext.refl sub) (.bl _)⟩
  · cases hf
theorem Jr:OpT X (compareOp .IsNot) Bg:=by
  intro pins s σ H x y v u Q I rx ry z8
  obtain ⟨S,as,t,t2,w,sub,ht,hu2,hf,q⟩:=z8
  unfold Bg at hf
  split at hf
  · rename_i hn; cases hf
    exact a04 pins s σ H x y v u Q I rx ry ⟨Ob hu2 hn,by rw [Jj ht]; exact q _ H S (Ext.refl sub) (.bl _)⟩
  · cases hf
theorem jy.take {K:PySem.W.Frag} {S:Hp} {as:List Addr}:∀ (n:Nat) {vs:List V} {ts:List T},jy K S as vs ts→jy K S as (vs.take n) (ts.take n)
  | 0,_,_,_=>.nil
  | _+1,_,_,.nil=>.nil
  | n+1,_,_,.cons h r=>.cons h (jy.take n r)
end
end C
end
section
namespace C
open PySem PySem.Spec PyProof.Rows L2
theorem Qq {o k:M T} {s s':Sta} {t:T} (h:qw o k s=some (t,s')):∃ n s1 i xs j,o s=some (.obj n,s1)∧k s1=some (.int i,s')∧s'.sto[n]? = some (.lst xs)∧ixI xs.length i=some j∧xs[j]? = some t:=by
  unfold qw at h
  split at h
  · rename_i n s1 e1
    split at h
    · rename_i i s2 e2
      split at h
      · rename_i xs e3
        split at h
        · rename_i t' e4
          cases h
          obtain ⟨j,e5,e6⟩:=Option.bind_eq_some_iff.mp e4
          exact ⟨n,s1,i,xs,j,e1,e2,e3,e5,e6⟩
        · cases h
      · cases h
    · cases h
  · cases h
theorem N7 {o:M T} {s s':Sta} {t:T} (h:yu o s=some (t,s')):∃ n xs,o s=some (.obj n,s')∧s'.sto[n]? = some (.lst xs)∧t=.int xs.length:=by
  unfold yu at h
  split at h
  · rename_i n s1 e1
    split at h
    · rename_i xs e3; cases h; exact ⟨n,xs,e1,e3,rfl⟩
    · cases h
  · cases h
theorem Nj {a:M (List T)} {s s':Sta} {t:T} (h:zc a s=some (t,s')):∃ ts s1,a s=some (ts,s1)∧t=.obj s1.sto.length∧s' = { s1 with sto:=s1.sto++[.lst ts] }:=by
  unfold zc at h
  split at h
  · rename_i ts s1 e1; cases h; exact ⟨ts,s1,e1,rfl,rfl⟩
  · cases h
theorem Qo {o k v:M T} {s s':Sta} {fl:Flow} (h:Ag o k v s=some (fl,s')) :
    ∃ t s1 n s2 i s3 xs j,v s=some (t,s1)∧o s1=some (.obj n,s2)∧k s2=some (.int i,s3)∧s3.sto[n]? = some (.lst xs)∧ixI xs.length i=some j∧fl=.next∧s' = { s3 with sto:=s3.sto.set n (.lst (xs.set j t)) }:=by
  unfold Ag at h
  split at h
  · rename_i t s1 e
    split at h
    · rename_i n s2 eo
      split at h
      · rename_i i s3 ek
        split at h
        · rename_i xs ex
          split at h
          · rename_i j ej; cases h; exact ⟨t,s1,n,s2,i,s3,xs,j,e,eo,ek,ex,ej,rfl,rfl⟩
          · cases h
        · cases h
      · cases h
    · cases h
  · cases h
theorem Ms {i:Nat} {v:M T} {s s':Sta} {fl:Flow} (h:Fj i v s=some (fl,s')) :
    ∃ n ys t s1 xs,s.env[i]? = some (some (.obj n,false))∧s.sto[n]? = some (.lst ys)∧v s=some (t,s1)∧s1.sto[n]? = some (.lst xs)∧xs.length<lim∧fl=.next∧s' = { s1 with sto:=s1.sto.set n (.lst (xs++[t])) }:=by
  unfold Fj at h
  split at h
  · rename_i n e
    split at h
    · rename_i ys ey
      split at h
      · rename_i t s1 ev'
        split at h
        · rename_i xs ex
          split at h
          · rename_i hl; cases h; exact ⟨n,ys,t,s1,xs,e,ey,ev',ex,hl,rfl,rfl⟩
          · cases h
        · cases h
      · cases h
    · cases h
  · cases h
theorem jy.set {K:PySem.W.Frag} {S:Hp} {as:List Addr} {v:V} {t:T} (h:Rep K S as v t):∀ {vs:List V} {ts:List T} (j:Nat),jy K S as vs ts→jy K S as (vs.set j v) (ts.set j t)
  | _,_,_,.nil=>.nil
  | _,_,0,.cons _ r=>.cons h r
  | _,_,j+1,.cons q r=>.cons q (jy.set h j r)
section
variable {X:Cx} {B:Bas} {a b c e o k:Expr} {m mo mk mv:M T} {pos p:Pos}
theorem su (ho:PE X o (tOf X.K B mo)) (hk:PE X k (tOf X.K B mk)) (hs:Ir k):PE X (.Subscript o k pos) (tOf X.K B (qw mo mk)):=(a0f Mh ho hk hs).imp fun σ H Q z9=>by
  obtain ⟨st,ps,S,as,R,t,st',e,q⟩:=z9
  obtain ⟨n,s1,i,xs,j,e1,e2,e3,e4,e5⟩:=Qq e
  refine ⟨st,ps,S,as,R,_,s1,e1,fun v H1 S1 as1 R1=>⟨s1,_,S1,as1,R1,_,st',e2,fun u H2 S2 as2 R2=>?_⟩⟩
  have t2:=R2.top2
  cases R2.top
  cases t2 with
  | @obj _ a ha =>
    obtain ⟨a',h1,h2,vs,h3,h4⟩:=R2.sto.at' n _ e3
    rw [ha] at h1; cases h1
    obtain ⟨z,hz,rz⟩:=h4.get e5
    refine ⟨a,vs,i,z,rfl,rfl,SqL.of h3,?_,q z H2 S2 as2 (R2.drop.drop.push rz)⟩
    rw [Ge,← h4.length] at e4
    unfold atI; rw [e4]; exact hz
theorem V4 (hg:Gl X "len") (hm:X.mg "len" = none) (ho:PE X o (tOf X.K B mo)) (he:starEach [o] X.env=(false,eval o X.env)::starEach [] X.env:=by rfl) (hpl:(backTo pos (starEach [] X.env)).any (·.1)=false:=by rfl) :
    PE X (.Call (.Name "len" p) [o] [] pos) (tOf X.K B (yu mo)):=(qb um hg hm PySem.boot_len (jj ho qg he) (by decide) (by decide) he hpl).imp fun σ H Q z9=>by
  obtain ⟨st,ps,S,as,R,t,st',e,q⟩:=z9
  obtain ⟨n,xs,e1,e2,rfl⟩:=N7 e
  refine ⟨st,ps,S,as,R,_,st',e1,fun v H1 S1 as1 R1=>?_⟩
  have t1:=R1.top
  cases t1 with
  | @obj _ a ha =>
    obtain ⟨a',h1,h2,vs,h3,h4⟩:=R1.sto.at' n _ e2
    rw [ha] at h1; cases h1
    exact ⟨a,vs,rfl,.inl (SqL.of h3),by rw [h4.length]; exact q _ H1 S1 as1 (R1.drop.push (.int _))⟩
theorem Jz {es:List Expr} {ms:M (List T)} (h:PA X es (aOf X.K B ms)) (hm:∀ st ts st',ms st=some (ts,st')→ts.length≤1000):PE X (.List es pos) (tOf X.K B (zc ms)) :=
  (Vq h).imp fun σ H Q z9=>by
    obtain ⟨st,ps,S,as,R,t,st',e,q⟩:=z9
    obtain ⟨ts,s1,e1,rfl,rfl⟩:=Nj e
    refine ⟨st,ps,S,as,R,ts,s1,e1,fun vs H1 S1 as1 R1 rs=>⟨?_,fun p hp=>?_⟩⟩
    · rw [rs.length]; exact Nat.le_of_lt (yt (hm _ _ _ e1))
    · exact q _ _ _ _ (R1.newObj hp ⟨vs,cj,rs.mono (Same.refl _) ⟨[p],rfl⟩⟩)
theorem Dq {st:Stmt} (h:PS X st (Yu (tOf X.K B mv) (a78 (tOf X.K B mo) (tOf X.K B mk) a2q))):PS X st (sOf X.K B (Ag mo mk mv)):=h.imp fun D σ H z9=>by
  obtain ⟨st,ps,S,as,R,fl,st',e,q⟩:=z9
  obtain ⟨t,s1,n,s2,i,s3,xs,j,e1,e2,e3,e4,e5,rfl,rfl⟩:=Qo e
  refine ⟨st,ps,S,as,R,t,s1,e1,fun v H1 S1 as1 R1=>⟨s1,_,S1,as1,R1,_,s2,e2,fun x H2 S2 as2 R2=>⟨s2,_,S2,as2,R2,_,s3,e3,fun y H3 S3 as3 R3=>?_⟩⟩⟩
  have t2:=R3.top2
  cases R3.top
  cases t2 with
  | @obj _ a ha =>
    obtain ⟨a',h1,h2,vs,h3,h4⟩:=R3.sto.at' n _ e4
    rw [ha] at h1; cases h1
    have tv:Rep X.K S3 as3 v t:=R3.pend _ (List.mem_cons_of_mem _ (List.mem_cons_of_mem _ List.mem_cons_self))
    rw [Ge,← h4.length] at e5
    exact ⟨a,vs,i,j,rfl,rfl,h3,e5,q _ _ S3 as3 (R3.drop.drop.drop.Ru e4 ha ⟨_,cj,jy.set tv j h4⟩)⟩
theorem W5 (i:Nat) {st:Stmt} (h:PS X st (Xl (tBM X.K "list" Mr (J8 i) (G3 (tOf X.K B mv) Yy)))):PS X st (sOf X.K B (Fj i mv)):=h.imp fun D σ H z9=>by
  obtain ⟨st,ps,S,as,R,fl,st',e,q⟩:=z9
  obtain ⟨n,ys,t,s1,xs,e0,ey,e1,e2,hl,rfl,rfl⟩:=Ms e
  obtain ⟨w,h1,h2,_⟩:=R.slots i _ false e0
  have r0:=h2 rfl
  cases r0 with
  | @obj _ a ha =>
    obtain ⟨a0,l0,_,vs0,l1,_⟩:=R.sto.at' n _ ey
    rw [ha] at l0; cases l0
    refine ⟨_,h1,.inl ⟨rfl,_,SqL.of l1⟩,st,(.ref a,.obj n)::ps,S,as,R.push (h2 rfl),t,s1,e1,fun v H1 S1 as1 R1=>?_⟩
    have t2:=R1.top2
    cases t2 with
    | @obj _ a2 ha2 =>
      obtain ⟨a',k1,k2,vs,k3,k4⟩:=R1.sto.at' n _ e2
      rw [ha2] at k1; cases k1
      exact ⟨a,vs,v,rfl,rfl,k3,by rw [k4.length]; exact Nat.lt_of_lt_of_le hl jx,q _ _ S1 as1 (R1.drop.drop.Ru e2 ha2 ⟨_,cj,k4.append (.cons R1.top .nil)⟩)⟩
end
end C
end
section
namespace C
open PySem PySem.Spec PyProof.Rows L2
section
variable {X:Cx} {B:Bas} {pins:List (Addr × Obj)} {σ:L2.St} {H S:Hp} {s:Shared} {as:List Addr} {Q:VK}
theorem gather {R:List Value→Shared→Prop} {A:Around} {E:Value→Shared→Prop} {T:String} {r d:Addr} {n:Nat} {P:Nat→Value→Prop} {OK:Heap→Prop} (KS:PySem.W.KdlSrc X.prog X.w T r d n P OK) (nh:A.handled=none) (ok0:OK s.heap) (sz:n≤sizeLine)
    (k:∀ (h1:Heap) (tk:Nat) (got:Array Value),s.heap.objs.size<h1.objs.size→(∀ b o,s.heap.get? b=some o→h1.get? b=some o)→ItemsOf P got n→R got.toList { s with heap:=h1,toks:=tk }) :
    wpAny (model X.prog X.w) A (collect (.ref r)) R E s:=by
  have lt0:=KS.there _ ok0
  unfold collect
  refine wpAny_bind (wpAny_runValue
    (codeAny_builtin entry_proto_collect' ?_))
  rw [Around.under_plainId
    PySem.F.plain_proto_collect _]
  show wpAny _ A.in1 (newList [] >>= fun z=>again (.builtin "list.__iadd__" ⟨[z,.ref r],[]⟩)) _ _ s
  refine wpAny_bind (wpAny_newObj_type (wpAny_pure ⟨plainId_quiet PySem.F.plain_list_iadd _,codeAny_builtin entry_list_iadd' ?_⟩))
  rw [Around.under_plainId
    PySem.F.plain_list_iadd _]
  change wpAny _ A.in1 (Builtin.List.listExtendWith (.ref s.heap.objs.size) (.ref r) (.ref s.heap.objs.size)) _ _ _
  have new0:(s.heap.push { cls:=.type "list",data:=.seq ([]:List Value).toArray }).get? s.heap.objs.size=some { cls:=.type "list",data:=.seq #[] }:=Heap.get?_push_size _ rfl
  have walk:=PySem.W.kdl_extend (A:=A) (s:={ s with heap:=s.heap.push { cls:=.type "list",data:=.seq ([]:List Value).toArray } })
    (R:=fun (f:Result) (s1:Shared)=>∃ (h1:Heap) (tk:Nat) (got:Array Value) (c1:Nat),f=.ok (.ret (.ref s.heap.objs.size))∧s1 = { s with heap:=h1,toks:=tk }∧(∀ b o,s.heap.get? b=some o→h1.get? b=some o) ∧
      h1.get? s.heap.objs.size=some { cls:=.type "list",dict:=none,data:=.seq got c1,slots:=#[] }∧ItemsOf P got n)
    KS nh (KS.keep _ _ ok0 fun b _ o e=>Heap.get?_push_of_some _ e) s.heap.objs.size (Nat.ne_of_gt lt0.1) (Nat.ne_of_gt lt0.2) (.ref s.heap.objs.size) 0 new0
    (fun h1 tk got c1 old at1 its=>⟨h1,tk,got,c1,rfl,rfl,fun b o e=>old b o (Nat.ne_of_lt (Heap.lt_size e)) (Heap.get?_push_of_some _ e),at1,its⟩) sz
  have last:∀ (h1:Heap) (tk:Nat) (got:Array Value) (c1:Nat),(∀ b o,s.heap.get? b=some o→h1.get? b=some o)→h1.get? s.heap.objs.size=some { cls:=.type "list",dict:=none,data:=.seq got c1,slots:=#[] }→ItemsOf P got n →
      wpAny (model X.prog X.w) A (load s.heap.objs.size >>= fun o=>match o.data with | .seq xs _=>pure xs.toList | _=>unsupported "internal:collect") R E { s with heap:=h1,toks:=tk } :=
    fun h1 tk got c1 old at1 its=>wpAny_bind (wpAny_load at1 (wpAny_pure (k h1 tk got (Heap.lt_size at1) old its)))
  refine wpAny_mono walk (fun fin s1 x=>?_) fun e s1 x=>?_
  · cases fin with
    | done f =>
      obtain ⟨h1,tk,got,c1,ef,rfl,old,at1,its⟩:=x
      cases ef
      exact last h1 tk got c1 old at1 its
    | again c =>
      refine ⟨x.1,codeAny_mono x.2 fun f s2 y=>?_⟩
      obtain ⟨h1,tk,got,c1,rfl,rfl,old,at1,its⟩:=y
      exact last h1 tk got c1 old at1 its
  · obtain ⟨_,_,_,_,ef,_⟩:=x
    cases ef
theorem Tw {T:String} {r d:Addr} {n:Nat} {P:Nat→Value→Prop} {OK:Heap→Prop} {l:List Str} (KS:PySem.W.KdlSrc X.prog X.w T r d n P OK) (hc:X.calm=true) (I:L2.Inv X pins σ H s) (sub:Same S H) (hok:OK s.heap) (h64:n<64)
    (hi:∀ vs:List Value,vs.length=n→(∀ (j:Nat) (v:Value),vs[j]? = some v→P j v)→∃ l',StrsAre vs l'∧l'.Perm l)
    (q:∀ v H' S',Ext S H S' H'→Rep X.K S' as v (.lst ((uf l).map .str))→Q v H'):wpAny (model X.prog X.w) X.A (call (.builtin "sorted") [.ref r]) (EP X pins σ Q) X.xe s:=by
  have hn:n≤sizeLine:=Nat.le_trans (Nat.le_of_lt h64) (by rw [sizeLine_eq]; decide)
  refine Calls.call_function_entry kind_sorted plain_sorted
    entry_sorted (args_sorted1 _) ?_
  unfold Builtin.«sorted»
  refine wpAny_bind (m:=checkCount "sorted" 1 1 _) (wpAny_pure (wpAny_bind ?_))
  refine (gather (A:=X.A.in1) KS (show X.A.in1.handled=none from I.ok.hd hc) hok hn fun h' tk acc hlt hk hacc=>?_)
  have hl:acc.toList.length=n:=Array.length_toList.trans hacc.1
  obtain ⟨l',hS,hp⟩:=hi acc.toList hl fun j v e=>hacc.2 j v (by rw [← Array.getElem?_toList]; exact e)
  refine wpAny_bind (wpAny_newList ?_ (hl ▸ hn))
  have hoL:(h'.push (seqObj "list" acc.toList.toArray 0)).get? h'.objs.size=some (seqObj "list" acc.toList.toArray 0):=Heap.get?_push_size _ rfl
  refine wpAny_bind (wpAny_holding (wpAny_call_entry slot_list_sort ⟨_,hoL,rfl⟩ entry_list_sort (list_sort_treeK strKind_oneLt hoL hS.keysOf (fun v₁ v₂ rest e=>keyKind_strs (by rw [← e]; exact hS)) (by rw [hl]; exact h64) fun st' a1 a2=>⟨_,rfl,?_⟩) (args_list_sort _)))
  refine wpAny_pure ⟨_,rfl,(?_:EP X pins σ Q _ _)⟩
  obtain ⟨ss',b1,b2,b3⟩:=sorted_out_str hS a1 a2
  have es:=O9 b3 (b2.trans hp)
  subst es
  have hle:=Nat.le_of_lt hlt
  obtain ⟨e,he⟩:=sortedHeap_at (out:=(arrOf st').map (·.2)) hoL
  have hsz:(List.map V.str (uf l)).length≤sizeLine:=by
    rw [List.length_map,(Cd l).length_eq,← hp.length_eq,← hS.length,hl]
    exact hn
  have hnn:H h'.objs.size=none:=I.hok.fresh hle
  have x:=Ext.laid sub hnn (.lst ((uf l).map V.str))
  refine ⟨.ref h'.objs.size,_,I.laid (a:=h'.objs.size) (o:=.lst ((uf l).map V.str)) (t':=tk) (fun b u eb=>?_) hle ⟨hsz,_,e,Ja b1,he⟩,rfl,q _ _ _ x (.lst (SqL.of cj) (Bc _))⟩
  have hb:=Heap.lt_size (hk _ _ eb)
  rw [sortedHeap_old (Nat.ne_of_lt hb) (by rw [Heap.size_push]; exact Nat.lt_succ_of_lt hb)]
  exact Heap.get?_push_of_some _ (hk _ _ eb)
theorem Jb:∀ {kvs:List (L2.Key × V)} {ts:List (L2.Key × T)} {l:List Str},kvs.map (·.1)=ts.map (·.1)→Fp (ts.map fun p=>Y0 p.1)=some l→kvs.map (·.1)=l.map Sum.inr
  | [],[],l,_,h=>by simp only [List.map_nil,Fp] at h; cases h; rfl
  | (k,v)::kvs,(k2,t)::ts,l,e,h=>by
    simp only [List.map_cons,List.cons.injEq] at e
    obtain ⟨e1,e2⟩:=e
    subst e1
    cases k with
    | inl i=>simp only [List.map_cons,Y0,Fp,reduceCtorEq] at h
    | inr x =>
      simp only [List.map_cons,Y0,Fp] at h
      obtain ⟨l',h1,h2⟩:=Option.map_eq_some_iff.mp h
      subst h2
      rw [List.map_cons,List.map_cons,Jb e2 h1]
theorem xg.keys {K:PySem.W.Frag} {S:Hp} {as:List Addr}:∀ {kvs:List (L2.Key × V)} {ts:List (L2.Key × T)},xg K S as kvs ts→kvs.map (·.1)=ts.map (·.1)
  | _,_,.nil=>rfl
  | _,_,.cons h q=>by rw [List.map_cons,List.map_cons,xg.keys q]
theorem Dg {prog:Program} {w:World}:∀ {vs:List (L2.Key × Value)} {us:List Value} {l:List Str},vs.map (·.1)=l.map Sum.inr→us.length=vs.length→(∀ (j:Nat) (v:Value),us[j]? = some v→∃ k x,vs[j]? = some (k,x)∧(jd prog w).is k v=true)→StrsAre us l
  | [],us,l,e,hl,h=>by
    cases us with
    | cons _ _=>simp at hl
    | nil=>cases l with
      | nil=>exact .nil
      | cons _ _=>simp at e
  | (k,x)::vs,us,l,e,hl,h=>by
    cases us with
    | nil=>simp at hl
    | cons u us =>
      cases l with
      | nil=>simp at e
      | cons y l =>
        simp only [List.map_cons,List.cons.injEq] at e
        obtain ⟨e1,e2⟩:=e
        subst e1
        obtain ⟨k',x',h1,h2⟩:=h 0 u rfl
        simp only [List.getElem?_cons_zero,Option.some.injEq,Prod.mk.injEq] at h1
        obtain ⟨rfl,rfl⟩:=h1
        rw [Pr] at h2
        have hu:∃ t,u=.str y t:=by
          rcases jm h2 with ⟨i,t,e',_⟩ | ⟨z,t,e',hz⟩
          · cases e'
          · cases e'; exact ⟨t,hz⟩
        obtain ⟨t,rfl⟩:=hu
        exact .cons y t (Dg e2 (by simpa using hl) fun j v ev=>by simpa using h (j+1) v (by simpa using ev))
theorem Dh (hc:X.calm=true):Vy X (.builtin "sorted") yr:=by
  intro pins s σ H xs us Q I rs z8
  obtain ⟨S,as,ts,w,sub,hr,hf,q⟩:=z8
  cases hr with
  | nil=>exact jl hf
  | @cons x t xs' ts' h1 h2 =>
    cases h2 with
    | cons h3 h4=>cases h1 <;> exact jl hf
    | nil =>
      cases h1 with
      | @lst a vs ts g1 g2 =>
        obtain ⟨h64,hf⟩:=Cw hf
        obtain ⟨l,e1,e2⟩:=Option.map_eq_some_iff.mp hf
        subst e2
        exact Im pins s σ H _ us Q I rs ⟨S,as,ts,l,sub,.cons (.lst g1 g2) .nil,h64,e1,q⟩
      | @dic a kvs ts g1 g2 =>
        obtain ⟨h64,hf⟩:=Cw hf
        obtain ⟨l,e1,e2⟩:=Option.map_eq_some_iff.mp hf
        subst e2
        obtain ⟨u,rfl,ru⟩:=rs.one
        cases ru
        obtain ⟨z,hd,vs,rel,dd⟩:=Fy I.hok (o9 sub g1)
        obtain ⟨ep,hat⟩:=dd.dictAt
        have hlen:vs.length=ts.length:=by rw [← rel.length]; exact g2.length
        have hk:=Jb g2.keys e1
        rw [KV.keys rel] at hk
        exact Tw (PySem.W.kdl_dict (knd:=jd X.prog X.w) (kvs:=vs) (ep:=ep) hd) hc I sub hat (by rw [hlen]; exact h64) (fun us hl hp=>⟨l,Dg hk hl hp,.refl _⟩) q
      | _=>exact jl hf
end
end C
end
section
namespace C
open PySem PySem.Spec PyProof.Rows L2
section
variable {prog:Program} {w:World} {A:Around} {E:Value→Shared→Prop} {s:Shared}
end
end C
end
section
namespace C
open PySem PySem.Spec PyProof.Rows L2
section
variable {prog:Program} {w:World} {A:Around} {R:Result→Shared→Prop} {I:Addr} {fp wr:List Addr} {G:Array GenState→Array GenState→Prop} {n:Nat} {P:Nat→Value→Prop} {St:Nat→Shared→Prop} {κ:Type} [DecidableEq κ] {knd:PySem.KeyKind prog w κ}
end
end C
end
section
namespace C
open PySem PySem.Spec PyProof.Rows L2
section
variable {prog:Program} {w:World} {A:Around} {E:Value→Shared→Prop} {s:Shared} {κ:Type} [DecidableEq κ] {knd:PySem.KeyKind prog w κ}
def told (key:Nat→κ) (val:Nat→Value):Nat→List (κ × Value)
  | 0=>[]
  | i+1=>stored (told key val i) (key i) (val i)
end
end C
end
section
namespace C
open PySem PySem.Spec PyProof.Rows L2
section
variable {X:Cx} {pins:List (Addr × Obj)} {σ:L2.St} {H S:Hp} {s:Shared} {as:List Addr}
inductive Av (h:Heap) (prog:Program) (w:World):List Value→List L2.Key→List Value→Prop where
  | nil:Av h prog w [] [] []
  | cons {t:Addr} {kx wv:Value} {o:Obj} {n:Nat} {q:L2.Key} {us:List Value} {qs:List L2.Key} {ws:List Value}:h.get? t=some o→o.cls=.type "tuple" → o.data=.seq #[kx,wv] n→(jd prog w).is q kx=true →
      Av h prog w us qs ws→Av h prog w (.ref t::us) (q::qs) (wv::ws)
theorem Av.get {h:Heap} {prog:Program} {w:World}:∀ {us:List Value} {qs:List L2.Key} {ws:List Value},Av h prog w us qs ws→∀ (i:Nat) (v:Value),us[i]? = some v→∃ t kx o n,v=.ref t∧h.get? t=some o∧o.cls=.type "tuple" ∧ o.data=.seq #[kx,ws.getD i .none] n∧(jd prog w).is (qs.getD i (.inl 0)) kx=true
  := by
  intro us qs ws h
  induction h with
  | nil=>intro i v e; simp at e -- here
  | cons h1 h2 h3 h4 r ih =>
    intro i v e
    cases i with
    | zero=>simp at e; subst e; exact ⟨_,_,_,_,rfl,h1,h2,h3,h4⟩
    | succ i=>simpa using ih i v (by simpa using e) -- here
theorem Av.len {h:Heap} {prog:Program} {w:World}:∀ {us:List Value} {qs:List L2.Key} {ws:List Value},Av h prog w us qs ws→us.length=qs.length∧us.length=ws.length:=by
  intro us qs ws h
  induction h with
  | nil=>exact ⟨rfl,rfl⟩
  | cons _ _ _ _ _ ih=>exact ⟨congrArg (· + 1) ih.1,congrArg (· + 1) ih.2⟩
end
section
variable {X:Cx} {B:Bas} {a:Expr} {m:M T} {pos p:Pos}
end
end C
end
section
namespace C
open PySem PySem.Spec PyProof.Rows L2
theorem m6.zero {P:Program} {w:World} {K:PySem.W.Frag} {mg:Str→Option Value} {base:Heap} {x qual:Str} {st:Stmt} {f:Addr} {fd:FuncData} {ps:List Str} {k:Nat} (F:Fun K x qual st f fd) (h:mg x=some (.ref f)) (b:Binds K fd ps []):m6 P w K mg base x k ps (fun _ _=>none):=by
  have no:∀ vs H Q E,¬ spF K ps.length (fun _ _=>none) vs H Q E:=fun vs H Q E z=>by
    obtain ⟨S,as,sto,ts,t,sto',_,_,_,_,e,_⟩:=z
    cases e
  exact ⟨f,fd,⟨fun vs H Q E z=>absurd z (no vs H Q E),fun A outer s H args us vs Q E _ _ _ _ z=>absurd z (no vs H Q E)⟩,b,F.kp,h⟩
end C
end
section
namespace C
open PySem
def qy:Nat→M Bool→S→S
  | 0,_,_=>fun _=>none
  | n+1,c,b=>fun s=>match c s with
    | some (false,s1)=>some (.next,s1)
    | some (true,s1)=>match b s1 with
      | some (.next,s2)=>qy n c b s2
      | some (.cont,s2)=>qy n c b s2
      | some (.brk,s2)=>some (.next,s2)
      | some (.ret v,s2)=>some (.ret v,s2)
      | none=>none
    | none=>none
def a69:List T→Option T
  | [.int i]=>some (.int i)
  | [.bl k]=>some (.int (if k then 1 else 0))
  | _=>none
end C
end
section
namespace C
open PySem PySem.Spec PyProof.Rows L2
theorem R9 {n:Nat} {c:M Bool} {b:S} {s s':Sta} {fl:Flow} (h:qy (n+1) c b s=some (fl,s')):(∃ s1,c s=some (false,s1)∧fl=.next∧s'=s1) ∨
    ∃ s1 fb s2,c s=some (true,s1)∧b s1=some (fb,s2)∧(match fb with | .next=>qy n c b s2=some (fl,s') | .cont=>qy n c b s2=some (fl,s') | .brk=>fl=.next∧s'=s2 | .ret v=>fl=.ret v∧s'=s2):=by
  rw [qy] at h
  dsimp only at h
  split at h
  · rename_i s1 e1; cases h; exact .inl ⟨_,e1,rfl,rfl⟩
  · rename_i s1 e1
    split at h
    · rename_i s2 e2; exact .inr ⟨s1,.next,s2,e1,e2,h⟩
    · rename_i s2 e2; exact .inr ⟨s1,.cont,s2,e1,e2,h⟩
    · rename_i s2 e2; cases h; exact .inr ⟨s1,.brk,_,e1,e2,rfl,rfl⟩
    · rename_i v s2 e2; cases h; exact .inr ⟨s1,.ret v,_,e1,e2,rfl,rfl⟩
    · cases h
  · cases h
section
variable {X:Cx} {B:Bas} {c e:Expr} {m:M T} {pos p:Pos} {u:S} {body:List Stmt}
theorem Y6 (n:Nat) {mc:M Bool} (hp:PassesOwn (model X.prog X.w) X.A X.env X.xe) (hc:PT X c (cOf X.K B mc)) (hb:PSs X body (sOf X.K B u)):PS X (.While c body [] pos) (sOf X.K B (qy n mc u)):=(P0 hp hc hb).imp fun D σ H z9=>by
  obtain ⟨st,ps,S,as,R,fl,st',e,q⟩:=z9
  refine ⟨fun k σ H=>∃ sti Si asi,Rel X.K B sti σ H ps Si asi∧qy k mc u sti=some (fl,st'),⟨n,st,S,as,R,e⟩,?_⟩
  rintro k σ2 H2 ⟨sti,Si,asi,Ri,ei⟩
  cases k with
  | zero=>rw [qy] at ei; cases ei
  | succ k =>
    rcases R9 ei with ⟨s1,e1,rfl,rfl⟩ | ⟨s1,fb,s2,e1,e2,er⟩
    · exact ⟨sti,ps,Si,asi,Ri,false,_,e1,fun H3 S3 as3 R3=>Yw (q σ2 H3 S3 as3 R3)⟩
    · refine ⟨sti,ps,Si,asi,Ri,true,s1,e1,fun H3 S3 as3 R3=>Z7 ⟨fun σ' H'=>∃ sti Si asi,Rel X.K B sti σ' H' ps Si asi∧qy k mc u sti=some (fl,st'),fun σ' H' h=>⟨k,Nat.lt_succ_self _,h⟩,s1,ps,S3,as3,R3,fb,s2,e2,?_⟩⟩
      cases fb with
      | next=>exact fun σ' H' S' as' R'=>⟨s2,S',as',R',er⟩
      | cont=>exact fun σ' H' S' as' R'=>⟨s2,S',as',R',er⟩
      | brk =>
        obtain ⟨rfl,rfl⟩:=er
        exact fun σ' H' S' as' R'=>q σ' H' S' as' R'
      | ret v =>
        obtain ⟨rfl,rfl⟩:=er
        exact fun v σ' H' S' as' R'=>q v σ' H' S' as' R'
theorem T3:Vy X (.type "int") a69:=by
  intro pins s σ H xs us Q I rs z8
  obtain ⟨S,as,ts,w,sub,hr,hf,q⟩:=z8
  cases hr with
  | nil=>exact jl hf
  | @cons x t xs' ts' h1 h2 =>
    cases h2 with
    | cons h3 h4=>cases h1 <;> exact jl hf
    | nil =>
      cases h1 <;> first | exact jl hf | skip
      · cases hf
        exact Ka pins s σ H _ us Q I rs (.inr ⟨_,rfl,q _ H S (Ext.refl sub) (.int _)⟩)
      · cases hf
        exact Ka pins s σ H _ us Q I rs (.inl ⟨_,rfl,q _ H S (Ext.refl sub) (.int _)⟩)
end
end C
end
section
namespace C
open PySem PySem.Spec PyProof.Rows L2
section
variable {X:Cx} {B:Bas} {e st:Expr} {te:TE} {m:M T} {pos p2 p3 p4:Pos} {j:Nat}
theorem a1q (hg:Gl X "list") (hm:X.mg "list" = none) (ha:PE X e (tOf X.K B m)) (he:starEach [e] X.env=(false,eval e X.env)::starEach [] X.env:=by rfl) (hpl:(backTo pos (starEach [] X.env)).any (·.1)=false:=by rfl) :
    PE X (.Call (.Name "list" p3) [e] [] pos) (fOf X.K B (gw uz (aq m fj))):=by
  refine (m9 yx hg hm PyProof.Rows.boot_list (jj ha qg he) (by decide) (by decide) he hpl).imp fun σ H Q z0=>?_
  obtain ⟨st,ps,S,as,R,t,st',e,q⟩:=z0
  obtain ⟨ts,e1,e2⟩:=vm e
  obtain ⟨t1,s1,us,ea,en,rfl⟩:=u5 e1
  cases en
  refine ⟨st,ps,S,as,R,t1,_,ea,fun v H1 S1 as1 R1=>?_⟩
  have top:=R1.top
  cases top with
  | @lst a vs ts g1 g2 =>
    simp only [uz] at e2; cases e2
    refine ⟨a,vs,rfl,.inl (gn R1.sub g1),fun p hp=>?_⟩
    obtain ⟨bD,sD,nD,no⟩:=R1.fresh hp
    exact q p _ S1 as1 (R1.drop.Zd bD sD nD (fun j w e1 e2=>no j w e1 e2)) ⟨⟨vs,cj,g2⟩,sD,nD,bD⟩ (fun j w e1 e2=>no j w e1 e2)
  | @tup a vs ts g1 g2 =>
    simp only [uz] at e2; cases e2
    refine ⟨a,vs,rfl,.inr (j5 R1.sub g1),fun p hp=>?_⟩
    obtain ⟨bD,sD,nD,no⟩:=R1.fresh hp
    exact q p _ S1 as1 (R1.drop.Zd bD sD nD (fun j w e1 e2=>no j w e1 e2)) ⟨⟨vs,cj,g2⟩,sD,nD,bD⟩ (fun j w e1 e2=>no j w e1 e2)
  | _=>simp only [uz,reduceCtorEq] at e2
end
end C
end
section
namespace C
open PySem PySem.Spec PyProof.Rows L2
section
variable {X:Cx} {B:Bas} {a:Expr} {m:M T} {pos p:Pos}
end
end C
end
section
namespace C
open PySem
def sIx (n d:Nat):Option Int→Nat
  | none=>d
  | some v=>if v<0 then (v+(n:Int)).toNat else min v.toNat n
def a4z (xs:List T) (lo hi:Option Int):List T:=(xs.drop (sIx xs.length 0 lo)).take (sIx xs.length xs.length hi - sIx xs.length 0 lo)
def a1t (lo hi:Option Int):T→Option T
  | .lst xs=>some (.lst (a4z xs lo hi))
  | .tup xs=>if sIx xs.length 0 lo=0∧sIx xs.length xs.length hi=xs.length then none else some (.tup (a4z xs lo hi))
  | _=>none
def Nh (e:M T):M (Option Int):=fun s=>match e s with
  | some (.int i,s1)=>some (some i,s1)
  | _=>none
def Gu (m:M T) (lo hi:M (Option Int)):M T:=fun s=>match m s with
  | some (t,s1)=>match lo s1 with
    | some (l,s2)=>match hi s2 with
      | some (h,s3)=>match a1t l h t with
        | some u=>some (u,s3)
        | none=>none
      | none=>none
    | none=>none
  | none=>none
def uh (i:Nat) (k:M T):M T:=fun s=>if Eu i s then (match k s with
  | some (.int j,s1)=>match s1.env[i]? with
    | some (some (.lst xs,_))=>match (ixI xs.length j).bind (xs[·]?) with
      | some t=>some (t,s1)
      | none=>none
    | _=>none
  | _=>none) else none
end C
end
section
namespace C
open PySem PySem.Sem
def Zz:Bool→Heap→Addr→Addr→Nat→Prop
  | true,h,it,a,i=>h.IsListIter it a i
  | false,h,it,a,i=>h.IsTupleIter it a i
def a0k:Bool→Heap→Addr→Array Value→Prop
  | true,h,a,xs=>h.IsList a xs
  | false,h,a,xs=>h.IsTuple a xs
theorem Zz.to {k:Bool} {h h':Heap} {it a:Addr} {i:Nat} (x:Zz k h it a i) (e:∀ o,h.get? it=some o→h'.get? it=some o):Zz k h' it a i:=by
  cases k <;> obtain ⟨o,ho,r⟩:=x <;> exact ⟨o,e o ho,r⟩
theorem Zz.obj {k:Bool} {h:Heap} {it a:Addr} {i:Nat} (x:Zz k h it a i):∃ o,h.get? it=some o∧∀ v,o.data≠.cell v:=by
  cases k <;> obtain ⟨o,ho,_,d⟩:=x <;> exact ⟨o,ho,fun v z=>by rw [d] at z; cases z⟩
theorem a0k.to {k:Bool} {h h':Heap} {a:Addr} {xs:Array Value} (x:a0k k h a xs) (e:∀ o,h.get? a=some o→h'.get? a=some o):a0k k h' a xs:=by
  cases k <;> obtain ⟨o,ho,r⟩:=x <;> exact ⟨o,e o ho,r⟩
section
variable {prog:Program} {w:World} {A:Around} {E:Value→Shared→Prop} {s:Shared}
end
structure a5o (h:Heap) (z ti to' i1 i2:Addr) (f:Value):Prop where
  zip:IsZip h z ti to' f
  its:IsPair h ti (.ref i1) (.ref i2)
  kept:∃ a b,IsPair h to' a b
structure Far (z ti to' i1 i2:Addr):Prop where
  nd:[z,ti,to',i1,i2].Nodup
theorem Far.all {z ti to' i1 i2:Addr} (f:Far z ti to' i1 i2):ti≠z∧to'≠z∧i1≠z∧i2≠z∧ti≠to'∧ti≠i1∧ti≠i2∧to'≠i1∧to'≠i2∧i1≠i2:=by
  have:=f.nd
  simp only [List.nodup_cons,List.mem_cons,List.not_mem_nil,or_false,not_or] at this
  obtain ⟨⟨a,b,c,d⟩,⟨e,f,g⟩,⟨h,i⟩,j,_⟩:=this
  exact ⟨Ne.symm a,Ne.symm b,Ne.symm c,Ne.symm d,e,f,g,h,i,j⟩
section
variable {prog:Program} {w:World} {A:Around} {E:Value→Shared→Prop} {s:Shared}
end
section
variable {prog:Program} {w:World} {A:Around} {E:Value→Shared→Prop} {s:Shared}
end
end C
end
section
namespace C
open PySem PySem.Spec PyProof.Rows L2
theorem Inv.a0m {X:Cx} {pins:List (Addr × Obj)} {σ:L2.St} {H:Hp} {s:Shared} {h':Heap} {t':Nat} {ch:List Addr} {n:Addr} {o:HO} (I:L2.Inv X pins σ H s) (hch:∀ b∈ch,Lj X pins H b)
    (k:∀ b u,b∉ch→s.heap.get? b=some u→h'.get? b=some u) (hp:s.heap.objs.size≤n) (new:qe X.prog X.w (upd H n o) h' n o):L2.Inv X pins σ (upd H n o) { s with heap:=h',toks:=t' }:=by
  have fr:=I.hok.fresh hp
  have nn:∀ b u,s.heap.get? b=some u→b≠n:=fun b u e=>Nat.ne_of_lt (Nat.lt_of_lt_of_le (Heap.lt_size e) hp)
  have nch:∀ b u,H b=some u→b∉ch:=fun b u e z=>by rw [(hch b z).1] at e; cases e
  refine I.step (g':=s.gens) (d':=s.drawn) (ch:=ch) (fun b hb=>?_) (fun b u _ _ hc e _=>k b u hc e) (fun b u _ _ hc e _=>⟨u.slots,k b u hc e⟩) (fun b u _ e z=>by rw [d7 (nn b u e)]; exact z)
    (fun b u hc e=>⟨u,k b u hc e⟩) (fun b xs e=>by rw [d7 (iu e fr)]; exact e) (fun b u xs e=>by rw [d7 (iu e fr)]; exact e) (fun b ps e=>⟨#[],by rw [d7 (iu e fr),e]; simp⟩) (fun m hm=>?_) (fun b u e=>?_) I.bare
  · obtain ⟨f0,f1,f2,f3,f4,f5⟩:=hch b hb
    exact ⟨f3,f1,f4,f5⟩
  · obtain ⟨ob,es,ep,ho,r⟩:=hm
    exact ⟨ob,es,ep,k _ ob (fun z=>(hch _ z).2.1 rfl) ho,r⟩
  · by_cases hb:b=n
    · subst hb; rw [cj] at e; cases e; exact new
    · rw [d7 hb] at e
      refine (I.hok b u e).stay (fun c v hc q=>k c v ?_ q) (fun c q=>by rw [d7 (iu q fr)]; exact q) fun c xs q=>by rw [d7 (iu q fr)]; exact q
      rcases hc with rfl | hc
      · exact nch _ _ e
      · exact nch _ _ hc
theorem Inv.a0h {X:Cx} {pins:List (Addr × Obj)} {σ:L2.St} {H:Hp} {s:Shared} {h':Heap} {t':Nat} {ch:List Addr} (I:L2.Inv X pins σ H s) (hch:∀ b∈ch,Lj X pins H b)
    (k:∀ b u,b∉ch→s.heap.get? b=some u→h'.get? b=some u):L2.Inv X pins σ H { s with heap:=h',toks:=t' }:=by
  have nch:∀ b u,H b=some u→b∉ch:=fun b u e z=>by rw [(hch b z).1] at e; cases e
  refine I.step (g':=s.gens) (d':=s.drawn) (ch:=ch) (fun b hb=>?_) (fun b u _ _ hc e _=>k b u hc e) (fun b u _ _ hc e _=>⟨u.slots,k b u hc e⟩) (fun b u _ e z=>z)
    (fun b u hc e=>⟨u,k b u hc e⟩) (fun b xs e=>e) (fun b u xs e=>e) (fun b ps e=>⟨#[],by rw [e]; simp⟩) (fun m hm=>?_) (fun b u e=>?_) I.bare
  · obtain ⟨f0,f1,f2,f3,f4,f5⟩:=hch b hb
    exact ⟨f3,f1,f4,f5⟩
  · obtain ⟨ob,es,ep,ho,r⟩:=hm
    exact ⟨ob,es,ep,k _ ob (fun z=>(hch _ z).2.1 rfl) ho,r⟩
  · refine (I.hok b u e).stay (fun c v hc q=>k c v ?_ q) (fun c q=>q) fun c xs q=>q
    rcases hc with rfl | hc
    · exact nch _ _ e
    · exact nch _ _ hc
def Sq:Bool→PySem.W.Frag→Hp→Addr→List V→Prop
  | true,K,H,a,xs=>SqL K H a xs
  | false,K,H,a,xs=>SqT K H a xs
section
variable {X:Cx} {pins:List (Addr × Obj)} {σ:L2.St} {H:Hp} {s:Shared} {a:Addr} {xs ys:List V} {k:Bool}
end
section
variable {X:Cx} {B:Bas} {a b:Expr} {m m1 m2:M T} {pos p:Pos} {elts:List Expr} {x1:Nat} {tpos:Pos}
theorem Sq.mono {k:Bool} {K:PySem.W.Frag} {S H:Hp} {a:Addr} {vs:List V} (e:Same S H) (h:Sq k K S a vs):Sq k K H a vs:=by
  cases k with
  | true=>exact gn e h
  | false=>exact j5 e h
end
end C
end
section
namespace C
open PySem PySem.Spec PyProof.Rows L2
section
variable {X:Cx}
variable {B:Bas} {o e:Expr} {m1 m2:M T} {apos cpos:Pos}
end
end C
end
section
namespace C
open PySem PySem.Spec PyProof.Rows L2
theorem Nu (n d:Nat) (o:Option Int):sIx n d o=HT.sIx n d o:=by cases o <;> rfl
inductive oOf (K:PySem.W.Frag) (B:Bas) (m:M (Option Int)) (σ:L2.St) (H:Hp) (Q:Option Int→Hp→Prop):Prop
  | mk (st:Sta) (ps:List (V × T)) (S:Hp) (as:List Addr) (R:Rel K B st σ H ps S as) (o:Option Int) (st':Sta) (e:m st=some (o,st')) (q:∀ H' S' as',Rel K B st' σ H' ps S' as'→Q o H')
section
variable {X:Cx} {B:Bas} {a e:Expr} {m:M T} {ml mh:M (Option Int)} {lo hi:Option Expr} {pos p2:Pos}
theorem Rh (h:PE X e (tOf X.K B m)):PO X (some e) (oOf X.K B (Nh m)):=fun pins s σ H Q I z9=>a0p h pins s σ H Q I (by
  obtain ⟨st,ps,S,as,R,o,st',eo,q⟩:=z9
  unfold Nh at eo
  split at eo
  · rename_i i s1 e1
    cases eo
    refine ⟨st,ps,S,as,R,.int i,_,e1,fun v H1 S1 as1 R1=>?_⟩
    cases R1.top
    exact ⟨i,rfl,q H1 S1 as1 R1.drop⟩
  · cases eo)
theorem Qv {s s':Sta} {v:T} (h:Gu m ml mh s=some (v,s')):∃ t s1 l s2 u,m s=some (t,s1)∧ml s1=some (l,s2)∧mh s2=some (u,s')∧a1t l u t=some v:=by
  unfold Gu at h
  split at h
  · rename_i t s1 e1
    split at h
    · rename_i l s2 e2
      split at h
      · rename_i u s3 e3
        split at h
        · rename_i w e4; cases h; exact ⟨t,s1,l,s2,u,e1,e2,e3,e4⟩
        · cases h
      · cases h
    · cases h
  · cases h
theorem jy.takes {K:PySem.W.Frag} {S:Hp} {as:List Addr}:∀ (n:Nat) {vs:List V} {ts:List T},jy K S as vs ts→jy K S as (vs.take n) (ts.take n)
  | 0,_,_,_=>.nil
  | _+1,_,_,.nil=>.nil
  | n+1,_,_,.cons h r=>.cons h (jy.takes n r)
theorem Oa {K:PySem.W.Frag} {S:Hp} {as:List Addr} {vs:List V} {ts:List T} (r:jy K S as vs ts) (lo hi:Option Int):jy K S as (W8 vs lo hi) (a4z ts lo hi):=by
  unfold W8 a4z
  rw [Nu,Nu,r.length]
  exact jy.takes _ (r.drop _)
theorem Wv (ha:PE X a (tOf X.K B m)) (hl:PO X lo (oOf X.K B ml)) (hh:PO X hi (oOf X.K B mh)):PE X (.Subscript a (.Slice lo hi none p2) pos) (tOf X.K B (Gu m ml mh)) :=
  (Xg (Zu.or a3e) ha hl hh).imp fun σ H Q z9=>by
    obtain ⟨st,ps,S,as,R,t,st',e,q⟩:=z9
    obtain ⟨t1,s1,l,s2,u,e1,e2,e3,e4⟩:=Qv e
    refine ⟨st,ps,S,as,R,t1,s1,e1,fun v H1 S1 as1 R1=>⟨s1,_,S1,as1,R1,l,s2,e2,fun H2 S2 as2 R2=>⟨s2,_,S2,as2,R2,u,st',e3,fun H3 S3 as3 R3=>?_⟩⟩⟩
    have top:=R3.top
    cases top with
    | @lst b vs ts g1 g2 =>
      simp only [a1t] at e4; cases e4
      refine .inl ⟨b,vs,rfl,gn R3.sub g1,fun p hp=>?_⟩
      have x:=Ext.laid R3.sub hp (.lst (W8 vs l u))
      exact q _ _ _ _ ((R3.drop.ext x).push (.lst (SqL.of cj) ((Oa g2 l u).mono x.s nol)))
    | @tup b vs ts g1 g2 =>
      simp only [a1t] at e4
      split at e4
      · cases e4
      · rename_i hw
        cases e4
        refine .inr ⟨b,vs,rfl,j5 R3.sub g1,?_,fun p hp=>?_⟩
        · rw [Nu,Nu,← g2.length] at hw; exact hw
        · have x:=Ext.laid R3.sub hp (.tup (W8 vs l u))
          exact q _ _ _ _ ((R3.drop.ext x).push (.tup (SqT.of cj) ((Oa g2 l u).mono x.s nol)))
    | _=>exact jl e4
end
section
variable {prog:Program} {w:World} {A:Around} {E:Value→Shared→Prop} {s:Shared}
end
section
variable {X:Cx} {B:Bas} {e:Expr} {te:TE} {m m1 m2:M T} {pos p p2 p3 p4:Pos} {j:Nat}
theorem Qs {i:Nat} {k:M T} {s s':Sta} {t:T} (h:uh i k s=some (t,s')):Eu i s=true∧∃ j xs f n,k s=some (.int j,s')∧s'.env[i]? = some (some (.lst xs,f))∧ixI xs.length j=some n∧xs[n]? = some t:=by
  unfold uh at h
  split at h
  · rename_i hd
    refine ⟨hd,?_⟩
    split at h
    · rename_i j s1 e1
      split at h
      · rename_i xs f e2
        split at h
        · rename_i u e3
          cases h
          obtain ⟨n,h1,h2⟩:=Option.bind_eq_some_iff.mp e3
          exact ⟨j,xs,f,n,e1,e2,h1,h2⟩
        · cases h
      · cases h
    · cases h
  · cases h
theorem Iw (i:Nat) {o k:Expr} {mk:M T} (ho:PE X o (J8 i)) (hk:PE X k (tOf X.K B mk)) (hs:Ir k):PE X (.Subscript o k pos) (tOf X.K B (uh i mk)):=(a0f Mh ho hk hs).imp fun σ H Q z9=>by
  obtain ⟨st,ps,S,as,R,t,st',e,q⟩:=z9
  obtain ⟨hd,j,xs,f,n,e1,e2,e3,e4⟩:=Qs e
  obtain ⟨xs0,f0,e0⟩:=Fq hd
  obtain ⟨p0,vs0,s0,_⟩:=R.listAt e0
  refine ⟨_,s0,st,ps,S,as,R,.int j,st',e1,fun u H2 S2 as2 R2=>?_⟩
  cases R2.top
  obtain ⟨p1,vs1,s1,rd1,h4⟩:=R2.listAt e2
  rw [s0] at s1; cases s1
  obtain ⟨z,hz,rz⟩:=h4.get e4
  refine ⟨p0,vs1,j,z,rfl,rfl,rd1,?_,q z H2 S2 as2 (R2.drop.push rz)⟩
  rw [Ge,← h4.length] at e3
  unfold atI; rw [e3]; exact hz
end
end C
end
section
end
section
namespace C
open PySem PySem.Spec L2
def Held (K:PySem.W.Frag) (u:Value) (t:T):Prop:=∃ v,RelV v u∧∀ S as,Rep K S as v t
def Lr (K:PySem.W.Frag) (us:List Value) (ts:List T):Prop:=∃ vs,Vals vs us∧∀ S as,jy K S as vs ts
section
variable {K:PySem.W.Frag}
theorem Held.int {i:Int} {tk:Tok}:Held K (.int i tk) (.int i):=⟨.int i,⟨tk,rfl⟩,fun _ _=>.int i⟩
theorem Held.str {x:Str} {tk:Tok}:Held K (.str x tk) (.str x):=⟨.str x,⟨tk,rfl⟩,fun _ _=>.str x⟩
theorem Held.bl {b:Bool}:Held K (.bool b) (.bl b):=⟨.bl b,rfl,fun _ _=>.bl b⟩
theorem Held.non:Held K .none .non:=⟨.non,rfl,fun _ _=>.non⟩
theorem Lr.nil:Lr K [] []:=⟨[],.nil,fun _ _=>.nil⟩
theorem Lr.cons {u:Value} {t:T} {us:List Value} {ts:List T} (h:Held K u t) (hs:Lr K us ts):Lr K (u::us) (t::ts):=by
  obtain ⟨v,r,e⟩:=h
  obtain ⟨vs,rs,es⟩:=hs
  exact ⟨v::vs,.cons r rs,fun S as=>.cons (e S as) (es S as)⟩
theorem Held.tup {a:Addr} {us:List Value} {n:Nat} {sl:Array (Option Value)} {ts:List T} (h:K.lookup a=some ⟨.type "tuple",none,.seq us.toArray n,sl⟩) (hz:us.length≤1000) (hs:Lr K us ts):Held K (.ref a) (.tup ts):=by
  obtain ⟨vs,rs,es⟩:=hs
  refine ⟨.ref a,rfl,fun S as=>.tup (.inr ⟨_,us.toArray,n,h,rfl,rfl,rfl,?_,?_⟩) (es S as)⟩
  · rw [List.size_toArray,sizeLine_eq]; omega
  · exact rs
theorem Held.lst {a:Addr} {us:List Value} {n:Nat} {sl:Array (Option Value)} {ts:List T} (h:K.lookup a=some ⟨.type "list",none,.seq us.toArray n,sl⟩) (hz:us.length≤1000) (hs:Lr K us ts):Held K (.ref a) (.lst ts):=by
  obtain ⟨vs,rs,es⟩:=hs
  refine ⟨.ref a,rfl,fun S as=>.lst (.inr ⟨_,us.toArray,n,h,rfl,rfl,rfl,?_,?_⟩) (es S as)⟩
  · rw [List.size_toArray,sizeLine_eq]; omega
  · exact rs
end
section
variable {X:Cx} {B:Bas} {pos:Pos}
end
end C
end
section
namespace C
open PySem PySem.Spec PyProof.Rows
section
variable {prog:Program} {w:World} {A:Around} {E:Value→Shared→Prop} {s:Shared}
end
end C
end
section
namespace C
open PySem PySem.Spec PyProof.Rows
section
variable {prog:Program} {w:World} {A:Around} {R:Result→Shared→Prop} {I:Addr} {fp wr:List Addr} {G:Array GenState→Array GenState→Prop} {n:Nat} {P:Nat→Value→Prop} {St:Nat→Shared→Prop} -- here
end
section
variable {prog:Program} {w:World} {A:Around} {E:Value→Shared→Prop} {s:Shared}
end
end C
end
section
namespace C
open PySem PySem.Spec PyProof.Rows
section
variable {prog:Program} {w:World} {A:Around} {E:Value→Shared→Prop} {s:Shared}
end
end C
end
section
namespace C
open PySem PySem.Spec PyProof.Rows
section
variable {prog:Program} {w:World} {A:Around} {E:Value→Shared→Prop} {s:Shared}
end
end C
end
section
namespace C
open PySem PySem.Spec PyProof.Rows
section
variable {prog:Program} {w:World} {A:Around} {E:Value→Shared→Prop} {s:Shared} {I a:Addr} {i n ep:Nat} {o:Obj} {es:Array (Int × Value)} {t:SetTable} {Q:Option Value→Shared→Prop}
end
end C
end
section
namespace C
open PySem PySem.Spec PyProof.Rows
section
variable {prog:Program} {w:World} {A:Around} {E:Value→Shared→Prop} {s:Shared} {I a q:Addr} {i n ep:Nat} {o:Obj} {es:Array (Int × Value)} {t:SetTable} {Q:Option Value→Shared→Prop} {ps:List Nat}
end
end C
end
section
namespace C
open PySem PySem.Spec PyProof.Rows
section
variable {prog:Program} {w:World} {A:Around} {E:Value→Shared→Prop} {s:Shared} {I a q:Addr} {n ep:Nat} {o:Obj} {es:Array (Int × Value)} {t:SetTable} {ps:List Nat}
end
end C
end
section
namespace C
open PySem PySem.Spec PyProof.Rows
section
variable {prog:Program} {w:World} {A:Around} {E:Value→Shared→Prop} {s:Shared} {a:Addr} {o:Obj} {l:List Str}
end
end C
end
section
namespace C
open PySem PySem.Spec PyProof.Rows
section
variable {prog:Program} {w:World} {A:Around} {E:Value→Shared→Prop} {s:Shared} {a:Addr} {o:Obj} {l:List Str}
end
end C
end
section
namespace C
open PySem PySem.Spec PyProof.Rows L2
section
variable {X:Cx} {B:Bas} {e:Expr} {m1:M T} {p1 p2 p3 p4:Pos}
end
end C
end
section
namespace C
open PySem PySem.Spec PyProof.Rows L2
open AutoSeq1 (wpAny_loadPart') -- here
open MeetsSeq MeetsSeq2 MeetsSeq3 -- here
section
variable {prog:Program} {w:World} -- here
end
section
variable {X:Cx} {pins:List (Addr × Obj)} {σ:L2.St} {H S:Hp} {s:Shared} {as:List Addr}
end
end C
end
section
namespace C
open PySem PySem.Spec PyProof.Rows L2
theorem a1h {K:PySem.W.Frag} {F:Fn} {H:Hp} {a:Addr} {ns:List Int} (hS:SqL K H a (ns.map V.int)) (hE:∃ st,F [.lst (ns.map T.int)] []=some (.bl true,st)):spF K 1 F [.ref a] H (fun v _=>v=.bl true) fun _ _ _=>False:=by
  obtain ⟨st,hF⟩:=hE
  have reps:∀ (S:Hp) (l:List Int),jy K S [] (l.map V.int) (l.map T.int):=fun S l=>by
    induction l with
    | nil=>exact .nil
    | cons x l ih=>exact .cons (.int x) ih
  let S:Hp:=fun p=>if p=a then H p else none
  have sa:S a=H a:=if_pos rfl
  have sub:Same S H:=fun p u h=>by
    by_cases e:p=a
    · subst e; rw [← sa]; exact h
    · have:S p=none:=if_neg e
      rw [this] at h; cases h
  have sq:SqL K S a (ns.map V.int):=by
    rcases hS with h | h
    · refine .inl ?_
      unfold Rd at h ⊢
      rw [sa]; exact h
    · exact .inr h
  refine ⟨S,[],[],[.lst (ns.map T.int)],.bl true,st,sub,⟨rfl,.nil,fun n so e=>by simp at e⟩,.cons (.lst sq (reps S ns)) .nil,rfl,hF,fun v H' S' as' _ _ _ r=>?_⟩
  cases r
  rfl
end C
end
section
namespace C
open PySem
def Jg (xs:List T):List T:=xs.zipIdx.map fun p=>.tup [.int (p.2:Int),p.1]
def Jy (a:M T):M (List T):=fun s=>match a s with
  | some (.lst xs,s1)=>if xs.length<lim then some (Jg xs,s1) else none
  | _=>none
end C
end
section
namespace C
open PySem PySem.Spec PyProof.Rows L2
section
variable {K:PySem.W.Frag} {S S':Hp} {as:List Addr}
def Ei (S S':Hp):Prop:=∀ a u,(∀ o v,u≠HO.frz o v)→Rd S a u→Rd S' a u
mutual
theorem Rep.rdx (e:Ei S S'):∀ {v:V} {t:T},Rep K S as v t→Rep K S' as v t
  | _,_,.non=>.non
  | _,_,.bl b=>.bl b
  | _,_,.int i=>.int i
  | _,_,.str y=>.str y
  | _,_,.tup h r=>.tup (h.imp (e _ _ fun _ _=>HO.noConfusion) id) (jy.rdx e r)
  | _,_,.lst h r=>.lst (h.imp (e _ _ fun _ _=>HO.noConfusion) id) (jy.rdx e r)
  | _,_,.dic h r=>.dic (e _ _ (fun _ _=>HO.noConfusion) h) (xg.rdx e r)
  | _,_,.obj h=>.obj h
theorem jy.rdx (e:Ei S S'):∀ {v:List V} {t:List T},jy K S as v t→jy K S' as v t
  | _,_,.nil=>.nil
  | _,_,.cons h r=>.cons (Rep.rdx e h) (jy.rdx e r)
theorem xg.rdx (e:Ei S S'):∀ {v:List (L2.Key × V)} {t:List (L2.Key × T)},xg K S as v t→xg K S' as v t
  | _,_,.nil=>.nil
  | _,_,.cons h r=>.cons (Rep.rdx e h) (xg.rdx e r)
end
theorem Ca.rdx (e:Ei S S'):∀ {v:List (List L2.Key × V)} {t:List (List L2.Key × T)},Ca K S as v t→Ca K S' as v t
  | _,_,.nil=>.nil
  | _,_,.cons h r=>.cons (Rep.rdx e h) (Ca.rdx e r)
theorem Own.rdx {H H':Hp} {p:Addr} {t:T} (e:Ei S S') (hh:H p=H' p) (o:Own K S as H p t):Own K S' as H' p t:=by
  cases t with
  | lst ts=>obtain ⟨vs,h,r⟩:=o; exact ⟨vs,hh ▸ h,r.rdx e⟩
  | dic ts=>obtain ⟨vs,h,r⟩:=o; exact ⟨vs,hh ▸ h,r.rdx e⟩
  | _=>exact o.elim
theorem Uk.rdx {H H':Hp} {a:Addr} {so:SO} (e:Ei S S') (hh:H a=H' a) (o:Uk K S as H a so):Uk K S' as H' a so:=by
  cases so with
  | dic ts=>obtain ⟨vs,h,r⟩:=o; exact ⟨vs,hh ▸ h,r.rdx e⟩
  | lst ts=>obtain ⟨vs,h,r⟩:=o; exact ⟨vs,hh ▸ h,r.rdx e⟩
  | dit ts=>obtain ⟨vs,h,r⟩:=o; exact ⟨vs,hh ▸ h,r.rdx e⟩
def Still (z:HO) (kvs:List (L2.Key × V)):Prop:=z=.dK kvs∨∃ o,z=.frz o (.dK kvs)
theorem Io {d:Addr} {kvs:List (L2.Key × V)} {z z':HO} (hd:S d=some z') (h':Still z' kvs) (h:Still z kvs):Ei S (upd S d z):=fun a u hu r=>by
  by_cases e:a=d
  · subst e
    have eu:u=.dK kvs:=by
      rcases r with r | ⟨o,r⟩
      · rw [hd] at r; cases r
        rcases h' with h' | ⟨o,h'⟩
        · exact h'
        · exact absurd h' (hu _ _)
      · rw [hd] at r; cases r
        rcases h' with h' | ⟨o,h'⟩
        · cases h'
        · cases h'; rfl
    subst eu
    rcases h with rfl | ⟨o,rfl⟩
    · exact .inl cj
    · exact .inr ⟨o,cj⟩
  · rcases r with r | ⟨o,r⟩
    · exact .inl (by rw [d7 e]; exact r)
    · exact .inr ⟨o,by rw [d7 e]; exact r⟩
theorem Ck.swap {B B':Bas} {H:Hp} {p d:Addr} {t:T} {kvs:List (L2.Key × V)} {z z':HO} (o:Ck K B S as H p t) (hd:S d=some z') (h':Still z' kvs) (h:Still z kvs) (hB:B.H p=none→B'.H p=none) :
    Ck K B' (upd S d z) as (upd H d z) p t:=by
  have ne:p≠d:=fun e=>by have:=o.out; rw [e,hd] at this; cases this
  exact ⟨o.own.rdx (Io hd h' h) (d7 ne).symm,by rw [d7 ne]; exact o.out,o.nas,hB o.new⟩
theorem Rel.swap {B B':Bas} {st:Sta} {σ:L2.St} {H:Hp} {ps:List (V × T)} {d:Addr} {kvs:List (L2.Key × V)} {z z':HO} (r:Rel K B st σ H ps S as) (hd:S d=some z') (h':Still z' kvs) (h:Still z kvs)
    (hg:a0r B' (upd S d z) as (upd H d z)) (hB:∀ p,B.H p=none→B'.H p=none):Rel K B' st σ (upd H d z) ps (upd S d z) as where
  sub:=fun b u e=>by
    by_cases eb:b=d
    · subst eb; rw [cj] at e ⊢; exact e
    · rw [d7 eb] at e ⊢; exact r.sub _ _ e
  grow:=hg
  slots:=fun i t f e=>by
    obtain ⟨v,h1,h2,h3⟩:=r.slots i t f e
    refine ⟨v,h1,fun q=>(h2 q).rdx (Io hd h' h),fun q=>?_⟩
    obtain ⟨p,ep,o⟩:=h3 q
    exact ⟨p,ep,o.swap hd h' h (hB p)⟩
  apart:=r.apart
  sto:=⟨r.sto.len,r.sto.nd,fun n so e=>by
    obtain ⟨a,h1,h2,h3⟩:=r.sto.at' n so e
    have ne:a≠d:=fun e=>by rw [e,hd] at h2; cases h2
    exact ⟨a,h1,by rw [d7 ne]; exact h2,h3.rdx (Io hd h' h) (d7 ne).symm⟩⟩
  pend:=fun p hp=>(r.pend p hp).rdx (Io hd h' h)
  len:=r.len
end
section
variable {X:Cx} {scope:Scope} {N:List Str} {B:Bas} {nv:Nat} {cap:List Nat} {g:G} {c:M Bool} {e:M T} {tg iter elt:Expr} {ifs:List Expr} {pos:Pos} {i:Nat}
end
section
end
end C
end
section
namespace C
open PySem PySem.Spec PyProof.Rows L2
def Itm (K:PySem.W.Frag) (a:Addr):It :=
  ⟨fun i H=>∃ xs x,SqL K H a xs∧xs[i]? = some x,fun i H v H'=>∃ p x,H p=none∧v=.ref p∧H'=upd H p (.tup [.int (i:Int),x])∧∀ xs,SqL K H a xs→xs[i]? = some x,fun i H=>∃ xs,SqL K H a xs∧xs.length≤i⟩
theorem V6 {P:Program} {w:World} {K:PySem.W.Frag} {elts:List Expr} {x1:Nat} {pos:Pos} {a e it:Addr} (hne:e≠it) :
    Turn P w K (.Tuple elts x1 pos) (Itm K a) [e,it] e (fun i h=>(∃ old,IsEnum h e it (i:Int) old)∧h.IsListIter it a i) where
  mem:=by simp
  obj:=fun i h ⟨⟨old,he⟩,t⟩ b hb=>by
    simp only [List.mem_cons,List.not_mem_nil,or_false] at hb -- here
    rcases hb with rfl | rfl
    · exact ⟨_,he,fun v q=>by cases q⟩
    · obtain ⟨o,e,c,d⟩:=t
      exact ⟨o,e,fun v z=>by rw [d] at z; cases z⟩
  keep:=fun i h h' ⟨⟨old,he⟩,t⟩ k=>⟨⟨old,k e (by simp) _ he⟩,t.at fun o q=>k it (by simp) o q⟩
  item:=by
    intro X hP hw hK hc i pins s σ H E I hf ⟨⟨old,he⟩,t⟩ ⟨xs,x,q1,e1⟩
    subst hP hw hK
    obtain ⟨its,rv,p,hz⟩:=I.list q1
    obtain ⟨u,g1,ru⟩:=rv.get e1
    refine wpAny_pyNext_enum_item he t p.isList (x:=u) (by simpa using g1) hne fun h' heo t' hp hsz kp=>?_
    refine ⟨_,rfl,wpAny_letOwnedTupleGo_enum (s:={ s with heap:=h',toks:=s.toks+1 }) heo fun h2 he2 s2=>?_⟩
    have lt:∀ b∈[e,it],s.heap.objs.size≠b:=fun b hb=>by
      simp only [List.mem_cons,List.not_mem_nil,or_false] at hb -- here
      rcases hb with rfl | rfl
      · exact Nat.ne_of_gt (Heap.lt_size he)
      · obtain ⟨o,e,_⟩:=t
        exact Nat.ne_of_gt (Heap.lt_size e)
    have pair:h2.get? s.heap.objs.size=some { cls:=.type "tuple",data:=.seq #[.int i s.toks,u] }:=s2.extBut _ _ (lt e (by simp)) hp
    have J:L2.Inv X pins σ (upd H s.heap.objs.size (.tup [.int (i:Int),x])) { s with heap:=h2,toks:=s.toks+1 }:=Inv.a0m (ch:=[e,it]) I hf (fun b o hb eb=>by
      simp only [List.mem_cons,List.not_mem_nil,or_false,not_or] at hb
      exact s2.extBut _ _ hb.1 (kp b o hb.1 hb.2 eb)) (Nat.le_refl _) ⟨by show 2≤sizeLine; rw [sizeLine_eq]; decide,[.int i s.toks,u],.cons ⟨_,rfl⟩ (.cons ru .nil),⟨_,pair,rfl,rfl,0,rfl⟩⟩
    refine ⟨.ref s.heap.objs.size,_,J,rfl,⟨s.heap.objs.size,x,I.hok.fresh (Nat.le_refl _),rfl,rfl,fun xs' h=>by rw [I.Pq h q1]; exact e1⟩,⟨⟨u,?_⟩,?_⟩,fun b hb=>?_⟩
    · have:((i+1:Nat):Int)=(i:Int)+1:=by omega
      rw [this]; exact he2
    · exact t'.at fun o q=>s2.extBut _ _ (Ne.symm hne) q
    · rw [d7 (Ne.symm (lt b hb))]; exact (hf b hb).1
  done:=by
    intro X hP hw hK hc i pins s σ H E I hf ⟨⟨old,he⟩,t⟩ ⟨xs,q1,hx⟩
    subst hP hw hK
    obtain ⟨its,rv,p,hz⟩:=I.list q1
    have hl:=rv.length
    refine wpAny_pyNext_enum_end (I.ok.hd hc) he t p.isList (by simp; omega) fun h' kp=>⟨rfl,Inv.a0h (t':=s.toks) (ch:=[e,it]) I hf fun b u hb eb=>?_⟩
    simp only [List.mem_cons,List.not_mem_nil,or_false,not_or] at hb
    exact kp b u hb.2 eb
  self:=fun _ _ _ _ _ ⟨⟨_,he⟩,_⟩ h=>wpAny_pyIter_enum he h
def iEm (K:PySem.W.Frag) (ta:TA):TI:=fun σ H R=>ta σ H fun vs H1=>∃ a xs,vs=[.ref a]∧SqL K H1 a xs∧R (Itm K a) H1
section
variable {X:Cx} {B:Bas} {a:Expr} {m:M T} {pos p:Pos} {elts:List Expr} {x1:Nat} {tpos:Pos}
theorem a05 {ta:TA} (hg:Gl X "enumerate") (hm:X.mg "enumerate" = none) (ha:PA X [a] ta) (hs:starEach [a] X.env=[(false,eval a X.env)]:=by rfl) :
    PI X (.Tuple elts x1 tpos) (.Call (.Name "enumerate" p) [a] [] pos) (iEm X.K ta):=by
  intro pins s σ H R I h
  refine Call_ (Ko I hg hm boot_enumerate (PyProof.Rows.callWith_type1 (thn (ha pos pins s σ H _ I h) fun us s1 z0=>?_) (by rw [hs]; rfl) (by rfl)))
  obtain ⟨vs,H1,I1,r1,q1⟩:=z0
  obtain ⟨a,xs,e,w1,q⟩:=q1
  subst e
  cases r1 with
  | cons r rr =>
    cases rr
    cases r
    obtain ⟨its,rv,pL,hz⟩:=I1.list w1
    refine call_enumerate_list pL.isList fun h' he hit hsz kp=>wpAny_pyIter_enum he ?_
    refine ⟨_,[s1.heap.objs.size+1,s1.heap.objs.size],_,_,H1,rfl,I1.kept (t':=s1.toks) kp,V6 (Nat.succ_ne_self _),⟨⟨_,he⟩,hit⟩,fun b hb=>?_,q⟩
    have hle:s1.heap.objs.size≤b:=by
      simp only [List.mem_cons,List.not_mem_nil,or_false] at hb -- here
      rcases hb with rfl | rfl
      · exact Nat.le_succ _
      · exact Nat.le_refl _
    exact I1.a3h hle (I1.hok.fresh hle)
theorem Kq {ts:List T} {s s':Sta} (h:Jy m s=some (ts,s')):∃ xs,m s=some (.lst xs,s')∧xs.length<lim∧ts=Jg xs:=by
  unfold Jy at h
  split at h
  · rename_i xs s1 e1
    split at h
    · rename_i hl; cases h; exact ⟨xs,e1,hl,rfl⟩
    · cases h
  · cases h
theorem a1p:∀ st ts st',Jy m st=some (ts,st')→ts.length≤sizeLine:=fun st ts st' e=>by
  obtain ⟨xs,_,l1,rfl⟩:=Kq e
  unfold Jg
  rw [List.length_map,List.length_zipIdx]
  exact Nat.le_trans (Nat.le_of_lt l1) jx
theorem Vo {xs:List T} {i:Nat} {t:T} (h:(Jg xs)[i]? = some t):∃ x,xs[i]? = some x∧t=.tup [.int (i:Int),x]:=by
  unfold Jg at h
  rw [List.getElem?_map,List.getElem?_zipIdx] at h
  cases q:xs[i]? with
  | none=>rw [q] at h; cases h
  | some x=>rw [q] at h; simp at h; exact ⟨x,rfl,h.symm⟩
theorem Zq (hg:Gl X "enumerate") (hm:X.mg "enumerate" = none) (h1:PE X a (tOf X.K B m)) (hs:starEach [a] X.env=[(false,eval a X.env)]:=by rfl) :
    PI X (.Tuple elts x1 tpos) (.Call (.Name "enumerate" p) [a] [] pos) (iOf X.K B (Jy m)):=by
  intro pins s σ H R I hw
  refine a05 (ta:=G3 (tOf X.K B m) Yy) hg hm (jj h1 qg hs) hs pins s σ H R I ?_
  obtain ⟨st,ps,S,as,Rl,ts,st',e,hz,q⟩:=hw
  obtain ⟨xs,e1,l1,rfl⟩:=Kq e
  refine ⟨st,ps,S,as,Rl,_,_,e1,fun v H1 S1 as1 R1=>?_⟩
  have top:=R1.top
  cases top with
  | @lst a vs _ hs hr =>
    refine ⟨a,vs,rfl,gn R1.sub hs,q _ H1 S1 as1 [(.ref a,.lst xs)] R1 fun S2 as2 H2 hp hh=>?_⟩
    have:=hp _ List.mem_cons_self
    cases this with
    | @lst _ vs2 _ hs2 hr2 =>
      refine ⟨fun i tt et=>?_,fun i hi=>⟨vs2,gn hh hs2,?_⟩⟩
      · obtain ⟨x,f1,rfl⟩:=Vo et
        obtain ⟨vx,gx,rx⟩:=hr2.get f1
        refine ⟨⟨vs2,vx,gn hh hs2,gx⟩,fun v H' z0=>?_⟩
        obtain ⟨pp,x',hn,hv,hH,b1⟩:=z0
        have c1:=b1 _ (gn hh hs2)
        rw [gx] at c1
        cases c1
        subst hv hH
        have x:=Ext.laid hh hn (.tup [.int (i:Int),vx])
        exact ⟨_,x,.tup (SqT.of cj) (.cons (.int _) (.cons (rx.mono x.s nol) .nil))⟩
      · rw [hr2.length]
        unfold Jg at hi
        rwa [List.length_map,List.length_zipIdx] at hi
end
end C
end
section
namespace C
open PySem PySem.Spec PyProof.Rows L2
section
variable {prog:Program} {w:World} {A:Around} {E:Value→Shared→Prop} {s:Shared}
end
end C
end
section
namespace C
open PySem PySem.Spec PyProof.Rows L2
open Sem (wp)
section
variable {prog:Program} {w:World} {A:Around} {E:Value→Shared→Prop} {s:Shared}
abbrev a7n (h:Heap) (z ti to':Addr) (a:Addr) (b:Bool):Prop:=h.get? z=some { cls:=.type "zip",dict:=none,data:=.fields #[rawInt a,.bool b,.bool false,.ref ti,.ref to'],slots:=#[] }
structure a81 (k1 k2:Bool) (z ti to' i1 i2 a1 a2:Addr) (i:Nat) (h:Heap):Prop where
  it1:Zz k1 h i1 a1 i
  it2:Zz k2 h i2 a2 i
  its:IsPair h ti (.ref i1) (.ref i2)
  st:a5o h z ti to' i1 i2 .none∨∃ a b o,a7n h z ti to' a b∧h.get? a=some o∧a≠z∧a≠i1∧a≠i2
end
end C
end
section
namespace C
open PySem PySem.Spec PyProof.Rows L2
section
variable {prog:Program} {w:World} {A:Around} {R:Result→Shared→Prop} {k1 k2:Bool} {z ti to' i1 i2 a1 a2:Addr} {xs ys:Array Value} {κ:Type} [DecidableEq κ] {knd:PySem.KeyKind prog w κ}
end
section
variable {prog:Program} {w:World} {A:Around} {E:Value→Shared→Prop} {s:Shared} {k1 k2:Bool} {z ti to' i1 i2 a1 a2:Addr} {xs ys:Array Value} {κ:Type} [DecidableEq κ] {knd:PySem.KeyKind prog w κ}
end
section
variable {X:Cx} {B:Bas} {a b:Expr} {m1 m2:M T} {p1 p2 p3 p4:Pos}
end
end C
end
section
namespace C
open PySem PySem.Spec PyProof.Rows L2
section
variable {K:PySem.W.Frag} {S:Hp} {as:List Addr}
end
section
variable {X:Cx} {B:Bas} {a b e:Expr} {m m2:M T} {pos p1:Pos} {es:List Expr} {ms:M (List T)}
theorem Rel.base {K:PySem.W.Frag} {B:Bas} {st:Sta} {σ:L2.St} {H S:Hp} {ps:List (V × T)} {as:List Addr} (r:Rel K B st σ H ps S as):Rel K ⟨S,as,B.H⟩ st σ H ps S as :=
  ⟨r.sub,⟨Same.refl _,nol,fun p o h1 h2 h3=>by
    change S p=none at h2
    have b2:B.S p=none:=by
      cases q:B.S p with
      | none=>rfl
      | some u=>have:=r.grow.same _ _ q; rw [h2] at this; cases this
    have b3:p∉B.as:=fun q=>by obtain ⟨l,e⟩:=r.grow.more; exact h3 (by show p∈as; rw [e]; exact List.mem_append_left _ q)
    exact ⟨(r.grow.keep p o h1 b2 b3).1,h2,h3⟩⟩,fun i t f e=>by
      obtain ⟨v,h1,h2,h3⟩:=r.slots i t f e
      exact ⟨v,h1,h2,fun q=>by obtain ⟨p,ep,o⟩:=h3 q; exact ⟨p,ep,o.own,o.out,o.nas,o.new⟩⟩,r.apart,r.sto,r.pend,r.len⟩
end
end C
end
section
namespace C
open PySem
def a0n (k:Int):List T→Option T
  | [a]=>some (.dic [(.inl k,a)])
  | _=>none
end C
end
section
namespace C
open PySem
end C
end
section
namespace C
open PySem
def keysOf:List T→Option (List Key)
  | []=>some []
  | t::r=>match keyOf t,keysOf r with
    | some k,some q=>some (k::q)
    | _,_=>none
def qd (k:List Key):List (List Key × T)→Option T
  | []=>none
  | (q,t)::r=>if q=k then some t else qd k r
def zf (k:List Key) (t:T) (kvs:List (List Key × T)):List (List Key × T) :=
  if kvs.any fun p=>decide (p.1=k) then kvs.map fun p=>if p.1=k then (p.1,t) else p else kvs++[(k,t)]
def Nb:M T:=fun s=>some (.obj s.sto.length,{ s with sto:=s.sto++[.dit []] })
def nu (o k:M T):M T:=fun s=>match o s with
  | some (.obj n,s1)=>match k s1 with
    | some (.tup ts,s2)=>match s2.sto[n]?,keysOf ts with
      | some (.dit kvs),some q=>match qd q kvs with
        | some t=>some (t,s2)
        | none=>none
      | _,_=>none
    | _=>none
  | _=>none
def lu (o:M T) (ks:M (List T)) (v:M T):S:=fun s=>match v s with
  | some (t,s1)=>match o s1 with
    | some (.obj n,s2)=>match ks s2 with
      | some (ts,s3)=>match s3.sto[n]?,keysOf ts with
        | some (.dit kvs),some q=>if kvs.length<lim then some (.next,{ s3 with sto:=s3.sto.set n (.dit (zf q t kvs)) }) else none
        | _,_=>none
      | none=>none
    | _=>none
  | none=>none
end C
end
section
namespace C
open PySem PySem.Spec PyProof.Rows L2
theorem Jf {o k:M T} {s s':Sta} {t:T} (h:nu o k s=some (t,s')):∃ n s1 ts kvs q,o s=some (.obj n,s1)∧k s1=some (.tup ts,s')∧s'.sto[n]? = some (.dit kvs)∧keysOf ts=some q∧qd q kvs=some t:=by
  unfold nu at h
  split at h
  · rename_i n s1 e1
    split at h
    · rename_i ts s2 e2
      split at h
      · rename_i kvs q e3 e4
        split at h
        · rename_i t' e5
          cases h
          exact ⟨n,s1,ts,kvs,q,e1,e2,e3,e4,e5⟩
        · cases h
      · cases h
    · cases h
  · cases h
theorem Ng {o:M T} {ks:M (List T)} {v:M T} {s s':Sta} {fl:Flow} (h:lu o ks v s=some (fl,s')) :
    ∃ t s1 n s2 ts s3 kvs q,v s=some (t,s1)∧o s1=some (.obj n,s2)∧ks s2=some (ts,s3)∧s3.sto[n]? = some (.dit kvs)∧keysOf ts=some q∧kvs.length<lim∧fl=.next∧s' = { s3 with sto:=s3.sto.set n (.dit (zf q t kvs)) }:=by
  unfold lu at h
  split at h
  · rename_i t s1 e1
    split at h
    · rename_i n s2 e2
      split at h
      · rename_i ts s3 e3
        split at h
        · rename_i kvs q e4 e5
          split at h
          · rename_i hl
            cases h
            exact ⟨t,s1,n,s2,ts,s3,kvs,q,e1,e2,e3,e4,e5,hl,rfl,rfl⟩
          · cases h
        · cases h
      · cases h
    · cases h
  · cases h
section
variable {K:PySem.W.Frag} {S:Hp} {as:List Addr}
theorem Tg:∀ {ts:List T} {vs:List V} {q:List L2.Key},jy K S as vs ts→keysOf ts=some q→vs=q.map kV
  | [],_,_,h0,h=>by cases h0; cases h; rfl
  | t::r,_,q,h0,h=>by
    cases h0 with | cons a b=>?_
    simp only [keysOf] at h
    cases e1:keyOf t with
    | none=>rw [e1] at h; cases h
    | some k =>
      cases e2:keysOf r with
      | none=>rw [e1,e2] at h; cases h
      | some qs =>
        rw [e1,e2] at h
        cases h
        rw [Q0 a e1,Tg b e2,List.map_cons]
theorem Ca.get (k:List L2.Key):∀ {vs:List (List L2.Key × V)} {ts:List (List L2.Key × T)} {t:T},Ca K S as vs ts→qd k ts=some t→∃ z,G7 vs k=some z∧Rep K S as z t
  | _,[],_,h0,h=>by cases h
  | _,(q,_)::_,t,h0,h=>by
    cases h0 with | cons a b=>?_
    unfold qd at h
    by_cases e:q=k
    · rw [if_pos e] at h; cases h
      exact ⟨_,Bp e,a⟩
    · rw [if_neg e] at h
      obtain ⟨z,h1,h2⟩:=Ca.get k b h
      exact ⟨z,by rw [Bh e]; exact h1,h2⟩
theorem Ca.put {k:List L2.Key} {v:V} {t:T} (r:Rep K S as v t) {vs:List (List L2.Key × V)} {ts:List (List L2.Key × T)} (h:Ca K S as vs ts):Ca K S as (putK vs k v) (zf k t ts):=by
  have any:∀ {vs:List (List L2.Key × V)} {ts:List (List L2.Key × T)},Ca K S as vs ts→(vs.any fun kv=>decide (kv.1=k))=(ts.any fun p=>decide (p.1=k)):=by
    intro vs ts h
    induction vs generalizing ts with
    | nil=>cases h; rfl
    | cons p r ih=>cases h with | cons h1 h2=>rw [List.any_cons,List.any_cons,ih h2]
  have mp:∀ {vs:List (List L2.Key × V)} {ts:List (List L2.Key × T)},Ca K S as vs ts→Ca K S as (vs.map fun kv=>if kv.1=k then (kv.1,v) else kv) (ts.map fun p=>if p.1=k then (p.1,t) else p):=by
    intro vs ts h
    induction vs generalizing ts with
    | nil=>cases h; exact .nil
    | cons p rr ih =>
      cases h with
      | @cons q v0 t0 _ _ h1 h2 =>
        rw [List.map_cons,List.map_cons]
        by_cases e:q=k
        · rw [if_pos e,if_pos e]; exact .cons r (ih h2)
        · rw [if_neg e,if_neg e]; exact .cons h1 (ih h2)
  have ap:∀ {vs:List (List L2.Key × V)} {ts:List (List L2.Key × T)},Ca K S as vs ts→Ca K S as (vs++[(k,v)]) (ts++[(k,t)]):=by
    intro vs ts h
    induction vs generalizing ts with
    | nil=>cases h; exact .cons r .nil
    | cons p rr ih=>cases h with | cons h1 h2=>exact .cons h1 (ih h2)
  unfold putK zf
  rw [any h]
  split
  · exact mp h
  · exact ap h
end
section
variable {X:Cx} {pins:List (Addr × Obj)} {σ:L2.St} {H:Hp} {s:Shared} {a b:Addr} {u:Value} {v:V} {A:Around} {E:Value→Shared→Prop}
theorem a4x {ks:List L2.Key} (I:Inv X pins σ H s) (e:SqT X.K H b (ks.map kV)):(tupleKind (jd X.prog X.w)).is s.heap ks b:=by
  obtain ⟨its,r,⟨o,h1,h2,n,h3⟩,_⟩:=I.tuple e
  exact ⟨o,its.toArray,n,h1,h2,h3,by simpa using Em r⟩
theorem Ra {Q:Value→Shared→Prop} {kvs:List (List L2.Key × V)} {k:List L2.Key} (hu:A.units+1<cLine) (I:Inv X pins σ H s) (e:Rd H a (.dT kvs)) (eb:SqT X.K H b (k.map kV)) (l:G7 kvs k=some v) (h:∀ w' s',Inv X pins σ H s'→RelV v w'→Q w' s') :
    wpAny (model X.prog X.w) A (getItem (.ref a) (.ref b)) Q E s:=by
  obtain ⟨z,hd,xs,rel,dd⟩:=J1 I.hok e
  obtain ⟨w',hw,rw'⟩:=J9.some_of (v:=v) (o:=(atKey xs k).map (·.2)) (by rw [← l]; exact rel.val k)
  obtain ⟨p,hp,hp2⟩:=Option.map_eq_some_iff.mp hw
  refine wpAny_getItem_heap (tupleKind_room_in1 hu) (a4x I eb) dd hp ?_
  rw [hp2]
  exact h w' _ (I.tok _) rw'
end
section
variable {X:Cx} {B:Bas} {o k e:Expr} {es:List Expr} {mo mk mv:M T} {ms:M (List T)} {td ty:TE} {i:Expr} {pos pos' p2:Pos} {j:Nat}
theorem Y9 (hu:X.A.units+1<cLine) (ho:PE X o td) (hi:PE X i ty) (hs:a3t i) :
    PE X (.Subscript o i pos) (fun σ H Q=>td σ H fun x H1=>ty σ H1 fun y H2=>∃ a b v kvs q,x=.ref a∧y=.ref b∧Rd H2 a (.dT kvs)∧SqT X.K H2 b (q.map kV)∧G7 kvs q=some v∧Q v H2):=by
  intro pins s σ H Q I h
  refine Vu PySem.F.slot_dict_getitem.lookup hs (thn (ho pins s σ H _ I h) fun u s1 z1=>?_)
  obtain ⟨x,H1,I1,rx,q1⟩:=z1
  refine thn (hi pins s1 σ H1 _ I1 q1) fun iv s2 z2=>?_
  obtain ⟨y,H2,I2,ry,a,b,v,kvs,q,ex,ey,g1,g2,g3,q2⟩:=z2
  subst ex
  subst ey
  obtain rfl:u=Value.ref a:=rx
  obtain rfl:iv=Value.ref b:=ry
  refine ⟨?_,Ra hu I2 g1 g2 g3 fun w' s3 I3 rw'=>⟨v,H2,I3,rw',q2⟩⟩
  obtain ⟨_,_,xs,_,dd⟩:=J1 I2.hok g1
  exact dd.typeIs
theorem Kf:PE X (.Dict [] [] pos) (tOf X.K B Nb):=Yb.imp fun σ H Q z9=>by
  obtain ⟨st,ps,S,as,R,t,st',e,q⟩:=z9
  cases e
  intro p hp
  exact q _ _ _ _ (R.newObj hp ⟨[],cj,.nil⟩)
theorem zu (hu:X.A.units+1<cLine) (ho:PE X o (tOf X.K B mo)) (hk:PE X k (tOf X.K B mk)) (hs:a3t k):PE X (.Subscript o k pos) (tOf X.K B (nu mo mk)):=(Y9 hu ho hk hs).imp fun σ H Q z9=>by
  obtain ⟨st,ps,S,as,R,t,st',e,q⟩:=z9
  obtain ⟨n,s1,ts,kvs,qk,e1,e2,e3,e4,e5⟩:=Jf e
  refine ⟨st,ps,S,as,R,_,s1,e1,fun v H1 S1 as1 R1=>⟨s1,_,S1,as1,R1,_,st',e2,fun u H2 S2 as2 R2=>?_⟩⟩
  have t2:=R2.top2
  have t1:=R2.top
  cases t2 with
  | @obj _ a ha =>
    obtain ⟨a',h1,h2,vs,h3,h4⟩:=R2.sto.at' n _ e3
    rw [ha] at h1; cases h1
    cases t1 with
    | @tup b us _ g1 g2 =>
      have ey:=Tg g2 e4
      subst ey
      obtain ⟨z,z1,z2⟩:=h4.get qk e5
      exact ⟨a,b,z,vs,qk,rfl,rfl,.inl h3,j5 R2.sub g1,z1,q z H2 S2 as2 (R2.drop.drop.push z2)⟩
theorem Bw (hu:X.A.units+1<cLine) (ho:PE X o (tOf X.K B mo)) (hk:PA X es (aOf X.K B ms)) (hm:∀ st ts st',ms st=some (ts,st')→ts.length≤1000) (hv:PE X e (tOf X.K B mv)) (hs:swapsWith e (some (.Subscript o (.Tuple es j p2) pos')) pos.line X.env=pure false) :
    PS X (.Assign [.Subscript o (.Tuple es j p2) pos'] e pos) (sOf X.K B (lu mo ms mv)):=(Ss hu ho (O6 hk) hv hs).imp fun D σ H z9=>by
  obtain ⟨st,ps,S,as,R,fl,st',e,q⟩:=z9
  obtain ⟨t,s1,n,s2,ts,s3,kvs,qk,e1,e2,e3,e4,e5,hl,rfl,rfl⟩:=Ng e
  refine ⟨st,ps,S,as,R,t,s1,e1,fun v H1 S1 as1 R1=>⟨s1,_,S1,as1,R1,_,s2,e2,fun x H2 S2 as2 R2=>⟨s2,_,S2,as2,R2,ts,s3,e3,fun us H3 S3 as3 R3 rs=>⟨?_,fun p hp=>?_⟩⟩⟩⟩
  · rw [rs.length]; exact Nat.le_of_lt (yt (hm _ _ _ e3))
  · have x:=Ext.laid R3.sub hp (.tup us)
    have R4:=R3.ext x
    have t2:=R4.top
    have tv:Rep X.K _ as3 v t:=R4.pend _ (List.mem_cons_of_mem _ List.mem_cons_self)
    cases t2 with
    | @obj _ a ha =>
      obtain ⟨a',h1,h2,vs,h3,h4⟩:=R4.sto.at' n _ e4
      rw [ha] at h1; cases h1
      have ey:=Tg rs e5
      subst ey
      refine ⟨a,_,rfl,Zf.t h3 cj (by rw [h4.length]; exact Nat.lt_of_lt_of_le hl jx),q _ _ _ as3 (R4.drop.drop.Ru e4 ha ⟨_,cj,h4.put tv⟩)⟩
end
end C
end
section
namespace C
open PySem PySem.W PyProof.Rows
def Ub:T→T→Option T
  | .lst x,.lst y=>if x.length+y.length<lim then some (.lst (x++y)) else none
  | _,_=>none
end C
end
section
namespace C
open PySem PySem.Spec PyProof.Rows L2
theorem Ck.rep {K:PySem.W.Frag} {B:Bas} {S H:Hp} {as:List Addr} {p:Addr} {xs:List T} (o:Ck K B S as H p (.lst xs)) (sub:Same S H):∃ S2,Same S S2∧Same S2 H∧Rep K S2 as (.ref p) (.lst xs):=by
  obtain ⟨vs,hH,r⟩:=o.own
  have s1:Same S (upd S p (.lst vs)):=Same.upd o.out _
  refine ⟨upd S p (.lst vs),s1,fun b u e=>?_,.lst (SqL.of cj) (r.mono s1 nol)⟩
  by_cases h:b=p
  · subst h; rw [cj] at e; cases e; exact hH
  · rw [d7 h] at e; exact sub _ _ e
section
variable {X:Cx} {B:Bas} {a b c e:Expr} {m:M T} {pos p:Pos} {u v:S}
theorem a1g {m1 m2:M T} (h1:PE X a (tOf X.K B m1)) (h2:PE X b (tOf X.K B m2)):PE X (.BinOp a .Add b pos) (fOf X.K B (mOp Ub m1 m2)):=(a2c Rp h1 h2).imp fun σ H Q z9=>by
  obtain ⟨st,ps,S,as,R,t,st',ev,q⟩:=z9
  obtain ⟨t1,s1,t2,e1,e2,e3⟩:=J4 ev
  refine ⟨st,ps,S,as,R,t1,s1,e1,fun v H1 S1 as1 R1=>⟨s1,_,S1,as1,R1,t2,st',e2,fun u H2 S2 as2 R2=>?_⟩⟩
  have tq:=R2.top2
  have tp:=R2.top
  cases tq <;> simp only [Ub,reduceCtorEq] at e3
  cases tp <;> simp only [reduceCtorEq] at e3
  rename_i b1 vs1 ts1 g1 r1 b2 vs2 ts2 g2 r2
  split at e3
  · rename_i hl
    cases e3
    refine ⟨b1,b2,vs1,vs2,rfl,rfl,gn R2.sub g1,gn R2.sub g2,?_,fun l hl2=>?_⟩
    · rw [r1.length,r2.length]; exact Nat.le_trans (Nat.le_of_lt hl) jx
    · obtain ⟨bD,sD,nD,no⟩:=R2.fresh hl2
      exact q l _ S2 as2 (R2.drop.drop.Zd bD sD nD (fun j w e1 e2=>no j w e1 e2)) ⟨⟨vs1++vs2,cj,r1.append r2⟩,sD,nD,bD⟩ (fun j w e1 e2=>no j w e1 e2)
  · cases e3
end
end C
end
section
namespace HT
open PySem PyProof.Rows
section
variable {prog:Program} {w:World} {A:Around} {E:Value→Shared→Prop} {s:Shared}
end
end HT
namespace C
open PySem PySem.Spec PyProof.Rows L2
section
variable {X:Cx} {B:Bas} {a:Expr} {m:M T} {ml mh:M (Option Int)} {lo hi:Option Expr} {pos p2:Pos}
end
end C
end
section
namespace My
open PySem PySem.W PySem.Calls PyProof.Rows PySem.Spec
abbrev vB:List Value:=[.type "ValueError",.type "Exception",.type "BaseException",.type "object"]
theorem a6p {K:Frag} {h:Heap} {D:Addr} {newId:String} (X:K.In h) (q:excIn K D vB newId=true):OwnTail h vB (.ref D::vB):=by
  refine tail_of_in X ?_
  unfold excIn at q
  unfold tailIn
  split at q
  · rename_i dd cd sl ho
    split at q
    · simp only [Bool.and_eq_true] at q
      dsimp only
      rw [ho]
      dsimp only
      rw [q.1.2,q.2]
      have z:tailIn K vB vB=true:=by unfold tailIn; rfl
      rw [z]
      simp
    · cases q
  · cases q
abbrev Sd (C t:Addr):Obj:={ cls:=.ref C,data:=.fields #[.ref t,.none,.none,.none,.bool false,.none] }
abbrev Yz (vs:List Value):Obj:={ cls:=.type "tuple",data:=.seq vs.toArray }
section
variable {prog:Program} {w:World} {A:Around} {E:Value→Shared→Prop} {s:Shared} {h₀:Heap} {L:Addr} {m:Str→Option Value} {news:List (Addr × Obj)} {K:Frag}
variable {nm q:Str} {C D Na:Addr} {bs:List Value} {hdct:Bool} {sn:List Str} {sub:List Value} {ab:Bool} {col:Option Bool} {dd:Option Addr} {k0 k1 k2 k3 k5:Option Value}
theorem G5 {h:Heap} {g:Array GenState} {d:Drawn} {t:Nat} {os:OsState} {rest:List Value} {fI:Addr} {R:Fin→Shared→Prop} (X:K.In h)
    (hC:h.get? C=some (excClassObj nm q C Na bs (.ref D::vB) hdct sn sub ab col dd k0 k1 k2 k3 k5 "ValueError.__new__")) (T:OwnTail h vB (.ref D::vB))
    (hi:findIn K (.ref C) "__init__" = some (some (.ref fI))) (hf:typeIn K (.ref fI)=some (.type "function")) -- here
    (hq:wpAny (model prog w) A (call (.ref fI) (.ref (h.objs.size+1)::rest)) (fun r s'=>r=.none∧R (.done (.ret (.ref (h.objs.size+1)))) s') E ⟨(h.push (Yz rest)).push (Sd C h.objs.size),g,d,t,os⟩) (hrest:rest.length≤sizeLine) :
    wpAny (model prog w) A (Builtin.«type.__call__» ⟨.ref C::rest,[]⟩) R E ⟨h,g,d,t,os⟩:=by
  have Fv:=PySem.F.excBase_ValueError
  have hv:vB.contains (.type "ValueError")=true:=by decide
  repeat (first | with_reducible refine wpAny_loadPart_at hC ?_ | with_reducible refine wpAny_madeBy_exc hC ?_ | wp_step) -- here
  refine codeAny_call_builtin_code (Code.quiet_builtin _ Fv.quiet) (wpAny_check_new_subU Fv hv T hC ?_)
  refine codeAny_exc_new_subU Fv hv Fv T hC ?_ hrest
  show wpAny _ _ _ _ _ _
  have kp:∀ b o,h.get? b=some o→((h.push (Yz rest)).push (Sd C h.objs.size)).get? b=some o:=fun b o e=>Heap.get?_push_of_some _ (Heap.get?_push_of_some _ e)
  have X1:=X.keeps kp
  have hget:((h.push (Yz rest)).push (Sd C h.objs.size)).get? (h.objs.size+1)=some (Sd C h.objs.size):=by heap_get
  have hcC:(Value.ref C :: .ref D::vB).contains (.ref C)=true:=by simp
  have hC1:=kp _ _ hC
  unfold isInstance
  repeat (first | with_reducible refine wpAny_loadPart_at hget ?_ | (with_reducible refine wpAny_isSubtype_exc hC1 ?_; rw [hcC]) | wp_step)
  show wpAny _ _ (typeLookup (.ref C) _) _ _ _ -- here
  refine looks_findIn X1 hi _ _ _ _ (fun _ _ e=>e) ?_
  refine wpAny_holding (wpAny_bind ?_) -- here
  refine bind_fn X1 _ hf _ _ _ _ (fun _ _ e=>e) ?_
  refine wpAny_bind (wpAny_mono hq (fun r s' hr=>?_) fun _ _ x=>x)
  obtain ⟨rfl,hQ⟩:=hr
  wp_walk
  exact hQ
end
end My
end
section
namespace My
open PySem PySem.W PySem.Calls PyProof.Rows PySem.Spec Builtin.ObjectAttr
abbrev Wj (C t dx:Addr):Obj:={ cls:=.ref C,dict:=some dx,data:=.fields #[.ref t,.none,.none,.none,.bool false,.none] }
theorem a6b (self:Value):refuseLoop self "__setattr__" vB=pure ():=by kernel_rfl
section
variable {prog:Program} {w:World} {A:Around} {E:Value→Shared→Prop} {s:Shared} {h₀:Heap} {L:Addr} {m:Str→Option Value} {news:List (Addr × Obj)} {K:Frag} {x C D t:Addr} {cd:ClassData} {name:Str} {v:Value} {g:Obj→List (Addr × Obj)}
end
end My
end
section
namespace My
open PySem PySem.W PySem.Calls PyProof.Rows PySem.Spec Builtin.ObjectAttr
theorem O2:builtinKind "BaseException.__getattribute__" = some .slot:=by decide +kernel
theorem Ks:splitId "BaseException.__getattribute__" = some ("BaseException","__getattribute__"):=by decide +kernel
section
variable {prog:Program} {w:World} {A:Around} {E:Value→Shared→Prop} {s:Shared} {K:Frag} {x C:Addr} {ox:Obj} {od:Option Obj} {name:Str} {v:Value} {expr:Bool}
theorem Xv {Q:Value→Shared→Prop} (X:K.In s.heap) (I:InstAt s.heap x ox C od) (hga:findIn K (.ref C) "__getattribute__" = some (some (.builtin "BaseException.__getattribute__")))
    (hgt:findIn K (.ref C) "__getattr__" = some none) (hb:mroIn K C (.type "BaseException")=some true) (hf:findObj K C od name=some (.value v)) (hh:handedIn v=true) (h:Q v { s with toks:=s.toks+1 }) :
    wpAny (model prog w) A (getAttr (.ref x) name expr) Q E s:=by
  obtain ⟨hp,g,d,tk,os⟩:=s -- here
  have FB:=PySem.F.excAttr_ValueError
  have f3:=FB.ga.bind (.ref x)
  have L0:=I.type (M:=model prog w) -- here
  have L1:=looks_findIn (M:=model prog w) X hga -- here
  have L2:=looks_findIn (M:=model prog w) X hgt
  have L3:=looks_find (M:=model prog w) X I hf
  have L4:Looks (model prog w) hp (isInstance (.ref x) (.type "BaseException")) true:=I.type.andThen (looks_mroIn X hb)
  have hx0:(expr&&onTheHeap (Value.builtin "BaseException.__getattribute__"))=false:=by cases expr <;> rfl -- here
  have hx2:(Value.builtin "BaseException.__getattribute__" == Value.builtin "object.__getattribute__")=false:=by decide +kernel -- here
  unfold getAttr getAttrBy
  refine wpAny_bind (wpAny_mkText (wpAny_holding (wpAny_bind (L0.at (wpAny_bind (L1.at ?_)))))) -- here
  dsimp only
  rw [hx2,Bool.and_false]
  rw [if_neg (by decide)]
  unfold getAttrByItsOwn
  have LH:Looks (model prog w) hp (hookBefore (.ref C)) none:=looks_hook (mc:=.ref C) X (by rw [if_pos (show onTheHeap (.ref C)=true from rfl)]; exact hgt)
  refine wpAny_bind (LH.at (wpAny_bind (wpAny_attempt (wpAny_holding ?_))))
  unfold callGetattribute
  rw [hx0,if_neg (by decide)]
  unfold boundAndCalled
  rw [f3]
  refine wpAny_bind (wpAny_pure ?_)
  show wpAny _ _ (call (.builtin "BaseException.__getattribute__") [.ref x,.str name tk]) _ _ _
  refine wpAny_call (codeAny_call_builtin FB.ga.plain PySem.F.entry_bexc_ga (@check_slot (model prog w) _ _ _ "BaseException.__getattribute__" "BaseException" "__getattribute__" (.ref x) [.str name tk] [] _ O2 Ks L4 (PySem.F.args_bexc_ga (.ref x) (.str name tk)) ?_))
  unfold Builtin.«object.__getattribute__» -- here
  refine wpAny_bind (wpAny_pure (wpAny_bind (wpAny_pure (wpAny_bind (L0.at (wpAny_bind (L3.at ?_)))))))
  refine wpAny_pure ?_
  show wpAny _ _ (handedOut v) _ _ _ -- here
  rw [handedOut_of hh]
  exact wpAny_pure h
end
end My
end
section
namespace My
open PySem PySem.W PySem.Calls PyProof.Rows PySem.Spec Builtin.ObjectAttr
section
variable {prog:Program} {w:World} {A:Around} {E:Value→Shared→Prop} {s:Shared} {K:Frag} {x C:Addr} {ox od:Obj} {name:Str} {tk:Tok} {v:Value} {fill expr:Bool}
theorem Uh {Q:Value→Shared→Prop} (X:K.In s.heap) (I:InstAt s.heap x ox C (some od)) (hga:findIn K (.ref C) "__getattribute__" = some (some (.builtin "BaseException.__getattribute__")))
    (hgt:findIn K (.ref C) "__getattr__" = some none) (hb:mroIn K C (.type "BaseException")=some true)
    (h:∀ A',wpAny (model prog w) A' (Builtin.«object.__getattribute__» ⟨[.ref x,.str name tk],[]⟩) (fun fin s'=>∃ v,fin=.done (.ret v)∧handedIn v=true∧Q v s') (fun _ _=>False) s) :
    wpAny (model prog w) A (getAttrBy (.ref x) (.str name tk) fill expr) Q E s:=by
  obtain ⟨hp,g,d,tt,os⟩:=s
  have FB:=PySem.F.attr_ValueError
  have f3:=FB.ga.bind (.ref x)
  have L0:=I.type (M:=model prog w) -- here
  have L1:=looks_findIn (M:=model prog w) X hga -- here
  have L4:Looks (model prog w) hp (isInstance (.ref x) (.type "BaseException")) true:=I.type.andThen (looks_mroIn X hb)
  have hx0:(expr&&onTheHeap (Value.builtin "BaseException.__getattribute__"))=false:=by cases expr <;> rfl -- here
  have hx2:(Value.builtin "BaseException.__getattribute__" == Value.builtin "object.__getattribute__")=false:=by decide +kernel -- here
  unfold getAttrBy
  refine wpAny_holding (wpAny_bind (L0.at (wpAny_bind (L1.at ?_)))) -- here
  dsimp only
  rw [hx2,Bool.and_false,if_neg (by decide)]
  unfold getAttrByItsOwn
  have LH:Looks (model prog w) hp (hookBefore (.ref C)) none:=looks_hook (mc:=.ref C) X (by rw [if_pos (show onTheHeap (.ref C)=true from rfl)]; exact hgt)
  refine wpAny_bind (LH.at (wpAny_bind (wpAny_attempt (wpAny_holding ?_))))
  unfold callGetattribute
  rw [hx0,if_neg (by decide)]
  unfold boundAndCalled
  rw [f3]
  refine wpAny_bind (wpAny_pure ?_)
  show wpAny _ _ (call (.builtin "BaseException.__getattribute__") [.ref x,.str name tk]) _ _ _
  refine wpAny_call (codeAny_call_builtin FB.ga.plain PySem.F.entry_bexc_ga (@check_slot (model prog w) _ _ _ "BaseException.__getattribute__" "BaseException" "__getattribute__" (.ref x) [.str name tk] [] _ O2 Ks L4 (PySem.F.args_bexc_ga (.ref x) (.str name tk)) ?_))
  refine wpAny_mono (h _) (fun fin s' z=>?_) fun _ _ z=>z.elim
  obtain ⟨v,rfl,hh,q⟩:=z
  show wpAny _ _ (handedOut v) _ _ _ -- here
  rw [handedOut_of hh]
  exact wpAny_pure q
theorem Sg {Q:Option Value→Shared→Prop} (X:K.In s.heap) (I:InstAt s.heap x ox C (some od)) (hga:findIn K (.ref C) "__getattribute__" = some (some (.builtin "BaseException.__getattribute__")))
    (hgt:findIn K (.ref C) "__getattr__" = some none) (hb:mroIn K C (.type "BaseException")=some true) (hh:hasDictIn K C=true)
    (ha:findIn K (.ref C) "__class__" = some (some (.builtin "object.__class__"))) (hn:specialIn K (.builtin "object.__class__") "__get__" = some (some (.builtin "getset_descriptor.__get__"))) (ht:takesIn K (.builtin "object.__class__")=some true) -- here
    (hm:mroIn K C (.type "object")=some true) (h:Q (some (.ref C)) { s with toks:=s.toks+1 }):wpAny (model prog w) A (getAttr? (.ref x) "__class__") Q E s:=by
  unfold getAttr?
  refine wpAny_bind (wpAny_mkText ?_) -- here
  unfold getAttrBy?
  refine wpAny_bind (wpAny_attempt (Uh (s:={ s with toks:=s.toks+1 }) X I hga hgt hb fun A'=>?_))
  have L0:=I.type (M:=model prog w) -- here
  have L3:=looks_find (M:=model prog w) X I (name := "__class__") (findObj_data (by obtain ⟨cd,hc,_⟩:=any_some hh; rw [hc]; rfl) ha hn ht)
  unfold Builtin.«object.__getattribute__» -- here
  refine wpAny_bind (wpAny_pure (wpAny_bind (wpAny_pure (wpAny_bind (L0 _ _ _ _ (fun _ _ e=>e) (wpAny_bind (L3 _ _ _ _ (fun _ _ e=>e) ?_)))))))
  dsimp only
  unfold bindTo
  refine wpAny_bind (wpAny_holding (wpAny_call (class_get (ox:=ox) (od:=some od) X I hm (wpAny_pure ⟨_,rfl,rfl,wpAny_pure h⟩))))
theorem X3 (hga:findIn K (.ref C) "__getattribute__" = some (some (.builtin "BaseException.__getattribute__")))
    (hgt:findIn K (.ref C) "__getattr__" = some none) (hb:mroIn K C (.type "BaseException")=some true) (hh:hasDictIn K C=true)
    (ha:findIn K (.ref C) "__class__" = some (some (.builtin "object.__class__"))) (hn:specialIn K (.builtin "object.__class__") "__get__" = some (some (.builtin "getset_descriptor.__get__"))) (ht:takesIn K (.builtin "object.__class__")=some true) -- here
    (hm:mroIn K C (.type "object")=some true):KitX K (.ref x) (.ref C) (fun h=>InstAt h x ox C (some od)) where
  ty:=fun _ _ _ I=>I.type
  it:=fun _ _ X _=>by
    obtain ⟨cd0,hc0,_⟩:=any_some hh
    unfold clsIn at hc0
    split at hc0
    · rename_i ho
      intro A' Q' E' s' k q
      unfold isType loadHead
      exact wpAny_bind (wpAny_loadPart (k _ _ (X _ _ ho)) (wpAny_pure q)) -- here
    · cases hc0
  ne:=fun h tp dd its n sl X htp=>by -- here
    obtain ⟨cd0,hc0,_⟩:=any_some hh
    refine Bool.eq_false_iff.mpr fun q=>?_ -- here
    have e:C=tp:=Value.ref.inj (beq_iff_eq.mp q)
    subst e
    unfold clsIn at hc0
    split at hc0
    · rename_i ho
      cases (X _ _ ho).symm.trans htp
    · cases hc0
  ca:=fun X I k=>Sg X I hga hgt hb hh ha hn ht hm k
end
end My
end
section
namespace L2
open PySem PySem.Spec PyProof.Rows
abbrev Ot (C dx:Addr) (vs:Array Value):Obj:={ cls:=.ref C,dict:=some dx,data:=.fields vs }
structure XAt (h:Heap) (e C dx T:Addr) (fl:Value):Prop where
  ne:T≠e
  at_:∃ vs,h.get? e=some (Ot C dx vs)∧vs[1]? = some (.ref T)
  tb:∃ o ts,h.get? T=some o∧o.data=.fields ts∧ts[3]? = some fl
structure Kp (fs ch:List Addr) (h h':Heap):Prop where
  keep:∀ b o,h.get? b=some o→b∉fs→b∉ch→h'.get? b=some o
  slot:∀ b o,h.get? b=some o→b∉ch→∃ sl,h'.get? b=some { o with slots:=sl }
  there:∀ b o,h.get? b=some o→∃ o',h'.get? b=some o'
  size:h.objs.size≤h'.objs.size
theorem Kp.trans {fs ch:List Addr} {h h1 h2:Heap} (a:Kp fs ch h h1) (b:Kp fs ch h1 h2):Kp fs ch h h2 where
  keep:=fun c o q n m=>b.keep c o (a.keep c o q n m) n m
  slot:=fun c o q m=>by
    obtain ⟨sl,e1⟩:=a.slot c o q m
    obtain ⟨sl',e2⟩:=b.slot c _ e1 m
    exact ⟨sl',e2⟩
  there:=fun c o q=>by
    obtain ⟨o',e1⟩:=a.there c o q
    exact b.there c o' e1
  size:=Nat.le_trans a.size b.size
theorem Kp.mono {fs ch fs' ch':List Addr} {h h':Heap} (a:Kp fs ch h h') (hf:∀ b∈fs,b∈fs') (hc:∀ b∈ch,b∈ch'):Kp fs' ch' h h' where
  keep:=fun c o q n m=>a.keep c o q (fun z=>n (hf _ z)) fun z=>m (hc _ z)
  slot:=fun c o q m=>a.slot c o q fun z=>m (hc _ z)
  there:=a.there
  size:=a.size
theorem Kp.slots {fs:List Addr} {h h':Heap} (x:Heap.SlotsOnly fs h h'):Kp fs [] h h' where
  keep:=fun b o q n _=>(x.2.1 b n).trans q
  slot:=fun b o q _=>x.2.2 b o q
  there:=fun b o q=>let ⟨sl,e⟩:=x.2.2 b o q; ⟨_,e⟩
  size:=Nat.le_of_eq x.1.symm
theorem Kp.pushed {fs ch:List Addr} {h:Heap} (o:Obj):Kp fs ch h (h.push o) where
  keep:=fun b u q _ _=>Heap.get?_push_of_some _ q
  slot:=fun b u q _=>⟨u.slots,Heap.get?_push_of_some _ q⟩
  there:=fun b u q=>⟨u,Heap.get?_push_of_some _ q⟩
  size:=by rw [Heap.size_push]; exact Nat.le_succ _
theorem Kp.field {fs:List Addr} {h:Heap} {e:Addr} {o:Obj} {vs:Array Value} (he:h.get? e=some o) (hd:o.data=.fields vs) (f:Array Value→Array Value):Kp fs [e] h (h.update e (Obj.mapFields f)) where
  keep:=fun b u q _ m=>by rw [Heap.get?_update_other _ _ (fun z=>m (by simp [z]))]; exact q
  slot:=fun b u q m=>⟨u.slots,by rw [Heap.get?_update_other _ _ (fun z=>m (by simp [z]))]; exact q⟩
  there:=fun b u q=>by
    by_cases z:e=b
    · subst z; exact ⟨_,Heap.get?_update_self _ he (Obj.isFreed_of_fields (Obj.data_mapFields hd f))⟩
    · exact ⟨u,by rw [Heap.get?_update_other _ _ z]; exact q⟩
  size:=Nat.le_of_eq (Heap.size_after_update ..).symm
section
variable {M:Model} {A:Around} {E:Value→Shared→Prop} {s:Shared} {base:Heap} {env:Env} {outer:List Env} {L e C dx T:Addr} {fl:Value} {vs:Array Value} {Q:Unit→Shared→Prop}
theorem Gm {head:Value} {hn:Bool} (hfr:A.frames=some (env::outer)) (hl:s.heap.FunFrames base (env::outer)) (hf:env.frame=some L) (he:s.heap.get? e=some (Ot C dx vs)) (h1:1<vs.size)
    (hen:e∉frs (env::outer))
    (h:∀ h' T,s.heap.objs.size≤T→Kp (frs (env::outer)) [e] s.heap h'→XAt h' e C dx T (rawInt L)→Q () { s with heap:=h' }) :
    wpAny M A (frameOf env >>= fun a=>entryPlaceOf L hn >>= fun pl=>EntryCells.newEntry head a .none (rawInt L) .none pl >>= fun b=>setField (.ref e) 1 b) Q E s:=by
  refine wpAny_bind (wpAny_frameOf_fun hfr hl hf fun h1' hs=>?_)
  refine wpAny_bind (wpAny_entryPlaceOf fun pl hpl=>?_) -- here
  unfold EntryCells.newEntry newFields -- here
  have e1:h1'.get? e=some (Ot C dx vs):=(hs.2.1 e hen).trans he
  refine wpAny_bind (wpAny_newObj_type ?_ (hpl.sizeOk5 _ _ _ _ _)) -- here
  refine wpAny_setField (Heap.get?_push_of_some _ e1) rfl h1 ?_
  have ne:h1'.objs.size≠e:=Nat.ne_of_gt (Heap.lt_size e1)
  refine h _ h1'.objs.size (Nat.le_of_eq hs.1.symm) ?_ ⟨ne,⟨vs.setIfInBounds 1 (.ref h1'.objs.size),?_,by simp [h1]⟩,?_⟩
  · exact (((Kp.slots hs).mono (ch':=[e]) (fun _ z=>z) (fun _ z=>nomatch z)).trans (Kp.pushed _)).trans (Kp.field (Heap.get?_push_of_some _ e1) rfl _)
  · exact Heap.get?_update_self _ (Heap.get?_push_of_some _ e1) rfl
  · refine ⟨_,_,(Heap.get?_update_other _ _ (Ne.symm ne)).trans (Heap.get?_push_size _ rfl),rfl,?_⟩
    rcases hpl with rfl | ⟨_,_,_,_,_,_,_,rfl⟩ <;> simp
theorem Qh (hfr:A.frames=some (env::outer)) (hl:s.heap.FunFrames base (env::outer)) (hf:env.frame=some L) (he:s.heap.get? e=some (Ot C dx vs)) (h1:vs[1]? = some .none) (hen:e∉frs (env::outer))
    (h:∀ h' T,s.heap.objs.size≤T→Kp (frs (env::outer)) [e] s.heap h'→XAt h' e C dx T (rawInt L)→Q () { s with heap:=h' }):wpAny M A (noteFrame (.ref e) env) Q E s:=by
  unfold noteFrame
  simp only [hf]
  refine wpAny_bind (wpAny_field he rfl h1 ?_)
  rw [if_neg (by decide)]
  exact Gm hfr hl hf he (Array.getElem?_eq_some_iff.mp h1).1 hen h
theorem U7 (hfr:A.frames=some (env::outer)) (hl:s.heap.FunFrames base (env::outer)) (hf:env.frame=some L) (x:XAt s.heap e C dx T .none) (hen:e∉frs (env::outer)) (hTn:T∉frs (env::outer))
    (h:∀ h' T',s.heap.objs.size≤T'→Kp (frs (env::outer)) [e,T] s.heap h'→XAt h' e C dx T' (rawInt L)→Q () { s with heap:=h' }):wpAny M A (noteFrame (.ref e) env) Q E s:=by
  obtain ⟨ne,⟨vs,he,h1⟩,o,ts,hT,hd,h3⟩:=x
  have k1:Kp (frs (env::outer)) [T] s.heap (s.heap.update T (Obj.mapFields (·.setIfInBounds 3 Value.none))):=Kp.field hT hd _
  unfold noteFrame
  simp only [hf]
  refine wpAny_bind (wpAny_field he rfl h1 ?_)
  rw [if_pos (show (Value.ref T != Value.none)=true from by simp)] -- here
  refine wpAny_bind (wpAny_field hT hd h3 ?_)
  rw [if_neg (show ¬ ((Value.none==rawInt L)=true) from by simp [rawInt])] -- here
  refine wpAny_bind (wpAny_setField hT hd (Array.getElem?_eq_some_iff.mp h3).1 ?_)
  have he':(s.heap.update T (Obj.mapFields (·.setIfInBounds 3 Value.none))).get? e=some (Ot C dx vs):=(Heap.get?_update_other _ _ ne).trans he
  refine Gm (base:=base) hfr (hl.of_keeps fun b u q nf=>?_) hf he' (Array.getElem?_eq_some_iff.mp h1).1 hen fun h' T' hz k2 x=>h h' T' (Nat.le_trans k1.size hz) ((k1.mono (fun _ z=>z) (by simp)).trans (k2.mono (fun _ z=>z) (by simp))) x
  refine ⟨u,?_,rfl⟩
  have:T≠b:=fun z=>by subst z; rw [hT] at q; cases q; exact nf ts hd
  rw [Heap.get?_update_other _ _ this]; exact q
theorem Cm (x:XAt s.heap e C dx T fl) (h:∀ h',Kp [] [T] s.heap h'→XAt h' e C dx T .none→Q () { s with heap:=h' }):wpAny M A (setFlight (.ref e) none) Q E s:=by
  obtain ⟨ne,⟨vs,he,h1⟩,o,ts,hT,hd,h3⟩:=x
  have z3:=(Array.getElem?_eq_some_iff.mp h3).1
  unfold setFlight
  refine wpAny_bind (wpAny_field he rfl h1 ?_)
  rw [if_pos (show (Value.ref T != Value.none)=true from by simp)] -- here
  refine wpAny_setField hT hd z3 (h _ (Kp.field hT hd _) ⟨ne,⟨vs,(Heap.get?_update_other _ _ ne).trans he,h1⟩,_,_,Heap.get?_update_self _ hT (Obj.isFreed_of_fields (Obj.data_mapFields hd _)),Obj.data_mapFields hd _,by simp [z3]⟩)
end
end L2
end
section
namespace My
open PySem PySem.W PySem.Calls PyProof.Rows PySem.Spec Builtin.ObjectAttr
section
variable {prog:Program} {w:World} {A:Around} {E:Value→Shared→Prop} {s:Shared} {K:Frag} {x C D t:Addr} {cd:ClassData} {name:Str} {v:Value}
theorem Wm {Q:Unit→Shared→Prop} (X:K.In s.heap) (hx:s.heap.get? x=some (Sd C t))
    (hs:findIn K (.ref C) "__setattr__" = some (some (.builtin "object.__setattr__"))) (hc:clsIn K C=some cd) (hm:cd.mro=.ref C :: .ref D::vB) (hd:cd.hasDict=true)
    (ho:mroIn K C (.type "object")=some true) (ha:findIn K (.ref C) name=some none)
    (h:∀ h',(∀ b o,b≠x→s.heap.get? b=some o→h'.get? b=some o)→h'.get? x=some (Wj C t s.heap.objs.size)→h'.get? s.heap.objs.size=some (dictOf [⟨PyData.keyHash w.params name,.str name (s.toks+1),v⟩] 1)→Q () { s with heap:=h',toks:=s.toks+2 }) :
    wpAny (model prog w) A (setAttr (.ref x) name v) Q E s:=by
  have I:InstAt s.heap x (Sd C t) C none:=⟨hx,rfl,rfl,trivial⟩
  refine set_plain X I hs ?_
  have SF:=PySem.F.store_object -- here
  have sub:Looks (model prog w) s.heap (isInstance (.ref x) (.type "object")) true:=I.type.andThen (looks_mroIn X ho)
  refine codeAny_call_builtin SF.slot.plain SF.entry (@check_slot (model prog w) _ _ _ "object.__setattr__" "object" "__setattr__" (.ref x) [.str name s.toks,v] [] _ SF.kind SF.split sub (SF.args (.ref x) (.str name s.toks) v) ?_)
  have hmr:Looks (model prog w) s.heap (mroOf (.ref C)) cd.mro:=(looks_clsIn X hc).andThen .now
  rw [osa_eq,refuse_eq]
  refine wpAny_bind (wpAny_bind (I.type _ _ _ _ (fun _ _ e=>e) (wpAny_bind (hmr _ _ _ _ (fun _ _ e=>e) ?_))))
  rw [hm,refuseLoop_ref,refuseLoop_ref,a6b]
  refine wpAny_pure (wpAny_bind (I.type _ _ _ _ (fun _ _ e=>e) (wpAny_bind (looks_findIn X ha _ _ _ _ (fun _ _ e=>e) (wpAny_bind (wpAny_pure ?_))))))
  dsimp only
  refine wpAny_bind (wpAny_pure (wpAny_bind (wpAny_bind (wpAny_loadPart hx (wpAny_bind (looks_clsIn X hc _ _ _ _ (fun _ _ e=>e) ?_))))))
  rw [hd]
  show wpAny _ _ (alloc { cls:=.type "dict",data:=.dict #[] } >>= fun dx=>update x (fun o=>{ o with dict:=some dx }) >>= fun _=>dictMade (.ref C) x dx) _ _ _
  have lx:x<s.heap.objs.size:=Heap.lt_size hx
  have g1:=Heap.get?_push_of_some (h:=s.heap) (dictOf [] 0) hx
  have g2:((s.heap.push (dictOf [] 0)).update x (fun o=>{ o with dict:=some s.heap.objs.size })).get? x=some (Wj C t s.heap.objs.size):=Heap.get?_update_self _ g1 rfl
  have g3:((s.heap.push (dictOf [] 0)).update x (fun o=>{ o with dict:=some s.heap.objs.size })).get? s.heap.objs.size=some (dictOf [] 0):=(Heap.get?_update_other _ _ (Nat.ne_of_lt lx)).trans (Heap.get?_push_size _ rfl)
  refine wpAny_bind (wpAny_alloc (wpAny_bind (wpAny_update g1 ?_)))
  refine wpAny_pure (a:=some s.heap.objs.size) (wpAny_bind (wpAny_pure (wpAny_bind ?_)))
  unfold nsSet
  refine wpAny_bind (wpAny_bind (wpAny_askSetting (wpAny_pure (wpAny_bind (wpAny_mkText (wpAny_bind (wpAny_loadPart g3 ?_)))))))
  have c:aRefKeyMayBeTheName name [].toArray=false:=by rw [aRefKeyMayBeTheName_at]; simp
  show wpAny _ _ (if aRefKeyMayBeTheName name [].toArray=true then _ else _) _ _ _
  rw [c]
  refine wpAny_updatePart g3 ?_
  have g4:=Heap.get?_update_self (Obj.putName name (PyData.keyHash w.params name) (.str name (s.toks+1)) v) g3 (by rw [putName_dict]; rfl)
  refine wpAny_bind (wpAny_lookBehind g4 (pastItsLine_dict (by rw [List.size_toArray,sizeLine_eq]; show 1≤_; decide)) ?_)
  refine wpAny_pure (h _ (fun b o nb q=>?_) ?_ ?_)
  · have l:=Heap.lt_size q
    rw [Heap.get?_update_other _ _ (Nat.ne_of_gt l),Heap.get?_update_other _ _ (Ne.symm nb)]
    exact Heap.get?_push_of_some _ q
  · rw [Heap.get?_update_other _ _ (Nat.ne_of_gt lx)]; exact g2
  · exact g4
end
end My
end
section
namespace L2
open PySem PySem.Spec PyProof.Rows
structure XC (K:PySem.W.Frag) (C D fI:Addr) (f:Str):Prop where
  lk:∃ nm q Na bs sn sub ab col dd k0 k1 k2 k3 k5,K.lookup C=some (excClassObj nm q C Na bs (.ref D::My.vB) true sn sub ab col dd k0 k1 k2 k3 k5 "ValueError.__new__")
  base:PySem.W.excIn K D My.vB "ValueError.__new__" = true
  init:PySem.W.findIn K (.ref C) "__init__" = some (some (.ref fI))
  fn:PySem.W.isFn K (.ref fI)=true
  sa:PySem.W.findIn K (.ref C) "__setattr__" = some (some (.builtin "object.__setattr__"))
  ob:PySem.W.mroIn K C (.type "object")=some true
  na:PySem.W.findIn K (.ref C) f=some none
  kp:PySem.W.keepIn K (.ref C)=true
def a5c (e C t:Addr):HO:=.ext fun h=>h.get? e=some (My.Sd C t)
def Ud (e C t dx:Addr):HO:=.ext fun h=>h.get? e=some (My.Wj C t dx)
def yp (dx:Addr) (f:Str) (v:V):HO:=.ext fun h=>∃ hs tk u,RelV v u∧h.get? dx=some (PySem.W.dictOf [⟨hs,.str f tk,u⟩] 1)
theorem Yr {P:Program} {w:World} {H:Hp} {h:Heap} {a:Addr} {o:Obj} (e:h.get? a=some o):qe P w H h a (.ext fun h=>h.get? a=some o):=⟨e,⟨_,e⟩,fun _ _ q k=>k _ q⟩
theorem Wh {P:Program} {w:World} {H:Hp} {h:Heap} {dx:Addr} {f:Str} {v:V} {hs:Int} {tk:Tok} {u:Value} (r:RelV v u) (e:h.get? dx=some (PySem.W.dictOf [⟨hs,.str f tk,u⟩] 1)):qe P w H h dx (yp dx f v) :=
  ⟨⟨hs,tk,u,r,e⟩,⟨_,e⟩,fun _ _ ⟨a,b,c,r,q⟩ k=>⟨a,b,c,r,k _ q⟩⟩
section
variable {X:Cx} {pins:List (Addr × Obj)} {σ:St} {H:Hp} {s:Shared} {e C D fI t:Addr} {f:Str} {v:V} {u:Value} {A:Around} {E:Value→Shared→Prop}
theorem Inv.a4q {h':Heap} {dx:Addr} {o p:HO} {t':Nat} (I:Inv X pins σ H s) (he:Mut (H e)) (hz:s.heap.objs.size≤dx) (k:∀ b u,b≠e→s.heap.get? b=some u→h'.get? b=some u) (hoe:∃ u,h'.get? e=some u)
    (n1:∀ H',qe X.prog X.w H' h' e o) (n2:∀ H',qe X.prog X.w H' h' dx p):Inv X pins σ (upd (upd H dx p) e o) { s with heap:=h',toks:=t' }:=by
  have hdx:H dx=none:=I.hok.fresh hz
  have ne:dx≠e:=fun z=>by subst z; rw [hdx] at he; exact he
  have nb:∀ b,H b=none→b≠e:=fun b n z=>by subst z; rw [n] at he; exact he
  have ns:∀ b u,s.heap.get? b=some u→b≠dx:=fun b u q z=>by subst z; exact absurd (Nat.lt_of_lt_of_le (Heap.lt_size q) hz) (Nat.lt_irrefl _)
  have nm:∀ b u,H b=some u→¬ Mut (some u)→b≠e∧b≠dx:=fun b u q n=>⟨fun z=>by subst z; rw [q] at he; exact n he,fun z=>by subst z; rw [hdx] at q; cases q⟩
  have up:∀ b,b≠e→b≠dx→upd (upd H dx p) e o b=H b:=fun b n m=>by rw [d7 n,d7 m]
  refine I.un (t':=t') ⟨fun b u q n _ _=>k b u (nb b n) q,fun b u q n _ _=>⟨u.slots,k b u (nb b n) q⟩,fun b u q n _=>by rw [up b (nb b n) (ns b u q)]; exact n,fun b u q _=>?_,
    fun b xs q=>?_,fun b u xs q=>?_,fun b ps q=>⟨#[],?_⟩⟩ fun b u q=>?_
  · by_cases z:b=e
    · subst z; exact hoe
    · exact ⟨u,k b u z q⟩
  · obtain ⟨a,c⟩:=nm b _ q fun z=>z
    rw [up b a c]; exact q
  · obtain ⟨a,c⟩:=nm b _ q fun z=>z
    rw [up b a c]; exact q
  · obtain ⟨a,c⟩:=nm b _ q fun z=>z
    rw [up b a c,q]; simp
  · by_cases z:b=e
    · subst z; rw [cj] at q; cases q; exact n1 _
    · rw [d7 z] at q
      by_cases y:b=dx
      · subst y; rw [cj] at q; cases q; exact n2 _
      · rw [d7 y] at q
        refine (I.hok b u q).stay (fun c w hc r=>k c w ?_ r) (fun c r=>?_) fun c xs r=>?_
        · rcases hc with hc | hc
          · rw [hc]; exact z
          · exact (nm c _ hc fun z=>z).1
        · obtain ⟨a,d⟩:=nm c _ r fun z=>z
          rw [up c a d]; exact r
        · obtain ⟨a,d⟩:=nm c _ r fun z=>z
          rw [up c a d]; exact r
theorem Vd {Q:Unit→Shared→Prop} (c:XC X.K C D fI f) (I:Inv X pins σ H s) (e0:H e=some (a5c e C t)) (r:RelV v u)
    (h:∀ s' dx,H dx=none→dx≠e→Inv X pins σ (upd (upd H dx (yp dx f v)) e (Ud e C t dx)) s'→Q () s'):wpAny (model X.prog X.w) A (setAttr (.ref e) f u) Q E s:=by
  obtain ⟨nm,q,Na,bs,sn,sub,ab,col,dd,k0,k1,k2,k3,k5,lk⟩:=c.lk
  have hx:s.heap.get? e=some (My.Sd C t):=(I.hok e _ e0).1
  refine My.Wm (cd:={ name:=nm,bases:=bs,mro:=.ref C :: .ref D::My.vB,ns:=Na,qualname:=q,hasDict:=true,slotNames:=sn,subclasses:=sub,abstract:=ab,collection:=col,hasDel:=false }) I.kIn hx c.sa (by unfold PySem.W.clsIn; rw [lk]) rfl rfl c.ob c.na fun h' k g1 g2=>h _ s.heap.objs.size (I.hok.fresh (Nat.le_refl _)) (Nat.ne_of_gt (Heap.lt_size hx)) ?_
  exact I.a4q (by rw [e0]; exact True.intro) (Nat.le_refl _) k ⟨_,g1⟩ (fun _=>Yr g1) fun _=>Wh r g2
end
def a6f (C:Addr) (f:Str) (ta tv:TE):TS:=fun D σ H=>tv σ H fun v H1=>ta σ H1 fun x H2=>∃ e t,x=.ref e∧H2 e=some (a5c e C t)∧∀ dx,H2 dx=none→dx≠e→D.nx σ (upd (upd H2 dx (yp dx f v)) e (Ud e C t dx))
def Jh (C:Addr) (f:Str):Sp:=fun vs H Q _=>∃ e t v,vs=[.ref e,v]∧H e=some (a5c e C t)∧∀ dx,H dx=none→dx≠e→Q .non (upd (upd H dx (yp dx f v)) e (Ud e C t dx))
section
variable {X:Cx} {o value:Expr} {ta tv:TE} {f:Str} {pos pos':Pos} {C D fI:Addr}
theorem Zm (c:XC X.K C D fI f) (ha:PE X o ta) (hv:PE X value tv) (hs:swapsWith value (some (.Attribute o f pos')) pos.line X.env=pure false):PS X (.Assign [.Attribute o f pos'] value pos) (a6f C f ta tv):=by
  intro pins s σ H D I h
  refine plainObj_wpAny_Assign_Attribute (thn (hv pins s σ H _ I h) fun u s1 ⟨y,H1,I1,ry,q⟩=>thn (ha pins s1 σ H1 _ I1 q) fun ov s2 ⟨x,H2,I2,rx,e,t,ex,e0,q2⟩=>?_) hs
  subst ex
  obtain rfl:ov=Value.ref e:=rx
  exact Vd c I2 e0 ry fun s3 dx h1 h2 I3=>⟨σ,_,I3,q2 dx h1 h2⟩
end
section
variable {P:Program} {w:World} {K:PySem.W.Frag} {mg:Str→Option Value} {base:Heap}
theorem a1j {qual p f:Str} {st:Stmt} {C D fI:Addr} {fd:FuncData} {q1 q2 q3 q4:Pos} (c:XC K C D fI f) (F:Fun K "__init__" qual st fI fd) (S:jr ["self",p] ["self",p] (dz st))
    (hb:qm st=[.Assign [.Attribute (.Name "self" q1) f q2] (.Name p q3) q4]) (h1:(dz st).names.lookup ("self" : Str)=some .local) (h2:(dz st).names.lookup p=some .local) (hp:("self" : Str)≠p) (hd:(p==("__debug__" : Str))=false) (hcd:(p==("__classdict__" : Str))=false)
    (hsw:∀ env:Env,swapsWith (.Name p q3) (some (.Attribute (.Name "self" q1) f q2)) q4.line env=pure false) :
    ud P w K mg base CX0 1 fI fd ["self",p] (Jh C f):=by
  refine F.ok S (fun vs H Q E ⟨e,t,v,h,_⟩=>by rw [h]; rfl) fun cdv A outer s H vs Q E hr ⟨e,t,v,h,h0,h3⟩=>?_
  subst h
  rw [hb]
  refine ⟨_,Ek (Zm (C:=C) (D:=D) (fI:=fI) c (U3 (i:=0) rfl (.inl h1)) (U3 (i:=1) rfl (.inl h2) hd hcd) (hsw _)),?_⟩
  exact ⟨v,rfl,.ref e,rfl,e,t,rfl,h0,h3⟩
end
end L2
end
section
namespace L2
open PySem PySem.Spec PyProof.Rows
section
variable {X:Cx} {pins:List (Addr × Obj)} {σ:St} {H:Hp} {s:Shared} {C D fI:Addr} {f p:Str} {v:V} {u:Value} {E:Value→Shared→Prop} {fd:FuncData}
theorem a08 {Q:Value→Shared→Prop} (c:XC X.K C D fI f) (F:ud X.prog X.w X.K X.mg X.base CX0 1 fI fd ["self",p] (Jh C f)) (hr:xq 2 X.A) (hb:Binds X.K fd ["self",p] []) (I:Inv X pins σ H s) (r:RelV v u)
    (h:∀ s' e t dx,H e=none→H dx=none→dx≠e→s.heap.objs.size≤e→Inv X pins σ (upd (upd H dx (yp dx f v)) e (Ud e C t dx)) s'→Q (.ref e) s'):wpAny (model X.prog X.w) X.A (call (.ref C) [u]) Q E s:=by
  obtain ⟨nm,q,Na,bs,sn,sub,ab,col,dd,k0,k1,k2,k3,k5,lk⟩:=c.lk
  have hC:=I.kIn _ _ lk
  have f1:=tc_lookup
  have f2:=tc_bind (.ref C)
  have I1:Inv X pins σ H { s with heap:=s.heap.push (My.Yz [u]) }:=I.kept (t':=s.toks) fun b o z=>Heap.get?_push_of_some _ z
  have z1:(s.heap.push (My.Yz [u])).objs.size=s.heap.objs.size+1:=Heap.size_push ..
  have g1:((s.heap.push (My.Yz [u])).push (My.Sd C s.heap.objs.size)).get? (s.heap.objs.size+1)=some (My.Sd C s.heap.objs.size):=by
    rw [← z1]; exact Heap.get?_push_size _ rfl
  have I2:Inv X pins σ (upd H (s.heap.objs.size+1) (a5c (s.heap.objs.size+1) C s.heap.objs.size)) { s with heap:=(s.heap.push (My.Yz [u])).push (My.Sd C s.heap.objs.size) } :=
    I1.laid (t':=s.toks) (fun b o z=>Heap.get?_push_of_some _ z) (by show (s.heap.push (My.Yz [u])).objs.size≤_; rw [z1]; exact Nat.le_refl _) (Yr g1)
  have hE:H (s.heap.objs.size+1)=none:=I.hok.fresh (Nat.le_succ _)
  have r2:Vals [V.ref (s.heap.objs.size+1),v] [Value.ref (s.heap.objs.size+1),u]:=.cons rfl (.cons r .nil)
  obtain ⟨hh,g,d,tk,os⟩:=s -- here
  have hT:(⟨hh,g,d,tk,os⟩:Shared).TypeIs (.ref C) "type" := ⟨_,hC,rfl⟩
  refine wpAny_call (codeAny_of_tree ?_) -- here
  show wpAny _ _ (callAny (.ref C) _) _ _ _ -- here
  repeat (any_goals (first | assumption | with_reducible refine wpAny_loadPart_at hC ?_ | wp_step)) -- here
  refine ⟨rfl,?_⟩
  refine codeAny_call_builtin_at (Code.quiet_builtin _ (by decide +kernel)) entry_typeCall (wpAny_check_type_call_sub hC (My.G5 I.kIn hC (My.a6p I.kIn c.base) c.init (beq_iff_eq.mp c.fn) (wpAny_call (codeAny_mono
    (F.run _ X.stack _ _ ⟨[Value.ref (hh.objs.size+1),u],[]⟩ [Value.ref (hh.objs.size+1),u] _ (fun w H'=>w=.non∧∃ dx,H dx=none∧dx≠hh.objs.size+1∧H'=upd (upd H dx (yp dx f v)) (hh.objs.size+1) (Ud (hh.objs.size+1) C hh.objs.size dx)) (fun _ _ _=>False) (hr.make C [u] []) (I2.env0.make C [u] [])
      (hb _ [Value.ref (hh.objs.size+1),u] I2.kIn rfl) r2 ⟨_,_,v,rfl,cj,fun dx h1 h2=>⟨rfl,dx,by rw [d7 h2] at h1; exact h1,h2,?_⟩⟩) fun r s' hq=>?_)) (by show 1≤sizeLine; rw [sizeLine_eq]; decide)))
  · funext b
    by_cases e1:b=hh.objs.size+1
    · subst e1; rw [cj,cj]
    · rw [d7 e1,d7 e1]
      by_cases e2:b=dx
      · subst e2; rw [cj,cj]
      · rw [d7 e2,d7 e2,d7 e1]
  · cases r with
    | error e=>exact False.elim hq
    | ok fl =>
      cases fl with
      | ret u' =>
        obtain ⟨v',H',I3,rv,⟨ev,dx,h1,h2,e3⟩⟩:=I2.after hq
        subst ev
        subst e3
        exact ⟨rv,h s' _ _ dx hE h1 h2 (Nat.le_succ _) I3⟩
      | next=>exact False.elim hq
      | brk=>exact False.elim hq
      | cont=>exact False.elim hq
end
end L2
end
section
namespace L2
open PySem PySem.Spec PyProof.Rows
def CXx (P:Program) (w:World):CXT:=fun outer H s E e s'=>∃ a C dx T H',e=.ref a∧s.heap.objs.size≤a∧s.heap.objs.size≤T∧XAt s'.heap a C dx T .none∧H' a=none∧H' T=none ∧
  s'.os=s.os∧AllBare s'.gens∧Un (frs outer) [] H H' s.heap s'.heap∧HOk P w H' s'.heap∧E (.ref C) (some dx) H'
section
variable {X:Cx} {pins:List (Addr × Obj)} {σ:St} {H:Hp} {s:Shared}
theorem Inv.noted {h':Heap} {ch:List Addr} (I:Inv X pins σ H s) (k:Kp (frs X.stack) ch s.heap h') (hn:∀ b∈ch,H b=none)
    (hch:∀ b∈ch,(b∈X.ex∨X.s₀.heap.objs.size≤b)∧b≠X.env.locals∧(∀ x c,X.env.cells.lookup x=some c→c≠b)∧∀ p∈X.pn++pins,p.1≠b):Inv X pins σ H { s with heap:=h' }:=by
  refine I.step (g':=s.gens) (d':=s.drawn) (t':=s.toks) (ch:=ch) hch (fun b o hL hb hc e n=>k.keep b o e (fun z=>(List.mem_cons.mp (I.Ku b z)).elim hL hb) hc) (fun b o _ _ hc e _=>k.slot b o e hc) (fun _ _ _ _ n=>n)
    (fun b o _ e=>k.there b o e) (fun _ _ e=>e) (fun _ _ _ e=>e) (fun b ps e=>⟨#[],by rw [e]; simp⟩) (fun m hm=>?_) (fun b u e=>?_) I.bare
  · obtain ⟨o,es,ep,ho,r⟩:=hm
    obtain ⟨sl,q⟩:=k.slot _ o ho fun z=>(hch _ z).2.1 rfl
    exact ⟨_,es,ep,q,r⟩
  · have tr:∀ c x,H c=some x→c∉frs X.stack∧c∉ch:=fun c x q=>⟨(fun z=>by rw [I.Lk c z] at q; cases q),(fun z=>by rw [hn c z] at q; cases q)⟩
    refine (I.hok b u e).stay (fun c v hc q=>?_) (fun _ q=>q) fun _ _ q=>q
    rcases hc with hc | hc
    · subst hc; exact k.keep c v q (tr c u e).1 (tr c u e).2
    · exact k.keep c v q (tr c _ hc).1 (tr c _ hc).2
theorem Inv.Gs {e:Addr} {o:Obj} {vs:Array Value} (I:Inv X pins σ H s) (he:s.heap.get? e=some o) (hd:o.data=.fields vs):e≠X.env.locals∧(∀ x c,X.env.cells.lookup x=some c→c≠e)∧e∉frs X.stack:=by
  refine ⟨fun z=>?_,fun x c q z=>?_,fun z=>?_⟩
  · obtain ⟨m,⟨o',es,ep,ho',hd',_⟩,_⟩:=I.loc
    rw [← z,he] at ho'; cases ho'; rw [hd'] at hd; cases hd
  · obtain ⟨v,o',ho',hd'⟩:=I.cell x c q
    rw [z,he] at ho'; cases ho'; rw [hd'] at hd; cases hd
  · obtain ⟨_,o',ho',hnf⟩:=I.stack.mem z
    rw [he] at ho'; cases ho'; exact hnf vs hd
end
section
variable {P:Program} {w:World} {K:PySem.W.Frag} {mg:Str→Option Value} {base:Heap} {N:List Str} {qual:Str} {scope:Scope} {f:Addr} {cd:Value} {A:Around} {outer:List Env} {s₀ s:Shared} {H₀ H:Hp} {E:XK} {pins:List (Addr × Obj)} {σ:St} {e C dx:Addr} {vs:Array Value}
theorem Wq (I:Inv (Qg (CXx P w) P w K mg base N qual scope f cd A outer s₀ H₀ E) pins σ H s) (he:s.heap.get? e=some (Ot C dx vs)) (h1:vs[1]? = some .none) (hn:H e=none) (hz:s₀.heap.objs.size≤e) (hE:E (.ref C) (some dx) H) :
    (Qg (CXx P w) P w K mg base N qual scope f cd A outer s₀ H₀ E).xe (.ref e) s:=by
  have I0:=I.Cj (pins':=[]) (fun p hp=>nomatch hp)
  have ne:=I0.Gs he rfl
  show wpAny _ _ (leaving _ _) _ _ _
  unfold leaving
  refine wpAny_bind (Qh (L:=s₀.heap.objs.size) (base:=base) I0.ok.frames I0.stack rfl he h1 ne.2.2 fun h' T hT k x=>?_)
  have I1:=I0.noted k (fun b hb=>by rw [List.mem_singleton.mp hb]; exact hn) fun b hb=>by
    obtain rfl:=List.mem_singleton.mp hb
    exact ⟨.inr hz,ne.1,ne.2.1,fun p hp=>nomatch hp⟩
  have hT0:H T=none:=I0.hok.fresh hT
  obtain ⟨oT,tsT,gT,dT,_⟩:=x.tb
  have neT:=I1.Gs (s:={ s with heap:=h' }) gT dT
  have sz:s₀.heap.objs.size≤T:=Nat.le_trans I0.sz hT
  refine Cm (s:={ s with heap:=h' }) x fun h2 k2 x2=>?_
  have I2:=I1.noted (h':=h2) (k2.mono (fun _ z=>nomatch z) (fun _ z=>z)) (fun b hb=>by rw [List.mem_singleton.mp hb]; exact hT0) fun b hb=>by
    obtain rfl:=List.mem_singleton.mp hb
    exact ⟨.inr sz,neT.1,neT.2.1,fun p hp=>nomatch hp⟩
  exact ⟨e,C,dx,T,H,rfl,hz,sz,x2,hn,hT0,I2.os,I2.bare,I2.base,I2.hok,hE⟩
end
end L2
end
section
namespace L2
open PySem PySem.Spec PyProof.Rows
section
variable {X:Cx} {pins:List (Addr × Obj)} {σ:St} {H:Hp} {s:Shared} {e:Addr}
theorem Inv.a0y {φ:Heap→Prop} (I:Inv X pins σ (upd H e (.ext φ)) s) (hn:H e=none):Inv X pins σ H s:=by
  have ne:∀ b u,upd H e (.ext φ) b=some u→(∀ ψ,u≠.ext ψ)→b≠e∧H b=some u:=fun b u q n=>by
    by_cases z:b=e
    · subst z; rw [cj] at q; cases q; exact absurd rfl (n _)
    · rw [d7 z] at q; exact ⟨z,q⟩
  have fr:∀ b,upd H e (.ext φ) b=none→H b=none:=fun b q=>by
    by_cases z:b=e
    · subst z; exact hn
    · rw [d7 z] at q; exact q
  refine I.step (g':=s.gens) (d':=s.drawn) (t':=s.toks) (h':=s.heap) (ch:=[]) (fun _ z=>nomatch z) (fun b o _ _ _ q _=>q) (fun b o _ _ _ q _=>⟨o.slots,q⟩) (fun b o _ _ n=>fr b n) (fun b o _ q=>⟨o,q⟩)
    (fun b xs q=>(ne b _ q (fun _=>by intro z; cases z)).2) (fun b o u q=>(ne b _ q (fun _=>by intro z; cases z)).2) (fun b ps q=>⟨#[],by rw [(ne b _ q (fun _=>by intro z; cases z)).2]; simp⟩) (fun _ hm=>hm) (fun b u q=>?_) I.bare
  have z:b≠e:=fun z=>by subst z; rw [hn] at q; cases q
  refine (I.hok b u (by rw [d7 z]; exact q)).stay (fun _ _ _ r=>r) (fun c r=>(ne c _ r (fun _=>by intro z; cases z)).2) fun c xs r=>(ne c _ r (fun _=>by intro z; cases z)).2
end
def XW (X:Cx) (E:XK):Prop:=∀ (pins:List (Addr × Obj)) (σ:St) (H:Hp) (s:Shared) (e C dx:Addr) (vs:Array Value),Inv X pins σ H s→s.heap.get? e=some (Ot C dx vs)→vs[1]? = some .none→H e=none→X.s₀.heap.objs.size≤e→E (.ref C) (some dx) H→X.xe (.ref e) s
theorem a3z {P:Program} {w:World} {K:PySem.W.Frag} {mg:Str→Option Value} {base:Heap} {N:List Str} {qual:Str} {scope:Scope} {f:Addr} {cd:Value} {A:Around} {outer:List Env} {s₀:Shared} {H₀:Hp} {E:XK} :
    XW (Qg (CXx P w) P w K mg base N qual scope f cd A outer s₀ H₀ E) E:=fun _ _ _ _ _ _ _ _ I he h1 hn hz hE=>Wq I he h1 hn hz hE
section
variable {M:Model} {A:Around} {E:Value→Shared→Prop} {env:Env} -- here
variable {nm q:Str} {C N:Addr} {bs bm:List Value} {hdct:Bool} {sn:List Str} {sub:List Value} {ab:Bool} {col:Option Bool} {dd:Option Addr} {k0 k1 k2 k3 k5:Option Value} {newId:String} -- here
theorem Vv {s:Shared} {x:Sem Value} {Q:Flow→Shared→Prop} (hbase:bm.contains (.type "BaseException")=true) (hh:A.handled=none)
    (h:wpAny M A x (fun v s1=>∃ e dx vs,v=.ref e∧s1.heap.get? C=some (excClassObj nm q C N bs bm hdct sn sub ab col dd k0 k1 k2 k3 k5 newId)∧s1.heap.get? e=some (Ot C dx vs)∧vs[1]? = some .none∧E (.ref e) s1) E s) :
    wpAny M A (raiseStmt env (some x) none) Q E s:=by -- here
  have hcB:(Value.ref C::bm).contains (.type "BaseException")=true:=by rw [List.contains_cons,hbase,Bool.or_true] -- here
  unfold raiseStmt
  refine wpAny_bind (wpAny_mono h (fun v s1 h1=>?_) fun _ _ x=>x)
  obtain ⟨e,dx,vs,rfl,hC,he,hv,hE⟩:=h1
  obtain ⟨hp,g,d,tk,os⟩:=s1
  repeat (first | with_reducible refine wpAny_loadPart_at he ?_ | with_reducible refine wpAny_loadPart_at hC ?_ | (with_reducible refine wpAny_isSubtype_exc hC ?_; rw [hcB]) | wp_step) -- here
  rw [hv]
  exact wpAny_pure (wpAny_pure (wpAny_raiseNew_none hh hE))
end
def sRz (C:Addr) (f:Str) (E:XK) (te:TE):TS:=fun _ σ H=>te σ H fun v H1=>∀ dx,H1 dx=none→E (.ref C) (some dx) (upd H1 dx (yp dx f v))
section
variable {X:Cx} {E:XK} {C D fI:Addr} {f p x:Str} {fd:FuncData} {arg:Expr} {te:TE} {np cpos pos:Pos}
theorem Y4 (W:XW X E) (c:XC X.K C D fI f) (F:ud X.prog X.w X.K X.mg X.base CX0 1 fI fd ["self",p] (Jh C f)) (hr:xq 2 X.A) (hb:Binds X.K fd ["self",p] []) (hg:Gl X x) (hm:X.mg x=some (.ref C)) (ha:PE X arg te)
    (hdb:(x==("__debug__" : Str))=false:=by decide) (he:starEach [arg] X.env=[(false,eval arg X.env)]:=by rfl) :
    PS X (.Raise (some (.Call (.Name x np) [arg] [] cpos)) none pos) (sRz C f E te):=by
  intro pins s σ H Dn I h
  obtain ⟨nm,q,Na,bs,sn,sub,ab,col,dd,k0,k1,k2,k3,k5,lk⟩:=c.lk
  rw [arm_exec_Raise]
  refine wpAny_bind (wpAny_standAt ?_)
  show wpAny _ _ (raiseStmt X.env (some (eval (.Call (.Name x np) [arg] [] cpos) X.env >>= fun v=>standAt pos >>= fun _=>pure v)) none) _ _ _
  refine Vv (C:=C) (nm:=nm) (q:=q) (N:=Na) (bs:=bs) (bm:=.ref D::My.vB) (hdct:=true) (sn:=sn) (sub:=sub) (ab:=ab) (col:=col) (dd:=dd) (k0:=k0) (k1:=k1) (k2:=k2) (k3:=k3) (k5:=k5) (newId := "ValueError.__new__") (by simp) hr.hd ?_
  refine wpAny_bind (wpAny_mono (Q:=fun v s1=>∃ e dx vs,v=.ref e∧s1.heap.get? C=some (excClassObj nm q C Na bs (.ref D::My.vB) true sn sub ab col dd k0 k1 k2 k3 k5 "ValueError.__new__")∧s1.heap.get? e=some (Ot C dx vs)∧vs[1]? = some .none∧X.xe (.ref e) s1) ?_ (fun v s1 h1=>wpAny_bind (wpAny_standAt (wpAny_pure h1))) fun _ _ z=>z)
  refine wpAny_Call_Name_kw (J5 I hg hm ?_ hdb)
  refine PySem.W.callWith_K (h₀:=X.base) I.ok.mod.kin c.kp (thn (jj ha qg (by rw [he]; rfl) cpos pins s σ H (fun vs H1=>match vs with | [v]=>∀ dx,H1 dx=none→E (.ref C) (some dx) (upd H1 dx (yp dx f v)) | _=>False) I h) fun us s1 ⟨vs,H1,I1,r,q⟩=>⟨I1.kIn,?_⟩) he rfl
  obtain ⟨v,ev,hE⟩:∃ v,vs=[v]∧∀ dx,H1 dx=none→E (.ref C) (some dx) (upd H1 dx (yp dx f v)):=by
    match vs,q with
    | [v],q=>exact ⟨v,rfl,q⟩
  subst ev
  obtain ⟨u,eu,rv⟩:=r.one
  subst eu
  exact a08 c F hr hb I1 rv fun s' e t dx h1 h2 h3 h4 I2=>by
    have e0:upd H1 dx (yp dx f v) e=none:=by rw [d7 (Ne.symm h3)]; exact h1
    have he':s'.heap.get? e=some (My.Wj C t dx):=(I2.hok e _ cj).1
    have I3:=I2.a0y e0
    exact ⟨e,dx,_,rfl,I3.kIn _ _ lk,he',rfl,W pins σ _ s' e C dx _ I3 he' rfl e0 (Nat.le_trans I1.sz h4) (hE dx h2)⟩
end
end L2
end
section
namespace L2
open PySem PySem.Spec PyProof.Rows
def Off (X:Cx) (pins:List (Addr × Obj)) (b:Addr):Prop:=(b∈X.ex∨X.s₀.heap.objs.size≤b)∧b≠X.env.locals∧(∀ x c,X.env.cells.lookup x=some c→c≠b)∧∀ p∈X.pn++pins,p.1≠b
section
variable {X:Cx} {pins:List (Addr × Obj)} {σ:St} {H:Hp} {s:Shared}
theorem Inv.off {b:Addr} (I:Inv X pins σ H s) (h:s.heap.objs.size≤b):Off X pins b:=by
  refine ⟨.inr (Nat.le_trans I.sz h),fun z=>?_,fun x c q z=>?_,fun p hp z=>?_⟩
  · subst z; exact absurd (Nat.lt_of_lt_of_le I.lt h) (Nat.lt_irrefl _)
  · obtain ⟨v,o,ho,_⟩:=I.cell x c q
    subst z; exact absurd (Nat.lt_of_lt_of_le (Heap.lt_size ho) h) (Nat.lt_irrefl _)
  · have:=(I.pin p hp).1
    rw [z] at this
    exact absurd (Nat.lt_of_lt_of_le (Heap.lt_size this) h) (Nat.lt_irrefl _)
def XP (X:Cx) (CX:CXT) (pins:List (Addr × Obj)) (σ:St) (E:XK) (e:Value) (s':Shared):Prop:=∃ H1 s1,Inv X pins σ H1 s1∧CX X.stack H1 s1 E e s'
structure Lies (X:Cx) (pins:List (Addr × Obj)) (σ:St) (H:Hp) (s:Shared) (a C dx T:Addr):Prop where
  inv:Inv X pins σ H s
  at_:XAt s.heap a C dx T .none
  ha:H a=none
  hT:H T=none
  oa:Off X pins a
  oT:Off X pins T
theorem XP.lies {E:XK} {e:Value} (h:XP X (CXx X.prog X.w) pins σ E e s):∃ a C dx T H',e=.ref a∧Lies X pins σ H' s a C dx T∧E (.ref C) (some dx) H':=by
  obtain ⟨H1,s1,I,a,C,dx,T,H',rfl,za,zT,x,na,nT,os,ba,un,hok,hE⟩:=h
  exact ⟨a,C,dx,T,H',rfl,⟨I.call' (ch:=[]) os un hok ba (fun b z=>nomatch z),x,na,nT,I.off za,I.off zT⟩,hE⟩
end
section
variable {X:Cx} {CX:CXT} {k:Nat} {f:Addr} {fd:FuncData} {ps:List Str} {sp:Sp} {x:Str} {p pos:Pos} {e:Expr} {es:List Expr} {t:TA}
theorem Vl (F:ud X.prog X.w X.K X.mg X.base CX k f fd ps sp) (hr:xq k X.A) (hg:Gl X x) (hm:X.mg x=some (.ref f)) (hk:PySem.W.keepIn X.K (.ref f)=true) (hb:Binds X.K fd ps []) (ha:PA X.nox (e::es) t)
    (hdb:(x==("__debug__" : Str))=false:=by decide) (he:starEach (e::es) X.env=(false,eval e X.env)::starEach es X.env:=by rfl) (hpl:(backTo pos (starEach es X.env)).any (·.1)=false:=by rfl)
    (pins:List (Addr × Obj)) (s:Shared) (σ:St) (H:Hp) (Q:VK) (E:XK) (I:Inv X pins σ H s) (h:t σ H fun vs H1=>sp vs H1 Q E) :
    wpAny (model X.prog X.w) X.A (eval (.Call (.Name x p) (e::es) [] pos) X.env) (EP X pins σ Q) (XP X CX pins σ E) s:=by
  refine wpAny_Call_Name_kw (J5 I hg hm ?_ hdb)
  refine PySem.W.callWith_K (h₀:=X.base) I.ok.mod.kin hk (wpAny_mono (ha pos pins s σ H _ (I.wish _) h) (fun us s1 z0=>?_) fun _ _ z=>False.elim z) he hpl
  obtain ⟨vs,H1,I1',r,q⟩:=z0
  have I1:=I1'.yc
  refine ⟨I1.kIn,?_⟩
  have r2:Vals vs (us++[]):=by rw [List.append_nil]; exact r
  have hl:(us++[]).length=ps.length:=by rw [← r2.length]; exact F.len _ _ _ _ q
  refine wpAny_call (codeAny_mono (F.run X.A X.stack s1 H1 ⟨us,[]⟩ (us++[]) vs Q E hr I1.env0 (hb s1 us I1.kIn hl) r2 q) fun r s' hq=>?_)
  cases r with
  | error e=>exact ⟨H1,s1,I1,hq⟩
  | ok fl =>
    cases fl with
    | ret u=>exact I1.after hq
    | next=>exact False.elim hq
    | brk=>exact False.elim hq
    | cont=>exact False.elim hq
end
abbrev Cx.mk' (X:Cx) (a:Addr):Cx:={ X with A:=X.A.mark (some (.ref a)),calm:=false,xe:=fun _ _=>False }
section
variable {X:Cx} {pins:List (Addr × Obj)} {σ:St} {H:Hp} {s:Shared} {a:Addr}
theorem Inv.mk' (I:Inv X pins σ H s) (a:Addr):Inv (X.mk' a) pins σ H s :=
  ⟨⟨I.ok.mod,I.ok.kind,I.ok.glob,I.ok.blt,I.ok.above,I.ok.inj,I.ok.has,I.ok.cab,(fun z=>nomatch z),I.ok.frames,I.ok.stk,I.ok.exf,I.ok.bs,I.ok.bsz,I.ok.noex,I.ok.exfs,I.ok.Nq,I.ok.frf⟩,I.os,I.bare,I.base,I.loc,I.cell,I.free,I.freeC,I.pin,I.hok,I.len⟩
theorem Inv.a0e (I:Inv (X.mk' a) pins σ H s) (hd:X.calm=true→X.A.handled=none):Inv X pins σ H s :=
  ⟨⟨I.ok.mod,I.ok.kind,I.ok.glob,I.ok.blt,I.ok.above,I.ok.inj,I.ok.has,I.ok.cab,hd,I.ok.frames,I.ok.stk,I.ok.exf,I.ok.bs,I.ok.bsz,I.ok.noex,I.ok.exfs,I.ok.Nq,I.ok.frf⟩,I.os,I.bare,I.base,I.loc,I.cell,I.free,I.freeC,I.pin,I.hok,I.len⟩
theorem name_goes {M:Model} {A:Around} {E:Value→Shared→Prop} {Q:Unit→Shared→Prop} {i:Nat} {n:Str} {pos:Pos} (I:Inv X pins σ H s) (hN:X.N.Nodup) (hi:X.N[i]? = some n) (hx:X.env.scope.names.lookup n=some .local)
    (h:∀ s',Inv X pins (σ.set i none) H s'→Q () s'):wpAny M A (do bindName X.env n .none; unbindBehindTheSuite X.env n pos) Q E s:=by
  obtain ⟨m,hn,hl⟩:=id I.loc
  have hcls:(X.env.scope.kind == .class||(X.env.scope.kind == .module&&X.env.locals != X.env.globals))=false:=by rw [I.ok.kind]; rfl
  have hiσ:i<σ.length:=by rw [I.len]; exact (List.getElem?_eq_some_iff.mp hi).1
  obtain ⟨oL,_,_,hoL,_⟩:=id hn
  refine wpAny_nameGoes_keeps hx hn hcls fun h' v hn' hs=>h _ ?_
  have nL:∀ b o,X.s₀.heap.get? b=some o→b≠X.env.locals:=fun b o e=>Nat.ne_of_lt (Nat.lt_of_lt_of_le (Heap.lt_size e) I.ok.above)
  refine ⟨I.ok,I.os,I.bare,⟨fun b o e n hb hx=>(hs.2 b (nL b o e)).trans (I.base.keep b o e n hb hx),fun b o e n hb hx=>?_,I.base.free,fun b o e hx=>?_,I.base.tups,I.base.frzs,I.base.tbls⟩,⟨_,hn',fun j y v' e1 e2 e3=>?_⟩,fun y c e=>?_,I.free,I.freeC,fun p hp=>?_,fun b u e=>?_,by rw [List.length_set]; exact I.len⟩
  · obtain ⟨sl,e1⟩:=I.base.slot b o e n hb hx
    exact ⟨sl,(hs.2 b (nL b o e)).trans e1⟩
  · obtain ⟨o',e1⟩:=I.base.there b o e hx
    exact ⟨o',(hs.2 b (nL b o e)).trans e1⟩
  · by_cases hj:j=i
    · subst hj
      rw [List.getElem?_set_self hiσ] at e2; cases e2
    · rw [List.getElem?_set_ne (Ne.symm hj)] at e2
      obtain ⟨u',r',q⟩:=hl j y v' e1 e2 e3
      refine ⟨u',r',?_⟩
      rcases q with ⟨k,e⟩ | ⟨k,c,e,z⟩
      · have:y≠n:=fun e=>hj (Ia hN e1 (e ▸ hi))
        exact .inl ⟨k,by simp [this,e]⟩
      · exact .inr ⟨k,c,e,z.sameBut hs (I.cne y c e)⟩
  · obtain ⟨w',z⟩:=I.cell y c e
    exact ⟨w',z.sameBut hs (I.cne y c e)⟩
  · obtain ⟨e,n,ne,nf,d⟩:=I.pin p hp
    exact ⟨(hs.2 p.1 ne).trans e,n,ne,nf,d⟩
  · have tr:∀ c x,H c=some x→c≠X.env.locals:=fun c x q z=>by rw [z,I.free] at q; cases q
    refine (I.hok b u e).stay (fun c w hc q=>(hs.2 c ?_).trans q) (fun _ q=>q) fun _ _ q=>q
    rcases hc with hc | hc
    · subst hc; exact tr c u e
    · exact tr c _ hc
end
end L2
end
section
namespace L2
open PySem PySem.Spec PyProof.Rows
def XCl (K:PySem.W.Frag) (C:Addr) (bm:List Value):Prop:=bm.contains (.type "BaseException")=true∧∃ nm q Na bs hdct sn sub ab col dd k0 k1 k2 k3 k5,K.lookup C=some (excClassObj nm q C Na bs bm hdct sn sub ab col dd k0 k1 k2 k3 k5 "ValueError.__new__")
section
variable {M:Model} {A:Around} {E:Value→Shared→Prop} {K:PySem.W.Frag} {C C1 C2 C3:Addr} {bm bm1 bm2 bm3:List Value} {Q:Bool→Shared→Prop}
theorem V3 {s:Shared} {a:Addr} {o:Obj} (X:K.In s.heap) (c:XCl K C bm) (c1:XCl K C1 bm1) (he:s.heap.get? a=some o) (hc:o.cls=.ref C) (h:Q ((Value.ref C::bm).contains (.ref C1)) s):wpAny M A (excMatches (.ref a) (.ref C1)) Q E s:=by
  obtain ⟨_,nm,q,Na,bs,hdct,sn,sub,ab,col,dd,k0,k1,k2,k3,k5,lk⟩:=c
  obtain ⟨b1,nm',q',Na',bs',hdct',sn',sub',ab',col',dd',k0',k1',k2',k3',k5',lk'⟩:=c1
  obtain ⟨hp,g,d,tk,os⟩:=s -- here
  have hC:=X _ _ lk
  have h1:=X _ _ lk'
  have e1:(Value.ref C1::bm1).contains (.type "BaseException")=true:=by rw [List.contains_cons,b1,Bool.or_true]
  have f:=tc_notTuple
  unfold excMatches
  repeat (first | (with_reducible refine wpAny_loadPart_at he ?_; rw [hc]) | with_reducible refine wpAny_loadPart_at h1 ?_ | (with_reducible refine wpAny_isSubtype_exc h1 ?_; rw [e1]) | with_reducible refine wpAny_isSubtype_exc hC ?_ | wp_step)
  cases hb:(Value.ref C::bm).contains (.ref C1) <;> (rw [hb] at h; wp_walk; exact h)
theorem a0o:isSubtype (.type "tuple") (.type "tuple")=pure true:=by rw [isSubtype_type]; kernel_rfl
theorem Vj {s:Shared} {a tp:Addr} {o ot:Obj} {nn:Nat} (X:K.In s.heap) (c:XCl K C bm) (c1:XCl K C1 bm1) (c2:XCl K C2 bm2) (he:s.heap.get? a=some o) (hc:o.cls=.ref C) (ht:s.heap.get? tp=some ot) (hct:ot.cls=.type "tuple") (hdt:ot.data=.seq #[.ref C1,.ref C2] nn)
    (n1:(Value.ref C::bm).contains (.ref C1)=false) (n2:(Value.ref C::bm).contains (.ref C2)=false) (h:Q false s):wpAny M A (excMatches (.ref a) (.ref tp)) Q E s:=by
  obtain ⟨_,nm,q,Na,bs,hdct,sn,sub,ab,col,dd,k0,k1,k2,k3,k5,lk⟩:=c
  obtain ⟨b1,nm',q',Na',bs',hdct',sn',sub',ab',col',dd',k0',k1',k2',k3',k5',lk'⟩:=c1
  obtain ⟨b2,nm2,q2,Na2,bs2,hdct2,sn2,sub2,ab2,col2,dd2,k02,k12,k22,k32,k52,lk2⟩:=c2
  obtain ⟨hp,g,d,tk,os⟩:=s -- here
  have hC:=X _ _ lk
  have h1:=X _ _ lk'
  have h2:=X _ _ lk2
  have e1:(Value.ref C1::bm1).contains (.type "BaseException")=true:=by rw [List.contains_cons,b1,Bool.or_true]
  have e2:(Value.ref C2::bm2).contains (.type "BaseException")=true:=by rw [List.contains_cons,b2,Bool.or_true]
  have f:=a0o
  obtain ⟨otc,otd,otdata,otsl⟩:=ot
  subst hct hdt
  unfold excMatches
  repeat (first | (with_reducible refine wpAny_loadPart_at he ?_; rw [hc]) | with_reducible refine wpAny_loadPart_at ht ?_ | with_reducible refine wpAny_loadPart_at h1 ?_ | with_reducible refine wpAny_loadPart_at h2 ?_ | (with_reducible refine wpAny_isSubtype_exc h1 ?_; rw [e1]) | (with_reducible refine wpAny_isSubtype_exc h2 ?_; rw [e2]) | (with_reducible refine wpAny_isSubtype_exc hC ?_; first | rw [n1] | rw [n2]) | wp_step)
  exact h
end
section
variable {X:Cx} {pins:List (Addr × Obj)} {σ:St} {H:Hp} {s:Shared} {a C dx T:Addr}
theorem Lies.mk' (L:Lies X pins σ H s a C dx T) (b:Addr):Lies (X.mk' b) pins σ H s a C dx T:=⟨L.inv.mk' b,L.at_,L.ha,L.hT,L.oa,L.oT⟩
theorem Lies.a0e {b:Addr} (L:Lies (X.mk' b) pins σ H s a C dx T) (hd:X.calm=true→X.A.handled=none):Lies X pins σ H s a C dx T:=⟨L.inv.a0e hd,L.at_,L.ha,L.hT,L.oa,L.oT⟩
theorem Lies.eval {e:Expr} {te:TE} {Q:VK} (L:Lies X pins σ H s a C dx T) (he:PE X e te) (h:te σ H Q) :
    wpAny (model X.prog X.w) X.A (eval e X.env) (fun u s'=>∃ v H1,Lies X pins σ H1 s' a C dx T∧RelV v u∧Q v H1) X.xe s:=by
  obtain ⟨ne,⟨vs,g1,v1⟩,o,ts,g2,d2,t3⟩:=L.at_
  have fs:∀ b,b∉frs X.stack→b≠X.env.locals→b∉X.fs:=fun b h1 _ z=>by
    rcases L.inv.ok.stk with q | ⟨q,_⟩
    · rw [q] at h1; exact h1 z
    · rw [q] at h1
      refine h1 ?_
      unfold frs
      rw [List.filterMap_cons]
      split
      · exact z
      · exact List.mem_cons_of_mem _ z
  have n1:=L.inv.Gs g1 rfl
  have n2:=L.inv.Gs g2 d2
  have I:=L.inv.Cj (pins':=(a,Ot C dx vs)::(T,o)::pins) fun p hp=>by
    rcases List.mem_cons.mp hp with rfl | hp
    · exact ⟨g1,L.ha,n1.1,fs a n1.2.2 n1.1,fun v q=>by cases q⟩
    · rcases List.mem_cons.mp hp with rfl | hp -- here
      · exact ⟨g2,L.hT,n2.1,fs T n2.2.2 n2.1,fun v q=>by rw [d2] at q; cases q⟩
      · exact L.inv.pin p (List.mem_append_right _ hp)
  refine thn (he _ s σ H Q I h) fun u s1 z0=>?_
  obtain ⟨v,H1,I1,r,q⟩:=z0
  obtain ⟨e1,z1,_⟩:=I1.pin (a,Ot C dx vs) (List.mem_append_right _ List.mem_cons_self)
  obtain ⟨e2,z2,_⟩:=I1.pin (T,o) (List.mem_append_right _ (List.mem_cons_of_mem _ List.mem_cons_self))
  refine ⟨v,H1,⟨I1.Cj fun p hp=>I1.pin p (List.mem_append_right _ (List.mem_cons_of_mem _ (List.mem_cons_of_mem _ hp))),⟨ne,⟨vs,e1,v1⟩,o,ts,e2,d2,t3⟩,z1,z2,L.oa,L.oT⟩,r,q⟩
end
def PHs (X:Cx) (hs:List ExceptHandler) (C:Addr) (t:Addr→TS):Prop :=
  ∀ (pins:List (Addr × Obj)) (s:Shared) (σ:St) (H:Hp) (D:Ends) (a dx T:Addr),Lies X pins σ H s a C dx T→t dx D σ H→wpAny (model X.prog X.w) X.A (handleBy (.ref a) X.env hs) (SP X pins D) X.xe s
section
variable {X:Cx} {rest:List ExceptHandler} {C C1 C2 C3:Addr} {bm bm1 bm2 bm3:List Value} {t:Addr→TS} {x1 x2 x3:Str} {p1 p2 p3 pt pos:Pos} {nm:Option Str} {body:List Stmt} {ec:Nat}
theorem Yh (hd:X.calm=true→X.A.handled=none) (c:XCl X.K C bm) (c1:XCl X.K C1 bm1) (c2:XCl X.K C2 bm2)
    (n1:(Value.ref C::bm).contains (.ref C1)=false) (n2:(Value.ref C::bm).contains (.ref C2)=false)
    (g1:Gl X x1) (g2:Gl X x2) (m1:X.mg x1=some (.ref C1)) (m2:X.mg x2=some (.ref C2)) (h:PHs X rest C t)
    (d1:(x1==("__debug__" : Str))=false:=by decide) (d2:(x2==("__debug__" : Str))=false:=by decide) :
    PHs X (.ExceptHandler (some (.Tuple [.Name x1 p1,.Name x2 p2] ec pt)) nm body pos::rest) C fun dx D σ H=>∀ p,H p=none→t dx D σ (upd H p (.tup [.ref C1,.ref C2])):=by
  intro pins s σ H D a dx T L hq
  refine wpAny_handleBy_cons (codeAny_handlers_test ?_) (by intro q; cases q)
  have pe:PE (X.mk' a) (.Tuple [.Name x1 p1,.Name x2 p2] ec pt) (a67 (G3 (tC (.ref C1)) (G3 (tC (.ref C2)) Yy))) :=
    O6 (jj (Mz g1 m1 rfl d1) (jj (Mz g2 m2 rfl d2) qg))
  refine wpAny_mono ((L.mk' a).eval (Q:=fun v H1=>∃ p,v=.ref p∧H1 p=some (.tup [.ref C1,.ref C2])∧t dx D σ H1) pe ⟨by show 2≤sizeLine; rw [sizeLine_eq]; decide,fun p hp=>⟨p,rfl,cj,hq p hp⟩⟩) (fun u s1 z0=>?_) fun _ _ z=>False.elim z
  obtain ⟨v,H1,L1,r,p,ev,hp,q⟩:=z0
  subst ev
  obtain rfl:u=Value.ref p:=r
  obtain ⟨_,⟨vs,ga,_⟩,_⟩:=L1.at_
  obtain ⟨_,its,rv,ot,go,co,_,nn,dd⟩:=L1.inv.hok p _ hp
  have e3:its=[.ref C1,.ref C2]:=by
    cases rv with
    | cons r1 rv=>cases rv with
      | cons r2 rv=>cases rv; rw [show _=Value.ref C1 from r1,show _=Value.ref C2 from r2]
  subst e3
  refine Vj L1.inv.kIn c c1 c2 ga rfl go co dd n1 n2 ?_
  exact h pins s1 σ H1 D a dx T (L1.a0e hd) q
end
end L2
end
section
namespace L2
open PySem PySem.Spec PyProof.Rows
def Jp (a C dx:Addr):HO:=.ext fun h=>∃ vs,h.get? a=some (Ot C dx vs)
section
variable {X:Cx} {pins:List (Addr × Obj)} {σ:St} {H:Hp} {s:Shared} {a C dx T:Addr}
theorem Lies.seen (L:Lies X pins σ H s a C dx T):Inv X pins σ (upd H a (Jp a C dx)) s:=by
  have I:=L.inv
  obtain ⟨_,⟨vs,ga,_⟩,_⟩:=L.at_
  have ne:∀ b u,H b=some u→b≠a:=fun b u q=>iu q L.ha
  refine I.step (g':=s.gens) (d':=s.drawn) (t':=s.toks) (h':=s.heap) (ch:=[a]) (fun b hb=>?_) (fun b o _ _ _ q _=>q) (fun b o _ _ _ q _=>⟨o.slots,q⟩) (fun b o hb _ n=>by rw [d7 (fun z=>hb (by simp [z]))]; exact n) (fun b o _ q=>⟨o,q⟩)
    (fun b xs q=>by rw [d7 (ne b _ q)]; exact q) (fun b o u q=>by rw [d7 (ne b _ q)]; exact q) (fun b ps q=>⟨#[],by rw [d7 (ne b _ q),q]; simp⟩) (fun _ hm=>hm) (fun b u q=>?_) I.bare
  · obtain rfl:=List.mem_singleton.mp hb -- here
    exact L.oa
  · by_cases z:b=a
    · subst z; rw [cj] at q; cases q
      exact ⟨⟨vs,ga⟩,⟨_,ga⟩,fun h1 h2 ⟨ws,e⟩ k=>⟨ws,k _ e⟩⟩
    · rw [d7 z] at q
      exact (I.hok b u q).stay (fun _ _ _ r=>r) (fun c r=>by rw [d7 (ne c _ r)]; exact r) fun c xs r=>by rw [d7 (ne c _ r)]; exact r
theorem Lies.flight {M:Model} {A:Around} {E:Value→Shared→Prop} {Q:Unit→Shared→Prop} (L:Lies X pins σ H s a C dx T) (h:∀ s',Lies X pins σ H s' a C dx T→Q () s'):wpAny M A (setFlight (.ref a) none) Q E s :=
  Cm L.at_ fun h' k x=>h _ ⟨L.inv.noted (k.mono (fun _ z=>nomatch z) (fun _ z=>z)) (fun b hb=>by rw [List.mem_singleton.mp hb]; exact L.hT) (fun b hb=>by rw [List.mem_singleton.mp hb]; exact L.oT),x,L.ha,L.hT,L.oa,L.oT⟩
theorem Lies.note {A:Around} {E:Value→Shared→Prop} {Q:Unit→Shared→Prop} (hst:X.stack=X.env::X.outer) (hfr:X.env.frame=some X.env.locals) (hA:A.frames=some X.stack) (L:Lies X pins σ H s a C dx T) (h:∀ s' T',Lies X pins σ H s' a C dx T'→Q () s') :
    wpAny (model X.prog X.w) A (noteFrame (.ref a) X.env) (fun _ s2=>wpAny (model X.prog X.w) A (setFlight (.ref a) none) Q E s2) E s:=by
  obtain ⟨ne,⟨vs,ga,v1⟩,o,ts,gT,dT,t3⟩:=id L.at_
  have n1:=L.inv.Gs ga rfl
  have n2:=L.inv.Gs gT dT
  have fr:=L.inv.stack
  rw [hst] at hA n1 n2 fr
  refine U7 (L:=X.env.locals) (base:=X.base) hA fr hfr L.at_ n1.2.2 n2.2.2 fun h' T' hT' k x=>?_
  rw [← hst] at k
  have I1:=L.inv.noted k (fun b hb=>by
    rcases List.mem_cons.mp hb with rfl | hb -- here
    · exact L.ha
    · rw [List.mem_singleton.mp hb]; exact L.hT) (fun b hb=>by
    rcases List.mem_cons.mp hb with rfl | hb -- here
    · exact L.oa
    · rw [List.mem_singleton.mp hb]; exact L.oT)
  refine Cm (s:={ s with heap:=h' }) x fun h2 k2 x2=>h _ T' ⟨I1.noted (h':=h2) (k2.mono (fun _ z=>nomatch z) (fun _ z=>z)) (fun b hb=>by rw [List.mem_singleton.mp hb]; exact L.inv.hok.fresh hT') (fun b hb=>by rw [List.mem_singleton.mp hb]; exact L.inv.off hT'),x2,L.ha,L.inv.hok.fresh hT',L.oa,L.inv.off hT'⟩
end
def a3a (i:Nat) (D:Ends):Ends where
  nx:=fun σ H=>D.nx (σ.set i none) H
  rt:=D.rt
  bk:=fun σ H=>D.bk (σ.set i none) H
  ct:=fun σ H=>D.ct (σ.set i none) H
section
variable {X:Cx} {rest:List ExceptHandler} {C C1:Addr} {bm bm1:List Value} {t:Addr→TS} {x1 n:Str} {p1 pos:Pos} {b₀:Stmt} {suite:List Stmt} {ts:TS} {i:Nat}
theorem Rw (hd:X.calm=true→X.A.handled=none) (hN:X.N.Nodup) (hi:X.N[i]? = some n) (hn:X.env.scope.names.lookup n=some .local) (c:XCl X.K C bm) (c1:XCl X.K C1 bm1) (y:(Value.ref C::bm).contains (.ref C1)=true) (g1:Gl X x1) (m1:X.mg x1=some (.ref C1))
    (hS:∀ a,PSs (X.mk' a) (b₀::suite) ts) (d1:(x1==("__debug__" : Str))=false:=by decide) :
    PHs X (.ExceptHandler (some (.Name x1 p1)) (some n) (b₀::suite) pos::rest) C fun dx D σ H=>∀ a,H a=none→i<σ.length→ts (a3a i D) (σ.set i (some (.ref a))) (upd H a (Jp a C dx)):=by
  intro pins s σ H D a dx T L hq
  refine wpAny_handleBy_cons (codeAny_handlers_test ?_) (by intro q; cases q)
  have pe:PE (X.mk' a) (.Name x1 p1) (tC (.ref C1)):=Mz g1 m1 rfl d1
  refine wpAny_mono ((L.mk' a).eval (Q:=fun v H1=>v=.ref C1∧H1=H) pe ⟨rfl,rfl⟩) (fun u s1 z0=>?_) fun _ _ z=>False.elim z
  obtain ⟨v,H1,L1,r,ev,eH⟩:=z0
  subst ev
  subst eH
  obtain rfl:u=Value.ref C1:=r
  obtain ⟨_,⟨vs,ga,_⟩,_⟩:=L1.at_
  refine V3 L1.inv.kIn c c1 ga rfl ?_
  rw [y]
  refine codeAny_handlers_suite_as ?_ -- here
  refine L1.flight fun s2 L2=>?_
  refine Dy (X:=X.mk' a) (v:=.ref a) L2.seen hN hi (.inl hn) rfl (fun s3 I3=>?_) (.inr hn)
  refine wpAny_mono (hS a pins s3 _ _ _ I3 (hq a L.ha (by rw [L.inv.len]; exact (List.getElem?_eq_some_iff.mp hi).1))) (fun fl s4 h4=>?_) fun _ _ z=>False.elim z
  cases fl with
  | next =>
    obtain ⟨σ',H',I4,q⟩:=h4
    exact name_goes (I4.a0e hd) hN hi hn fun s5 I5=>⟨_,H',I5,q⟩
  | brk =>
    obtain ⟨σ',H',I4,q⟩:=h4
    exact name_goes (I4.a0e hd) hN hi hn fun s5 I5=>⟨_,H',I5,q⟩
  | cont =>
    obtain ⟨σ',H',I4,q⟩:=h4
    exact name_goes (I4.a0e hd) hN hi hn fun s5 I5=>⟨_,H',I5,q⟩
  | ret u =>
    obtain ⟨v,σ',H',I4,r,q⟩:=h4
    exact name_goes (I4.a0e hd) hN hi hn fun s5 I5=>⟨v,_,H',I5,r,q⟩
end
abbrev TB:=Ends→XK→St→Hp→Prop
def PB (X:Cx) (st:List Stmt) (t:TB):Prop :=
  ∀ (pins:List (Addr × Obj)) (s:Shared) (σ:St) (H:Hp) (D:Ends) (E:XK),Inv X pins σ H s→t D E σ H→wpAny (model X.prog X.w) X.A (execs st X.env) (SP X pins D) (XP X (CXx X.prog X.w) pins σ E) s
def a5x (C:Addr) (tb:TB) (th:Addr→TS):TS:=fun D σ H=>tb D (fun cls dx H'=>∃ d,cls=.ref C∧dx=some d∧th d D σ H') σ H
section
variable {X:Cx} {body:List Stmt} {h₀:ExceptHandler} {hs:List ExceptHandler} {C:Addr} {tb:TB} {th:Addr→TS} {pos:Pos}
theorem Z5 (hst:X.stack=X.env::X.outer) (hfr:X.env.frame=some X.env.locals) (hb:PB X body tb) (hh:PHs X (h₀::hs) C th):PS X (.Try body (h₀::hs) [] [] pos) (a5x C tb th):=by
  intro pins s σ H D I h
  refine wpAny_Try_except (wpAny_mono (hb pins s σ H D _ I h) (fun f s1 q=>?_) fun e s1 q=>?_)
  · cases f with
    | next=>exact wpAny_execs_nil q
    | brk=>exact q
    | cont=>exact q
    | ret u=>exact q
  · obtain ⟨a,C',dx,T,H',rfl,L,d,e1,e2,q⟩:=q.lies
    cases e1
    cases e2
    exact L.note hst hfr L.inv.ok.frames fun s2 T' L2=>hh pins s2 σ H' D a dx T' L2 q
end
end L2
end
section
namespace C
open PySem
abbrev FnX:=List T→List SO→Option ((T ⊕ T) × List SO)
abbrev SX:=Sta→Option ((Flow ⊕ T) × Sta)
def lx (u:S):SX:=fun s=>match u s with
  | some (fl,s1)=>some (.inl fl,s1)
  | none=>none
def tu (a b:SX):SX:=fun s=>match a s with
  | some (.inl .next,s1)=>b s1
  | r=>r
def xIf (c:M Bool) (a b:SX):SX:=fun s=>match c s with
  | some (true,s1)=>a s1
  | some (false,s1)=>b s1
  | none=>none
def Ai (m:M T):SX:=fun s=>match m s with
  | some (t,s1)=>some (.inr t,s1)
  | none=>none
def ug (g:G) (b:SX):List T→SX
  | []=>fun s=>some (.inl .next,s)
  | t::r=>fun s=>match g t s with
    | some s1=>match b s1 with
      | some (.inl .next,s2)=>ug g b r s2
      | some (.inl .cont,s2)=>ug g b r s2
      | some (.inl .brk,s2)=>some (.inl .next,s2)
      | some (.inl (.ret v),s2)=>some (.inl (.ret v),s2)
      | some (.inr v,s2)=>some (.inr v,s2)
      | none=>none
    | none=>none
def Pa (g:G) (it:M (List T)) (b:SX):SX:=fun s=>match it s with
  | some (ts,s1)=>ug g b ts s1
  | none=>none
def Ji (n:Nat) (b:SX):FnX:=fun ts sto=>match b ⟨ts.map (fun t=>some (t,false))++List.replicate (n - ts.length) none,sto⟩ with
  | some (.inl (.ret t),s)=>some (.inl t,s.sto)
  | some (.inl .next,s)=>some (.inl .non,s.sto)
  | some (.inr t,s)=>some (.inr t,s.sto)
  | _=>none
def norm (F:FnX):Fn:=fun ts sto=>match F ts sto with
  | some (.inl t,s)=>some (t,s)
  | _=>none
def Dc (F:FnX) (a:M (List T)) (k:T→Sta→Sta):SX:=fun s=>match a s with
  | some (ts,s1)=>match F ts s1.sto with
    | some (.inl t,sto)=>some (.inl .next,k t { s1 with sto:=sto })
    | some (.inr t,sto)=>some (.inr t,{ s1 with sto:=sto })
    | none=>none
  | none=>none
def a1a:T→Sta→Sta:=fun _ s=>s
def Qz (i:Nat):T→Sta→Sta:=fun t s=>gk i t false s
def clr (i:Nat) (s:Sta):Sta:={ s with env:=s.env.set i none }
def Te (F:FnX) (a:M (List T)) (k:T→Sta→Sta) (i j:Nat) (hv:T→Option T):S:=fun s=>match a s with
  | some (ts,s1)=>match F ts s1.sto with
    | some (.inl t,sto)=>some (.next,k t { s1 with sto:=sto })
    | some (.inr t,sto)=>match hv t with
      | some u=>some (.next,clr i (gk j u false (clr i { s1 with sto:=sto })))
      | none=>none
    | none=>none
  | none=>none
end C
end
section
namespace C
open PySem PySem.Spec PyProof.Rows L2
def a7f (K:PySem.W.Frag) (B:Bas) (Cl:Addr) (f:Str) (E:XK) (D:Ends) (ps:List (V × T)):Flow ⊕ T→Sta→Prop
  | .inl fl,st'=>Fin K B D ps fl st'
  | .inr t,st'=>∀ v dx σ' H' S' as',Rel K B st' σ' H' ((v,t)::ps) S' as'→H' dx=some (yp dx f v)→E (.ref Cl) (some dx) H'
def J7 (K:PySem.W.Frag) (B:Bas) (Cl:Addr) (f:Str) (E:XK) (s:SX):TS:=fun D σ H=>∃ st ps S as,Rel K B st σ H ps S as∧∃ fl st',s st=some (fl,st')∧a7f K B Cl f E D ps fl st'
theorem Ext.beside {S H:Hp} {p:Addr} (h:Same S H) (n:H p=none) (o:HO):Ext S H S (upd H p o) :=
  ⟨Same.refl _,Same.upd n o,fun b u q=>by rw [d7 (iu (h _ _ q) n)]; exact h _ _ q,fun _ q=>.inl q⟩
section
variable {K:PySem.W.Frag} {B:Bas} {st:Sta} {σ σ':L2.St} {H S:Hp} {ps:List (V × T)} {as:List Addr}
theorem Rel.clr {i:Nat} (r:Rel K B st σ H ps S as) (h:∀ k,k≠i→σ'[k]? = σ[k]?) (hl:σ'.length=σ.length):Rel K B (clr i st) σ' H ps S as:=by
  have key:∀ (k:Nat) t f,(st.env.set i none)[k]? = some (some (t,f))→k≠i∧st.env[k]? = some (some (t,f)):=fun k t f e=>by
    by_cases z:i=k
    · subst z
      by_cases q:i<st.env.length
      · rw [List.getElem?_set_self q] at e; cases e
      · rw [List.getElem?_eq_none (by rw [List.length_set]; exact Nat.le_of_not_lt q)] at e; cases e
    · rw [List.getElem?_set_ne z] at e; exact ⟨Ne.symm z,e⟩
  refine ⟨r.sub,r.grow,fun k t f e=>?_,fun a b t u p ea eb sa sb=>?_,r.sto,r.pend,by rw [hl,r.len]; exact (List.length_set ..).symm⟩
  · obtain ⟨n,e'⟩:=key k t f e
    rw [h k n]; exact r.slots k t f e'
  · obtain ⟨na,ea'⟩:=key a t true ea
    obtain ⟨nb,eb'⟩:=key b u true eb
    rw [h a na] at sa
    rw [h b nb] at sb
    exact r.apart a b t u p ea' eb' sa sb
end
section
variable {X:Cx} {B:Bas} {c:Expr} {pos:Pos} {u v:SX} {Cl:Addr} {f:Str} {E:XK}
theorem mq {st:Stmt} {w:S} (h:PS X st (sOf X.K B w)):PS X st (J7 X.K B Cl f E (lx w)):=h.imp fun D σ H z9=>by
  obtain ⟨st,ps,S,as,R,fl,st',e,q⟩:=z9
  unfold lx at e
  cases z:w st with
  | none=>rw [z] at e; cases e
  | some p=>obtain ⟨fl',s'⟩:=p; rw [z] at e; cases e; exact ⟨st,ps,S,as,R,fl',_,z,q⟩
theorem Dw {st:List Stmt} {w:S} (h:PSs X st (sOf X.K B w)):PSs X st (J7 X.K B Cl f E (lx w)):=fun pins s σ H D I z9=>by
  obtain ⟨st,ps,S,as,R,fl,st',e,q⟩:=z9
  unfold lx at e
  cases z:w st with
  | none=>rw [z] at e; cases e
  | some p=>obtain ⟨fl',s'⟩:=p; rw [z] at e; cases e; exact h pins s σ H D I ⟨st,ps,S,as,R,fl',_,z,q⟩
theorem vg {st:Stmt} (h1:PS X st (J7 X.K B Cl f E u)):PSs X [st] (J7 X.K B Cl f E u):=Ek h1
theorem Xx {st st':Sta} {fl:Flow ⊕ T} (h:tu u v st=some (fl,st')):(∃ s1,u st=some (.inl .next,s1)∧v s1=some (fl,st'))∨(u st=some (fl,st')∧fl≠.inl .next):=by
  unfold tu at h
  split at h
  · rename_i s1 e; exact .inl ⟨s1,e,h⟩
  · rename_i r hn
    refine .inr ⟨h,fun z=>?_⟩
    subst z
    exact hn _ h
theorem mz {st:Stmt} {rest:List Stmt} (h1:PS X st (J7 X.K B Cl f E u)) (h2:PSs X rest (J7 X.K B Cl f E v)):PSs X (st::rest) (J7 X.K B Cl f E (tu u v)):=(Nx h1 h2).imp fun D σ H z9=>by
  obtain ⟨st,ps,S,as,R,fl,st',e,q⟩:=z9
  rcases Xx e with ⟨s1,e1,e2⟩ | ⟨e1,hn⟩
  · exact ⟨st,ps,S,as,R,.inl .next,s1,e1,fun σ' H' S' as' R'=>⟨s1,ps,S',as',R',fl,st',e2,q⟩⟩
  · refine ⟨st,ps,S,as,R,fl,st',e1,?_⟩
    cases fl with
    | inr t=>exact q
    | inl fl =>
      cases fl with
      | next=>exact absurd rfl hn
      | ret t=>exact q
      | brk=>exact q
      | cont=>exact q
theorem U6 {c1:M Bool} {sa sb:List Stmt} (hc:PT X c (cOf X.K B c1)) (ha:PSs X sa (J7 X.K B Cl f E u)) (hb:PSs X sb (J7 X.K B Cl f E v)):PS X (.If c sa sb pos) (J7 X.K B Cl f E (xIf c1 u v)):=(a4t hc ha hb).imp fun D σ H z9=>by
  obtain ⟨st,ps,S,as,R,fl,st',e,q⟩:=z9
  unfold xIf at e
  split at e
  · rename_i s1 e1
    exact ⟨st,ps,S,as,R,true,s1,e1,fun H1 S1 as1 R1=>Z7 ⟨s1,ps,S1,as1,R1,fl,st',e,q⟩⟩
  · rename_i s1 e1
    exact ⟨st,ps,S,as,R,false,s1,e1,fun H1 S1 as1 R1=>Yw ⟨s1,ps,S1,as1,R1,fl,st',e,q⟩⟩
  · cases e
theorem Wn {D fI:Addr} {p x:Str} {fd:FuncData} {arg:Expr} {m:M T} {np cpos:Pos} (W:XW X E) (c:XC X.K Cl D fI f) (F:ud X.prog X.w X.K X.mg X.base CX0 1 fI fd ["self",p] (Jh Cl f)) (hr:xq 2 X.A) (hb:Binds X.K fd ["self",p] []) (hg:Gl X x) (hm:X.mg x=some (.ref Cl)) (ha:PE X arg (tOf X.K B m))
    (hdb:(x==("__debug__" : Str))=false:=by decide) (he:starEach [arg] X.env=[(false,eval arg X.env)]:=by rfl) :
    PS X (.Raise (some (.Call (.Name x np) [arg] [] cpos)) none pos) (J7 X.K B Cl f E (Ai m)):=(Y4 W c F hr hb hg hm ha hdb he).imp fun D σ H z9=>by
  obtain ⟨st,ps,S,as,R,fl,st',e,q⟩:=z9
  unfold Ai at e
  split at e
  · rename_i t s1 e1
    cases e
    exact ⟨st,ps,S,as,R,t,_,e1,fun v H1 S1 as1 R1 dx hn=>q v dx σ _ S1 as1 (R1.ext (Ext.beside R1.sub hn _)) cj⟩
  · cases e
theorem Uq {g:G} {b:SX} {t:T} {r:List T} {s s':Sta} {fl:Flow ⊕ T} (h:ug g b (t::r) s=some (fl,s')):∃ s1 fb s2,g t s=some s1∧b s1=some (fb,s2) ∧
    (match fb with | .inl .next=>ug g b r s2=some (fl,s') | .inl .cont=>ug g b r s2=some (fl,s') | .inl .brk=>fl=.inl .next∧s'=s2 | .inl (.ret v)=>fl=.inl (.ret v)∧s'=s2 | .inr v=>fl=.inr v∧s'=s2):=by
  rw [ug] at h
  dsimp only at h
  split at h
  · rename_i s1 e1
    split at h
    · rename_i s2 e2; exact ⟨s1,.inl .next,s2,e1,e2,h⟩
    · rename_i s2 e2; exact ⟨s1,.inl .cont,s2,e1,e2,h⟩
    · rename_i s2 e2; cases h; exact ⟨s1,.inl .brk,_,e1,e2,rfl,rfl⟩
    · rename_i v s2 e2; cases h; exact ⟨s1,.inl (.ret v),_,e1,e2,rfl,rfl⟩
    · rename_i v s2 e2; cases h; exact ⟨s1,.inr v,_,e1,e2,rfl,rfl⟩
    · cases h
  · cases h
theorem Rn {tg iter:Expr} {g:G} {it:M (List T)} {body:List Stmt} (hp:PassesOwn (model X.prog X.w) X.A X.env X.xe) (hc:X.calm=true) (hi:PI X tg iter (iOf X.K B it)) (hg:PG X tg (gOf X.K B g)) (hb:PSs X body (J7 X.K B Cl f E u)) (hsz:∀ st ts st',it st=some (ts,st')→ts.length≤sizeLine)
    (hs:∀ x,foldedSetIterable iter X.env x=pure x:=by intro _; rfl):PS X (.For tg iter body [] pos) (J7 X.K B Cl f E (Pa g it u)):=(Z4 hp hc hi hg hb hs).imp fun D σ H z9=>by
  obtain ⟨st,ps,S,as,R,fl,st',e,q⟩:=z9
  unfold Pa at e
  split at e
  case h_2=>cases e
  rename_i ts s1 e1
  refine ⟨st,ps,S,as,R,ts,s1,e1,hsz _ _ _ e1,fun J H1 S1 as1 ps' R1 facts=>?_⟩
  refine ⟨fun i m σ H=>m=ts.length - i∧i≤ts.length∧∃ sti Si asi,Rel X.K B sti σ H (ps'++ps) Si asi∧ug g u (ts.drop i) sti=some (fl,st'),⟨ts.length,by simp,Nat.zero_le _,s1,S1,as1,R1,by simpa using e⟩,?_⟩
  rintro i m σ2 H2 ⟨rfl,hi,sti,Si,asi,Ri,ei⟩
  have F:=facts Si asi H2 (fun p hp=>Ri.pend p (List.mem_append_left _ hp)) Ri.sub
  have sub:∀ p∈ps,p∈ps'++ps:=fun p hp=>List.mem_append_right _ hp
  have sub1:∀ (z:V × T) (p),p∈z::ps→p∈z::(ps'++ps):=fun z p hp=>by
    rcases List.mem_cons.mp hp with rfl | y
    · exact List.mem_cons_self
    · exact List.mem_cons_of_mem _ (sub p y)
  by_cases hlt:i<ts.length
  · rw [List.drop_eq_getElem_cons hlt] at ei
    obtain ⟨s2,fb,s3,eg,eb,er⟩:=Uq ei
    have ht:ts[i]? = some ts[i]:=List.getElem?_eq_getElem hlt
    refine .inr ⟨(F.go i _ ht).1,fun σ' H'=>∃ sti Si asi,Rel X.K B sti σ' H' (ps'++ps) Si asi∧ug g u (ts.drop (i+1)) sti=some (fl,st'),fun σ' H' h=>⟨ts.length - (i+1),by (clear h ht er eb eg ei sub1 sub F Ri hi facts R1 e1 q e R hs hsz hb hg hc hp; omega),rfl,hlt,h⟩,fun x H' y=>?_⟩
    obtain ⟨S',ex,rx⟩:=(F.go i _ ht).2 x H' y
    refine ⟨sti,ps'++ps,S',asi,_,(Ri.ext ex).push rx,s2,eg,fun σ3 H3 S3 as3 R3=>⟨s2,ps'++ps,S3,as3,R3,fb,s3,eb,?_⟩⟩
    cases fb with
    | inr v =>
      obtain ⟨rfl,rfl⟩:=er
      exact fun w dx σ' H' S' as' R' hd=>q w dx σ' H' S' as' (R'.pick (sub1 _)) hd
    | inl fb =>
      cases fb with
      | next=>exact fun σ' H' S' as' R'=>⟨s3,S',as',R',er⟩
      | cont=>exact fun σ' H' S' as' R'=>⟨s3,S',as',R',er⟩
      | brk =>
        obtain ⟨rfl,rfl⟩:=er
        exact fun σ' H' S' as' R'=>q σ' H' S' as' (R'.pick sub)
      | ret v =>
        obtain ⟨rfl,rfl⟩:=er
        exact fun v σ' H' S' as' R'=>q v σ' H' S' as' (R'.pick (sub1 _))
  · have hie:i=ts.length:=by (clear sub1 sub F ei Ri facts R1 e1 q e R hs hsz hb hg hc hp; omega)
    subst hie
    rw [List.drop_length] at ei
    cases ei
    exact .inl ⟨F.stop _ (Nat.le_refl _),q σ2 H2 Si asi (Ri.pick sub)⟩
end
end C
end
section
namespace C
open PySem PySem.Spec PyProof.Rows L2
def a7o (K:PySem.W.Frag) (B:Bas) (Cl:Addr) (f:Str) (sto':List SO) (Q:VK) (E:XK):T ⊕ T→Prop
  | .inl t=>∀ v H' S' as',a0r B S' as' H'→Same S' H'→Aj K S' as' H' sto'→Rep K S' as' v t→Q v H'
  | .inr t=>∀ v dx H' S' as',a0r B S' as' H'→Same S' H'→Aj K S' as' H' sto'→Rep K S' as' v t→H' dx=some (yp dx f v)→E (.ref Cl) (some dx) H'
def spX (K:PySem.W.Frag) (ar:Nat) (Cl:Addr) (f:Str) (F:FnX):Sp:=fun vs H Q E=>∃ S as sto ts r sto',Same S H∧Aj K S as H sto∧jy K S as vs ts∧ts.length=ar∧F ts sto=some (r,sto')∧a7o K ⟨S,as,H⟩ Cl f sto' Q E r
section
variable {P:Program} {w:World} {K:PySem.W.Frag} {mg:Str→Option Value} {base:Heap}
theorem Ip {x qual:Str} {st:Stmt} {a Cl:Addr} {f:Str} {fd:FuncData} {N ps:List Str} {k:Nat} {b:SX} (F:Fun K x qual st a fd) (Sc:jr N ps (dz st)) (hN:ps.length≤N.length)
    (hb:∀ (cdv:Value) (A:Around) (outer:List Env) (s:Shared) (H:Hp) (E:XK) (B:Bas),xq k (A.deeper (envOfC qual (dz st) s.heap.objs.size a cdv)) →
      PSs (Qg (CXx P w) P w K mg base N qual (dz st) a cdv A outer s H E) (qm st) (J7 K B Cl f E b)):ud P w K mg base (CXx P w) (k+1) a fd ps (spX K ps.length Cl f (Ji N.length b)):=by
  obtain ⟨oc,od,kV,doc,pm,an,cdv,ct,osl,rfl,lk,hcd⟩:=F.ex
  refine a2j lk hcd Sc (fun vs H Q E ⟨S,as,sto,ts,t,sto',h1,h2,h3,h4,_⟩=>by rw [h3.length,h4]) fun A outer s H vs Q E hr h=>?_
  obtain ⟨S,as,sto,ts,r,sto',h1,h2,h3,h4,h5,q⟩:=h
  refine ⟨_,hb cdv A outer s H E ⟨S,as,H⟩ hr,?_⟩
  have R:Rel K ⟨S,as,H⟩ ⟨ts.map (fun t=>some (t,false))++List.replicate (N.length - ts.length) none,sto⟩ (L2.start N vs) H [] S as:=Km h1 h2 h3 (by rw [h4]; exact hN)
  unfold Ji at h5
  split at h5
  · rename_i t' s' e
    cases h5
    exact ⟨_,[],S,as,R,.inl (.ret _),s',e,fun v σ' H' S' as' R'=>q v H' S' as' R'.grow R'.sub R'.sto R'.top⟩
  · rename_i s' e
    cases h5
    exact ⟨_,[],S,as,R,.inl .next,s',e,fun σ' H' S' as' R'=>q .non H' S' as' R'.grow R'.sub R'.sto .non⟩
  · rename_i t' s' e
    cases h5
    exact ⟨_,[],S,as,R,.inr _,s',e,fun v dx σ' H' S' as' R' hd=>q v dx H' S' as' R'.grow R'.sub R'.sto R'.top hd⟩
  · cases h5
theorem a0u {a Cl:Addr} {f:Str} {fd:FuncData} {ps:List Str} {k:Nat} {F:FnX} (G:ud P w K mg base (CXx P w) k a fd ps (spX K ps.length Cl f F)):ud P w K mg base CX0 k a fd ps (spF K ps.length (norm F)):=by
  refine ⟨fun vs H Q E ⟨S,as,sto,ts,t,sto',h1,h2,h3,h4,_⟩=>by rw [h3.length,h4],fun A outer s H args us vs Q E hr he hb hv h=>?_⟩
  obtain ⟨S,as,sto,ts,t,sto',h1,h2,h3,h4,h5,q⟩:=h
  unfold norm at h5
  split at h5
  · rename_i t1 s1 e
    cases h5
    refine codeAny_mono (G.run A outer s H args us vs Q (fun _ _ _=>False) hr he hb hv ⟨S,as,sto,ts,.inl _,_,h1,h2,h3,h4,e,q⟩) fun r s' hq=>?_
    cases r with
    | ok fl=>cases fl <;> exact hq
    | error e =>
      obtain ⟨_,_,_,_,_,_,_,_,_,_,_,_,_,_,_,z⟩:=hq
      exact z
  · cases h5
end
section
variable {X:Cx} {B:Bas} {e:Expr} {es:List Expr} {ms:M (List T)} {pos p q1 q2 tpos:Pos} {k:Nat} {a Cl:Addr} {f x:Str} {fd:FuncData} {pn:List Str} {F:FnX} {h₀:ExceptHandler} {hs:List ExceptHandler} {th:Addr→TS} {i j:Nat} {hv:T→Option T}
def HOf (K:PySem.W.Frag) (B:Bas) (f:Str) (i j:Nat) (hv:T→Option T) (th:Addr→TS):Prop :=
  ∀ dx D σ H st ps S as v t u,Rel K B st σ H ((v,t)::ps) S as→H dx=some (yp dx f v)→hv t=some u→(∀ σ' H' S' as',Rel K B (clr i (gk j u false (clr i st))) σ' H' ps S' as'→D.nx σ' H')→th dx D σ H
theorem Zx (G:ud X.prog X.w X.K X.mg X.base (CXx X.prog X.w) k a fd pn (spX X.K pn.length Cl f F)) (hr:xq k X.A) (hg:Gl X x) (hm:X.mg x=some (.ref a)) (hk:PySem.W.keepIn X.K (.ref a)=true) (hb:Binds X.K fd pn [])
    (ha:PA X.nox (e::es) (aOf X.K B ms)) (hdb:(x==("__debug__" : Str))=false:=by decide)
    (he:starEach (e::es) X.env=(false,eval e X.env)::starEach es X.env:=by rfl) (hpl:(backTo pos (starEach es X.env)).any (·.1)=false:=by rfl) (hsw:swapsWith (.Call (.Name x p) (e::es) [] pos) none q1.line X.env=pure false:=by rfl) :
    PB X [.Expr (.Call (.Name x p) (e::es) [] pos) q1] fun D E σ H=>aOf X.K B ms σ H fun vs H1=>spX X.K pn.length Cl f F vs H1 (fun _ H2=>D.nx σ H2) E:=by
  intro pins s σ H D E I h
  refine wpAny_execs_cons (wpAny_mono (wpAny_Expr_any (Q:=SP X pins D) (thn (Vl G hr hg hm hk hb ha hdb he hpl pins s σ H (fun _ H2=>D.nx σ H2) E I h) fun v s1 z7=>by obtain ⟨y,H1,I1,r1,q1⟩:=z7; exact ⟨σ,H1,I1,q1⟩) I.quiet hsw) (fun fl s1 hq=>?_) fun _ _ z=>z)
  cases fl with
  | next=>exact wpAny_execs_nil hq
  | brk=>exact hq
  | cont=>exact hq
  | ret u=>exact hq
theorem a3b {y:Str} {i0:Nat} (hN:X.N.Nodup) (hi:X.N[i0]? = some y) (hy:Loc X.env.scope y) (G:ud X.prog X.w X.K X.mg X.base (CXx X.prog X.w) k a fd pn (spX X.K pn.length Cl f F)) (hr:xq k X.A) (hg:Gl X x) (hm:X.mg x=some (.ref a)) (hk:PySem.W.keepIn X.K (.ref a)=true) (hb:Binds X.K fd pn [])
    (ha:PA X.nox (e::es) (aOf X.K B ms)) (hdb:(x==("__debug__" : Str))=false:=by decide)
    (he:starEach (e::es) X.env=(false,eval e X.env)::starEach es X.env:=by rfl) (hpl:(backTo pos (starEach es X.env)).any (·.1)=false:=by rfl) (hsw:swapsWith (.Call (.Name x p) (e::es) [] pos) (some (.Name y tpos)) q1.line X.env=pure false:=by rfl)
    (hf:X.fn y=true∨X.env.scope.names.lookup y=some .local:=by first | exact .inl rfl | exact .inr rfl | assumption) :
    PB X [.Assign [.Name y tpos] (.Call (.Name x p) (e::es) [] pos) q1] fun D E σ H=>aOf X.K B ms σ H fun vs H1=>spX X.K pn.length Cl f F vs H1 (fun v H2=>D.nx (σ.set i0 (some v)) H2) E:=by
  intro pins s σ H D E I h
  refine wpAny_execs_cons (wpAny_mono (wpAny_Assign_Name (Q:=SP X pins D) (thn (Vl G hr hg hm hk hb ha hdb he hpl pins s σ H (fun v H2=>D.nx (σ.set i0 (some v)) H2) E I h) fun v s1 z7=>by obtain ⟨y,H1,I1,r1,q1⟩:=z7; exact Dy I1 hN hi hy r1 (fun s2 I2=>⟨_,H1,I2,q1⟩) hf) hsw) (fun fl s1 hq=>?_) fun _ _ z=>z)
  cases fl with
  | next=>exact wpAny_execs_nil hq
  | brk=>exact hq
  | cont=>exact hq
  | ret u=>exact hq
theorem Ox {F:FnX} {ms:M (List T)} {kk:T→Sta→Sta} {st st':Sta} {fl:Flow} (h:Te F ms kk i j hv st=some (fl,st')) :
    ∃ ts s1 r sto,ms st=some (ts,s1)∧F ts s1.sto=some (r,sto)∧fl=.next∧(match r with | .inl t=>st'=kk t { s1 with sto:=sto } | .inr t=>∃ u,hv t=some u∧st'=clr i (gk j u false (clr i { s1 with sto:=sto }))):=by
  unfold Te at h
  split at h
  · rename_i ts s1 e1
    split at h
    · rename_i t sto e2; cases h; exact ⟨ts,s1,.inl t,sto,e1,e2,rfl,rfl⟩
    · rename_i t sto e2
      split at h
      · rename_i u e3; cases h; exact ⟨ts,s1,.inr t,sto,e1,e2,rfl,u,e3,rfl⟩
      · cases h
    · cases h
  · cases h
theorem a0c (hst:X.stack=X.env::X.outer) (hfr:X.env.frame=some X.env.locals) (G:ud X.prog X.w X.K X.mg X.base (CXx X.prog X.w) k a fd pn (spX X.K pn.length Cl f F)) (hr:xq k X.A) (hg:Gl X x) (hm:X.mg x=some (.ref a)) (hk:PySem.W.keepIn X.K (.ref a)=true) (hb:Binds X.K fd pn [])
    (ha:PA X.nox (e::es) (aOf X.K B ms)) (hl:∀ st ts st',ms st=some (ts,st')→ts.length=pn.length) (hh:PHs X (h₀::hs) Cl th) (ho:HOf X.K B f i j hv th) (hdb:(x==("__debug__" : Str))=false:=by decide)
    (he:starEach (e::es) X.env=(false,eval e X.env)::starEach es X.env:=by rfl) (hpl:(backTo pos (starEach es X.env)).any (·.1)=false:=by rfl) (hsw:swapsWith (.Call (.Name x p) (e::es) [] pos) none q1.line X.env=pure false:=by rfl) :
    PS X (.Try [.Expr (.Call (.Name x p) (e::es) [] pos) q1] (h₀::hs) [] [] q2) (sOf X.K B (Te F ms a1a i j hv)) :=
  (Z5 hst hfr (Zx G hr hg hm hk hb ha hdb he hpl hsw) hh).imp fun D σ H z9=>by
    obtain ⟨st,ps,S,as,R,fl,st',e,q⟩:=z9
    obtain ⟨ts,s1,r,sto,e1,e2,rfl,z⟩:=Ox e
    refine ⟨st,ps,S,as,R,ts,s1,e1,fun vs H1 S1 as1 R1 rs=>⟨S1,as1,s1.sto,ts,r,sto,R1.sub,R1.sto,rs,hl _ _ _ e1,e2,?_⟩⟩
    cases r with
    | inl t =>
      obtain rfl:=z
      exact fun v H2 S2 as2 g sub so r=>q σ H2 S2 as2 (R1.call g sub so)
    | inr t =>
      obtain ⟨u,hu,rfl⟩:=z
      exact fun v dx H2 S2 as2 g sub so r hd=>⟨dx,rfl,rfl,ho dx D σ H2 _ ps S2 as2 v t u ((R1.call g sub so).push r) hd hu q⟩
theorem a00 {y:Str} {i0:Nat} (hst:X.stack=X.env::X.outer) (hfr:X.env.frame=some X.env.locals) (hN:X.N.Nodup) (hi:X.N[i0]? = some y) (hy:Loc X.env.scope y) (G:ud X.prog X.w X.K X.mg X.base (CXx X.prog X.w) k a fd pn (spX X.K pn.length Cl f F)) (hr:xq k X.A) (hg:Gl X x) (hm:X.mg x=some (.ref a)) (hk:PySem.W.keepIn X.K (.ref a)=true) (hb:Binds X.K fd pn [])
    (ha:PA X.nox (e::es) (aOf X.K B ms)) (hl:∀ st ts st',ms st=some (ts,st')→ts.length=pn.length) (hh:PHs X (h₀::hs) Cl th) (ho:HOf X.K B f i j hv th) (hdb:(x==("__debug__" : Str))=false:=by decide)
    (he:starEach (e::es) X.env=(false,eval e X.env)::starEach es X.env:=by rfl) (hpl:(backTo pos (starEach es X.env)).any (·.1)=false:=by rfl) (hsw:swapsWith (.Call (.Name x p) (e::es) [] pos) (some (.Name y tpos)) q1.line X.env=pure false:=by rfl)
    (hf:X.fn y=true∨X.env.scope.names.lookup y=some .local:=by first | exact .inl rfl | exact .inr rfl | assumption) :
    PS X (.Try [.Assign [.Name y tpos] (.Call (.Name x p) (e::es) [] pos) q1] (h₀::hs) [] [] q2) (sOf X.K B (Te F ms (Qz i0) i j hv)) :=
  (Z5 hst hfr (a3b hN hi hy G hr hg hm hk hb ha hdb he hpl hsw hf) hh).imp fun D σ H z9=>by
    obtain ⟨st,ps,S,as,R,fl,st',e,q⟩:=z9
    obtain ⟨ts,s1,r,sto,e1,e2,rfl,z⟩:=Ox e
    refine ⟨st,ps,S,as,R,ts,s1,e1,fun vs H1 S1 as1 R1 rs=>⟨S1,as1,s1.sto,ts,r,sto,R1.sub,R1.sto,rs,hl _ _ _ e1,e2,?_⟩⟩
    cases r with
    | inl t =>
      obtain rfl:=z
      exact fun v H2 S2 as2 g sub so r=>q _ H2 S2 as2 ((R1.call g sub so).put r)
    | inr t =>
      obtain ⟨u,hu,rfl⟩:=z
      exact fun v dx H2 S2 as2 g sub so r hd=>⟨dx,rfl,rfl,ho dx D σ H2 _ ps S2 as2 v t u ((R1.call g sub so).push r) hd hu q⟩
end
end C
end
section
namespace L2
open PySem PySem.Spec PyProof.Rows
structure XG (K:PySem.W.Frag) (C:Addr) (f:Str):Prop where
  ga:PySem.W.findIn K (.ref C) "__getattribute__" = some (some (.builtin "BaseException.__getattribute__"))
  gt:PySem.W.findIn K (.ref C) "__getattr__" = some none
  bx:PySem.W.mroIn K C (.type "BaseException")=some true
  dc:PySem.W.hasDictIn K C=true
  na:PySem.W.findIn K (.ref C) f=some none
  cl:PySem.W.findIn K (.ref C) "__class__" = some (some (.builtin "object.__class__"))
  cg:PySem.W.specialIn K (.builtin "object.__class__") "__get__" = some (some (.builtin "getset_descriptor.__get__"))
  ct:PySem.W.takesIn K (.builtin "object.__class__")=some true
  ob:PySem.W.mroIn K C (.type "object")=some true
  ve:PySem.W.kitOne K (.ref C) (.type "ValueError")=some true
theorem Ni {v:V} {u:Value} (r:RelV v u):PySem.W.handedIn u=true:=by
  cases v with
  | non=>cases r; rfl
  | bl b=>cases r; rfl
  | int i=>obtain ⟨t,rfl⟩:=r; rfl
  | str x=>obtain ⟨t,rfl⟩:=r; rfl
  | byt b=>obtain ⟨t,rfl⟩:=r; rfl
  | flt b=>obtain ⟨t,rfl⟩:=r; rfl
  | ref a=>cases r; rfl
  | ty n=>cases r; rfl
def a74 (C:Addr) (f:Str) (i:Nat):TE:=fun σ H Q=>∃ a dx v,σ[i]? = some (some (.ref a))∧H a=some (Jp a C dx)∧H dx=some (yp dx f v)∧Q v H
def a6z (C:Addr) (f:Str) (i:Nat):TE:=fun σ H Q=>∃ a dx v,σ[i]? = some (some (.ref a))∧H a=some (Jp a C dx)∧H dx=some (yp dx f v)∧Q (.bl true) H
section
variable {X:Cx} {e:Expr} {C:Addr} {f:Str} {i:Nat} {pos p:Pos}
theorem a4r (g:XG X.K C f) (he:PE X e (J8 i)) (hb:attributeBase e f X.env (eval e X.env)=eval e X.env):PE X (.Attribute e f pos) (a74 C f i):=by
  intro pins s σ H Q I z8
  obtain ⟨a,dx,v,e1,e2,e3,q⟩:=z8
  refine a1c hb (thn (he pins s σ H (fun x H1=>x=.ref a∧H1=H) I ⟨_,e1,rfl,rfl⟩) fun u s1 z0=>?_)
  obtain ⟨x,H1,I1,rx,ex,eH⟩:=z0
  subst ex
  subst eH
  obtain rfl:u=Value.ref a:=rx
  obtain ⟨⟨vs,ga⟩,_⟩:=I1.hok a _ e2
  obtain ⟨⟨hs,tk,u,r,gd⟩,_⟩:=I1.hok dx _ e3
  refine My.Xv (ox:=Ot C dx vs) (od:=some (PySem.W.dictOf [⟨hs,.str f tk,u⟩] 1)) I1.kIn ⟨ga,rfl,rfl,gd⟩ g.ga g.gt g.bx (PySem.W.findObj_own g.dc g.na rfl ?_) (Ni r) ⟨v,H1,I1.tok _,r,q⟩
  rw [PySem.W.lookIn_dict]
  simp [PySem.W.getL,Value.isStr]
theorem a4o (g:XG X.K C f) (hg:Gl X "isinstance") (hm:X.mg "isinstance" = none) (hg2:Gl X "ValueError") (hm2:X.mg "ValueError" = none) {pc:Pos} (he:PE X e (J8 i)) (hs:starEach [e,.Name "ValueError" pc] X.env=(false,eval e X.env)::starEach [.Name "ValueError" pc] X.env:=by rfl) :
    PE X (.Call (.Name "isinstance" p) [e,.Name "ValueError" pc] [] pos) (a6z C f i):=by
  have hc:Aa X (.builtin "isinstance") (fun xs H Q=>∃ a dx v,xs=[.ref a,.ty "ValueError"]∧H a=some (Jp a C dx)∧H dx=some (yp dx f v)∧Q (.bl true) H):=by
    intro pins s σ H xs us Q I rs z8
    obtain ⟨a,dx,v,ex,e2,e3,q⟩:=z8
    subst ex
    obtain ⟨u1,u2,rfl,r1,r2⟩:=rs.two
    obtain rfl:u1=Value.ref a:=r1
    obtain rfl:u2=Value.type "ValueError" := r2
    obtain ⟨⟨vs,ga⟩,_⟩:=I.hok a _ e2
    obtain ⟨⟨hs,tk,u,r,gd⟩,_⟩:=I.hok dx _ e3
    exact PySem.W.kia_one (My.X3 (ox:=Ot C dx vs) (od:=PySem.W.dictOf [⟨hs,.str f tk,u⟩] 1) g.ga g.gt g.bx g.dc g.cl g.cg g.ct g.ob) I.kIn ⟨ga,rfl,rfl,gd⟩ g.ve (by intro q; cases q) fun t=>⟨.bl true,H,I.tok t,rfl,q⟩
  exact (qb hc hg hm PyProof.Rows.boot_isinstance (jj he (jj (U9 (v:=.ty "ValueError") hg2 hm2 PyProof.Rows.Boot.«ValueError» rfl) qg) hs) (by decide) (by decide) hs rfl).imp fun σ H Q ⟨a,dx,v,e1,e2,e3,q⟩=>⟨_,e1,a,dx,v,rfl,e2,e3,q⟩
end
end L2
namespace C
open PySem PySem.Spec PyProof.Rows L2
section
variable {K:PySem.W.Frag} {B:Bas} {f:Str} {i j:Nat} {hv:T→Option T} {th:Addr→TS} {Cl:Addr} {te:TE}
theorem a1b {o:HO} (h:HOf K B f i j hv th):HOf K B f i j hv (fun dx D σ H=>∀ p,H p=none→th dx D σ (upd H p o)):=fun dx D σ H st ps S as v t u R hd hu q p hp =>
  h dx D σ _ st ps S as v t u (R.ext (Ext.beside R.sub hp o)) (by rw [d7 (iu hd hp)]; exact hd) hu q
def TEx (K:PySem.W.Frag) (B:Bas) (Cl:Addr) (f:Str) (i:Nat) (hv:T→Option T) (te:TE):Prop :=
  ∀ σ H a dx v t u Q st ps S as,σ[i]? = some (some (.ref a))→H a=some (Jp a Cl dx)→H dx=some (yp dx f v)→Rel K B st σ H ((v,t)::ps) S as→hv t=some u→(∀ w H' S' as',Rel K B st σ H' ((w,u)::ps) S' as'→Q w H')→te σ H Q
theorem T7 (h:TEx K B Cl f i hv te):HOf K B f i j hv (fun dx D σ H=>∀ a,H a=none→i<σ.length→Yu te (Hv j) (a3a i D) (σ.set i (some (.ref a))) (upd H a (Jp a Cl dx))):=fun dx D σ H st ps S as v t u R hd hu q a ha hi=>by
  have R1:=(R.ext (Ext.beside R.sub ha (Jp a Cl dx))).clr (i:=i) (σ':=σ.set i (some (.ref a))) (fun k n=>List.getElem?_set_ne (Ne.symm n)) (List.length_set ..)
  refine h _ _ a dx v t u _ _ ps S as (List.getElem?_set_self hi) cj (by rw [d7 (iu hd ha)]; exact hd) R1 hu fun w H' S' as' R'=>?_
  exact q _ H' S' as' ((R'.drop.put R'.top).clr (fun k n=>List.getElem?_set_ne (Ne.symm n)) (List.length_set ..))
theorem a2x:TEx K B Cl f i (fun _=>some (.bl true)) (a6z Cl f i):=fun σ H a dx v t u Q st ps S as e1 e2 e3 R hu q=>by
  cases hu
  exact ⟨a,dx,v,e1,e2,e3,q _ H S as (R.drop.push (.bl true))⟩
end
end C
end
section
namespace C
open PySem PySem.Spec PyProof.Rows L2
structure XR (P:Program) (w:World) (K:PySem.W.Frag) (mg:Str→Option Value) (base:Heap) (x:Str) (Cl:Addr) (f p:Str):Prop where
  ex:∃ D fI fd,XC K Cl D fI f∧ud P w K mg base CX0 1 fI fd ["self",p] (Jh Cl f)∧Binds K fd ["self",p] []
  m:mg x=some (.ref Cl)
def pq (P:Program) (w:World) (K:PySem.W.Frag) (mg:Str→Option Value) (base:Heap) (x:Str) (n:Nat) (ps:List Str) (Cl:Addr) (f:Str) (F:FnX):Prop :=
  ∃ (a:Addr) (fd:FuncData),ud P w K mg base (CXx P w) n a fd ps (spX K ps.length Cl f F)∧Binds K fd ps []∧PySem.W.keepIn K (.ref a)=true∧mg x=some (.ref a)
theorem pq.mono {P:Program} {w:World} {K:PySem.W.Frag} {mg:Str→Option Value} {base:Heap} {x:Str} {n m:Nat} {ps:List Str} {Cl:Addr} {f:Str} {F:FnX} (D:pq P w K mg base x n ps Cl f F) (h:n≤m):pq P w K mg base x m ps Cl f F :=
  let ⟨a,fd,h1,h2⟩:=D; ⟨a,fd,h1.mono h,h2⟩
theorem pq.norm {P:Program} {w:World} {K:PySem.W.Frag} {mg:Str→Option Value} {base:Heap} {x:Str} {n:Nat} {ps:List Str} {Cl:Addr} {f:Str} {F:FnX} (D:pq P w K mg base x n ps Cl f F):m6 P w K mg base x n ps (C.norm F) :=
  let ⟨a,fd,h1,h2,h3,h4⟩:=D; ⟨a,fd,a0u h1,h2,h3,h4⟩
def Og (K:PySem.W.Frag) (mg:Str→Option Value) (x:Str) (Cl:Addr) (bm:List Value):Prop:=XCl K Cl bm∧mg x=some (.ref Cl)
section
variable {X:Cx} {B:Bas} {e:Expr} {es:List Expr} {ms:M (List T)} {pos p q1 q2 tpos:Pos} {k:Nat} {Cl:Addr} {f x:Str} {pn:List Str} {F:FnX} {h₀:ExceptHandler} {hs:List ExceptHandler} {th:Addr→TS} {i j:Nat} {hv:T→Option T}
theorem Jd {E:XK} {pr:Str} {arg:Expr} {m:M T} {np cpos:Pos} (R:XR X.prog X.w X.K X.mg X.base x Cl f pr) (W:XW X E) (hr:xq 2 X.A) (hg:Gl X x) (ha:PE X arg (tOf X.K B m))
    (hdb:(x==("__debug__" : Str))=false:=by decide) (he:starEach [arg] X.env=[(false,eval arg X.env)]:=by rfl) :
    PS X (.Raise (some (.Call (.Name x np) [arg] [] cpos)) none pos) (J7 X.K B Cl f E (Ai m)):=by
  obtain ⟨⟨D,fI,fd,h1,h2,h3⟩,m⟩:=R
  exact Wn W h1 h2 hr h3 hg m ha hdb he
theorem Wo (D:pq X.prog X.w X.K X.mg X.base x k pn Cl f F) (hst:X.stack=X.env::X.outer) (hfr:X.env.frame=some X.env.locals) (hr:xq k X.A) (hg:Gl X x)
    (ha:PA X.nox (e::es) (aOf X.K B ms)) (hl:∀ st ts st',ms st=some (ts,st')→ts.length=pn.length) (hh:PHs X (h₀::hs) Cl th) (ho:HOf X.K B f i j hv th) (hdb:(x==("__debug__" : Str))=false:=by decide)
    (he:starEach (e::es) X.env=(false,eval e X.env)::starEach es X.env:=by rfl) (hpl:(backTo pos (starEach es X.env)).any (·.1)=false:=by rfl) (hsw:swapsWith (.Call (.Name x p) (e::es) [] pos) none q1.line X.env=pure false:=by rfl) :
    PS X (.Try [.Expr (.Call (.Name x p) (e::es) [] pos) q1] (h₀::hs) [] [] q2) (sOf X.K B (Te F ms a1a i j hv)):=by
  obtain ⟨a,fd,h1,h2,h3,h4⟩:=D
  exact a0c hst hfr h1 hr hg h4 h3 h2 ha hl hh ho hdb he hpl hsw
theorem X5 {y:Str} {i0:Nat} (D:pq X.prog X.w X.K X.mg X.base x k pn Cl f F) (hst:X.stack=X.env::X.outer) (hfr:X.env.frame=some X.env.locals) (hN:X.N.Nodup) (hi:X.N[i0]? = some y) (hy:Loc X.env.scope y) (hr:xq k X.A) (hg:Gl X x)
    (ha:PA X.nox (e::es) (aOf X.K B ms)) (hl:∀ st ts st',ms st=some (ts,st')→ts.length=pn.length) (hh:PHs X (h₀::hs) Cl th) (ho:HOf X.K B f i j hv th) (hdb:(x==("__debug__" : Str))=false:=by decide)
    (he:starEach (e::es) X.env=(false,eval e X.env)::starEach es X.env:=by rfl) (hpl:(backTo pos (starEach es X.env)).any (·.1)=false:=by rfl) (hsw:swapsWith (.Call (.Name x p) (e::es) [] pos) (some (.Name y tpos)) q1.line X.env=pure false:=by rfl)
    (hf:X.fn y=true∨X.env.scope.names.lookup y=some .local:=by first | exact .inl rfl | exact .inr rfl | assumption) :
    PS X (.Try [.Assign [.Name y tpos] (.Call (.Name x p) (e::es) [] pos) q1] (h₀::hs) [] [] q2) (sOf X.K B (Te F ms (Qz i0) i j hv)):=by
  obtain ⟨a,fd,h1,h2,h3,h4⟩:=D
  exact a00 hst hfr hN hi hy h1 hr hg h4 h3 h2 ha hl hh ho hdb he hpl hsw hf
end
end C
end
section
namespace C
open PySem
def qp:Nat→M Bool→SX→SX
  | 0,_,_=>fun _=>none
  | n+1,c,b=>fun s=>match c s with
    | some (false,s1)=>some (.inl .next,s1)
    | some (true,s1)=>match b s1 with
      | some (.inl .next,s2)=>qp n c b s2
      | some (.inl .cont,s2)=>qp n c b s2
      | some (.inl .brk,s2)=>some (.inl .next,s2)
      | some (.inl (.ret v),s2)=>some (.inl (.ret v),s2)
      | some (.inr v,s2)=>some (.inr v,s2)
      | none=>none
    | none=>none
def u9 (f:T→T→Option T) (i:Nat) (m:M T):M T:=fun s=>match m s with
  | some (u,s1)=>match s1.env[i]? with
    | some (some (t,true))=>match f u t with
      | some w=>some (w,s1)
      | none=>none
    | _=>none
  | none=>none
def strsOf:List T→Option (List Str)
  | []=>some []
  | .str x::r=>(strsOf r).map (x :: ·)
  | _=>none
def Ce (i:Nat) (e:M T):S:=fun s=>if Eu i s then (match e s with
  | some (.str y,s1)=>match s1.env[i]? with
    | some (some (.lst xs,true))=>match strsOf xs with
      | some ss=>if y∈ss then some (.next,gk i (.lst ((ss.erase y).map T.str)) true s1) else none
      | none=>none
    | _=>none
  | _=>none) else none
def Mx:List T→Option T
  | [.dic kvs,k]=>match keyOf k with
    | some q=>some ((J6 q kvs).getD T.non)
    | none=>none
  | _=>none
end C
end
section
namespace L2
open PySem PySem.Spec PyProof.Rows
section
variable {P:Program} {w:World} {K:PySem.W.Frag} {mg:Str→Option Value} {base:Heap} {N:List Str} {qual:Str} {scope:Scope} {f:Addr} {cd:Value} {A:Around} {outer:List Env} {s₀:Shared} {H₀:Hp} {E:XK}
theorem Z0:Passes (CXx P w) (Qg (CXx P w) P w K mg base N qual scope f cd A outer s₀ H₀ E) E:=by
  intro pins σ H s e s' I h
  have I0:=I.Cj (pins':=[]) (fun p hp=>nomatch hp)
  obtain ⟨a,C,dx,T,H',rfl,L,hE⟩:=XP.lies (X:=Qg (CXx P w) P w K mg base N qual scope f cd A outer s₀ H₀ E) ⟨H,s,I0,h⟩
  show wpAny _ _ (leaving _ _) _ _ _
  unfold leaving
  refine wpAny_bind (L.note rfl rfl L.inv.ok.frames fun s2 T' L2=>?_)
  have za:s₀.heap.objs.size≤a:=L2.oa.1.elim (fun z=>nomatch z) id
  have zT:s₀.heap.objs.size≤T':=L2.oT.1.elim (fun z=>nomatch z) id
  exact ⟨a,C,dx,T',H',rfl,za,zT,L2.at_,L2.ha,L2.hT,L2.inv.os,L2.inv.bare,L2.inv.base,L2.inv.hok,hE⟩
end
end L2
namespace C
open PySem PySem.Spec PyProof.Rows L2
section
variable {X:Cx} {B:Bas} {c e:Expr} {es:List Expr} {ms:M (List T)} {pos p q1 tpos:Pos} {u:SX} {Cl a:Addr} {f x y:Str} {E:XK} {fd:FuncData} {pn:List Str} {F:FnX} {k i:Nat}
theorem Tz {kk:T→Sta→Sta} {st st':Sta} {fl:Flow ⊕ T} (h:Dc F ms kk st=some (fl,st')):∃ ts s1 r sto,ms st=some (ts,s1)∧F ts s1.sto=some (r,sto)∧(match r with | .inl t=>fl=.inl .next∧st'=kk t { s1 with sto:=sto } | .inr t=>fl=.inr t∧st' = { s1 with sto:=sto }):=by
  unfold Dc at h
  split at h
  · rename_i ts s1 e1
    split at h
    · rename_i t sto e2; cases h; exact ⟨ts,s1,.inl t,sto,e1,e2,rfl,rfl⟩
    · rename_i t sto e2; cases h; exact ⟨ts,s1,.inr t,sto,e1,e2,rfl,rfl⟩
    · cases h
  · cases h
theorem O1 (hx:Passes (CXx X.prog X.w) X E) (D:pq X.prog X.w X.K X.mg X.base x k pn Cl f F) (hN:X.N.Nodup) (hi:X.N[i]? = some y) (hy:Loc X.env.scope y) (hr:xq k X.A) (hg:Gl X x)
    (ha:PA X (e::es) (aOf X.K B ms)) (hl:∀ st ts st',ms st=some (ts,st')→ts.length=pn.length) (hdb:(x==("__debug__" : Str))=false:=by decide)
    (he:starEach (e::es) X.env=(false,eval e X.env)::starEach es X.env:=by rfl) (hpl:(backTo pos (starEach es X.env)).any (·.1)=false:=by rfl) (hsw:swapsWith (.Call (.Name x p) (e::es) [] pos) (some (.Name y tpos)) q1.line X.env=pure false:=by rfl)
    (hf:X.fn y=true∨X.env.scope.names.lookup y=some .local:=by first | exact .inl rfl | exact .inr rfl | assumption) :
    PS X (.Assign [.Name y tpos] (.Call (.Name x p) (e::es) [] pos) q1) (J7 X.K B Cl f E (Dc F ms (Qz i))):=by
  obtain ⟨a,fd,h1,h2,h3,h4⟩:=D
  refine (gj hN hi hy (Tc h1 hr hg h4 h3 h2 .nil hx ha hdb he hpl) hsw hf).imp fun Dn σ H z0=>?_
  obtain ⟨st,ps,S,as,R,fl,st',e,q⟩:=z0
  obtain ⟨ts,s1,r,sto,e1,e2,z⟩:=Tz e
  refine ⟨st,ps,S,as,R,ts,s1,e1,fun vs H1 S1 as1 R1 rs=>?_⟩
  show spX _ _ _ _ _ (vs++[]) _ _ _
  rw [List.append_nil]
  refine ⟨S1,as1,s1.sto,ts,r,sto,R1.sub,R1.sto,rs,hl _ _ _ e1,e2,?_⟩
  cases r with
  | inl t =>
    obtain ⟨rfl,rfl⟩:=z
    exact fun v H2 S2 as2 g sub so r=>q _ H2 S2 as2 ((R1.call g sub so).put r)
  | inr t =>
    obtain ⟨rfl,rfl⟩:=z
    exact fun v dx H2 S2 as2 g sub so r hd=>q v dx σ H2 S2 as2 ((R1.call g sub so).push r) hd
theorem Py {n:Nat} {mc:M Bool} {b:SX} {s s':Sta} {fl:Flow ⊕ T} (h:qp (n+1) mc b s=some (fl,s')):(∃ s1,mc s=some (false,s1)∧fl=.inl .next∧s'=s1) ∨
    ∃ s1 fb s2,mc s=some (true,s1)∧b s1=some (fb,s2)∧(match fb with | .inl .next=>qp n mc b s2=some (fl,s') | .inl .cont=>qp n mc b s2=some (fl,s') | .inl .brk=>fl=.inl .next∧s'=s2 | .inl (.ret v)=>fl=.inl (.ret v)∧s'=s2 | .inr v=>fl=.inr v∧s'=s2):=by
  rw [qp] at h
  dsimp only at h
  split at h
  · rename_i s1 e1; cases h; exact .inl ⟨_,e1,rfl,rfl⟩
  · rename_i s1 e1
    split at h
    · rename_i s2 e2; exact .inr ⟨s1,.inl .next,s2,e1,e2,h⟩
    · rename_i s2 e2; exact .inr ⟨s1,.inl .cont,s2,e1,e2,h⟩
    · rename_i s2 e2; cases h; exact .inr ⟨s1,.inl .brk,_,e1,e2,rfl,rfl⟩
    · rename_i v s2 e2; cases h; exact .inr ⟨s1,.inl (.ret v),_,e1,e2,rfl,rfl⟩
    · rename_i v s2 e2; cases h; exact .inr ⟨s1,.inr v,_,e1,e2,rfl,rfl⟩
    · cases h
  · cases h
theorem Yl (n:Nat) {mc:M Bool} {body:List Stmt} (hp:PassesOwn (model X.prog X.w) X.A X.env X.xe) (hc:PT X c (cOf X.K B mc)) (hb:PSs X body (J7 X.K B Cl f E u)):PS X (.While c body [] pos) (J7 X.K B Cl f E (qp n mc u)):=(P0 hp hc hb).imp fun D σ H z9=>by
  obtain ⟨st,ps,S,as,R,fl,st',e,q⟩:=z9
  refine ⟨fun k σ H=>∃ sti Si asi,Rel X.K B sti σ H ps Si asi∧qp k mc u sti=some (fl,st'),⟨n,st,S,as,R,e⟩,?_⟩
  rintro k σ2 H2 ⟨sti,Si,asi,Ri,ei⟩
  cases k with
  | zero=>rw [qp] at ei; cases ei
  | succ k =>
    rcases Py ei with ⟨s1,e1,rfl,rfl⟩ | ⟨s1,fb,s2,e1,e2,er⟩
    · exact ⟨sti,ps,Si,asi,Ri,false,_,e1,fun H3 S3 as3 R3=>Yw (q σ2 H3 S3 as3 R3)⟩
    · refine ⟨sti,ps,Si,asi,Ri,true,s1,e1,fun H3 S3 as3 R3=>Z7 ⟨fun σ' H'=>∃ sti Si asi,Rel X.K B sti σ' H' ps Si asi∧qp k mc u sti=some (fl,st'),fun σ' H' h=>⟨k,Nat.lt_succ_self _,h⟩,s1,ps,S3,as3,R3,fb,s2,e2,?_⟩⟩
      cases fb with
      | inr v =>
        obtain ⟨rfl,rfl⟩:=er
        exact fun w dx σ' H' S' as' R' hd=>q w dx σ' H' S' as' R' hd
      | inl fb =>
        cases fb with
        | next=>exact fun σ' H' S' as' R'=>⟨s2,S',as',R',er⟩
        | cont=>exact fun σ' H' S' as' R'=>⟨s2,S',as',R',er⟩
        | brk =>
          obtain ⟨rfl,rfl⟩:=er
          exact fun σ' H' S' as' R'=>q σ' H' S' as' R'
        | ret v =>
          obtain ⟨rfl,rfl⟩:=er
          exact fun v σ' H' S' as' R'=>q v σ' H' S' as' R'
end
end C
end
section
namespace L2
open PySem PySem.Spec PyProof.Rows
section
variable {X:Cx}
def Qm (y:Str):Value→Bool
  | .str x _=>x.cps.toList==y.cps.toList
  | _=>false
theorem a2h {x y:Str}:(x.cps.toList==y.cps.toList)=decide (x=y):=by
  by_cases h:x=y
  · subst h; simp
  · rw [decide_eq_false h]
    refine Bool.eq_false_iff.mpr fun q=>h ?_
    have:=eq_of_beq q
    obtain ⟨a⟩:=x; obtain ⟨b⟩:=y -- here
    simp at this
    rw [this]
theorem Uc {y:Str}:∀ {ss:List Str} {its:List Value},Vals (ss.map V.str) its→y∈ss→∃ j,∃ hj:j<its.length,Qm y its[j]=true∧(∀ m (hm:m<its.length),m<j→Qm y its[m]=false)∧Vals ((ss.erase y).map V.str) (its.eraseIdx j)
  | [],_,_,h=>nomatch h
  | x::ss,its,r,h=>by
    cases r with
    | @cons _ u _ us r1 r2 =>
      obtain ⟨t,rfl⟩:=r1
      by_cases e:x=y
      · subst e
        refine ⟨0,by simp,by simp [Qm],fun m hm q=>absurd q (Nat.not_lt_zero _),?_⟩
        simpa using r2
      · obtain ⟨j,hj,h1,h2,h3⟩:=Uc r2 ((List.mem_cons.mp h).resolve_left fun q=>e q.symm)
        refine ⟨j+1,by simpa using hj,by simpa using h1,fun m hm q=>?_,?_⟩
        · cases m with
          | zero=>simp only [List.getElem_cons_zero,Qm]; rw [a2h]; exact decide_eq_false e
          | succ m=>simp only [List.getElem_cons_succ]; exact h2 m (by simpa using hm) (Nat.lt_of_succ_lt_succ q)
        · rw [List.erase_cons_tail (by simpa using e)]
          exact .cons ⟨t,rfl⟩ h3
theorem Ol {y:Str} {t:Tok}:∀ {ss:List Str} {its:List Value},Vals (ss.map V.str) its→∀ v∈its,PySem.MeetsSeq.EqGives v (.str y t) (Qm y v)
  | [],_,r,v,h=>by cases r; cases h
  | x::ss,_,r,v,h=>by
    cases r with
    | @cons _ u _ us r1 r2 =>
      rcases List.mem_cons.mp h with rfl | h -- here
      · obtain ⟨t1,rfl⟩:=r1; exact SeqRoads2.EqGives.str x y t1 t
      · exact Ol r2 v h
def Rm:V→List V→Hp→VK→Prop:=fun x vs H Q=>∃ (l:Addr) (ss:List Str) (y:Str),x=.ref l∧vs=[.str y]∧H l=some (.lst (ss.map V.str))∧y∈ss∧Q .non (upd H l (.lst ((ss.erase y).map V.str)))
theorem Uz:MtM X "list.remove" Rm:=by
  intro pins s σ H x vs v us Q I rx rv h
  obtain ⟨l,ss,y,rfl,rfl,hH,hm,q⟩:=h
  cases rx
  obtain ⟨u,rfl,ru⟩:=rv.one
  obtain ⟨t,rfl⟩:=ru
  obtain ⟨z,its,n,r,hl,e⟩:=I.a6x hH
  obtain ⟨j,hj,h1,h2,h3⟩:=Uc r hm
  refine call_meets F.slot_list_remove ⟨_,e,rfl⟩ F.entry_list_remove (F.args_list_remove_2 _ _)
    (PySem.MeetsSeq.list_remove l its.toArray n (.str y t) (Qm y) (fun v hv=>Ol r v (by simpa using hv)) j (by simpa using hj) (by simpa using h1) (fun m hm q=>by simpa using h2 m (by simpa using hm) q) (by rw [List.size_toArray]; omega)) ⟨e,?_⟩
  refine ⟨.non,_,I.a73 (its':=its.eraseIdx j) hH e (by simp) h3 ?_,rfl,q⟩
  have:=List.length_erase_le (a:=y) (l:=ss)
  rw [List.length_map] at *
  have:(ss.map V.str).length=its.length:=r.length
  rw [List.length_map] at this
  omega
end
end L2
namespace C
open PySem PySem.Spec PyProof.Rows L2
section
variable {X:Cx} {B:Bas} {m:M T}
theorem Mq {i:Nat} {e:M T} {s s':Sta} {fl:Flow} (h:Ce i e s=some (fl,s')):Eu i s=true∧∃ y s1 xs ss,e s=some (.str y,s1)∧s1.env[i]? = some (some (.lst xs,true))∧strsOf xs=some ss∧y∈ss∧fl=.next∧s'=gk i (.lst ((ss.erase y).map T.str)) true s1:=by
  unfold Ce at h
  split at h
  · rename_i hl
    split at h
    · rename_i y s1 e1
      split at h
      · rename_i xs e2
        split at h
        · rename_i ss e3
          split at h
          · rename_i e4; cases h; exact ⟨hl,y,s1,xs,ss,e1,e2,e3,e4,rfl,rfl⟩
          · cases h
        · cases h
      · cases h
    · cases h
  · cases h
theorem Ft {K:PySem.W.Frag} {S:Hp} {as:List Addr}:∀ {vs:List V} {xs:List T} {ss:List Str},jy K S as vs xs→strsOf xs=some ss→vs=ss.map V.str
  | _,[],ss,r,e=>by cases r; cases e; rfl
  | _,t::xs,ss,r,e=>by
    cases r with
    | cons h q =>
      cases t <;> simp only [strsOf,reduceCtorEq] at e
      obtain ⟨ss',e1,rfl⟩:=Option.map_eq_some_iff.mp e
      cases h
      rw [Ft q e1]; rfl
theorem V2 (i:Nat) {st:Stmt} (h:PS X st (Xl (tBM X.K "list" Rm (J8 i) (G3 (tOf X.K B m) Yy)))):PS X st (sOf X.K B (Ce i m)):=h.imp fun D σ H z9=>by
  obtain ⟨st,ps,S,as,R,fl,st',e,q⟩:=z9
  obtain ⟨hd,y,s1,xs,ss,e1,e2,e3,e4,rfl,rfl⟩:=Mq e
  obtain ⟨xs0,f0,e0⟩:=Fq hd
  obtain ⟨p0,vs0,s0,q0,_⟩:=R.listAt e0
  refine ⟨_,s0,.inl ⟨rfl,_,q0⟩,st,ps,S,as,R,_,s1,e1,fun v H1 S1 as1 R1=>?_⟩
  obtain ⟨w,h1,_,h3⟩:=R1.slots i _ true e2
  rw [s0] at h1; cases h1
  obtain ⟨p',ep,ow⟩:=h3 rfl
  cases ep
  obtain ⟨vs,hH,h4⟩:=ow.own
  have tp:=R1.top
  cases tp
  have ev:=Ft h4 e3
  subst ev
  exact ⟨p0,ss,y,rfl,rfl,hH,e4,q _ _ S1 as1 (R1.drop.turn e2 s0 ⟨_,cj,Bc _⟩)⟩
end
end C
end
section
namespace C
open PySem PySem.Spec PyProof.Rows L2
theorem Gg {f:T→T→Option T} {i:Nat} {m:M T} {s s':Sta} {w:T} (h:u9 f i m s=some (w,s')):∃ u t,m s=some (u,s')∧s'.env[i]? = some (some (t,true))∧f u t=some w:=by
  unfold u9 at h
  split at h
  · rename_i u s1 e1
    split at h
    · rename_i t e2
      split at h
      · rename_i w e3; cases h; exact ⟨u,t,e1,e2,e3⟩
      · cases h
    · cases h
  · cases h
theorem Ck.rep2 {K:PySem.W.Frag} {B:Bas} {S H:Hp} {as:List Addr} {p:Addr} {t:T} (o:Ck K B S as H p t) (sub:Same S H):∃ S2,Same S S2∧Same S2 H∧Rep K S2 as (.ref p) t:=by
  cases t with
  | lst xs=>exact o.rep sub
  | dic ks =>
    obtain ⟨vs,hH,r⟩:=o.own
    have s1:Same S (upd S p (.dK vs)):=Same.upd o.out _
    refine ⟨upd S p (.dK vs),s1,fun b u e=>?_,.dic (.inl cj) (r.mono s1 nol)⟩
    by_cases h:b=p
    · subst h; rw [cj] at e; cases e; exact hH
    · rw [d7 h] at e; exact sub _ _ e
  | _=>exact o.own.elim
theorem a2n {t u w:T} (h:inT t u=some w):∃ b,w=.bl b:=by
  rcases Ma h with ⟨ys,b,h1,h2,h3,rfl⟩ | ⟨kvs,q,rfl,h2,rfl⟩
  · exact ⟨b,rfl⟩
  · exact ⟨_,rfl⟩
theorem Rz {t u w:T} (h:wg t u=some w):∃ b,w=.bl b:=by
  unfold wg at h
  split at h
  · cases h; exact ⟨_,rfl⟩
  · cases h
section
variable {X:Cx} {B:Bas} {a b c e o k:Expr} {m mo mk:M T} {pos p:Pos} {op:CmpOp} {f:T→T→Option T}
theorem Yj (i:Nat) (ho:OpT X (compareOp op) f) (hf:∀ {t u w},f t u=some w→∃ b,w=.bl b) (ha:PE X a (tOf X.K B m)) (hi:PE X b (J8 i)) (hm:behindInMarks op b=false):PE X (.Compare a [op] [b] pos) (tOf X.K B (u9 f i m)) :=
  (N6 ho ha hi hm).imp fun σ H Q z9=>by
    obtain ⟨st,ps,S,as,R,t,st',e,q⟩:=z9
    obtain ⟨u,tt,e1,e2,e3⟩:=Gg e
    refine ⟨st,ps,S,as,R,u,st',e1,fun y H2 S2 as2 R2=>?_⟩
    obtain ⟨w,h1,_,h3⟩:=R2.slots i _ true e2
    obtain ⟨p',ep,ow⟩:=h3 rfl
    subst ep
    obtain ⟨S3,z1,z2,z3⟩:=ow.rep2 R2.sub
    obtain ⟨b,rfl⟩:=hf e3
    refine ⟨_,h1,S3,as2,u,_,.bl b,z2,R2.top.mono z1 nol,z3,e3,fun v H' S' x r=>?_⟩
    cases r
    have x2:Ext S2 H2 S2 H':=⟨Same.refl _,x.h,R2.sub.trans x.h,fun _ q=>.inl q⟩
    exact q _ _ _ _ ((R2.ext x2).drop.push (.bl b))
theorem Xc (i:Nat) (ho:OpT X (compareOp op) f) (hf:∀ {t u w},f t u=some w→∃ b,w=.bl b) (ha:PE X a (tOf X.K B m)) (hi:PE X b (J8 i)) (hm:behindInMarks op b=false):PT X (.Compare a [op] [b] pos) (cOf X.K B (fu (u9 f i m))) :=
  Cy ((Tq ho ha hi hm).imp fun σ H Q z9=>by
    obtain ⟨st,ps,S,as,R,t,st',e,q⟩:=z9
    obtain ⟨u,tt,e1,e2,e3⟩:=Gg e
    refine ⟨st,ps,S,as,R,u,st',e1,fun y H2 S2 as2 R2=>?_⟩
    obtain ⟨w,h1,_,h3⟩:=R2.slots i _ true e2
    obtain ⟨p',ep,ow⟩:=h3 rfl
    subst ep
    obtain ⟨S3,z1,z2,z3⟩:=ow.rep2 R2.sub
    obtain ⟨b,rfl⟩:=hf e3
    refine ⟨_,h1,S3,as2,u,_,.bl b,z2,R2.top.mono z1 nol,z3,e3,fun v H' S' x r=>?_⟩
    cases r
    have x2:Ext S2 H2 S2 H':=⟨Same.refl _,x.h,R2.sub.trans x.h,fun _ q=>.inl q⟩
    exact q _ _ _ _ ((R2.ext x2).drop.push (.bl b)))
theorem Vx {ts:List T} {w:T} (h:Mx ts=some w):∃ kvs k q,ts=[.dic kvs,k]∧keyOf k=some q∧w=(J6 q kvs).getD .non:=by
  unfold Mx at h
  split at h
  · split at h
    · rename_i q e; cases h; exact ⟨_,_,q,rfl,e,rfl⟩
    · cases h
  · cases h
theorem a09 {apos:Pos} (hu:X.A.units+1<cLine) (ho:PE X o (tOf X.K B mo)) (hk:PE X k (tOf X.K B mk)) (m:M1 X o "get" apos k pos):PE X (.Call (.Attribute o "get" apos) [k] [] pos) (tOf X.K B (gw Mx (aq mo (aq mk fj)))) :=
  (Xq hu ho hk m).imp fun σ H Q z9=>by
    obtain ⟨st,ps,S,as,R,t,st',e,q⟩:=z9
    obtain ⟨ts,e1,ef⟩:=vm e
    obtain ⟨to,s1,r1,eo,e2,rfl⟩:=u5 e1
    obtain ⟨tk,s2,r2,ek,e3,rfl⟩:=u5 e2
    cases e3
    obtain ⟨kvs,k',qk,ez,e4,rfl⟩:=Vx ef
    cases ez
    refine ⟨st,ps,S,as,R,_,s1,eo,fun v H1 S1 as1 R1=>?_⟩
    have top:=R1.top
    cases top with
    | @dic a vs _ g1 g2 =>
      refine ⟨a,rfl,.inl ⟨vs,o9 R1.sub g1⟩,s1,_,S1,as1,R1,tk,_,ek,fun u H2 S2 as2 R2=>?_⟩
      have ey:=Q0 R2.top e4
      subst ey
      have top3:Rep X.K S2 as2 (.ref a) (.dic kvs):=R2.pend _ (List.mem_cons_of_mem _ List.mem_cons_self)
      cases top3 with
      | @dic _ vs3 _ g3 g4 =>
        refine ⟨G7 vs3 qk,.inl ⟨vs3,qk,o9 R2.sub g3,rfl,rfl⟩,?_⟩
        rcases g4.get qk with ⟨z,t',a1,a2,a3⟩ | ⟨a1,a2⟩
        · rw [a1]; rw [a2] at q; exact q z H2 S2 as2 (R2.drop.drop.push a3)
        · rw [a1]; rw [a2] at q; exact q .non H2 S2 as2 (R2.drop.drop.push .non)
end
end C
end
section
namespace C
open PySem PySem.Spec
section
variable {prog:Program} {w:World} {A:Around} {E:Value→Shared→Prop} {s:Shared} {it l:Addr} {xs:Array Value}
end
end C
end
section
namespace C
open PySem PySem.Spec PyProof.Rows L2
section
variable {X:Cx} {B:Bas} {a b e e1 e2:Expr} {m m1 m2:M T} {pos p1 p2 p3 p4:Pos} {lo hi:Option Expr} {ml mh:M (Option Int)}
theorem Rel.pin {K:PySem.W.Frag} {st:Sta} {σ:L2.St} {H S:Hp} {ps:List (V × T)} {as:List Addr} {p:Addr} {ob:HO} (r:Rel K B st σ H ps S as) (hp:H p=none) :
    Rel K ⟨S,as,upd B.H p ob⟩ st σ (upd H p ob) ps S as:=by
  obtain ⟨bD,sD,nD,no⟩:=r.fresh hp
  have r2:=(r.Zd (ob:=ob) bD sD nD no).base
  refine ⟨r2.sub,⟨Same.refl _,nol,fun q o h1 h2 h3=>?_⟩,fun i t f ei=>?_,r2.apart,r2.sto,r2.pend,r2.len⟩
  · by_cases hq:q=p
    · subst hq
      change upd B.H q ob q=some o at h1
      rw [cj] at h1
      cases h1
      exact ⟨cj,sD,nD⟩
    · change upd B.H p ob q=some o at h1
      rw [d7 hq] at h1
      exact r2.grow.keep q o h1 h2 h3
  · obtain ⟨v,h1,h2,h3⟩:=r2.slots i t f ei
    refine ⟨v,h1,h2,fun q=>?_⟩
    obtain ⟨p',ep,o⟩:=h3 q
    refine ⟨p',ep,o.own,o.out,o.nas,?_⟩
    have:p'≠p:=fun z=>by
      subst z
      subst ep
      subst q
      exact no i t ei h1
    change upd B.H p ob p'=none
    rw [d7 this]
    exact o.new
theorem Rel.a5r {K:PySem.W.Frag} {st st':Sta} {σ σ':L2.St} {H H' S S':Hp} {ps ps':List (V × T)} {as as':List Addr} {p:Addr} {ob:HO} (r:Rel K B st σ H ps S as) (hp:H p=none) (r':Rel K ⟨S,as,upd B.H p ob⟩ st' σ' H' ps' S' as') :
    Rel K B st' σ' H' ps' S' as'∧H' p=some ob∧B.H p=none∧S' p=none∧p∉as'∧Dz st' σ' p:=by
  obtain ⟨bD,sD,nD,no⟩:=r.fresh hp
  obtain ⟨k1,k2,k3⟩:=r'.grow.keep p ob cj sD nD
  refine ⟨⟨r'.sub,⟨r.grow.same.trans r'.grow.same,?_,fun q o h1 h2 h3=>?_⟩,fun i t f ei=>?_,r'.apart,r'.sto,r'.pend,r'.len⟩,k1,bD,k2,k3,fun i t ei es=>?_⟩
  · obtain ⟨l,el⟩:=r.grow.more
    obtain ⟨l',el'⟩:=r'.grow.more
    exact ⟨l++l',by rw [el',← List.append_assoc,← el]⟩
  · have hq:q≠p:=fun z=>by subst z; rw [bD] at h1; cases h1
    obtain ⟨x,y,z⟩:=r.grow.keep q o h1 h2 h3
    exact r'.grow.keep q o (by change upd B.H p ob q=some o; rw [d7 hq]; exact h1) y z
  · obtain ⟨v,h1,h2,h3⟩:=r'.slots i t f ei
    refine ⟨v,h1,h2,fun q=>?_⟩
    obtain ⟨p',ep,o⟩:=h3 q
    have:p'≠p:=fun z=>by
      have:=o.new
      subst z
      change upd B.H p' ob p'=none at this
      rw [cj] at this; cases this
    exact ⟨p',ep,o.own,o.out,o.nas,by have:=o.new; change upd B.H p ob p'=none at this; rwa [d7 ‹p'≠p›] at this⟩
  · obtain ⟨v,h1,h2,h3⟩:=r'.slots i t true ei
    obtain ⟨p',ep,o⟩:=h3 rfl
    rw [es] at h1
    cases h1
    cases ep
    have:=o.new
    change upd B.H p ob p=none at this
    rw [cj] at this; cases this
end
end C
end
section
namespace C
open PySem PySem.Spec PyProof.Rows L2
section
variable {X:Cx} {B:Bas} {e1:Expr} {m1:M T} {pos p1:Pos}
theorem Ye {k:Int} {j1:Nat} (h1:∀ B,PE X e1 (tOf X.K B m1)) :
    PE X (.Dict [some (.Constant (.int k) j1 p1)] [e1] pos) (fOf X.K B (gw (a0n k) (aq m1 fj))) :=
  (Zv (Xj Zc (peE h1) a1d) rfl rfl (by simp) (by simp)).imp fun σ H Q z9=>by
    obtain ⟨st,ps,S,as,R,t,st',ev,q⟩:=z9
    intro p hp
    obtain ⟨ts,ea,eb⟩:=vm ev
    obtain ⟨t1,s1,us,c1,cr,rfl⟩:=u5 ea
    cases cr
    simp only [a0n] at eb
    cases eb
    refine ⟨_,st,ps,S,as,R.pin (ob:=.dK []) hp,t1,_,c1,fun v1 H1 S1 as1 R1=>?_⟩
    obtain ⟨R3,a1,a2,a3,a4,a5⟩:=R.a5r hp R1
    refine ⟨a1,[(.inl k,v1)],rfl,by simp,?_⟩
    have em:Fx [] [((.inl k:L2.Key),v1)]=[(.inl k,v1)]:=by simp [Fx,putK]
    rw [em]
    exact q p _ S1 as1 (R3.drop.Zd a2 a3 a4 a5) ⟨⟨_,cj,.cons R3.top .nil⟩,a3,a4,a2⟩ a5
end
end C
end
section
namespace C
open PySem
def Wd:List (List Key × T)→List (List Key × T)→Bool
  | [],_=>true
  | (k,x)::r,ys=>match qd k ys with
    | none=>false
    | some y=>match eqD x y with
      | some true=>Wd r ys
      | _=>false
def Hq (i j:Nat):M T:=fun s=>match s.env[i]?,s.env[j]? with
  | some (some (.obj n,false)),some (some (.obj m,false))=>match s.sto[n]?,s.sto[m]? with
    | some (.dit a),some (.dit b)=>if a.length=b.length∧Wd a b=true then some (.bl true,s) else none
    | _,_=>none
  | _,_=>none
def Gw (i:Nat):M T:=fun s=>match s.env[i]? with
  | some (some (.obj n,false))=>match s.sto[n]? with
    | some (.dit _)=>some (.bl true,s)
    | _=>none
  | _=>none
end C
end
section
namespace L2
open PySem PySem.Spec PyProof.Rows PySem.W
section
variable {prog:Program} {w:World} {Kt:Type} [DecidableEq Kt] {knd:HeapKind prog w Kt} {A:Around} {E:Value→Shared→Prop} {s:Shared}
theorem Ym {nm:String} {a b:Addr} {ka kb:List (Kt × Addr × Value)} {Q:Bool→Shared→Prop} (ha:(a==sysModules)=false) (hb:(b==sysModules)=false) (hu:knd.room A)
    (da:s.heap.DictOfH knd a ka) (db:s.heap.DictOfH knd b kb) (hl:ka.length=kb.length) (hits:∀ x∈ka,∃ p,atKey kb x.1=some p∧SeqAt.EqAt A s x.2.2 p.2 true) (h:Q true s) :
    wpAny (model prog w) A (Builtin.Dict.samePairs nm a b) Q E s:=by -- here
  obtain ⟨oa,es,ep,hoa,_,hda,hea,hka,_⟩:=da
  obtain ⟨ob,es',ep',hob,_,hdb,heb,hkb,hnb⟩:=db
  have la:=size_of_entries hea
  have lb:=size_of_entries heb
  have hsz:es.size=es'.size:=by rw [la,lb,hl]
  unfold Builtin.Dict.samePairs Builtin.Dict.showsAll -- here
  rw [if_neg (by rw [ha]; exact Bool.false_ne_true),if_neg (by rw [hb]; exact Bool.false_ne_true)]
  refine wpAny_bind (wpAny_pure (wpAny_bind (wpAny_pure (wpAny_bind (wpAny_dictEntries hoa hda ?_)))))
  dsimp only
  refine wpAny_bind (wpAny_dictEntries hob hdb ?_) -- here
  rw [if_neg (by rw [hsz]; simp)] -- here
  refine wpAny_bind (wpAny_dictEpoch hoa hda (wpAny_bind ?_))
  rw [Std.Legacy.Range.forIn_eq_forIn_range'] -- here
  simp only [Std.Legacy.Range.size,Nat.sub_zero,Nat.add_sub_cancel,Nat.div_one] -- here
  refine wpAny_forIn_list _ (fun rest q s'=>s'=s∧q=(none,())∧∀ i∈rest,i<es.size) _ ?_ ?_ _ _ ⟨rfl,rfl,fun i hi=>by have:=List.mem_range'_1.mp hi; omega⟩
  · rintro i rest q s' ⟨rfl,rfl,hm⟩
    have hi:=hm i List.mem_cons_self
    have hi':i<ka.length:=by rw [← la]; exact hi
    refine wpAny_bind (wpAny_dictEntries hoa hda ?_) -- here
    have ei:es[i]? = some (entryOfKey knd ka[i]):=by rw [entry_at hea i,List.getElem?_eq_getElem hi']; rfl
    rw [ei]
    obtain ⟨p,hp,eq⟩:=hits _ (List.getElem_mem hi')
    refine wpAny_bind (wpAny_holding (wpAny_bind (wpAny_dictFind_heap (knd:=knd) (k:=ka[i].1) hu (hka _ (List.getElem_mem hi')) hob hdb heb hkb hnb ?_ ?_)))
    · intro hno
      rw [atKey_none_of_get hno] at hp
      cases hp
    · intro j p' hj
      have ep2:atKey kb ka[i].1=some p':=atKey_of_get hnb hj
      rw [hp] at ep2
      cases ep2
      refine wpAny_bind (wpAny_dictEntries hob hdb ?_) -- here
      rw [entry_at heb j,hj]
      refine wpAny_holding (eq prog w _ _ ?_)
      show wpAny _ _ (if (!true)=true then _ else _) _ _ _ -- here
      rw [if_neg (by decide)]
      refine wpAny_bind (wpAny_dictEpoch hoa hda ?_) -- here
      rw [if_neg (by simp)]
      exact wpAny_pure ⟨rfl,rfl,fun x hx=>hm x (List.mem_cons_of_mem _ hx)⟩
  · rintro q s' ⟨rfl,rfl,_⟩
    exact wpAny_pure h
theorem a4m {a b:Addr} {ka kb:List (Kt × Addr × Value)} {Q:Value→Shared→Prop} (ha:(a==sysModules)=false) (hb:(b==sysModules)=false) (hu:knd.room A.in1) (hu0:A.units<cLine)
    (da:s.heap.DictOfH knd a ka) (db:s.heap.DictOfH knd b kb) (hl:ka.length=kb.length) (hits:∀ x∈ka,∃ p,atKey kb x.1=some p∧SeqAt.EqAt A.in1 s x.2.2 p.2 true) (h:Q (.bool true) s) :
    wpAny (model prog w) A (compareOp .Eq (.ref a) (.ref b)) Q E s:=by -- here
  refine wpAny_richCompare_same_room (op:=.Eq) da.typeIs db.typeIs PySem.F.slot_dict_eq (wpAny_call_entry PySem.F.slot_dict_eq da.typeIs PySem.F.entry_dict_eq ?_ (PySem.F.args_dict_eq_2 _ _)) hu0
  show wpAny _ _ (Builtin.Dict.dictSlotArgs "__eq__" ⟨[.ref a,.ref b],[]⟩ >>= _) _ _ s -- here
  unfold Builtin.Dict.dictSlotArgs -- here
  refine wpAny_bind (wpAny_bind (wpAny_notOrdered_dict da.typeIs (wpAny_pure ?_)))
  refine wpAny_bind (wpAny_isInstance (T := "dict") db.typeIs PySem.F.sub_dict_dict ?_) -- here
  simp only [Bool.not_true,Bool.false_eq_true,if_false] -- here
  refine wpAny_bind (wpAny_pure (wpAny_bind (wpAny_pure (wpAny_bind (Ym ha hb hu da db hl hits (wpAny_pure ⟨_,rfl,fun x=>(nomatch x),?_⟩))))))
  simpa using h
end
end L2
namespace C
open PySem PySem.Spec PyProof.Rows L2
theorem Qc {i j:Nat} {s s':Sta} {t:T} (h:Hq i j s=some (t,s')):∃ n m a b,s.env[i]? = some (some (.obj n,false))∧s.env[j]? = some (some (.obj m,false))∧s.sto[n]? = some (.dit a)∧s.sto[m]? = some (.dit b)∧a.length=b.length∧Wd a b=true∧t=.bl true∧s'=s:=by
  unfold Hq at h
  split at h
  · rename_i n m e1 e2
    split at h
    · rename_i a b e3 e4
      split at h
      · rename_i hc; cases h; exact ⟨n,m,a,b,e1,e2,e3,e4,hc.1,hc.2,rfl,rfl⟩
      · cases h
    · cases h
  · cases h
theorem Qj {i:Nat} {s s':Sta} {t:T} (h:Gw i s=some (t,s')):∃ n a,s.env[i]? = some (some (.obj n,false))∧s.sto[n]? = some (.dit a)∧t=.bl true∧s'=s:=by
  unfold Gw at h
  split at h
  · rename_i n e1
    split at h
    · rename_i a e2; cases h; exact ⟨n,a,e1,e2,rfl,rfl⟩
    · cases h
  · cases h
theorem Ve {K:PySem.W.Frag} {S:Hp} {as:List Addr} {b:List (List L2.Key × T)} {vb:List (List L2.Key × V)} (rb:Ca K S as vb b):∀ {a:List (List L2.Key × T)} {va:List (List L2.Key × V)},Ca K S as va a→Wd a b=true →
    ∀ q∈va,∃ t u z,(q.1,t)∈a∧Rep K S as q.2 t∧G7 vb q.1=some z∧Rep K S as z u∧eqD t u=some true
  | [],va,ra,e,q,hq=>by cases ra; cases hq
  | (k,x)::a,va,ra,e,q,hq=>by
    cases ra with
    | cons h r =>
      rw [Wd] at e
      cases e1:qd k b with
      | none=>rw [e1] at e; cases e
      | some y =>
        rw [e1] at e
        dsimp only at e
        cases e2:eqD x y with
        | none=>rw [e2] at e; cases e
        | some c =>
          rw [e2] at e
          cases c with
          | false=>cases e
          | true =>
            rcases List.mem_cons.mp hq with rfl | hq -- here
            · obtain ⟨z,z1,z2⟩:=rb.get k e1
              exact ⟨x,y,z,.head _,h,z1,z2,e2⟩
            · obtain ⟨t,u,z,a1,a2⟩:=Ve rb r e q hq
              exact ⟨t,u,z,.tail _ a1,a2⟩
theorem KT.mem {H:Hp}:∀ {kvs:List (List L2.Key × V)} {xs:List (List L2.Key × Addr × Value)},KT H kvs xs→∀ x∈xs,∃ q∈kvs,q.1=x.1∧RelV q.2 x.2.2
  | _,_,.nil,x,hx=>nomatch hx
  | _,_,.cons hp r,x,hx=>by
    rcases List.mem_cons.mp hx with rfl | hx -- here
    · exact ⟨_,.head _,hp.1,hp.2.2⟩
    · obtain ⟨q,h1,h2⟩:=KT.mem r x hx
      exact ⟨q,.tail _ h1,h2⟩
section
variable {X:Cx} {B:Bas} {a b e:Expr} {pos p:Pos}
def a4f (K:PySem.W.Frag):R2:=fun x y H Q=>∃ (p q:Addr) (va vb:List (List L2.Key × V)) (S:Hp) (as:List Addr) (ta tb:List (List L2.Key × T)),x=.ref p∧y=.ref q∧H p=some (.dT va)∧H q=some (.dT vb)∧Same S H∧Ca K S as va ta∧Ca K S as vb tb∧ta.length=tb.length∧Wd ta tb=true∧Q (.bl true) H
theorem Ww (hu:X.A.units+64<cLine):OpR X (compareOp .Eq) (a4f X.K):=by
  intro pins s σ H x y v u Q I rx ry z8
  obtain ⟨p,q,va,vb,S,as,ta,tb,ex,ey,hp,hq,sub,ra,rb,hl,he,k⟩:=z8
  subst ex ey
  cases rx
  cases ry
  obtain ⟨_,y1,xs,r1,d1⟩:=Wg I.hok hp
  obtain ⟨_,y2,ys,r2,d2⟩:=Wg I.hok hq
  have l1:xs.length=ta.length:=by rw [← r1.length]; exact ra.length
  have l2:ys.length=tb.length:=by rw [← r2.length]; exact rb.length
  refine a4m y1 y2 (tupleKind_room_in1 (by omega)) (by omega) d1 d2 (by omega) (fun x hx=>?_) ⟨.bl true,H,I,rfl,k⟩
  obtain ⟨z,hz,e1,e2⟩:=KT.mem r1 x hx
  obtain ⟨t,w,v,_,z1,z2,z3,z4⟩:=Ve rb ra he z hz
  have rel:=KT.val r2 z.1
  rw [z2] at rel
  obtain ⟨w',hw,rw'⟩:=J9.some_of rel
  obtain ⟨pp,h1,h2⟩:=Option.map_eq_some_iff.mp hw
  refine ⟨pp,by rw [← e1]; exact h1,?_⟩
  rw [h2]
  exact Uu I sub z1 z3 e2 rw' z4 (by show X.A.units+1+40<cLine; omega)
theorem Wx (i j:Nat) (hu:X.A.units+64<cLine) (hi:PE X a (J8 i)) (hj:PE X b (J8 j)) (hm:behindInMarks .Eq b=false):PE X (.Compare a [.Eq] [b] pos) (tOf X.K B (Hq i j)) :=
  (N6 (Ww hu) hi hj hm).imp fun σ H Q z9=>by
    obtain ⟨st,ps,S,as,R,t,st',e,q⟩:=z9
    obtain ⟨n,m,ta,tb,e1,e2,e3,e4,hl,he,rfl,rfl⟩:=Qc e
    obtain ⟨v1,s1,r1,_⟩:=R.slots i _ false e1
    obtain ⟨v2,s2,r2,_⟩:=R.slots j _ false e2
    obtain ⟨a1,x1,_,va,h1,ra⟩:=R.sto.at' n _ e3
    obtain ⟨a2,x2,_,vb,h2,rb⟩:=R.sto.at' m _ e4
    have g1:=r1 rfl
    have g2:=r2 rfl
    cases g1 with
    | obj z1 =>
      cases g2 with
      | obj z2 =>
        rw [x1] at z1; cases z1
        rw [x2] at z2; cases z2
        exact ⟨_,s1,_,s2,a1,a2,va,vb,S,as,ta,tb,rfl,rfl,h1,h2,R.sub,ra,rb,hl,he,q _ H S as (R.push (.bl true))⟩
theorem Wk (i:Nat) {pc:Pos} (hg:Gl X "isinstance") (hm:X.mg "isinstance" = none) (hg2:Gl X "dict") (hm2:X.mg "dict" = none) (hi:PE X a (J8 i))
    (he:starEach [a,.Name "dict" pc] X.env=(false,eval a X.env)::starEach [.Name "dict" pc] X.env:=by rfl) (he2:starEach [.Name "dict" pc] X.env=(false,eval (.Name "dict" pc) X.env)::starEach [] X.env:=by rfl)
    (hpl:(backTo pos (starEach [.Name "dict" pc] X.env)).any (·.1)=false:=by rfl) :
    PE X (.Call (.Name "isinstance" p) [a,.Name "dict" pc] [] pos) (tOf X.K B (Gw i)):=by
  have hc:Aa X (.builtin "isinstance") (fun xs H Q=>∃ (d:Addr) (va:List (List L2.Key × V)),xs=[.ref d,.ty "dict"]∧H d=some (.dT va)∧Q (.bl true) H):=by
    intro pins s σ H xs us Q I rs z8
    obtain ⟨d,va,ex,hd,q⟩:=z8
    subst ex
    obtain ⟨u,w,rfl,r1,r2⟩:=rs.two
    cases r1
    cases r2
    obtain ⟨_,_,ys,_,o,es,ep,h1,h2,_⟩:=Wg I.hok hd
    exact PySem.W.kia_one PySem.W.kitx_dict I.kIn ⟨o,h1,h2.1⟩ (b:=true) (by rfl) (fun z=>nomatch z) fun tk=>⟨.bl true,H,I.tok _,rfl,q⟩
  have hnm:PE X (.Name "dict" pc) (tC (.ty "dict")):=U9 hg2 hm2 boot_dict rfl (by decide) (by decide)
  refine (qb hc hg hm PyProof.Rows.boot_isinstance (jj hi (jj hnm qg he2) he) (by decide) (by decide) he hpl).imp fun σ H Q z0=>?_
  obtain ⟨st,ps,S,as,R,t,st',e,q⟩:=z0
  obtain ⟨n,ta,e1,e2,rfl,rfl⟩:=Qj e
  obtain ⟨v1,s1,r1,_⟩:=R.slots i _ false e1
  obtain ⟨a1,x1,_,va,h1,ra⟩:=R.sto.at' n _ e2
  have g1:=r1 rfl
  cases g1 with
  | obj z1 =>
    rw [x1] at z1; cases z1
    exact ⟨_,s1,a1,va,rfl,h1,q _ H S as (R.push (.bl true))⟩
end
end C
end
section
namespace L2
open PySem PySem.Spec PyProof.Rows
section
variable {X:Cx} {e:Expr} {C:Addr} {f x:Str} {i j k:Nat} {pos p q:Pos}
def a71 (C:Addr) (f:Str) (i:Nat) (x:Str):TE:=a67 (G3 (tC (.str x)) (G3 (a74 C f i) Yy))
theorem a3y (g:XG X.K C f) (he:PE X e (J8 i)) (hb:attributeBase e f X.env (eval e X.env)=eval e X.env)
    (h1:starEach [.Constant (.str x) j p,.Attribute e f q] X.env=(false,eval (.Constant (.str x) j p) X.env)::starEach [.Attribute e f q] X.env:=by rfl) (h2:starEach [.Attribute e f q] X.env=(false,eval (.Attribute e f q) X.env)::starEach [] X.env:=by rfl) :
    PE X (.Tuple [.Constant (.str x) j p,.Attribute e f q] k pos) (a71 C f i x):=O6 (jj Z1 (jj (a4r g he hb) qg h2) h1)
end
end L2
namespace C
open PySem PySem.Spec PyProof.Rows L2
section
variable {K:PySem.W.Frag} {B:Bas} {f x:Str} {i:Nat} {Cl:Addr}
theorem a4l:TEx K B Cl f i (fun t=>some (.tup [.str x,t])) (a71 Cl f i x):=fun σ H a dx v t u Q st ps S as e1 e2 e3 R hu q=>by
  cases hu
  refine ⟨a,dx,v,e1,e2,e3,by show 2≤sizeLine; decide,fun p hp=>?_⟩
  have y:=Ext.laid R.sub hp (.tup [.str x,v])
  have R1:=R.ext y
  exact q _ _ _ _ (R1.drop.push (.tup (SqT.of cj) (.cons (.str x) (.cons R1.top .nil))))
end
end C
end
section
namespace K
open C PySem
def iy:FnX:=Ji 7
  (tu (lx (sNew 3 (gw uz (aq (bf 2) fj))))
  (tu (Pa (wu [4,5]) (Ae (mOp cu (mOp cu (mOp cu (bf 0) (au (.int 2))) (bf 1)) (au (.int 3))))
  (xIf (fu (mOp inT (bf 4) (mOp cu (bf 0) (au (.int 3)))))
  (tu (lx (qj 6 (mOp neO (mOp cu (bf 5) (au (.int 0))) (au (.int 0)))))
  (tu (xIf (fu (mOp eqO (bf 6) (u9 inT 3 (bf 4))))
  (Ai (bf 1))
  (lx wz))
  (lx (sIf (fu (bf 6))
  (uc 3 (bf 4))
  (Ce 3 (bf 4))))))
  (lx wz)))
  (lx (uy (gw oh (aq (gw yr (aq (bf 3) fj)) fj))))))
def Ht:Fn:=norm iy
def kj:FnX:=Ji 9
  (tu (lx (sNew 2 (gw (a0n 0) (aq (gw (fun l=>some (.tup l)) fj) fj))))
  (tu (lx (sNew 3 (gw (fun l=>some (.lst l)) (aq (au (.int 0)) fj))))
  (tu (lx (qj 4 (au (.int 0))))
  (tu (qp 1000 (fu (mOp ltT (bf 4) (ux 3)))
  (tu (lx (qj 5 (uh 3 (bf 4))))
  (tu (Pa (wu [6,7]) (Jy (mOp cu (bf 0) (au (.int 2))))
  (xIf (Hl (fu (mOp eqO (mOp cu (bf 7) (au (.int 0))) (bf 1))) (fu (mOp eqO (mOp cu (bf 7) (au (.int 1))) (bf 5))))
  (tu (Dc iy (aq (bf 0) (aq (bf 6) (aq (mj 2 (bf 5)) fj))) (Qz 8))
  (xIf (fu (u9 wg 2 (mOp cu (bf 7) (au (.int 4)))))
  (tu (lx (Cv 2 (mOp cu (bf 7) (au (.int 4))) (bf 8)))
  (lx (uc 3 (mOp cu (bf 7) (au (.int 4))))))
  (xIf (fu (mOp neO (mj 2 (mOp cu (bf 7) (au (.int 4)))) (bf 8)))
  (Ai (bf 6))
  (lx wz))))
  (lx wz)))
  (lx (qj 4 (mOp Aw (bf 4) (au (.int 1))))))))
  (lx (uy (bf 2)))))))
def Ur:Fn:=norm kj
def j9:FnX:=Ji 6
  (tu (lx (qj 1 Nb))
  (tu (Pa (wu [2,3]) (Ae (mOp cu (bf 0) (au (.int 1))))
  (tu (Dc kj (aq (bf 0) (aq (bf 2) fj)) (Qz 4))
  (lx (Bt (hName 5) (m8 (bf 3))
  (lu (bf 1) (aq (bf 2) (aq (bf 5) fj)) (gw Mx (aq (bf 4) (aq (bf 5) fj))))))))
  (lx (uy (bf 1)))))
def Vw:Fn:=norm j9
def gq:Fn:=Ab 2
  (ju (sIf (fu (mOp ltT (bf 1) (gw Ju (aq (bf 0) fj))))
  (uy (mOp cu (bf 0) (bf 1)))
  wz)
  (uy (au (.int 0))))
def dj:Fn:=Ab 3
  (ju (sIf (fu (mOp eqO (yu (bf 0)) (au (.int 2))))
  (Fj 0 (qw (bf 0) (au (.int 0))))
  wz)
  (ju (sIf (Hl (fu (mOp eqO (qw (bf 0) (au (.int 1))) (au (.int 0)))) (fu (mOp inT (qw (bf 0) (au (.int 0))) (gw (fun l=>some (.lst l)) (aq (au (.int 0)) (aq (mUn a1v (au (.int 1))) fj))))))
  (ju (Ag (bf 0) (au (.int 0)) (mOp Aw (qw (bf 0) (au (.int 2))) (au (.int 1013))))
  (Ag (bf 0) (au (.int 1)) (au (.int 1))))
  wz)
  (ju (sIf (fu (mOp eqO (qw (bf 0) (au (.int 1))) (au (.int 0))))
  (ju (qj 2 (mOp Nf (qw (bf 0) (au (.int 0))) (bf 1)))
  (ju (Ag (bf 0) (au (.int 0)) (mOp Iv (qw (bf 0) (au (.int 0))) (bf 1)))
  (uy (bf 2))))
  wz)
  (ju (Ag (bf 0) (au (.int 0)) (mOp Nf (mOp Aw (mOp Hu (mOp Nf (qw (bf 0) (au (.int 0))) (au (.int 2147483647))) (au (.int 48271))) (au (.int 1013))) (au (.int 2147483629))))
  (uy (mOp Nf (mOp Iv (mOp Nf (mOp Hu (qw (bf 0) (au (.int 0))) (au (.int 69621))) (au (.int 2147483587))) (au (.int 11))) (bf 1)))))))
def iw:Fn:=Ab 4
  (ju (sIf (fu (mOp eqO (mOp Nf (mOp Iv (bf 0) (au (.int 640))) (au (.int 4))) (au (.int 1))))
  (uy (mOp cu (gw (fun l=>some (.lst l)) (W7 ["b","ab","abc","abcd","a","ba","aab","b1","bab","ab1"])) (mOp Nf (bf 1) (au (.int 10)))))
  wz)
  (ju (qj 2 (mOp Aw (au (.int 1)) (mOp Nf (bf 0) (au (.int 8)))))
  (ju (qj 3 (mOp Nf (mOp Iv (bf 0) (au (.int 8))) (bf 2)))
  (uy (mOp Aw (mOp Aw (mOp Hu (au (.str "q")) (bf 3)) (mOp cu (au (.str "abcdefghij")) (mOp Nf (mOp Aw (mOp Hu (au (.int 3)) (bf 1)) (mOp Iv (bf 0) (au (.int 64)))) (au (.int 10))))) (mOp Hu (au (.str "q")) (mOp a1x (mOp a1x (bf 2) (au (.int 1))) (bf 3))))))))
def j4:Fn:=Ab 13
  (ju (qj 4 (jo dj (aq (bf 0) (aq (gw Ju (aq (bf 1) fj)) fj))))
  (ju (sGo (wu [5,6]) (mOp cu (bf 1) (bf 4)))
  (ju (qj 7 (jo dj (aq (bf 0) (aq (bf 6) fj))))
  (ju (qj 8 (mOp Nf (mOp Aw (mOp Aw (bf 7) (au (.int 1))) (mOp Hu (jo dj (aq (bf 0) (aq (au (.int 2)) fj))) (jo dj (aq (bf 0) (aq (bf 6) fj))))) (bf 6)))
  (ju (qj 9 (mOp cu (bf 2) (jo dj (aq (bf 0) (aq (gw Ju (aq (bf 2) fj)) fj)))))
  (ju (qj 10 (jo dj (aq (bf 0) (aq (au (.int 6)) fj))))
  (ju (sIf (fu (mOp eqO (bf 10) (au (.int 0))))
  (uy (gw (fun l=>some (.tup l)) (aq (bf 5) (aq (bf 7) (aq (gw (fun l=>some (.tup l)) (aq (au (.str "most")) (aq (gw (fun l=>some (.tup l)) (aq (au (.int 0)) (aq (gw (fun l=>some (.tup l)) (aq (gw (fun l=>some (.tup l)) (aq (bf 9) (aq (au (.int 1)) fj))) fj)) fj))) fj))) (aq (gw (fun l=>some (.tup l)) (aq (gw (fun l=>some (.tup l)) (aq (bf 9) (aq (gw (fun l=>some (.tup l)) (aq (mOp Aw (bf 4) (au (.int 1))) (aq (gw (fun l=>some (.tup l)) fj) fj))) fj))) fj)) (aq (bf 8) fj)))))))
  wz)
  (ju (sIf (fu (mOp eqO (bf 10) (au (.int 1))))
  (uy (gw (fun l=>some (.tup l)) (aq (bf 5) (aq (bf 7) (aq (gw (fun l=>some (.tup l)) (aq (au (.str "and")) (aq (gw (fun l=>some (.tup l)) fj) fj))) (aq (gw (fun l=>some (.tup l)) (aq (gw (fun l=>some (.tup l)) (aq (bf 9) (aq (gw (fun l=>some (.tup l)) (aq (au (.int 0)) (aq (gw (fun l=>some (.tup l)) fj) fj))) fj))) fj)) (aq (bf 8) fj)))))))
  wz)
  (ju (sIf (fu (mOp eqO (bf 10) (au (.int 2))))
  (uy (gw (fun l=>some (.tup l)) (aq (bf 5) (aq (bf 7) (aq (gw (fun l=>some (.tup l)) (aq (au (.str "most")) (aq (gw (fun l=>some (.tup l)) (aq (mOp a1x (au (.int 1)) (gw Ju (aq (bf 1) fj))) (aq (gw (fun l=>some (.tup l)) (aq (gw (fun l=>some (.tup l)) (aq (bf 9) (aq (au (.int 1)) fj))) fj)) fj))) fj))) (aq (gw (fun l=>some (.tup l)) fj) (aq (bf 8) fj)))))))
  wz)
  (ju (sIf (fu (mOp eqO (bf 10) (au (.int 3))))
  (uy (gw (fun l=>some (.tup l)) (aq (bf 5) (aq (bf 7) (aq (gw (fun l=>some (.tup l)) (aq (au (.str "and")) (aq (gw (fun l=>some (.tup l)) fj) fj))) (aq (gw (fun l=>some (.tup l)) fj) (aq (bf 8) fj)))))))
  wz)
  (ju (qj 11 (mOp cu (bf 3) (mOp Hu (gw a69 (aq (mOp eqO (bf 4) (au (.int 0))) fj)) (jo dj (aq (bf 0) (aq (au (.int 2)) fj))))))
  (ju (qj 12 (gw (fun l=>some (.tup l)) (aq (jo dj (aq (bf 0) (aq (au (.int 3)) fj))) (aq (mOp cu (gw (fun l=>some (.lst l)) (aq (gw (fun l=>some (.tup l)) fj) (aq (gw (fun l=>some (.tup l)) (aq (gw (fun l=>some (.tup l)) (aq (bf 11) (aq (au (.int 1)) fj))) fj)) (aq (gw (fun l=>some (.tup l)) (aq (gw (fun l=>some (.tup l)) (aq (bf 9) (aq (au (.int 1)) fj))) fj)) fj)))) (jo dj (aq (bf 0) (aq (au (.int 3)) fj)))) fj))))
  (uy (gw (fun l=>some (.tup l)) (aq (bf 5) (aq (bf 7) (aq (gw (fun l=>some (.tup l)) (aq (au (.str "and")) (aq (gw (fun l=>some (.tup l)) fj) fj))) (aq (gw (fun l=>some (.tup l)) (aq (gw (fun l=>some (.tup l)) (aq (bf 11) (aq (bf 12) fj))) fj)) (aq (bf 8) fj)))))))))))))))))))
def nj:Fn:=Ab 11
  (ju (qj 2 (mOp Nf (mOp Iv (jo gq (aq (bf 0) (aq (au (.int 0)) fj))) (au (.int 5))) (au (.int 2))))
  (ju (qj 3 (jo gq (aq (bf 0) (aq (au (.int 1)) fj))))
  (ju (qj 4 (zc (aq (jo gq (aq (bf 0) (aq (au (.int 2)) fj))) (aq (bf 2) fj))))
  (ju (qj 5 (mOp Aw (au (.int 2)) (jo dj (aq (bf 4) (aq (au (.int 2)) fj)))))
  (ju (qj 6 (v7 1 [3,4] (hName 0) (m8 (bf 5)) Cr (gw (fun l=>some (.tup l)) (aq (jo iw (aq (bf 1) (aq (mOp Aw (au (.int 5)) (bf 0)) fj))) (aq (mOp Aw (au (.int 2)) (jo dj (aq (bf 2) (aq (au (.int 4)) fj)))) fj)))))
  (ju (qj 7 (gw oh (aq (v7 1 [3] (hName 0) (m8 (mOp Aw (au (.int 1)) (jo dj (aq (bf 4) (aq (au (.int 4)) fj))))) Cr (jo iw (aq (bf 1) (aq (bf 0) fj)))) fj)))
  (ju (qj 8 (gw (fun l=>some (.lst l)) (aq (jo iw (aq (bf 3) (aq (au (.int 4)) fj))) (aq (jo iw (aq (bf 3) (aq (au (.int 8)) fj))) fj))))
  (ju (sNew 9 (mOp Ub (gw (fun l=>some (.lst l)) (aq (gw (fun l=>some (.tup l)) (aq (mOp cu (bf 8) (au (.int 0))) (aq (au (.str "")) (aq (au (.int 0)) (aq (au (.int 9)) (aq (au (.int 0)) fj)))))) fj)) (v7 1 [5] (hName 0) (Ae (bf 7)) Cr (gw (fun l=>some (.tup l)) (aq (bf 0) (aq (au (.str "")) (aq (au (.int 0)) (aq (bf 1) (aq (au (.int 0)) fj)))))))))
  (ju (uc 9 (gw (fun l=>some (.tup l)) (aq (mOp cu (bf 8) (au (.int 1))) (aq (mOp cu (mOp cu (bf 6) (au (.int 0))) (au (.int 0))) (aq (mUn a1v (au (.int 1))) (aq (au (.int 4)) (aq (au (.int 1)) fj)))))))
  (ju (qj 10 (v7 1 [6,7,8,2] (hName 0) (Ae (Gu (bf 0) (Nh (au (.int 3))) (Nh (mOp Aw (au (.int 3)) (bf 1))))) Cr (jo j4 (aq (zc (aq (bf 0) (aq (bf 4) fj))) (aq (bf 1) (aq (bf 2) (aq (bf 3) fj)))))))
  (uy (gw (fun l=>some (.tup l)) (aq (bf 9) (aq (bf 6) (aq (bf 10) (aq (bf 7) fj))))))))))))))))
def jw:Fn:=Ab 5
  (ju (Bt (wu [3,4]) (Ae (mOp cu (bf 0) (au (.int 3))))
  (ju (sIf (Hl (fu (mOp inT (bf 3) (bf 2))) (fu (mOp eqO (mOp cu (bf 4) (au (.int 0))) (au (.int 0)))))
  (ju (sIf (fu (mOp wg (bf 3) (bf 1)))
  (uy (au .non))
  wz)
  (uy (gw oh (aq (v7 1 [3] (hName 0) (Ae (bf 1)) (fu (mOp neO (bf 0) (bf 1))) (bf 0)) fj))))
  wz)
  (ju (sIf (Hl (fu (mOp inT (bf 3) (bf 2))) (fu (mOp inT (bf 3) (bf 1))))
  (uy (au .non))
  wz)
  (sIf (fu (mOp inT (bf 3) (bf 2)))
  (uy (gw oh (aq (gw yr (aq (mOp Aw (gw uz (aq (bf 1) fj)) (gw (fun l=>some (.lst l)) (aq (bf 3) fj))) fj)) fj)))
  wz))))
  (uy (bf 1)))
def m7:Fn:=Ab 8
  (ju (lu (bf 2) (aq (bf 1) (aq (au (.int 0)) fj)) (gw (fun l=>some (.tup l)) fj))
  (ju (sNew 3 (gw (fun l=>some (.lst l)) (aq (au (.int 0)) fj)))
  (ju (qj 4 (au (.int 0)))
  (ju (qy 1000 (fu (mOp ltT (bf 4) (ux 3)))
  (ju (Bt (hName 5) (m8 (gw Ju (aq (mOp cu (bf 0) (au (.int 2))) fj)))
  (ju (qj 6 (mOp cu (mOp cu (bf 0) (au (.int 2))) (bf 5)))
  (sIf (Hl (fu (mOp eqO (mOp cu (bf 6) (au (.int 0))) (bf 1))) (fu (mOp eqO (mOp cu (bf 6) (au (.int 1))) (uh 3 (bf 4)))))
  (ju (qj 7 (jo jw (aq (bf 6) (aq (nu (bf 2) (gw (fun l=>some (.tup l)) (aq (bf 1) (aq (uh 3 (bf 4)) fj)))) (aq (mOp cu (bf 0) (au (.int 3))) fj)))))
  (ju (sIf (mOr (fu (mOp Li (bf 7) (au .non))) (Hl (fu (mOp Bg (nu (bf 2) (gw (fun l=>some (.tup l)) (aq (bf 1) (aq (mOp cu (bf 6) (au (.int 4))) fj)))) (au .non))) (fu (mOp neO (nu (bf 2) (gw (fun l=>some (.tup l)) (aq (bf 1) (aq (mOp cu (bf 6) (au (.int 4))) fj)))) (bf 7)))))
  (uy (bf 5))
  wz)
  (sIf (fu (mOp Li (nu (bf 2) (gw (fun l=>some (.tup l)) (aq (bf 1) (aq (mOp cu (bf 6) (au (.int 4))) fj)))) (au .non)))
  (ju (lu (bf 2) (aq (bf 1) (aq (mOp cu (bf 6) (au (.int 4))) fj)) (bf 7))
  (uc 3 (mOp cu (bf 6) (au (.int 4)))))
  wz)))
  wz)))
  (qj 4 (mOp Aw (bf 4) (au (.int 1))))))
  (uy (au .non))))))
def m5:Fn:=Ab 3
  (ju (qj 1 (au .non))
  (ju (Te j9 (aq (bf 0) fj) (Qz 1) 2 1 (fun t=>some (.tup [.str "no",t])))
  (uy (bf 1))))
def v9:Fn:=Ab 3
  (ju (qj 1 (au (.bl false)))
  (ju (Te j9 (aq (bf 0) fj) a1a 2 1 (fun _=>some (.bl true)))
  (uy (bf 1))))
def Qx:Fn:=Ab 9
  (ju (qj 1 (jo nj (aq (bf 0) (aq (au (.int 40)) fj))))
  (ju (qj 2 Nb)
  (ju (Bt (wu [3,4]) (Ae (mOp cu (bf 1) (au (.int 1))))
  (Bt (hName 5) (m8 (bf 4))
  (lu (bf 2) (aq (bf 3) (aq (bf 5) fj)) (au .non))))
  (ju (qj 6 (au .non))
  (ju (Bt (wu [3,4]) (Ae (mOp cu (bf 1) (au (.int 1))))
  (sIf (fu (mOp Li (bf 6) (au .non)))
  (qj 6 (jo m7 (aq (bf 1) (aq (bf 3) (aq (bf 2) fj)))))
  wz))
  (ju (qj 7 (gw (fun l=>some (.tup l)) (aq (gw uz (aq (mOp cu (bf 1) (au (.int 0))) fj)) (aq (gw uz (aq (mOp cu (bf 1) (au (.int 1))) fj)) (aq (gw uz (aq (mOp cu (bf 1) (au (.int 2))) fj)) (aq (mOp cu (bf 1) (au (.int 3))) fj))))))
  (ju (qj 8 (jo m5 (aq (bf 7) fj)))
  (ju (sIf (fu (mOp neO (bf 7) (bf 1)))
  (uy (au (.bl false)))
  wz)
  (ju (sIf (fu (mOp Bg (bf 6) (au .non)))
  (uy (Mv (Hl (fu (mOp eqO (bf 8) (gw (fun l=>some (.tup l)) (aq (au (.str "no")) (aq (bf 6) fj))))) (fu (jo v9 (aq (bf 7) fj))))))
  wz)
  (uy (Mv (Hl (fu (Gw 8)) (fu (Hq 8 2))))))))))))))
end K
end
section
namespace D
open PySem L2 C
def top (i:Nat):Stmt:=PySem.Challenge.pw_calm_k35_locks_held.main.body.getD i (.Pass ⟨0,0,0,0⟩)
def Xz:Stmt→Stmt
  | .ClassDef _ _ _ b _ _ _ _ _ _ _=>b.getD 0 (.Pass ⟨0,0,0,0⟩)
  | s=>s
abbrev ll1:List Str:=["_law_stream","_law_hands","_law_locks","_law_others","_law_k","_law_hand_here","_law_places","_law_here","_law_there","_law_lock","_law_way","_law_box","_law_one"]
abbrev ll2:List Str:=["_law_script","_law_most","_law_way","_law_cell","_law_stream","_law_many","_law_hands","_law_locks","_law_others","_law_boxes","_law_steps"]
abbrev ll3:List Str:=["_law_script","_law_program","_law_due","_law_hand_here","_law_places","_law_place","_law_bad","_law_handed","_law_found"]
abbrev ll4:List Str:=["_law_program","_law_hand_here","_law_due","_law_order","_law_at","_law_number","_law_step","_law_held"]
abbrev ll5:List Str:=["program","hand","held","met","spot","here","number","step","locks"]
abbrev ll6:List Str:=["_law_one","_law_hands","_law_locks","_law_others","_law_way"]
abbrev ll7:List Str:=["_law_step","_law_held","_law_locks","_law_box","_law_one"]
abbrev ll8:List Str:=["program","number","held","locks","box","one","takes"]
abbrev ll9:List Str:=["_law_stream","_law_hands","_law_locks","_law_others"]
abbrev a6r:List Str:=["program","told","hand","places","held","place"]
abbrev a6s:List Str:=["_law_cell","_law_k","_law_size","_law_place"]
abbrev a1u:List Str:=["_law_program","_law_hand_here","_law_due"]
abbrev a6k:List Str:=["_law_stream","_law_many","_law_found"]
abbrev a0t:List Str:=["_law_step","_law_held","_law_locks"]
abbrev a6w:List Str:=["_law_k","_law_cell","_law_stream"]
abbrev a1z:List Str:=["_law_program","_law_found","e"]
abbrev a1o:List Str:=["program","number","held"]
abbrev Wz:List Str:=["_law_stream","_law_many"]
abbrev a1w:List Str:=["_law_script","_law_most"]
abbrev W9:List Str:=["_law_script","_law_k"]
abbrev a1s:List Str:=["_law_cell","_law_k"]
abbrev a03:List Str:=["program","hand"]
abbrev Rc:List Str:=["_law_program"]
abbrev a6j:List Str:=["_law_script"]
abbrev Yd:List Str:=["program"]
section
variable {P:Program} {w:World} {K:PySem.W.Frag} {mg:Str→Option Value} {base:Heap} {f:Addr} {fd:FuncData}
abbrev Et:Stmt:=Xz (top 4)
theorem Pz:jr ["self","step"] ["self","step"] (dz Et):=⟨rfl,rfl,rfl,by decide +kernel,rfl,by decide +kernel,by decide +kernel⟩
theorem Uy {Cl D fI:Addr} {fdI:FuncData} (c:XC K Cl D fI "step") (F:Fun K "__init__" "NoLock.__init__" Et fI fdI) (m:mg "NoLock" = some (.ref Cl)):XR P w K mg base "NoLock" Cl "step" "step" :=
  ⟨⟨D,fI,fdI,c,a1j c F Pz rfl rfl rfl (by decide) (by decide) (by decide) (fun _=>rfl),F.binds (ps:=["self","step"]) fun _ _ _ _ _ _ us hl=>bd2 (fun _ _=>rfl) us hl⟩,m⟩
abbrev sy:Stmt:=top 8
theorem Af:jr ll8 a1o (dz sy):=⟨rfl,rfl,rfl,by decide +kernel,rfl,by decide +kernel,by decide +kernel⟩
theorem G6 {C_NoLock:Addr} (F:Fun K "held_behind" "held_behind" sy f fd) (r_NoLock:XR P w K mg base "NoLock" C_NoLock "step" "step") (b_list:mg "list" = none) (b_sorted:mg "sorted" = none) (b_tuple:mg "tuple" = none):ud P w K mg base (CXx P w) 3 f fd a1o (spX K a1o.length C_NoLock "step" _root_.K.iy):=by
  refine Ip (N:=ll8) F Af (by decide) fun cdv A outer s H E B hr=>?_
  have hu:=Cq hr
  have hq:=hr.units
  have nd:ll8.Nodup:=Af.nd
  have hr2:=hr.mono (show 2≤2 by decide)
  refine mz ?_ ?_
  · exact mq (Kv 3 (gj nd rfl (Or.inl rfl) (a1q (by rfl) b_list (ak 2 (pv 2)))) (fun _ _ _ h=>h))
  · refine mz ?_ ?_
    · refine Rn ?_ ?_ ?_ ?_ ?_ ?_
      · exact PassesOwn.leaving
      · exact rfl
      · exact Di (jh hu (jh hu (jh hu (ak 0 (pv 0)) bw (fun _ _=>rfl)) (ak 1 (pv 1)) (fun _ _=>rfl)) bw (fun _ _=>rfl))
      · exact En (is:=[4,5]) (Fi rfl (kh (je nd rfl (Or.inl rfl)) (kh (je nd rfl (Or.inl rfl)) Am)))
      · refine vg ?_
        · refine U6 ?_ ?_ ?_
          · exact jc (Ej hq) (ak 4 (pv 4)) (jh hu (ak 0 (pv 0)) bw (fun _ _=>rfl)) rfl
          · refine mz ?_ ?_
            · exact mq (iz 6 (gj nd rfl (Or.inl rfl) (Vs (Je hq) (jh hu (ak 5 (pv 5)) bw (fun _ _=>rfl)) bw (jf _))) (fun _ _ _ h=>h))
            · refine mz ?_ ?_
              · exact U6 (jc (qt hq) (ak 6 (pv 6)) (Yj 3 (Ej hq) a2n (ak 4 (pv 4)) (pv 3) rfl) (jf _))   (vg (Jd r_NoLock a3z hr2 (by rfl) (ak 1 (pv 1))))   (Dw lq)
              · refine vg ?_
                · refine mq ?_
                  · refine v8 ?_ ?_ ?_
                    · exact a4h (ak 6 (pv 6))
                    · exact ig (Bd 3 (Cu (Qt PySem.F.plainAttrs_list PySem.F.slot_list_append PySem.F.type_list_append vd (pv 3) (jj (ak 4 (pv 4)) qg))))
                    · exact ig (V2 3 (Cu (Qt PySem.F.plainAttrs_list PySem.F.slot_list_remove PySem.F.type_list_remove Uz (pv 3) (jj (ak 4 (pv 4)) qg))))
          · exact Dw lq
      · exact Df
    · exact vg (mq (jt (jq (m9 vo (by rfl) b_tuple PyProof.Rows.boot_tuple (aj (jq (qb (Dh (by rfl)) (by rfl) b_sorted PyProof.Rows.boot_sorted (aj (ak 3 (pv 3)) c7))) c7)))))
theorem Fz {C_NoLock:Addr} (F:Fun K "held_behind" "held_behind" sy f fd) (hmg:mg "held_behind" = some (.ref f)) (r_NoLock:XR P w K mg base "NoLock" C_NoLock "step" "step") (b_list:mg "list" = none) (b_sorted:mg "sorted" = none) (b_tuple:mg "tuple" = none):pq P w K mg base "held_behind" 3 a1o C_NoLock "step" _root_.K.iy :=
  ⟨f,fd,G6 F r_NoLock b_list b_sorted b_tuple,F.binds (ps:=a1o) fun _ _ _ _ _ _ us hl=>bd3 (fun _ _ _=>rfl) us hl,F.kp,hmg⟩
abbrev Ax:Stmt:=top 7
theorem Gj:jr ll5 a03 (dz Ax):=⟨rfl,rfl,rfl,by decide +kernel,rfl,by decide +kernel,by decide +kernel⟩
theorem Qi {C_NoLock:Addr} (F:Fun K "held_by" "held_by" Ax f fd) (dx_held_behind:pq P w K mg base "held_behind" 3 a1o C_NoLock "step" _root_.K.iy) (r_NoLock:XR P w K mg base "NoLock" C_NoLock "step" "step") (b_enumerate:mg "enumerate" = none) (b_len:mg "len" = none):ud P w K mg base (CXx P w) 4 f fd a03 (spX K a03.length C_NoLock "step" _root_.K.kj):=by
  have dx_held_behind:=dx_held_behind.mono (show 3≤3 by decide)
  refine Ip (N:=ll5) F Gj (by decide) fun cdv A outer s H E B hr=>?_
  have hu:=Cq hr
  have hq:=hr.units
  have nd:ll5.Nodup:=Gj.nd
  have hr2:=hr.mono (show 2≤3 by decide)
  refine mz ?_ ?_
  · exact mq (Kv 2 (gj nd rfl (Or.inl rfl) (Ye (fun B=>(g8 c7 (dw d8 (by decide)))))) (fun _ _ _ h=>h))
  · refine mz ?_ ?_
    · exact mq (Kv 3 (gj nd rfl (Or.inl rfl) (Za (aj bw c7) (dw (ao d8) (by decide)))) (fun _ _ _ h=>h))
    · refine mz ?_ ?_
      · exact mq (iz 4 (gj nd rfl (Or.inl rfl) bw) (fun _ _ _ h=>h))
      · refine mz ?_ ?_
        · refine Yl _ ?_ ?_ ?_
          · exact PassesOwn.leaving
          · exact jc Us (ak 4 (pv 4)) (K6 3 b_len rfl (pv 3)) (jf _)
          · refine mz ?_ ?_
            · exact mq (iz 5 (gj nd rfl (Or.inl rfl) (Iw 3 (pv 3) (ak 4 (pv 4)) (fun _ _=>rfl))) (fun _ _ _ h=>h))
            · refine mz ?_ ?_
              · refine Rn ?_ ?_ ?_ ?_ ?_ ?_
                · exact PassesOwn.leaving
                · exact rfl
                · exact Zq (by rfl) b_enumerate (jh hu (ak 0 (pv 0)) bw (fun _ _=>rfl))
                · exact En (is:=[6,7]) (Fi rfl (kh (je nd rfl (Or.inl rfl)) (kh (je nd rfl (Or.inl rfl)) Am)))
                · refine vg ?_
                  · refine U6 ?_ ?_ ?_
                    · exact PW.pt (Ho (jc (qt hq) (jh hu (ak 7 (pv 7)) bw (fun _ _=>rfl)) (ak 1 (pv 1)) (jf _)) (Cg (jc (qt hq) (jh hu (ak 7 (pv 7)) bw (fun _ _=>rfl)) (ak 5 (pv 5)) (jf _))))
                    · refine mz ?_ ?_
                      · exact O1 Z0 dx_held_behind nd rfl (Or.inl rfl) hr (by rfl) (aj (ak 0 (pv 0)) (aj (ak 6 (pv 6)) (aj (Hi 2 hu (pv 2) (ak 5 (pv 5)) (fun _ _=>rfl)) c7))) (d9 (d9 (d9 eq_nil)))
                      · refine vg ?_
                        · refine U6 ?_ ?_ ?_
                          · exact Xc 2 (Js hq) Rz (jh hu (ak 7 (pv 7)) bw (fun _ _=>rfl)) (pv 2) rfl
                          · refine mz ?_ ?_
                            · exact mq (V8 2 hu (pv 2) (jh hu (ak 7 (pv 7)) bw (fun _ _=>rfl)) (ak 8 (pv 8)) rfl)
                            · exact vg (mq (Bd 3 (Cu (Qt PySem.F.plainAttrs_list PySem.F.slot_list_append PySem.F.type_list_append vd (pv 3) (jj (jh hu (ak 7 (pv 7)) bw (fun _ _=>rfl)) qg)))))
                          · exact vg (U6 (jc (Je hq) (Hi 2 hu (pv 2) (jh hu (ak 7 (pv 7)) bw (fun _ _=>rfl)) (fun _ _=>rfl)) (ak 8 (pv 8)) (jf _))   (vg (Jd r_NoLock a3z hr2 (by rfl) (ak 6 (pv 6))))   (Dw lq))
                    · exact Dw lq
                · exact a1p
              · exact vg (mq (iz 4 (gj nd rfl (Or.inl rfl) (jg lg (ak 4 (pv 4)) bw)) (fun _ _ _ h=>h)))
        · exact vg (mq (jt (ak 2 (pv 2))))
theorem Q5 {C_NoLock:Addr} (F:Fun K "held_by" "held_by" Ax f fd) (hmg:mg "held_by" = some (.ref f)) (dx_held_behind:pq P w K mg base "held_behind" 3 a1o C_NoLock "step" _root_.K.iy) (r_NoLock:XR P w K mg base "NoLock" C_NoLock "step" "step") (b_enumerate:mg "enumerate" = none) (b_len:mg "len" = none):pq P w K mg base "held_by" 4 a03 C_NoLock "step" _root_.K.kj :=
  ⟨f,fd,Qi F dx_held_behind r_NoLock b_enumerate b_len,F.binds (ps:=a03) fun _ _ _ _ _ _ us hl=>bd2 (fun _ _=>rfl) us hl,F.kp,hmg⟩
abbrev Bl:Stmt:=top 6
theorem Hg:jr a6r Yd (dz Bl):=⟨rfl,rfl,rfl,by decide +kernel,rfl,by decide +kernel,by decide +kernel⟩
theorem Pu {C_NoLock:Addr} (F:Fun K "holding" "holding" Bl f fd) (dx_held_by:pq P w K mg base "held_by" 4 a03 C_NoLock "step" _root_.K.kj) (b_range:mg "range" = none):ud P w K mg base (CXx P w) 5 f fd Yd (spX K Yd.length C_NoLock "step" _root_.K.j9):=by
  have dx_held_by:=dx_held_by.mono (show 4≤4 by decide)
  refine Ip (N:=a6r) F Hg (by decide) fun cdv A outer s H E B hr=>?_
  have hu:=Cq hr
  have hq:=hr.units
  have nd:a6r.Nodup:=Hg.nd
  have hr2:=hr.mono (show 2≤4 by decide)
  refine mz ?_ ?_
  · exact mq (iz 1 (gj nd rfl (Or.inl rfl) Kf) (fun _ _ _ h=>h))
  · refine mz ?_ ?_
    · refine Rn ?_ ?_ ?_ ?_ ?_ ?_
      · exact PassesOwn.leaving
      · exact rfl
      · exact Di (jh hu (ak 0 (pv 0)) bw (fun _ _=>rfl))
      · exact En (is:=[2,3]) (Fi rfl (kh (je nd rfl (Or.inl rfl)) (kh (je nd rfl (Or.inl rfl)) Am)))
      · refine mz ?_ ?_
        · exact O1 Z0 dx_held_by nd rfl (Or.inl rfl) hr (by rfl) (aj (ak 0 (pv 0)) (aj (ak 2 (pv 2)) c7)) (d9 (d9 eq_nil))
        · refine vg ?_
          · refine mq ?_
            · refine Gv ?_ ?_ ?_ ?_ ?_ ?_
              · exact PassesOwn.leaving
              · exact rfl
              · exact Bm (by rfl) b_range (ak 3 (pv 3))
              · exact yg 5 (je nd rfl (Or.inl rfl))
              · exact ig (Bw hu (ak 1 (pv 1)) (aj (ak 2 (pv 2)) (aj (ak 5 (pv 5)) c7)) (dw (ao (ao d8)) (by decide)) (a09 hu (ak 4 (pv 4)) (ak 5 (pv 5)) ⟨rfl,rfl,rfl,rfl⟩) rfl)
              · exact Ay
      · exact Df
    · exact vg (mq (jt (ak 1 (pv 1))))
theorem Qe {C_NoLock:Addr} (F:Fun K "holding" "holding" Bl f fd) (hmg:mg "holding" = some (.ref f)) (dx_held_by:pq P w K mg base "held_by" 4 a03 C_NoLock "step" _root_.K.kj) (b_range:mg "range" = none):pq P w K mg base "holding" 5 Yd C_NoLock "step" _root_.K.j9 :=
  ⟨f,fd,Pu F dx_held_by b_range,F.binds (ps:=Yd) fun _ _ _ _ _ _ us hl=>bd1 (fun _=>rfl) us hl,F.kp,hmg⟩
abbrev rm:Stmt:=top 10
theorem Ah:jr W9 W9 (dz rm):=⟨rfl,rfl,rfl,by decide +kernel,rfl,by decide +kernel,by decide +kernel⟩
theorem Ga (F:Fun K "_law_cell_at" "_law_cell_at" rm f fd) (b_len:mg "len" = none):ud P w K mg base CX0 1 f fd W9 (spF K W9.length _root_.K.gq):=by
  refine uw (N:=W9) F Ah (by decide)  fun cdv A outer s H E B hr=>?_
  have hu:=Cq hr
  have hq:=hr.units
  have nd:W9.Nodup:=Ah.nd
  exact dg (v8 (jc Us (ak 1 (pv 1)) (jq (qb yd (by rfl) b_len PySem.boot_len (aj (ak 0 (pv 0)) c7))) (jf _))   (ig (jt (jh hu (ak 0 (pv 0)) (ak 1 (pv 1)) (fun _ _=>rfl))))   lq)   (ig (jt bw))
theorem G9 (F:Fun K "_law_cell_at" "_law_cell_at" rm f fd) (hmg:mg "_law_cell_at" = some (.ref f)) (b_len:mg "len" = none):m6 P w K mg base "_law_cell_at" 1 W9 _root_.K.gq :=
  ⟨f,fd,Ga F b_len,F.binds (ps:=W9) fun _ _ _ _ _ _ us hl=>bd2 (fun _ _=>rfl) us hl,F.kp,hmg⟩
abbrev zy:Stmt:=top 11
theorem Fd:jr a6k Wz (dz zy):=⟨rfl,rfl,rfl,by decide +kernel,rfl,by decide +kernel,by decide +kernel⟩
theorem Ml (F:Fun K "_law_pick" "_law_pick" zy f fd) (b_len:mg "len" = none):ud P w K mg base CX0 1 f fd Wz (spF K Wz.length _root_.K.dj):=by
  refine uw (N:=a6k) F Fd (by decide)  fun cdv A outer s H E B hr=>?_
  have hu:=Cq hr
  have hq:=hr.units
  have nd:a6k.Nodup:=Fd.nd
  refine dg ?_ ?_
  · refine v8 ?_ ?_ ?_
    · exact jc (qt hq) (V4 (by rfl) b_len (ak 0 (pv 0))) bw (jf _)
    · exact ig (W5 0 (Cu (Qt PySem.F.plainAttrs_list PySem.F.slot_list_append PySem.F.type_list_append vd (pv 0) (jj (su (ak 0 (pv 0)) bw (fun _ _=>rfl)) qg))))
    · exact lq
  · refine dg ?_ ?_
    · refine v8 ?_ ?_ ?_
      · refine PW.pt ?_
        · refine Ho ?_ ?_
          · exact jc (qt hq) (su (ak 0 (pv 0)) bw (fun _ _=>rfl)) bw (jf _)
          · exact Cg (jc (Ej hq) (su (ak 0 (pv 0)) bw (fun _ _=>rfl)) (Gy (aj bw (aj (a4y Vp bw) c7)) (dw (ao (ao d8)) (by decide))) rfl)
      · exact dg (Dq (K3 (jg lg (su (ak 0 (pv 0)) bw (fun _ _=>rfl)) bw) (Nr (ak 0 (pv 0)) bw set_list)))   (ig (Dq (K3 bw (Nr (ak 0 (pv 0)) bw set_list))))
      · exact lq
    · refine dg ?_ ?_
      · refine v8 ?_ ?_ ?_
        · exact jc (qt hq) (su (ak 0 (pv 0)) bw (fun _ _=>rfl)) bw (jf _)
        · refine dg ?_ ?_
          · exact iz 2 (gj nd rfl (Or.inl rfl) (jg ql (su (ak 0 (pv 0)) bw (fun _ _=>rfl)) (ak 1 (pv 1)))) (fun _ _ _ h=>h)
          · exact dg (Dq (K3 (jg zx (su (ak 0 (pv 0)) bw (fun _ _=>rfl)) (ak 1 (pv 1))) (Nr (ak 0 (pv 0)) bw set_list)))   (ig (jt (ak 2 (pv 2))))
        · exact lq
      · refine dg ?_ ?_
        · exact Dq (K3 (jg ql (jg lg (jg Ak (jg ql (su (ak 0 (pv 0)) bw (fun _ _=>rfl)) bw) bw) bw) bw) (Nr (ak 0 (pv 0)) bw set_list))
        · exact ig (jt (jg ql (jg zx (jg ql (jg Ak (su (ak 0 (pv 0)) bw (fun _ _=>rfl)) bw) bw) bw) (ak 1 (pv 1))))
theorem Ls (F:Fun K "_law_pick" "_law_pick" zy f fd) (hmg:mg "_law_pick" = some (.ref f)) (b_len:mg "len" = none):m6 P w K mg base "_law_pick" 1 Wz _root_.K.dj :=
  ⟨f,fd,Ml F b_len,F.binds (ps:=Wz) fun _ _ _ _ _ _ us hl=>bd2 (fun _ _=>rfl) us hl,F.kp,hmg⟩
abbrev zq:Stmt:=top 12
theorem Ed:jr a6s a1s (dz zq):=⟨rfl,rfl,rfl,by decide +kernel,rfl,by decide +kernel,by decide +kernel⟩
theorem M6 (F:Fun K "_law_name" "_law_name" zq f fd):ud P w K mg base CX0 1 f fd a1s (spF K a1s.length _root_.K.iw):=by
  refine uw (N:=a6s) F Ed (by decide)  fun cdv A outer s H E B hr=>?_
  have hu:=Cq hr
  have hq:=hr.units
  have nd:a6s.Nodup:=Ed.nd
  refine dg ?_ ?_
  · refine v8 ?_ ?_ ?_
    · exact jc (qt hq) (jg ql (jg zx (ak 0 (pv 0)) bw) bw) bw (jf _)
    · refine ig ?_
      · refine jt ?_
        · refine jh ?_ ?_ ?_ ?_
          · exact hu
          · refine Gy ?_ ?_
            · exact Uo (.cons (.cons (.cons (.cons (.cons (.cons (.cons (.cons (.cons (.cons .nil))))))))))
            · exact dw (len_strs _) (by decide)
          · exact jg ql (ak 1 (pv 1)) bw
          · exact fun _ _=>rfl
    · exact lq
  · refine dg ?_ ?_
    · exact iz 2 (gj nd rfl (Or.inl rfl) (jg lg bw (jg ql (ak 0 (pv 0)) bw))) (fun _ _ _ h=>h)
    · refine dg ?_ ?_
      · exact iz 3 (gj nd rfl (Or.inl rfl) (jg ql (jg zx (ak 0 (pv 0)) bw) (ak 2 (pv 2)))) (fun _ _ _ h=>h)
      · refine ig ?_
        · refine jt ?_
          · refine jg ?_ ?_ ?_
            · exact lg
            · exact jg lg (jg Ak wk (ak 3 (pv 3))) (jh hu wk (jg ql (jg lg (jg Ak bw (ak 1 (pv 1))) (jg zx (ak 0 (pv 0)) bw)) bw) (fun _ _=>rfl))
            · exact jg Ak wk (jg M7 (jg M7 (ak 2 (pv 2)) bw) (ak 3 (pv 3)))
theorem Lq (F:Fun K "_law_name" "_law_name" zq f fd) (hmg:mg "_law_name" = some (.ref f)):m6 P w K mg base "_law_name" 1 a1s _root_.K.iw :=
  ⟨f,fd,M6 F,F.binds (ps:=a1s) fun _ _ _ _ _ _ us hl=>bd2 (fun _ _=>rfl) us hl,F.kp,hmg⟩
abbrev ou:Stmt:=top 13
theorem wj:jr ll1 ll9 (dz ou):=⟨rfl,rfl,rfl,by decide +kernel,rfl,by decide +kernel,by decide +kernel⟩
theorem Dj (F:Fun K "_law_lock_step" "_law_lock_step" ou f fd) (d_law_pick:m6 P w K mg base "_law_pick" 1 Wz (_root_.K.dj)) (b_int:mg "int" = none) (b_len:mg "len" = none):ud P w K mg base CX0 2 f fd ll9 (spF K ll9.length _root_.K.j4):=by
  have d_law_pick:=d_law_pick.mono (by decide:1≤1)
  refine uw (N:=ll1) F wj (by decide)  fun cdv A outer s H E B hr=>?_
  have hu:=Cq hr
  have hq:=hr.units
  have nd:ll1.Nodup:=wj.nd
  refine dg ?_ ?_
  · exact iz 4 (gj nd rfl (Or.inl rfl) (gb d_law_pick hr (by rfl) (aj (ak 0 (pv 0)) (aj (jq (qb yd (by rfl) b_len PySem.boot_len (aj (ak 1 (pv 1)) c7))) c7)) (d9 (d9 eq_nil)))) (fun _ _ _ h=>h)
  · refine dg ?_ ?_
    · exact a6n (K3 (jh hu (ak 1 (pv 1)) (ak 4 (pv 4)) (fun _ _=>rfl)) (En (is:=[5,6]) (Fi rfl (kh (je nd rfl (Or.inl rfl)) (kh (je nd rfl (Or.inl rfl)) Am)))))
    · refine dg ?_ ?_
      · exact iz 7 (gj nd rfl (Or.inl rfl) (gb d_law_pick hr (by rfl) (aj (ak 0 (pv 0)) (aj (ak 6 (pv 6)) c7)) (d9 (d9 eq_nil)))) (fun _ _ _ h=>h)
      · refine dg ?_ ?_
        · refine @iz _ _ _ _ (tOf _ _ _) _ ?_ (fun _ _ _ h=>h)
          · refine gj ?_ ?_ ?_ ?_
            · exact nd
            · exact rfl
            · exact Or.inl rfl
            · refine jg ?_ ?_ ?_
              · exact ql
              · refine jg ?_ ?_ ?_
                · exact lg
                · exact jg lg (ak 7 (pv 7)) bw
                · exact jg Ak (gb d_law_pick hr (by rfl) (aj (ak 0 (pv 0)) (aj bw c7)) (d9 (d9 eq_nil))) (gb d_law_pick hr (by rfl) (aj (ak 0 (pv 0)) (aj (ak 6 (pv 6)) c7)) (d9 (d9 eq_nil)))
              · exact ak 6 (pv 6)
        · refine dg ?_ ?_
          · refine @iz _ _ _ _ (tOf _ _ _) _ ?_ (fun _ _ _ h=>h)
            · exact gj nd rfl (Or.inl rfl) (jh hu (ak 2 (pv 2)) (gb d_law_pick hr (by rfl) (aj (ak 0 (pv 0)) (aj (jq (qb yd (by rfl) b_len PySem.boot_len (aj (ak 2 (pv 2)) c7))) c7)) (d9 (d9 eq_nil))) (fun _ _=>rfl))
          · refine dg ?_ ?_
            · exact iz 10 (gj nd rfl (Or.inl rfl) (gb d_law_pick hr (by rfl) (aj (ak 0 (pv 0)) (aj bw c7)) (d9 (d9 eq_nil)))) (fun _ _ _ h=>h)
            · refine dg ?_ ?_
              · refine v8 ?_ ?_ ?_
                · exact jc (qt hq) (ak 10 (pv 10)) bw (jf _)
                · refine ig ?_
                  · refine jt ?_
                    · refine g8 ?_ ?_
                      · refine aj ?_ ?_
                        · exact ak 5 (pv 5)
                        · refine aj ?_ ?_
                          · exact ak 7 (pv 7)
                          · refine aj ?_ ?_
                            · refine g8 ?_ ?_
                              · refine aj ?_ ?_
                                · exact wk
                                · exact aj (g8 (aj bw (aj (g8 (aj (g8 (aj (ak 9 (pv 9)) (aj bw c7)) (dw (ao (ao d8)) (by decide))) c7) (dw (ao d8) (by decide))) c7)) (dw (ao (ao d8)) (by decide))) c7
                              · exact dw (ao (ao d8)) (by decide)
                            · refine aj ?_ ?_
                              · refine g8 ?_ ?_
                                · exact aj (g8 (aj (ak 9 (pv 9)) (aj (g8 (aj (jg lg (ak 4 (pv 4)) bw) (aj (g8 c7 (dw d8 (by decide))) c7)) (dw (ao (ao d8)) (by decide))) c7)) (dw (ao (ao d8)) (by decide))) c7
                                · exact dw (ao d8) (by decide)
                              · exact aj (ak 8 (pv 8)) c7
                      · exact dw (ao (ao (ao (ao (ao d8))))) (by decide)
                · exact lq
              · refine dg ?_ ?_
                · refine v8 ?_ ?_ ?_
                  · exact jc (qt hq) (ak 10 (pv 10)) bw (jf _)
                  · refine ig ?_
                    · refine jt ?_
                      · refine g8 ?_ ?_
                        · refine aj ?_ ?_
                          · exact ak 5 (pv 5)
                          · refine aj ?_ ?_
                            · exact ak 7 (pv 7)
                            · refine aj ?_ ?_
                              · exact g8 (aj wk (aj (g8 c7 (dw d8 (by decide))) c7)) (dw (ao (ao d8)) (by decide))
                              · refine aj ?_ ?_
                                · refine g8 ?_ ?_
                                  · exact aj (g8 (aj (ak 9 (pv 9)) (aj (g8 (aj bw (aj (g8 c7 (dw d8 (by decide))) c7)) (dw (ao (ao d8)) (by decide))) c7)) (dw (ao (ao d8)) (by decide))) c7
                                  · exact dw (ao d8) (by decide)
                                · exact aj (ak 8 (pv 8)) c7
                        · exact dw (ao (ao (ao (ao (ao d8))))) (by decide)
                  · exact lq
                · refine dg ?_ ?_
                  · refine v8 ?_ ?_ ?_
                    · exact jc (qt hq) (ak 10 (pv 10)) bw (jf _)
                    · refine ig ?_
                      · refine jt ?_
                        · refine g8 ?_ ?_
                          · refine aj ?_ ?_
                            · exact ak 5 (pv 5)
                            · refine aj ?_ ?_
                              · exact ak 7 (pv 7)
                              · refine aj ?_ ?_
                                · refine g8 ?_ ?_
                                  · refine aj ?_ ?_
                                    · exact wk
                                    · refine aj ?_ ?_
                                      · refine g8 ?_ ?_
                                        · refine aj ?_ ?_
                                          · exact jg M7 bw (jq (qb yd (by rfl) b_len PySem.boot_len (aj (ak 1 (pv 1)) c7)))
                                          · exact aj (g8 (aj (g8 (aj (ak 9 (pv 9)) (aj bw c7)) (dw (ao (ao d8)) (by decide))) c7) (dw (ao d8) (by decide))) c7
                                        · exact dw (ao (ao d8)) (by decide)
                                      · exact c7
                                  · exact dw (ao (ao d8)) (by decide)
                                · exact aj (g8 c7 (dw d8 (by decide))) (aj (ak 8 (pv 8)) c7)
                          · exact dw (ao (ao (ao (ao (ao d8))))) (by decide)
                    · exact lq
                  · refine dg ?_ ?_
                    · refine v8 ?_ ?_ ?_
                      · exact jc (qt hq) (ak 10 (pv 10)) bw (jf _)
                      · refine ig ?_
                        · refine jt ?_
                          · refine g8 ?_ ?_
                            · exact aj (ak 5 (pv 5)) (aj (ak 7 (pv 7)) (aj (g8 (aj wk (aj (g8 c7 (dw d8 (by decide))) c7)) (dw (ao (ao d8)) (by decide))) (aj (g8 c7 (dw d8 (by decide))) (aj (ak 8 (pv 8)) c7))))
                            · exact dw (ao (ao (ao (ao (ao d8))))) (by decide)
                      · exact lq
                    · refine dg ?_ ?_
                      · refine @iz _ _ _ _ (tOf _ _ _) _ ?_ (fun _ _ _ h=>h)
                        · refine gj ?_ ?_ ?_ ?_
                          · exact nd
                          · exact rfl
                          · exact Or.inl rfl
                          · refine jh ?_ ?_ ?_ ?_
                            · exact hu
                            · exact ak 3 (pv 3)
                            · exact jg Ak (jq (m9 T3 (by rfl) b_int PyProof.Rows.boot_int (aj (Vs (qt hq) (ak 4 (pv 4)) bw (jf _)) c7))) (gb d_law_pick hr (by rfl) (aj (ak 0 (pv 0)) (aj bw c7)) (d9 (d9 eq_nil)))
                            · exact fun _ _=>rfl
                      · refine dg ?_ ?_
                        · refine @iz _ _ _ _ (tOf _ _ _) _ ?_ (fun _ _ _ h=>h)
                          · refine gj ?_ ?_ ?_ ?_
                            · exact nd
                            · exact rfl
                            · exact Or.inl rfl
                            · refine g8 ?_ ?_
                              · refine aj ?_ ?_
                                · exact gb d_law_pick hr (by rfl) (aj (ak 0 (pv 0)) (aj bw c7)) (d9 (d9 eq_nil))
                                · refine aj ?_ ?_
                                  · refine jh ?_ ?_ ?_ ?_
                                    · exact hu
                                    · refine Gy ?_ ?_
                                      · refine aj ?_ ?_
                                        · exact g8 c7 (dw d8 (by decide))
                                        · refine aj ?_ ?_
                                          · exact g8 (aj (g8 (aj (ak 11 (pv 11)) (aj bw c7)) (dw (ao (ao d8)) (by decide))) c7) (dw (ao d8) (by decide))
                                          · exact aj (g8 (aj (g8 (aj (ak 9 (pv 9)) (aj bw c7)) (dw (ao (ao d8)) (by decide))) c7) (dw (ao d8) (by decide))) c7
                                      · exact dw (ao (ao (ao d8))) (by decide)
                                    · exact gb d_law_pick hr (by rfl) (aj (ak 0 (pv 0)) (aj bw c7)) (d9 (d9 eq_nil))
                                    · exact fun _ _=>rfl
                                  · exact c7
                              · exact dw (ao (ao d8)) (by decide)
                        · refine ig ?_
                          · refine jt ?_
                            · refine g8 ?_ ?_
                              · refine aj ?_ ?_
                                · exact ak 5 (pv 5)
                                · refine aj ?_ ?_
                                  · exact ak 7 (pv 7)
                                  · refine aj ?_ ?_
                                    · exact g8 (aj wk (aj (g8 c7 (dw d8 (by decide))) c7)) (dw (ao (ao d8)) (by decide))
                                    · exact aj (g8 (aj (g8 (aj (ak 11 (pv 11)) (aj (ak 12 (pv 12)) c7)) (dw (ao (ao d8)) (by decide))) c7) (dw (ao d8) (by decide))) (aj (ak 8 (pv 8)) c7)
                              · exact dw (ao (ao (ao (ao (ao d8))))) (by decide)
theorem Dl (F:Fun K "_law_lock_step" "_law_lock_step" ou f fd) (hmg:mg "_law_lock_step" = some (.ref f)) (d_law_pick:m6 P w K mg base "_law_pick" 1 Wz (_root_.K.dj)) (b_int:mg "int" = none) (b_len:mg "len" = none):m6 P w K mg base "_law_lock_step" 2 ll9 _root_.K.j4 :=
  ⟨f,fd,Dj F d_law_pick b_int b_len,F.binds (ps:=ll9) fun _ _ _ _ _ _ us hl=>bd4 (fun _ _ _ _=>rfl) us hl,F.kp,hmg⟩
abbrev uo:Stmt:=top 14
theorem Bf:jr ll2 a1w (dz uo):=⟨rfl,rfl,rfl,by decide +kernel,rfl,by decide +kernel,by decide +kernel⟩
theorem Hz (F:Fun K "_law_locked" "_law_locked" uo f fd) (d_law_cell_at:m6 P w K mg base "_law_cell_at" 1 W9 (_root_.K.gq)) (d_law_lock_step:m6 P w K mg base "_law_lock_step" 2 ll9 (_root_.K.j4)) (d_law_name:m6 P w K mg base "_law_name" 1 a1s (_root_.K.iw)) (d_law_pick:m6 P w K mg base "_law_pick" 1 Wz (_root_.K.dj)) (b_range:mg "range" = none) (b_tuple:mg "tuple" = none):ud P w K mg base CX0 3 f fd a1w (spF K a1w.length _root_.K.nj):=by
  have d_law_cell_at:=d_law_cell_at.mono (by decide:1≤2)
  have d_law_lock_step:=d_law_lock_step.mono (by decide:2≤2)
  have d_law_name:=d_law_name.mono (by decide:1≤2)
  have d_law_pick:=d_law_pick.mono (by decide:1≤2)
  refine uw (N:=ll2) F Bf (by decide)  fun cdv A outer s H E B hr=>?_
  have hu:=Cq hr
  have hq:=hr.units
  have nd:ll2.Nodup:=Bf.nd
  refine dg ?_ ?_
  · exact iz 2 (gj nd rfl (Or.inr rfl) (jg ql (jg zx (gb d_law_cell_at hr (by rfl) (aj (ak 0 (pv 0)) (aj bw c7)) (d9 (d9 eq_nil))) bw) bw)) (fun _ _ _ h=>h)
  · refine dg ?_ ?_
    · exact iz 3 (gj nd rfl (Or.inr rfl) (gb d_law_cell_at hr (by rfl) (aj (ak 0 (pv 0)) (aj bw c7)) (d9 (d9 eq_nil)))) (fun _ _ _ h=>h)
    · refine dg ?_ ?_
      · exact iz 4 (gj nd rfl (Or.inr rfl) (Jz (aj (gb d_law_cell_at hr (by rfl) (aj (ak 0 (pv 0)) (aj bw c7)) (d9 (d9 eq_nil))) (aj (ak 2 (pv 2)) c7)) (dw (ao (ao d8)) (by decide)))) (fun _ _ _ h=>h)
      · refine dg ?_ ?_
        · exact iz 5 (gj nd rfl (Or.inr rfl) (jg lg bw (gb d_law_pick hr (by rfl) (aj (ak 4 (pv 4)) (aj bw c7)) (d9 (d9 eq_nil))))) (fun _ _ _ h=>h)
        · refine dg ?_ ?_
          · refine @iz _ _ _ _ (tOf _ _ _) _ ?_ (fun _ _ _ h=>h)
            · refine gj ?_ ?_ ?_ ?_
              · exact nd
              · exact rfl
              · exact Or.inr rfl
              · refine Dt ?_
                · refine Ie (N:=a6w) ?_ ?_ ?_ ?_ ?_ ?_ ?_ ?_
                  · exact ⟨rfl,fun j k h=>match j,h with | 0,h=>(by cases h; exact ⟨_,rfl,rfl,⟨.inl rfl,.inr (.inl rfl),.inl rfl⟩⟩) | 1,h=>(by cases h; exact ⟨_,rfl,rfl,⟨.inl rfl,.inr (.inl rfl),.inl rfl⟩⟩) | _+2,h=>(by cases h)⟩
                  · exact ⟨rfl,rfl,by decide +kernel,by decide +kernel⟩
                  · exact rfl
                  · exact Bm (by rfl) b_range (ak 5 (pv 5))
                  · exact Ay
                  · exact fun C s₀ H₀ ex pn=>pgE fun B=>(yg 0 (je (show a6w.Nodup by decide +kernel) rfl (Or.inl rfl)))
                  · exact fun C s₀ H₀ ex pn=>Dp
                  · intro C s₀ H₀ ex pn
                    refine peE ?_
                    intro B
                    refine g8 ?_ ?_
                    · refine aj ?_ ?_
                      · exact gb d_law_name hr (by rfl) (aj (ak 1 (pv 1)) (aj (jg lg bw (ak 0 (pv 0))) c7)) (d9 (d9 eq_nil))
                      · exact aj (jg lg bw (gb d_law_pick hr (by rfl) (aj (ak 2 (pv 2)) (aj bw c7)) (d9 (d9 eq_nil)))) c7
                    · exact dw (ao (ao d8)) (by decide)
          · refine dg ?_ ?_
            · refine @iz _ _ _ _ (tOf _ _ _) _ ?_ (fun _ _ _ h=>h)
              · refine gj ?_ ?_ ?_ ?_
                · exact nd
                · exact rfl
                · exact Or.inr rfl
                · refine jq ?_
                  · refine m9 vo ?_ ?_ PyProof.Rows.boot_tuple ?_
                    · exact by rfl
                    · exact b_tuple
                    · refine aj ?_ ?_
                      · refine Dt ?_
                        · refine Ie (N:=["_law_k","_law_cell"]) ?_ ?_ ?_ ?_ ?_ ?_ ?_ ?_
                          · exact ⟨rfl,fun j k h=>match j,h with | 0,h=>(by cases h; exact ⟨_,rfl,rfl,⟨.inl rfl,.inr (.inl rfl),.inl rfl⟩⟩) | _+1,h=>(by cases h)⟩
                          · exact ⟨rfl,rfl,by decide +kernel,by decide +kernel⟩
                          · exact rfl
                          · exact Bm (by rfl) b_range (jg lg bw (gb d_law_pick hr (by rfl) (aj (ak 4 (pv 4)) (aj bw c7)) (d9 (d9 eq_nil))))
                          · exact Ay
                          · exact fun C s₀ H₀ ex pn=>pgE fun B=>(yg 0 (je (show (["_law_k","_law_cell"]:List Str).Nodup by decide +kernel) rfl (Or.inl rfl)))
                          · exact fun C s₀ H₀ ex pn=>Dp
                          · exact fun C s₀ H₀ ex pn=>peE fun B=>(gb d_law_name hr (by rfl) (aj (ak 1 (pv 1)) (aj (ak 0 (pv 0)) c7)) (d9 (d9 eq_nil)))
                      · exact c7
            · refine dg ?_ ?_
              · refine @iz _ _ _ _ (tOf _ _ _) _ ?_ (fun _ _ _ h=>h)
                · refine gj ?_ ?_ ?_ ?_
                  · exact nd
                  · exact rfl
                  · exact Or.inr rfl
                  · refine Gy ?_ ?_
                    · exact aj (gb d_law_name hr (by rfl) (aj (ak 3 (pv 3)) (aj bw c7)) (d9 (d9 eq_nil))) (aj (gb d_law_name hr (by rfl) (aj (ak 3 (pv 3)) (aj bw c7)) (d9 (d9 eq_nil))) c7)
                    · exact dw (ao (ao d8)) (by decide)
              · refine dg ?_ ?_
                · refine @Kv _ _ _ _ (fOf _ _ _) _ ?_ (fun _ _ _ h=>h)
                  · refine gj ?_ ?_ ?_ ?_
                    · exact nd
                    · exact rfl
                    · exact Or.inl rfl
                    · refine a1g ?_ ?_
                      · exact Gy (aj (g8 (aj (jh hu (ak 8 (pv 8)) bw (fun _ _=>rfl)) (aj wk (aj bw (aj bw (aj bw c7))))) (dw (ao (ao (ao (ao (ao d8))))) (by decide))) c7) (dw (ao d8) (by decide))
                      · refine Dt ?_
                        · refine Ie (N:=["_law_name_here","_law_many"]) ?_ ?_ ?_ ?_ ?_ ?_ ?_ ?_
                          · exact ⟨rfl,fun j k h=>match j,h with | 0,h=>(by cases h; exact ⟨_,rfl,rfl,⟨.inl rfl,.inr (.inl rfl),.inl rfl⟩⟩) | _+1,h=>(by cases h)⟩
                          · exact ⟨rfl,rfl,by decide +kernel,by decide +kernel⟩
                          · exact rfl
                          · exact Di (ak 7 (pv 7))
                          · exact Df
                          · exact fun C s₀ H₀ ex pn=>pgE fun B=>(yg 0 (je (show (["_law_name_here","_law_many"]:List Str).Nodup by decide +kernel) rfl (Or.inl rfl)))
                          · exact fun C s₀ H₀ ex pn=>Dp
                          · exact fun C s₀ H₀ ex pn=>peE fun B=>(g8 (aj (ak 0 (pv 0)) (aj wk (aj bw (aj (ak 1 (pv 1)) (aj bw c7))))) (dw (ao (ao (ao (ao (ao d8))))) (by decide)))
                · refine dg ?_ ?_
                  · refine Bd _ ?_
                    · refine Cu ?_
                      · refine Qt PySem.F.plainAttrs_list PySem.F.slot_list_append PySem.F.type_list_append vd ?_ ?_
                        · exact pv 9
                        · refine jj ?_ ?_
                          · refine g8 ?_ ?_
                            · exact aj (jh hu (ak 8 (pv 8)) bw (fun _ _=>rfl)) (aj (jh hu (jh hu (ak 6 (pv 6)) bw (fun _ _=>rfl)) bw (fun _ _=>rfl)) (aj (a4y Vp bw) (aj bw (aj bw c7))))
                            · exact dw (ao (ao (ao (ao (ao d8))))) (by decide)
                          · exact qg
                  · refine dg ?_ ?_
                    · exact iz 10 (Zy (N:=ll6) ⟨rfl,rfl,by decide +kernel,by decide +kernel⟩ rfl (Di (Wv (ak 0 (pv 0)) (Rh bw) (Rh (jg lg bw (ak 1 (pv 1)))))) (fun C s₀ H₀ ex pn=>pgE fun B=>(yg 0 (je (show ll6.Nodup by decide +kernel) rfl (Or.inl rfl)))) (fun C s₀ H₀ ex pn=>Dp) (fun C s₀ H₀ ex pn=>peE fun B=>(gb d_law_lock_step hr (by rfl) (aj (Jz (aj (ak 0 (pv 0)) (aj (ak 4 (pv 4)) c7)) (dw (ao (ao d8)) (by decide))) (aj (ak 1 (pv 1)) (aj (ak 2 (pv 2)) (aj (ak 3 (pv 3)) c7)))) (d9 (d9 (d9 (d9 eq_nil)))))) (je nd rfl (Or.inl rfl)) rfl) (fun σ H Q h=>Yv ⟨rfl,fun j k h=>match j,h with | 0,h=>(by cases h; exact ⟨_,rfl,rfl,⟨.inl rfl,.inr (.inl rfl),.inl rfl⟩⟩) | 1,h=>(by cases h; exact ⟨_,rfl,rfl,⟨.inl rfl,.inr (.inl rfl),.inl rfl⟩⟩) | 2,h=>(by cases h; exact ⟨_,rfl,rfl,⟨.inl rfl,.inr (.inl rfl),.inl rfl⟩⟩) | 3,h=>(by cases h; exact ⟨_,rfl,rfl,⟨.inl rfl,.inr (.inl rfl),.inl rfl⟩⟩) | _+4,h=>(by cases h)⟩ Df (Z2 h))
                    · exact ig (jt (g8 (aj (ak 9 (pv 9)) (aj (ak 6 (pv 6)) (aj (ak 10 (pv 10)) (aj (ak 7 (pv 7)) c7)))) (dw (ao (ao (ao (ao d8)))) (by decide))))
theorem Il (F:Fun K "_law_locked" "_law_locked" uo f fd) (hmg:mg "_law_locked" = some (.ref f)) (d_law_cell_at:m6 P w K mg base "_law_cell_at" 1 W9 (_root_.K.gq)) (d_law_lock_step:m6 P w K mg base "_law_lock_step" 2 ll9 (_root_.K.j4)) (d_law_name:m6 P w K mg base "_law_name" 1 a1s (_root_.K.iw)) (d_law_pick:m6 P w K mg base "_law_pick" 1 Wz (_root_.K.dj)) (b_range:mg "range" = none) (b_tuple:mg "tuple" = none):m6 P w K mg base "_law_locked" 3 a1w _root_.K.nj :=
  ⟨f,fd,Hz F d_law_cell_at d_law_lock_step d_law_name d_law_pick b_range b_tuple,F.binds (ps:=a1w) fun _ _ _ _ _ _ us hl=>bd2 (fun _ _=>rfl) us hl,F.kp,hmg⟩
abbrev ur:Stmt:=top 15
theorem Bv:jr ll7 a0t (dz ur):=⟨rfl,rfl,rfl,by decide +kernel,rfl,by decide +kernel,by decide +kernel⟩
theorem Iz (F:Fun K "_law_behind" "_law_behind" ur f fd) (b_list:mg "list" = none) (b_sorted:mg "sorted" = none) (b_tuple:mg "tuple" = none):ud P w K mg base CX0 1 f fd a0t (spF K a0t.length _root_.K.jw):=by
  refine uw (N:=ll7) F Bv (by decide)  fun cdv A outer s H E B hr=>?_
  have hu:=Cq hr
  have hq:=hr.units
  have nd:ll7.Nodup:=Bv.nd
  refine dg ?_ ?_
  · refine Gv ?_ ?_ ?_ ?_ ?_ ?_
    · exact PassesOwn.never
    · exact rfl
    · exact Di (jh hu (ak 0 (pv 0)) bw (fun _ _=>rfl))
    · exact En (is:=[3,4]) (Fi rfl (kh (je nd rfl (Or.inr rfl)) (kh (je nd rfl (Or.inl rfl)) Am)))
    · refine dg ?_ ?_
      · refine v8 ?_ ?_ ?_
        · exact PW.pt (Ho (jc (Ej hq) (ak 3 (pv 3)) (ak 2 (pv 2)) rfl) (Cg (jc (qt hq) (jh hu (ak 4 (pv 4)) bw (fun _ _=>rfl)) bw (jf _))))
        · refine dg ?_ ?_
          · exact v8 (jc (Js hq) (ak 3 (pv 3)) (ak 1 (pv 1)) rfl)   (ig (jt yj))   lq
          · refine ig ?_
            · refine jt ?_
              · refine jq ?_
                · refine m9 vo ?_ ?_ PyProof.Rows.boot_tuple ?_
                  · exact by rfl
                  · exact b_tuple
                  · refine aj ?_ ?_
                    · refine Dt ?_
                      · refine Ie (N:=["_law_lock","_law_box"]) ?_ ?_ ?_ ?_ ?_ ?_ ?_ ?_
                        · exact ⟨rfl,fun j k h=>match j,h with | 0,h=>(by cases h; exact ⟨_,rfl,rfl,⟨.inl rfl,.inr (.inl rfl),.inl rfl⟩⟩) | _+1,h=>(by cases h)⟩
                        · exact ⟨rfl,rfl,by decide +kernel,by decide +kernel⟩
                        · exact rfl
                        · exact Di (ak 1 (pv 1))
                        · exact Df
                        · exact fun C s₀ H₀ ex pn=>pgE fun B=>(yg 0 (je (show (["_law_lock","_law_box"]:List Str).Nodup by decide +kernel) rfl (Or.inl rfl)))
                        · exact fun C s₀ H₀ ex pn=>(X4 fun B=>(jc (Je hq) (ak 0 (pv 0)) (ak 1 (pv 1)) (jf _)))
                        · exact fun C s₀ H₀ ex pn=>peE fun B=>(ak 0 (pv 0))
                    · exact c7
        · exact lq
      · refine dg ?_ ?_
        · exact v8 (PW.pt (Ho (jc (Ej hq) (ak 3 (pv 3)) (ak 2 (pv 2)) rfl) (Cg (jc (Ej hq) (ak 3 (pv 3)) (ak 1 (pv 1)) rfl))))   (ig (jt yj))   lq
        · refine ig ?_
          · refine v8 ?_ ?_ ?_
            · exact jc (Ej hq) (ak 3 (pv 3)) (ak 2 (pv 2)) rfl
            · refine ig ?_
              · refine jt ?_
                · refine jq ?_
                  · refine m9 vo ?_ ?_ PyProof.Rows.boot_tuple ?_
                    · exact by rfl
                    · exact b_tuple
                    · refine aj ?_ ?_
                      · refine jq ?_
                        · exact qb (Dh (by rfl)) (by rfl) b_sorted PyProof.Rows.boot_sorted (aj (jg lg (jq (m9 zm (by rfl) b_list PyProof.Rows.boot_list (aj (ak 1 (pv 1)) c7))) (Gy (aj (ak 3 (pv 3)) c7) (dw (ao d8) (by decide)))) c7)
                      · exact c7
            · exact lq
    · exact Df
  · exact ig (jt (ak 1 (pv 1)))
theorem Ig (F:Fun K "_law_behind" "_law_behind" ur f fd) (hmg:mg "_law_behind" = some (.ref f)) (b_list:mg "list" = none) (b_sorted:mg "sorted" = none) (b_tuple:mg "tuple" = none):m6 P w K mg base "_law_behind" 1 a0t _root_.K.jw :=
  ⟨f,fd,Iz F b_list b_sorted b_tuple,F.binds (ps:=a0t) fun _ _ _ _ _ _ us hl=>bd3 (fun _ _ _=>rfl) us hl,F.kp,hmg⟩
abbrev zp:Stmt:=top 16
theorem Eb:jr ll4 a1u (dz zp):=⟨rfl,rfl,rfl,by decide +kernel,rfl,by decide +kernel,by decide +kernel⟩
theorem Lz (F:Fun K "_law_hand" "_law_hand" zp f fd) (d_law_behind:m6 P w K mg base "_law_behind" 1 a0t (_root_.K.jw)) (b_len:mg "len" = none) (b_range:mg "range" = none):ud P w K mg base CX0 2 f fd a1u (spF K a1u.length _root_.K.m7):=by
  have d_law_behind:=d_law_behind.mono (by decide:1≤1)
  refine uw (N:=ll4) F Eb (by decide)  fun cdv A outer s H E B hr=>?_
  have hu:=Cq hr
  have hq:=hr.units
  have nd:ll4.Nodup:=Eb.nd
  refine dg ?_ ?_
  · exact Bw hu (ak 2 (pv 2)) (aj (ak 1 (pv 1)) (aj bw c7)) (dw (ao (ao d8)) (by decide)) (g8 c7 (dw d8 (by decide))) rfl
  · refine dg ?_ ?_
    · exact Kv 3 (gj nd rfl (Or.inl rfl) (Za (aj bw c7) (dw (ao d8) (by decide)))) (fun _ _ _ h=>h)
    · refine dg ?_ ?_
      · exact iz 4 (gj nd rfl (Or.inl rfl) bw) (fun _ _ _ h=>h)
      · refine dg ?_ ?_
        · refine Y6 _ ?_ ?_ ?_
          · exact PassesOwn.never
          · exact jc Us (ak 4 (pv 4)) (K6 3 b_len rfl (pv 3)) (jf _)
          · refine dg ?_ ?_
            · refine Gv ?_ ?_ ?_ ?_ ?_ ?_
              · exact PassesOwn.never
              · exact rfl
              · exact Bm (by rfl) b_range (jq (qb yd (by rfl) b_len PySem.boot_len (aj (jh hu (ak 0 (pv 0)) bw (fun _ _=>rfl)) c7)))
              · exact yg 5 (je nd rfl (Or.inl rfl))
              · refine dg ?_ ?_
                · exact iz 6 (gj nd rfl (Or.inl rfl) (jh hu (jh hu (ak 0 (pv 0)) bw (fun _ _=>rfl)) (ak 5 (pv 5)) (fun _ _=>rfl))) (fun _ _ _ h=>h)
                · refine ig ?_
                  · refine v8 ?_ ?_ ?_
                    · exact PW.pt (Ho (jc (qt hq) (jh hu (ak 6 (pv 6)) bw (fun _ _=>rfl)) (ak 1 (pv 1)) (jf _)) (Cg (jc (qt hq) (jh hu (ak 6 (pv 6)) bw (fun _ _=>rfl)) (Iw 3 (pv 3) (ak 4 (pv 4)) (fun _ _=>rfl)) (jf _))))
                    · refine dg ?_ ?_
                      · refine @iz _ _ _ _ (tOf _ _ _) _ ?_ (fun _ _ _ h=>h)
                        · refine gj ?_ ?_ ?_ ?_
                          · exact nd
                          · exact rfl
                          · exact Or.inl rfl
                          · refine gb d_law_behind ?_ ?_ ?_ ?_
                            · exact hr
                            · exact by rfl
                            · refine aj ?_ ?_
                              · exact ak 6 (pv 6)
                              · exact aj (zu hu (ak 2 (pv 2)) (g8 (aj (ak 1 (pv 1)) (aj (Iw 3 (pv 3) (ak 4 (pv 4)) (fun _ _=>rfl)) c7)) (dw (ao (ao d8)) (by decide))) (fun _ _=>rfl)) (aj (jh hu (ak 0 (pv 0)) bw (fun _ _=>rfl)) c7)
                            · exact d9 (d9 (d9 eq_nil))
                      · refine dg ?_ ?_
                        · refine v8 ?_ ?_ ?_
                          · refine PW.pt ?_
                            · refine a6o ?_ ?_
                              · exact jc Tp (ak 7 (pv 7)) yj (jf _)
                              · refine a3i ?_
                                · refine PW.pt ?_
                                  · refine Ho ?_ ?_
                                    · exact jc Jr (zu hu (ak 2 (pv 2)) (g8 (aj (ak 1 (pv 1)) (aj (jh hu (ak 6 (pv 6)) bw (fun _ _=>rfl)) c7)) (dw (ao (ao d8)) (by decide))) (fun _ _=>rfl)) yj (jf _)
                                    · exact Cg (jc (Je hq) (zu hu (ak 2 (pv 2)) (g8 (aj (ak 1 (pv 1)) (aj (jh hu (ak 6 (pv 6)) bw (fun _ _=>rfl)) c7)) (dw (ao (ao d8)) (by decide))) (fun _ _=>rfl)) (ak 7 (pv 7)) (jf _))
                          · exact ig (jt (ak 5 (pv 5)))
                          · exact lq
                        · refine ig ?_
                          · refine v8 ?_ ?_ ?_
                            · exact jc Tp (zu hu (ak 2 (pv 2)) (g8 (aj (ak 1 (pv 1)) (aj (jh hu (ak 6 (pv 6)) bw (fun _ _=>rfl)) c7)) (dw (ao (ao d8)) (by decide))) (fun _ _=>rfl)) yj (jf _)
                            · refine dg ?_ ?_
                              · exact Bw hu (ak 2 (pv 2)) (aj (ak 1 (pv 1)) (aj (jh hu (ak 6 (pv 6)) bw (fun _ _=>rfl)) c7)) (dw (ao (ao d8)) (by decide)) (ak 7 (pv 7)) rfl
                              · exact ig (Bd 3 (Cu (Qt PySem.F.plainAttrs_list PySem.F.slot_list_append PySem.F.type_list_append vd (pv 3) (jj (jh hu (ak 6 (pv 6)) bw (fun _ _=>rfl)) qg))))
                            · exact lq
                    · exact lq
              · exact Ay
            · exact ig (iz 4 (gj nd rfl (Or.inl rfl) (jg lg (ak 4 (pv 4)) bw)) (fun _ _ _ h=>h))
        · exact ig (jt yj)
theorem Mu (F:Fun K "_law_hand" "_law_hand" zp f fd) (hmg:mg "_law_hand" = some (.ref f)) (d_law_behind:m6 P w K mg base "_law_behind" 1 a0t (_root_.K.jw)) (b_len:mg "len" = none) (b_range:mg "range" = none):m6 P w K mg base "_law_hand" 2 a1u _root_.K.m7 :=
  ⟨f,fd,Lz F d_law_behind b_len b_range,F.binds (ps:=a1u) fun _ _ _ _ _ _ us hl=>bd3 (fun _ _ _=>rfl) us hl,F.kp,hmg⟩
abbrev vh:Stmt:=top 17
theorem Dd:jr a1z Rc (dz vh):=⟨rfl,rfl,rfl,by decide +kernel,rfl,by decide +kernel,by decide +kernel⟩
theorem La {C_NoLock D_NoLock:Addr} {C_NoStep:Addr} {bm_NoStep:List Value} {C_TooMany:Addr} {bm_TooMany:List Value} (F:Fun K "_law_asked" "_law_asked" vh f fd) (dx_holding:pq P w K mg base "holding" 5 Yd C_NoLock "step" _root_.K.j9) (k_NoLock:Og K mg "NoLock" C_NoLock (.ref D_NoLock::My.vB)) (g_NoLock:XG K C_NoLock "step") (k_NoStep:Og K mg "NoStep" C_NoStep bm_NoStep) (n_NoStep:(Value.ref C_NoLock :: .ref D_NoLock::My.vB).contains (.ref C_NoStep)=false) (k_TooMany:Og K mg "TooMany" C_TooMany bm_TooMany) (n_TooMany:(Value.ref C_NoLock :: .ref D_NoLock::My.vB).contains (.ref C_TooMany)=false):ud P w K mg base CX0 6 f fd Rc (spF K Rc.length _root_.K.m5):=by
  have dx_holding:=dx_holding.mono (show 5≤5 by decide)
  refine uw (N:=a1z) F Dd (by decide) fun cdv A outer s H E B hr=>?_
  have hu:=Cq hr
  have hq:=hr.units
  have nd:a1z.Nodup:=Dd.nd
  refine dg ?_ ?_
  · exact iz 1 (gj nd rfl (Or.inl rfl) yj) (fun _ _ _ h=>h)
  · refine dg ?_ ?_
    · exact X5 dx_holding rfl rfl nd rfl (Or.inl rfl) hr (by rfl) (aj (ak 0 (pv 0)) c7) (d9 eq_nil) (Yh (fun _=>hr.hd) k_NoLock.1 k_NoStep.1 k_TooMany.1 n_NoStep n_TooMany (by rfl) (by rfl) k_NoStep.2 k_TooMany.2 (Rw (fun _=>hr.hd) nd rfl rfl k_NoLock.1 k_NoLock.1 (by simp) (by rfl) k_NoLock.2 (fun a=>Ek (gj nd rfl (Or.inl rfl) (a3y g_NoLock (pv 2) rfl))))) (a1b (T7 a4l))
    · exact ig (jt (ak 1 (pv 1)))
theorem Kh {C_NoLock D_NoLock:Addr} {C_NoStep:Addr} {bm_NoStep:List Value} {C_TooMany:Addr} {bm_TooMany:List Value} (F:Fun K "_law_asked" "_law_asked" vh f fd) (hmg:mg "_law_asked" = some (.ref f)) (dx_holding:pq P w K mg base "holding" 5 Yd C_NoLock "step" _root_.K.j9) (k_NoLock:Og K mg "NoLock" C_NoLock (.ref D_NoLock::My.vB)) (g_NoLock:XG K C_NoLock "step") (k_NoStep:Og K mg "NoStep" C_NoStep bm_NoStep) (n_NoStep:(Value.ref C_NoLock :: .ref D_NoLock::My.vB).contains (.ref C_NoStep)=false) (k_TooMany:Og K mg "TooMany" C_TooMany bm_TooMany) (n_TooMany:(Value.ref C_NoLock :: .ref D_NoLock::My.vB).contains (.ref C_TooMany)=false):m6 P w K mg base "_law_asked" 6 Rc _root_.K.m5 :=
  ⟨f,fd,La F dx_holding k_NoLock g_NoLock k_NoStep n_NoStep k_TooMany n_TooMany,F.binds (ps:=Rc) fun _ _ _ _ _ _ us hl=>bd1 (fun _=>rfl) us hl,F.kp,hmg⟩
abbrev Bj:Stmt:=top 18
theorem Gq:jr a1z Rc (dz Bj):=⟨rfl,rfl,rfl,by decide +kernel,rfl,by decide +kernel,by decide +kernel⟩
theorem Ql {C_NoLock D_NoLock:Addr} {C_CalmError:Addr} {bm_CalmError:List Value} (F:Fun K "_law_any" "_law_any" Bj f fd) (dx_holding:pq P w K mg base "holding" 5 Yd C_NoLock "step" _root_.K.j9) (k_NoLock:Og K mg "NoLock" C_NoLock (.ref D_NoLock::My.vB)) (g_NoLock:XG K C_NoLock "step") (k_CalmError:Og K mg "CalmError" C_CalmError bm_CalmError) (t_CalmError:(Value.ref C_NoLock :: .ref D_NoLock::My.vB).contains (.ref C_CalmError)=true) (b_ValueError:mg "ValueError" = none) (b_isinstance:mg "isinstance" = none):ud P w K mg base CX0 6 f fd Rc (spF K Rc.length _root_.K.v9):=by
  have dx_holding:=dx_holding.mono (show 5≤5 by decide)
  refine uw (N:=a1z) F Gq (by decide) fun cdv A outer s H E B hr=>?_
  have hu:=Cq hr
  have hq:=hr.units
  have nd:a1z.Nodup:=Gq.nd
  refine dg ?_ ?_
  · exact iz 1 (gj nd rfl (Or.inl rfl) a4b) (fun _ _ _ h=>h)
  · refine dg ?_ ?_
    · exact Wo dx_holding rfl rfl hr (by rfl) (aj (ak 0 (pv 0)) c7) (d9 eq_nil) (Rw (fun _=>hr.hd) nd rfl rfl k_NoLock.1 k_CalmError.1 t_CalmError (by rfl) k_CalmError.2 (fun a=>Ek (gj nd rfl (Or.inl rfl) (a4o g_NoLock (by rfl) b_isinstance (by rfl) b_ValueError (pv 2))))) (T7 a2x)
    · exact ig (jt (ak 1 (pv 1)))
theorem R8 {C_NoLock D_NoLock:Addr} {C_CalmError:Addr} {bm_CalmError:List Value} (F:Fun K "_law_any" "_law_any" Bj f fd) (hmg:mg "_law_any" = some (.ref f)) (dx_holding:pq P w K mg base "holding" 5 Yd C_NoLock "step" _root_.K.j9) (k_NoLock:Og K mg "NoLock" C_NoLock (.ref D_NoLock::My.vB)) (g_NoLock:XG K C_NoLock "step") (k_CalmError:Og K mg "CalmError" C_CalmError bm_CalmError) (t_CalmError:(Value.ref C_NoLock :: .ref D_NoLock::My.vB).contains (.ref C_CalmError)=true) (b_ValueError:mg "ValueError" = none) (b_isinstance:mg "isinstance" = none):m6 P w K mg base "_law_any" 6 Rc _root_.K.v9 :=
  ⟨f,fd,Ql F dx_holding k_NoLock g_NoLock k_CalmError t_CalmError b_ValueError b_isinstance,F.binds (ps:=Rc) fun _ _ _ _ _ _ us hl=>bd1 (fun _=>rfl) us hl,F.kp,hmg⟩
abbrev Hs:Stmt:=top 19
theorem Z6:jr ll3 a6j (dz Hs):=⟨rfl,rfl,rfl,by decide +kernel,rfl,by decide +kernel,by decide +kernel⟩
theorem a3l (F:Fun K "law" "law" Hs f fd) (d_law_any:m6 P w K mg base "_law_any" 6 Rc (_root_.K.v9)) (d_law_asked:m6 P w K mg base "_law_asked" 6 Rc (_root_.K.m5)) (d_law_hand:m6 P w K mg base "_law_hand" 2 a1u (_root_.K.m7)) (d_law_locked:m6 P w K mg base "_law_locked" 3 a1w (_root_.K.nj)) (b_dict:mg "dict" = none) (b_isinstance:mg "isinstance" = none) (b_list:mg "list" = none) (b_range:mg "range" = none):ud P w K mg base CX0 7 f fd a6j (spF K a6j.length _root_.K.Qx):=by
  have d_law_any:=d_law_any.mono (by decide:6≤6)
  have d_law_asked:=d_law_asked.mono (by decide:6≤6)
  have d_law_hand:=d_law_hand.mono (by decide:2≤6)
  have d_law_locked:=d_law_locked.mono (by decide:3≤6)
  refine uw (N:=ll3) F Z6 (by decide)  fun cdv A outer s H E B hr=>?_
  have hu:=Cq hr
  have hq:=hr.units
  have nd:ll3.Nodup:=Z6.nd
  refine dg ?_ ?_
  · exact iz 1 (gj nd rfl (Or.inl rfl) (gb d_law_locked hr (by rfl) (aj (ak 0 (pv 0)) (aj bw c7)) (d9 (d9 eq_nil)))) (fun _ _ _ h=>h)
  · refine dg ?_ ?_
    · exact iz 2 (gj nd rfl (Or.inl rfl) Kf) (fun _ _ _ h=>h)
    · refine dg ?_ ?_
      · refine Gv ?_ ?_ ?_ ?_ ?_ ?_
        · exact PassesOwn.never
        · exact rfl
        · exact Di (jh hu (ak 1 (pv 1)) bw (fun _ _=>rfl))
        · exact En (is:=[3,4]) (Fi rfl (kh (je nd rfl (Or.inl rfl)) (kh (je nd rfl (Or.inl rfl)) Am)))
        · refine ig ?_
          · exact Gv PassesOwn.never rfl (Bm (by rfl) b_range (ak 4 (pv 4))) (yg 5 (je nd rfl (Or.inl rfl)))   (ig (Bw hu (ak 2 (pv 2)) (aj (ak 3 (pv 3)) (aj (ak 5 (pv 5)) c7)) (dw (ao (ao d8)) (by decide)) yj rfl)) Ay
        · exact Df
      · refine dg ?_ ?_
        · exact iz 6 (gj nd rfl (Or.inl rfl) yj) (fun _ _ _ h=>h)
        · refine dg ?_ ?_
          · refine Gv ?_ ?_ ?_ ?_ ?_ ?_
            · exact PassesOwn.never
            · exact rfl
            · exact Di (jh hu (ak 1 (pv 1)) bw (fun _ _=>rfl))
            · exact En (is:=[3,4]) (Fi rfl (kh (je nd rfl (Or.inl rfl)) (kh (je nd rfl (Or.inl rfl)) Am)))
            · refine ig ?_
              · exact v8 (jc Tp (ak 6 (pv 6)) yj (jf _))   (ig (iz 6 (gj nd rfl (Or.inl rfl) (gb d_law_hand hr (by rfl) (aj (ak 1 (pv 1)) (aj (ak 3 (pv 3)) (aj (ak 2 (pv 2)) c7))) (d9 (d9 (d9 eq_nil))))) (fun _ _ _ h=>h)))   lq
            · exact Df
          · refine dg ?_ ?_
            · refine @iz _ _ _ _ (tOf _ _ _) _ ?_ (fun _ _ _ h=>h)
              · refine gj ?_ ?_ ?_ ?_
                · exact nd
                · exact rfl
                · exact Or.inl rfl
                · refine g8 ?_ ?_
                  · refine aj ?_ ?_
                    · exact jq (m9 zm (by rfl) b_list PyProof.Rows.boot_list (aj (jh hu (ak 1 (pv 1)) bw (fun _ _=>rfl)) c7))
                    · refine aj ?_ ?_
                      · exact jq (m9 zm (by rfl) b_list PyProof.Rows.boot_list (aj (jh hu (ak 1 (pv 1)) bw (fun _ _=>rfl)) c7))
                      · exact aj (jq (m9 zm (by rfl) b_list PyProof.Rows.boot_list (aj (jh hu (ak 1 (pv 1)) bw (fun _ _=>rfl)) c7))) (aj (jh hu (ak 1 (pv 1)) bw (fun _ _=>rfl)) c7)
                  · exact dw (ao (ao (ao (ao d8)))) (by decide)
            · refine dg ?_ ?_
              · exact iz 8 (gj nd rfl (Or.inl rfl) (gb d_law_asked hr (by rfl) (aj (ak 7 (pv 7)) c7) (d9 eq_nil))) (fun _ _ _ h=>h)
              · refine dg ?_ ?_
                · exact v8 (jc (Je hq) (ak 7 (pv 7)) (ak 1 (pv 1)) (jf _))   (ig (jt a4b))   lq
                · refine dg ?_ ?_
                  · refine v8 ?_ ?_ ?_
                    · exact jc Jr (ak 6 (pv 6)) yj (jf _)
                    · exact ig (jt (Ys (Vs (qt hq) (ak 8 (pv 8)) (g8 (aj wk (aj (ak 6 (pv 6)) c7)) (dw (ao (ao d8)) (by decide))) (jf _)) (Zb (gb d_law_any hr (by rfl) (aj (ak 7 (pv 7)) c7) (d9 eq_nil)))))
                    · exact lq
                  · exact ig (jt (Ys (Wk 8 (by rfl) b_isinstance (by rfl) b_dict (pv 8)) (Zb (Wx 8 2 hq (pv 8) (pv 2) (jf _)))))
end
end D
end
section
namespace C
open PySem
theorem Kr {α:Type} {h f:α→T} {g:G} {c:M Bool} {e:M T} {nv:Nat} {cap:List Slot} {sto:List SO} (hcap:cap.map Lg=cap) :
    ∀ (l:List α) (acc:List T) (pre:List Slot),pre.length=nv→acc.length+l.length≤lim →
      (∀ a∈l,∀ pre:List Slot,pre.length=nv→∃ pre',pre'.length=nv∧g (h a) ⟨pre++cap,sto⟩=some ⟨pre'++cap,sto⟩∧c ⟨pre'++cap,sto⟩=some (true,⟨pre'++cap,sto⟩)∧e ⟨pre'++cap,sto⟩=some (f a,⟨pre'++cap,sto⟩)) →
      ∃ s',vq g c e (l.map h) ⟨pre++cap,sto⟩ acc=some (acc++l.map f,s')∧s'.sto=sto
  | [],acc,pre,hp,hl,H=>⟨⟨pre++cap,sto⟩,by simp [vq],rfl⟩
  | a::l,acc,pre,hp,hl,H=>by
    obtain ⟨pre',p1,p2,p3,p4⟩:=H a List.mem_cons_self pre hp
    have hlen:acc.length<lim:=by simp at hl ⊢; (clear p4 p3 p2 p1 H hp hcap; omega)
    obtain ⟨s',q1,q2⟩:=Kr hcap l (acc++[f a]) (pre'.map Lg) (by simpa using p1) (by simp at hl ⊢; (clear hlen p4 p3 p2 p1 H hp hcap; omega)) fun b hb=>H b (List.mem_cons_of_mem _ hb)
    refine ⟨s',?_,q2⟩
    rw [List.map_cons,vq,p2]
    dsimp only
    rw [p3]
    dsimp only
    rw [p4]
    dsimp only
    rw [if_pos hlen,j8]
    dsimp only
    rw [List.map_append,hcap,q1]
    simp
theorem K9 {α:Type} (h f:α→T) (l:List α) {g:G} {c:M Bool} {e:M T} {nv:Nat} {ci:List Nat} {it:M (List T)} {s s1:Sta} (env:List Slot) (cap:List Slot) (hit:it s=some (l.map h,s1)) (henv:j6 ci s1.env=env) (hci:ci.map (fun i=>(env[i]?).getD none)=cap) (hcap:cap.map Lg=cap) (hl:l.length≤lim)
    (H:∀ a∈l,∀ pre:List Slot,pre.length=nv→∃ pre',pre'.length=nv∧g (h a) ⟨pre++cap,s1.sto⟩=some ⟨pre'++cap,s1.sto⟩∧c ⟨pre'++cap,s1.sto⟩=some (true,⟨pre'++cap,s1.sto⟩)∧e ⟨pre'++cap,s1.sto⟩=some (f a,⟨pre'++cap,s1.sto⟩)) :
    v7 nv ci g it c e s=some (.lst (l.map f),⟨env,s1.sto⟩):=by
  obtain ⟨s',q1,q2⟩:=Kr hcap l [] (List.replicate nv none) (by simp) (by simpa using hl) H
  unfold v7
  rw [hit]
  dsimp only
  rw [henv,hci,q1]
  dsimp only
  rw [q2]; rfl
def okS (x:Str):Prop:=PyData.canLay0 (.str x)=true
theorem Al {x:Str} (h:okS x):dat (.str x)=some (.str x):=by
  unfold okS at h
  simp [dat,h]
theorem a0i {a b:Str} (ha:okS a) (hb:okS b):neO (.str a) (.str b)=some (.bl (!(a==b))):=by
  simp [neO,eqT,eqD,Al ha,Al hb,PyData.depth,PyData.eqv]
def Pl (n:Nat) (t:T):Prop:=∃ d,dat t=some d∧d.depth≤n
theorem yw (n:Nat) (i:Int):Pl n (.int i):=⟨.int i,by simp [dat],by simp [PyData.depth]⟩
theorem qz (n:Nat) {x:Str} (h:okS x):Pl n (.str x):=⟨.str x,Al h,by simp [PyData.depth]⟩
theorem pls {n:Nat}:∀ ts:List T,(∀ t∈ts,Pl n t)→∃ ds,Ec ts=some ds∧PyData.depthAll ds≤n
  | [],_=>⟨[],by simp [Ec],by simp [PyData.depthAll]⟩
  | t::r,h=>by
    obtain ⟨d,d1,d2⟩:=h t List.mem_cons_self
    obtain ⟨ds,e1,e2⟩:=pls r fun x hx=>h x (List.mem_cons_of_mem _ hx)
    exact ⟨d::ds,by simp [Ec,d1,e1],by simp only [PyData.depthAll]; (clear e1 d1 h; omega)⟩
theorem n6 {n:Nat} {ts:List T} (h:∀ t∈ts,Pl n t):Pl (n+1) (.tup ts):=by
  obtain ⟨ds,e1,e2⟩:=pls ts h
  exact ⟨.tuple ds,by simp [dat,e1],by simp only [PyData.depth]; (clear e1 h; omega)⟩
theorem Um {n:Nat} {ts:List T} (h:∀ t∈ts,Pl n t):Pl (n+1) (.lst ts):=by
  obtain ⟨ds,e1,e2⟩:=pls ts h
  exact ⟨.list ds,by simp [dat,e1],by simp only [PyData.depth]; (clear e1 h; omega)⟩
mutual
theorem Pb:∀ d:PyData,d.canLay0=true→PyData.eqv d d=true
  | .none,_=>by simp [PyData.eqv]
  | .bool b,_=>by simp [PyData.eqv] -- here
  | .int i,_=>by simp [PyData.eqv] -- here
  | .str x,_=>by simp [PyData.eqv] -- here
  | .list xs,h=>by simp only [PyData.eqv]; exact Ep xs (by simpa [PyData.canLay0] using h)
  | .tuple xs,h=>by simp only [PyData.eqv]; exact Ep xs (by simpa [PyData.canLay0] using h)
  | .dict _,h=>by simp [PyData.canLay0] at h
theorem Ep:∀ xs:List PyData,PyData.canLayAll0 xs=true→PyData.eqvAll xs xs=true
  | [],_=>by simp [PyData.eqvAll]
  | x::xs,h=>by
    simp only [PyData.canLayAll0,Bool.and_eq_true] at h
    simp only [PyData.eqvAll,Pb x h.1,Ep xs h.2,Bool.and_self]
end
end C
namespace C
open PySem
end C
namespace C
open PySem
theorem Dr {α:Type} (h:α→T) (l:List α) {k:Nat} (hk:k<l.length):cu (.lst (l.map h)) (.int (k:Int))=some (h l[k]):=by
  have h1:(k:Int)<(l.length:Int):=by omega
  simp [cu,ixI,h1,List.getElem?_eq_getElem hk]
end C
end
open C
local macro_rules | `(tactic| simp! [$ls,*])=>`(tactic| simp [Ab,ju,sIf,qj,sNew,uy,wz,sNx,a06,sGo,Xb,Bt,uc,a0s,Eu,fu,a7u,Hl,mOr,Mv,mIf,mOp,mUn,bf,gw,aq,fj,au,W7,jo,gk,hName,wu,m8,Ae,ltT,leT,Ju,Aw,a1x,Nf,Iv,a1v,a7m,a3g,Cr,j6,Lg,$ls,*])
section
namespace C
open PySem
theorem xu {α:Type} {h f:α→T} {q:α→Bool} {g:G} {c:M Bool} {e:M T} {nv:Nat} {cap:List Slot} {sto:List SO} (hcap:cap.map Lg=cap) :
    ∀ (l:List α) (acc:List T) (pre:List Slot),pre.length=nv→acc.length+l.length≤lim →
      (∀ a∈l,∀ pre:List Slot,pre.length=nv→∃ pre',pre'.length=nv∧g (h a) ⟨pre++cap,sto⟩=some ⟨pre'++cap,sto⟩∧c ⟨pre'++cap,sto⟩=some (q a,⟨pre'++cap,sto⟩)∧(q a=true→e ⟨pre'++cap,sto⟩=some (f a,⟨pre'++cap,sto⟩))) →
      ∃ s',vq g c e (l.map h) ⟨pre++cap,sto⟩ acc=some (acc++(l.filter q).map f,s')∧s'.sto=sto
  | [],acc,pre,hp,hl,H=>⟨⟨pre++cap,sto⟩,by simp [vq],rfl⟩
  | a::l,acc,pre,hp,hl,H=>by
    obtain ⟨pre',p1,p2,p3,p4⟩:=H a List.mem_cons_self pre hp
    have hlen:acc.length<lim:=by simp at hl ⊢; (clear p4 p3 p2 p1 H hp hcap; omega)
    rw [List.map_cons,vq,p2]
    dsimp only
    rw [p3]
    cases hq:q a with
    | true =>
      obtain ⟨s',q1,q2⟩:=xu hcap l (acc++[f a]) (pre'.map Lg) (by simpa using p1) (by simp at hl ⊢; (clear hq hlen p4 p3 p2 p1 H hp hcap; omega)) fun b hb=>H b (List.mem_cons_of_mem _ hb)
      refine ⟨s',?_,q2⟩
      dsimp only
      rw [p4 hq]
      dsimp only
      rw [if_pos hlen,j8]
      dsimp only
      rw [List.map_append,hcap,q1]
      simp [hq]
    | false =>
      obtain ⟨s',q1,q2⟩:=xu hcap l acc (pre'.map Lg) (by simpa using p1) (by simp at hl ⊢; (clear hq hlen p4 p3 p2 p1 H hp hcap; omega)) fun b hb=>H b (List.mem_cons_of_mem _ hb)
      refine ⟨s',?_,q2⟩
      dsimp only
      rw [j8]
      dsimp only
      rw [List.map_append,hcap,q1]
      simp [hq]
theorem U0 {α:Type} {g:G} {c:M Bool} {e:M T} {nv:Nat} {ci:List Nat} {it:M (List T)} {s:Sta} {r:Option (T × Sta)} (hF:v7 nv ci g it c e s=r) (h f:α→T) (q:α→Bool) (l:List α) (s1:Sta) (env cap:List Slot) (hit:it s=some (l.map h,s1)) (henv:j6 ci s1.env=env) (hci:ci.map (fun i=>(env[i]?).getD none)=cap) (hcap:cap.map Lg=cap) (hl:l.length≤lim)
    (H:∀ a∈l,∀ pre:List Slot,pre.length=nv→∃ pre',pre'.length=nv∧g (h a) ⟨pre++cap,s1.sto⟩=some ⟨pre'++cap,s1.sto⟩∧c ⟨pre'++cap,s1.sto⟩=some (q a,⟨pre'++cap,s1.sto⟩)∧(q a=true→e ⟨pre'++cap,s1.sto⟩=some (f a,⟨pre'++cap,s1.sto⟩))) :
    r=some (.lst ((l.filter q).map f),⟨env,s1.sto⟩):=by
  obtain ⟨s',q1,q2⟩:=xu hcap l [] (List.replicate nv none) (by simp) (by simpa using hl) H
  rw [← hF]
  unfold v7
  rw [hit]
  dsimp only
  rw [henv,hci,q1]
  dsimp only
  rw [q2]; rfl
theorem Hx {n:Nat} {t:T} (h:Pl n t) (hn:n≤40):eqD t t=some true:=by
  obtain ⟨d,e1,e2⟩:=h
  have:d.depth≤40:=Nat.le_trans e2 hn
  simp [eqD,e1,this,Pb d (vp _ e1)]
theorem Oe {n:Nat} {t:T} (h:Pl n t) (hn:n≤40):eqT t t=some true:=by
  cases t with
  | dic k=>obtain ⟨d,e1,_⟩:=h; simp [dat] at e1
  | _=>exact Hx h hn
theorem Yi {n:Nat} {t:T} (h:Pl n t) (hn:n≤40):neO t t=some (.bl false):=by simp [neO,Oe h hn]
theorem Wu {n:Nat} {t:T} (h:Pl n t) (hn:n≤40):eqO t t=some (.bl true):=by simp [eqO,Oe h hn]
theorem j7 {a b:Int}:eqO (.int a) (.int b)=some (.bl (a==b)):=rfl
theorem J3 {a b:Int}:neO (.int a) (.int b)=some (.bl (!(a==b))):=by simp [neO,eqT,eqD,dat,PyData.depth,PyData.eqv]
theorem a1f {a b:Str} (ha:okS a) (hb:okS b):eqD (.str a) (.str b)=some (a==b):=by
  simp [eqD,Al ha,Al hb,PyData.depth,PyData.eqv]
theorem Rt {a b:Str} (ha:okS a) (hb:okS b):eqO (.str a) (.str b)=some (.bl (a==b)):=by
  simp [eqO,eqT,eqD,Al ha,Al hb,PyData.depth,PyData.eqv]
theorem Ao {xs:List T} {k:Nat} {t:T} (h:xs[k]? = some t):cu (.tup xs) (.int (k:Int))=some t:=by
  have hk:k<xs.length:=(List.getElem?_eq_some_iff.mp h).1
  have h1:(k:Int)<(xs.length:Int):=by omega
  simp [cu,ixI,h1,h]
theorem Gx {a:T} {r:List T}:cu (.tup (a::r)) (.int 0)=some a:=Ao (k:=0) rfl
theorem Om {a b:T} {r:List T}:cu (.tup (a::b::r)) (.int 1)=some b:=Ao (k:=1) rfl
theorem Kw {a b c:T} {r:List T}:cu (.tup (a::b::c::r)) (.int 2)=some c:=Ao (k:=2) rfl
theorem Jw {a b c d:T} {r:List T}:cu (.tup (a::b::c::d::r)) (.int 3)=some d:=Ao (k:=3) rfl
theorem Mj {i j:Nat} {x y:T} {s:Sta}:wu [i,j] (.tup [x,y]) s=some (gk j y false (gk i x false s)):=by simp [wu]
theorem dh {a b:S} {s s':Sta} (h:a s=some (.next,s')):ju a b s=b s':=by unfold ju; rw [h]
def Out (r:Option (T × List SO)) (P:T→List SO→Prop):Prop:=∃ t s,r=some (t,s)∧P t s
theorem Out.of {t:T} {s:List SO} {P:T→List SO→Prop} (h:P t s):Out (some (t,s)) P:=⟨t,s,rfl,h⟩
end C
end
section
namespace K
open C PySem
abbrev scr (cs:List Int):T:=.lst (cs.map .int)
def cell (cs:List Int) (k:Nat):Int:=cs.getD k 0
theorem a0b {cs:List Int} {k:Nat} {sto:List SO}:gq [scr cs,.int (k:Int)] sto=some (.int (cell cs k),sto):=by
  by_cases h:k<cs.length
  · have h1:((k:Int)<(cs.length:Int)):=by omega
    have h2:cs[k]? = some cs[k]:=List.getElem?_eq_getElem h
    simp! [gq,cu,ixI,h1,h2,cell,List.getD]
  · have h1:¬ ((k:Int)<(cs.length:Int)):=by omega
    have h2:cs[k]? = none:=List.getElem?_eq_none_iff.mpr (by omega)
    simp! [gq,cu,ixI,h1,h2,cell,List.getD]
theorem V9 {cs:List Int} {k:Nat} {i:Int} {sto:List SO} (h:i=(k:Int)):gq [scr cs,.int i] sto=some (.int (cell cs k),sto):=by
  rw [h]; exact a0b
def a5d (so:SO):Prop:=(∃ a w,so=.lst [.int a,.int w])∨∃ a w c,so=.lst [.int a,.int w,.int c]
def StO (sto:List SO):Prop:=∀ so∈sto,a5d so
theorem StO.set {sto:List SO} (h:StO sto) (n:Nat) {so:SO} (hs:a5d so):StO (sto.set n so):=fun x hx=>by
  rcases List.mem_or_eq_of_mem_set hx with z | z
  · exact h x z
  · subst z; exact hs
theorem a7b (a:Int):inT (.int a) (.lst [.int 0,.int (-1)])=some (.bl (a==0||a == -1)):=by
  simp [inT,inL,eqD,dat,PyData.depth,PyData.eqv]
  rw [show ((0:Int)==a)=(a==0) from Bool.beq_comm,show ((-1:Int)==a)=(a == -1) from Bool.beq_comm]
def mixed (a:Int):Int:=(a%2147483647 * 48271+1013)%2147483629
theorem a3f {n:Nat} {many a w c:Int} {sto:List SO} (hn:n<sto.length) (hs:StO sto) (hm:0<many) (hb:many.natAbs<fdl) (e:sto[n]? = some (.lst [.int a,.int w,.int c])) :
    ∃ r sto',dj [.obj n,.int many] sto=some (.int r,sto')∧0≤r∧r<many∧StO sto'∧sto'.length=sto.length:=by
  have lt:∀ x:Int,0≤x%many∧x%many<many:=fun x=>⟨Int.emod_nonneg _ (by omega),Int.emod_lt_of_pos _ hm⟩
  have S3:∀ a w c:Int,a5d (.lst [.int a,.int w,.int c]):=fun a w c=>.inr ⟨a,w,c,rfl⟩
  have b1:∀ x:Int,G4 (x%2147483647)=true:=fun x=>by
    have:=Int.emod_nonneg x (show (2147483647:Int)≠0 by decide)
    have:=Int.emod_lt_of_pos x (show (0:Int)<2147483647 by decide)
    simp only [G4,decide_eq_true_eq]; omega
  have b2:G4 69621=true:=by decide
  unfold dj
  by_cases hw:w=0
  · subst hw
    by_cases ha:(a==0||a == -1)=true
    · refine ⟨(mixed (c+1013) * 69621%2147483587) / 11%many,sto.set n (.lst [.int (mixed (c+1013)),.int 1,.int c]),?_,(lt _).1,(lt _).2,hs.set n (S3 _ _ _),List.length_set⟩
      simp! [yu,e,j7,qw,ixI,a7b,ha,Ag,List.getElem?_set_self hn,Hu,b1,b2,hm,mixed]
    · refine ⟨a%many,sto.set n (.lst [.int (a / many),.int 0,.int c]),?_,(lt _).1,(lt _).2,hs.set n (S3 _ _ _),List.length_set⟩
      simp! [yu,e,j7,qw,ixI,a7b,ha,Ag,List.getElem?_set_self hn,hm,hb]
  · have hw':(w==0)=false:=beq_eq_false_iff_ne.mpr hw
    refine ⟨(mixed a * 69621%2147483587) / 11%many,sto.set n (.lst [.int (mixed a),.int w,.int c]),?_,(lt _).1,(lt _).2,hs.set n (S3 _ _ _),List.length_set⟩
    simp! [yu,e,j7,qw,ixI,hw',Ag,List.getElem?_set_self hn,Hu,b1,b2,hm,mixed]
theorem a5k {n:Nat} {many a w:Int} {sto:List SO} (hn:n<sto.length) (e:sto[n]? = some (.lst [.int a,.int w])):dj [.obj n,.int many] sto=dj [.obj n,.int many] (sto.set n (.lst [.int a,.int w,.int a])):=by
  have l2:(2:Nat)<lim:=by decide
  simp! [dj,yu,e,j7,qw,ixI,Fj,List.getElem?_set_self hn,l2]
theorem pick {n:Nat} {many:Int} {sto:List SO} (hn:n<sto.length) (hs:StO sto) (hm:0<many) (hb:many.natAbs<fdl) :
    ∃ r sto',dj [.obj n,.int many] sto=some (.int r,sto')∧0≤r∧r<many∧StO sto'∧sto'.length=sto.length:=by
  have e:=List.getElem?_eq_getElem hn
  rcases hs _ (List.getElem_mem hn) with ⟨a,w,h⟩ | ⟨a,w,c,h⟩
  · rw [h] at e
    rw [a5k hn e]
    obtain ⟨r,sto',q1,q2,q3,q4,q5⟩:=a3f (many:=many) (by rw [List.length_set]; exact hn) (hs.set n (.inr ⟨a,w,a,rfl⟩)) hm hb (List.getElem?_set_self hn)
    exact ⟨r,sto',q1,q2,q3,q4,by rw [q5,List.length_set]⟩
  · rw [h] at e
    exact a3f hn hs hm hb e
end K
end
section
namespace C
open PySem
theorem Gb {g:G} {e:M T} {nv:Nat} {cap:List Slot} (hcap:cap.map Lg=cap) (P:List T→List T→List SO→Prop)
    (H:∀ t r acc sto,P (t::r) acc sto→∀ pre:List Slot,pre.length=nv→∃ pre' u sto',pre'.length=nv∧g t ⟨pre++cap,sto⟩=some ⟨pre'++cap,sto⟩∧e ⟨pre'++cap,sto⟩=some (u,⟨pre'++cap,sto'⟩)∧P r (acc++[u]) sto') :
    ∀ (ts acc:List T) (pre:List Slot) (sto:List SO),pre.length=nv→acc.length+ts.length≤lim→P ts acc sto →
      ∃ us s',vq g Cr e ts ⟨pre++cap,sto⟩ acc=some (us,s')∧P [] us s'.sto
  | [],acc,pre,sto,hp,hl,p=>⟨acc,⟨pre++cap,sto⟩,by simp [vq],p⟩
  | t::r,acc,pre,sto,hp,hl,p=>by
    obtain ⟨pre',u,sto',p1,p2,p3,p4⟩:=H t r acc sto p pre hp
    have hlen:acc.length<lim:=by simp only [List.length_cons] at hl; omega
    obtain ⟨us,s',q1,q2⟩:=Gb hcap P H r (acc++[u]) (pre'.map Lg) sto' (by simpa using p1) (by simp only [List.length_cons,List.length_append,List.length_nil] at hl ⊢; omega) p4
    refine ⟨us,s',?_,q2⟩
    rw [vq,p2]
    dsimp only [Cr]
    rw [p3]
    dsimp only
    rw [if_pos hlen,j8]
    dsimp only
    rw [List.map_append,hcap,q1]
theorem Gf {g:G} {e:M T} {nv:Nat} {ci:List Nat} {it:M (List T)} {s:Sta} {r:Option (T × Sta)} (hF:v7 nv ci g it Cr e s=r) (ts:List T) (s1:Sta) (env cap:List Slot) (P:List T→List T→List SO→Prop) (hit:it s=some (ts,s1)) (henv:j6 ci s1.env=env) (hci:ci.map (fun i=>(env[i]?).getD none)=cap) (hcap:cap.map Lg=cap) (hl:ts.length≤lim) (p:P ts [] s1.sto)
    (H:∀ t r acc sto,P (t::r) acc sto→∀ pre:List Slot,pre.length=nv→∃ pre' u sto',pre'.length=nv∧g t ⟨pre++cap,sto⟩=some ⟨pre'++cap,sto⟩∧e ⟨pre'++cap,sto⟩=some (u,⟨pre'++cap,sto'⟩)∧P r (acc++[u]) sto') :
    ∃ us sto',r=some (.lst us,⟨env,sto'⟩)∧P [] us sto':=by
  obtain ⟨us,s',q1,q2⟩:=Gb hcap P H ts [] (List.replicate nv none) s1.sto (by simp) (by simpa using hl) p
  refine ⟨us,s'.sto,?_,q2⟩
  rw [← hF]
  unfold v7
  rw [hit]
  dsimp only
  rw [henv,hci,q1]
end C
namespace K
open C PySem
def qs (n:Nat):Str:=⟨((List.replicate n ("q" : Str).cps.toList).flatten).toArray⟩
theorem a2l {j:Int} (h0:0≤j) (h1:j≤1000):Hu (.str "q") (.int j)=some (.str (qs j.toNat)):=by
  have hl:Str.length ("q" : Str)≤100:=by decide +kernel
  simp only [Hu]
  rw [if_pos ⟨h0,h1,hl⟩]; rfl
def lt1 (i:Nat):Str:=⟨#[("abcdefghij" : Str).cps.toList.getD i 0]⟩
theorem a2a {i:Nat} (h:i<10):cu (.str "abcdefghij") (.int (i:Int))=some (.str (lt1 i)):=by
  match i,h with
  | 0,_=>rfl
  | 1,_=>rfl
  | 2,_=>rfl
  | 3,_=>rfl
  | 4,_=>rfl
  | 5,_=>rfl
  | 6,_=>rfl
  | 7,_=>rfl
  | 8,_=>rfl
  | 9,_=>rfl
def nm (p i q:Nat):Str:=qs p++lt1 i++qs q
def okN (x:Str):Prop:=okS x∧x.length<40
theorem a5y:∀ p,p<8→∀ i,i<10→∀ q,q<8→okN (nm p i q)∧(qs p).length+(lt1 i).length<20∧(qs p++lt1 i).length+(qs q).length<40:=by
  unfold okN okS
  decide +kernel
def wd (i:Nat):Str:=(["b","ab","abc","abcd","a","ba","aab","b1","bab","ab1"]:List Str).getD i "b"
theorem a66:∀ i,i<10→okN (wd i):=by
  unfold okN okS
  decide +kernel
theorem a5l {i:Nat} (h:i<10):cu (.lst [.str "b",.str "ab",.str "abc",.str "abcd",.str "a",.str "ba",.str "aab",.str "b1",.str "bab",.str "ab1"]) (.int (i:Int))=some (.str (wd i)):=by
  match i,h with
  | 0,_=>rfl
  | 1,_=>rfl
  | 2,_=>rfl
  | 3,_=>rfl
  | 4,_=>rfl
  | 5,_=>rfl
  | 6,_=>rfl
  | 7,_=>rfl
  | 8,_=>rfl
  | 9,_=>rfl
def nameOf (c k:Int):Str:=if c / 640%4=1 then wd (k%10).toNat else nm (c / 8%(1+c%8)).toNat ((3 * k+c / 64)%10).toNat (c%8 - c / 8%(1+c%8)).toNat
theorem name {c k:Int} {sto:List SO}:iw [.int c,.int k] sto=some (.str (nameOf c k),sto)∧okN (nameOf c k):=by
  by_cases h4:c / 640%4=1
  · obtain ⟨i,hi,ei⟩:∃ i:Nat,i<10∧k%10=(i:Int):=⟨(k%10).toNat,by omega,by omega⟩
    have en:nameOf c k=wd i:=by unfold nameOf; rw [if_pos h4,ei]; rfl
    rw [en]
    refine ⟨?_,a66 i hi⟩
    simp! [iw,j7,h4,ei,a5l hi]
  · obtain ⟨z,hz,ez⟩:∃ z:Nat,z<8∧c%8=(z:Int):=⟨(c%8).toNat,by omega,by omega⟩
    have hs:(0:Int)<1+(z:Int):=by omega
    have p0:=Int.emod_nonneg (c / 8) (show (1+(z:Int))≠0 by omega)
    have p1:=Int.emod_lt_of_pos (c / 8) hs
    obtain ⟨p,ep⟩:∃ p:Nat,c / 8%(1+(z:Int))=(p:Int):=⟨(c / 8%(1+(z:Int))).toNat,by omega⟩
    have hp:p≤z:=by omega
    obtain ⟨i,hi,ei⟩:∃ i:Nat,i<10∧(3 * k+c / 64)%10=(i:Int):=⟨((3 * k+c / 64)%10).toNat,by omega,by omega⟩
    obtain ⟨o1,o2,o3⟩:=a5y p (by omega) i hi (z - p) (by omega)
    have en:nameOf c k=nm p i (z - p):=by
      unfold nameOf
      rw [if_neg h4,ez,ep,ei]
      congr 1
      omega
    rw [en]
    refine ⟨?_,o1⟩
    have hb:(c / 640%4==1)=false:=beq_eq_false_iff_ne.mpr h4
    have m1:=a2l (j:=(p:Int)) (by omega) (by omega)
    have m2:=a2l (j:=(z:Int) - (p:Int)) (by omega) (by omega)
    rw [Int.toNat_natCast] at m1
    rw [show ((z:Int) - (p:Int)).toNat=z - p by omega] at m2
    have b3:G4 3=true:=by decide
    have mi:Hu (.int 3) (.int k)=some (.int (3 * k)):=by simp [Hu,b3]
    have l1:(qs p).length+(lt1 i).length<lim:=by show _<1000000; omega
    have l2:(qs p++lt1 i).length+(qs (z - p)).length<lim:=by show _<1000000; omega
    simp! [iw,j7,hb,ez,hs,ep,m1,mi,ei,a2a hi,l1,show 1+(z:Int) - 1 - (p:Int)=(z:Int) - (p:Int) by omega,m2,l2,nm]
theorem Zr (n:Nat):(qs n).cps.toList=List.replicate n 113:=by
  have e:("q" : Str).cps.toList=[113]:=by decide +kernel
  unfold qs
  rw [e]
  simp only
  induction n with
  | zero=>rfl
  | succ n ih=>simp [List.replicate_succ] at ih ⊢
def ltc (i:Nat):Nat:=("abcdefghij" : Str).cps.toList.getD i 0
theorem a1e:∀ i,i<10→∀ j,j<10→ltc i=ltc j→i=j:=by decide +kernel
theorem a3j:∀ i,i<10→∀ j,j<10→wd i=wd j→i=j:=by decide +kernel
theorem a2e {p q i j:Nat} (hi:i<10) (hj:j<10) (h:nm p i q=nm p j q):i=j:=by
  have e:=congrArg (fun x:Str=>x.cps.toList[p]?) h
  have at1:∀ k,(nm p k q).cps.toList[p]? = some (ltc k):=fun k=>by
    have:(nm p k q).cps.toList=(qs p).cps.toList++[ltc k]++(qs q).cps.toList:=by
      show ((qs p).cps ++ #[ltc k]++(qs q).cps).toList=_
      simp
    rw [this,Zr]
    simp
  simp only [at1] at e
  exact a1e i hi j hj (Option.some.inj e)
theorem Ci {c:Int} {i j:Int} (hi:0≤i∧i<10) (hj:0≤j∧j<10) (h:nameOf c i=nameOf c j):i=j:=by
  unfold nameOf at h
  by_cases h1:c / 640%4=1
  · rw [if_pos h1,if_pos h1] at h
    have:=a3j _ (by omega) _ (by omega) h
    omega
  rw [if_neg h1,if_neg h1] at h
  have:=a2e (by omega) (by omega) h
  omega
theorem Ph (c:Int) (a n:Nat) (h:a+n≤10):((List.range n).map fun (k:Nat)=>nameOf c ((a:Int)+(k:Int))).Nodup:=by
  refine List.Pairwise.map _ ?_ (List.Pairwise.and_mem.mp List.nodup_range)
  intro i j z8 e
  obtain ⟨hi,hj,hij⟩:=z8
  have hi':=List.mem_range.mp hi -- here
  have hj':=List.mem_range.mp hj -- here
  have:=Ci (by omega) (by omega) e
  exact hij (by omega)
abbrev Sm:=Int × List (Str × Int)
def pT (p:Str × Int):T:=.tup [.str p.1,.int p.2]
def smT (s:Sm):T:=.tup [.int s.1,.tup (s.2.map pT)]
def Yt (N:List Str) (s:Sm):Prop:=s.2.length≤N.length∧∀ p∈s.2,p.1∈N∧-4<p.2∧p.2<4
def a5e (N:List Str):Prop:=N.length≤6∧∀ x∈N,okN x
theorem strs_map:∀ l:List Str,Fp (l.map T.str)=some l
  | []=>rfl
  | x::l=>by simp [Fp,strs_map l]
theorem sorted_strs {l:List Str} (h:l.length<64):yr [.lst (l.map T.str)]=some (.lst ((uf l).map T.str)):=by
  simp [yr,h,strs_map]
theorem V7 {j:Int} (h0:0≤j) (h1:j<1000000000000000000000000000000000):j.natAbs<fdl:=Nat.lt_trans (show j.natAbs<1000000000000000000000000000000000 by omega) (by decide)
structure Dn (sto:List SO) (sto':List SO):Prop where
  ok:StO sto'
  len:sto.length≤sto'.length
theorem Dm {n:Nat} {many:Int} {sto:List SO} (hn:n<sto.length) (hs:StO sto) (hm:0<many) (hb:many<1000000000000000000000000000000000) :
    ∃ (r:Int) (sto':List SO),dj [.obj n,.int many] sto=some (.int r,sto')∧0≤r∧r<many∧StO sto'∧sto'.length=sto.length:=pick hn hs hm (V7 (by omega) hb)
end K
end
section
namespace C
open PySem
theorem p1 (pre:List Slot) (h:pre.length=1):∃ a,pre=[a]:=by
  match pre,h with
  | [a],_=>exact ⟨a,rfl⟩
theorem p2 (pre:List Slot) (h:pre.length=2):∃ a b,pre=[a,b]:=by
  match pre,h with
  | [a,b],_=>exact ⟨a,b,rfl⟩
end C
namespace K
open C PySem
abbrev Hd:=Str × Int
def hT (h:Hd):T:=.tup [.str h.1,.int h.2]
def a2g (H:List Hd):Prop:=1≤H.length∧H.length≤3∧∀ h∈H,okN h.1∧1≤h.2∧h.2≤5
inductive Rem where
  | most (s:Sm) | rest (s:Sm) (m:Int) | pl (h:Str) (p:Int) | all (l:List Rem) | any (l:List Rem) | no (r:Rem)
mutual
def Sy:Rem→T
  | .most s=>.tup [.str "most",smT s]
  | .rest s m=>.tup [.str "rest",smT s,.int m]
  | .pl h p=>.tup [.str "at",.str h,.int p]
  | .all l=>.tup [.str "and",.tup (Va l)]
  | .any l=>.tup [.str "or",.tup (Va l)]
  | .no r=>.tup [.str "not",Sy r]
def Va:List Rem→List T
  | []=>[]
  | r::l=>Sy r::Va l
end
theorem Fg:∀ l:List Rem,Va l=l.map Sy
  | []=>rfl
  | r::l=>by rw [Va,Fg l]; rfl
inductive OkR (N:List Str) (H:List Hd):Nat→Rem→Prop where
  | most {d:Nat} {s:Sm}:Yt N s→OkR N H d (.most s)
  | rest {d:Nat} {s:Sm} {m:Int}:Yt N s→2≤m→m≤12→OkR N H d (.rest s m)
  | pl {d:Nat} {h:Hd} {p:Int}:h∈H→0≤p→p<h.2→OkR N H d (.pl h.1 p)
  | all {d:Nat} {l:List Rem}:l.length≤5→(∀ r∈l,OkR N H d r)→OkR N H (d+1) (.all l)
  | any {d:Nat} {l:List Rem}:l.length≤5→(∀ r∈l,OkR N H d r)→OkR N H (d+1) (.any l)
  | no {d:Nat} {r:Rem}:OkR N H d r→OkR N H (d+1) (.no r)
structure Bx where
  nm:Str
  ow:Str
  lo:Int
  hi:Int
  st:Int
def bxT (b:Bx):T:=.tup [.str b.nm,.str b.ow,.int b.lo,.int b.hi,.int b.st]
structure Sp where
  hand:Str
  here:Int
  guard:Rem
  sets:List (Str × Sm)
  there:Int
def seT (p:Str × Sm):T:=.tup [.str p.1,smT p.2]
def spT (s:Sp):T:=.tup [.str s.hand,.int s.here,Sy s.guard,.tup (s.sets.map seT),.int s.there]
structure OkP (N:List Str) (H:List Hd) (s:Sp):Prop where
  hd:okN s.hand
  mem:s.hand∈H.map (·.1)
  gd:OkR N H 3 s.guard
  len:s.sets.length≤2
  set:∀ p∈s.sets,p.1∈N∧Yt N p.2
def prT (bs:List Bx) (H:List Hd) (ss:List Sp) (lk:List Str):T:=.tup [.lst (bs.map bxT),.lst (H.map hT),.lst (ss.map spT),.tup (lk.map .str)]
structure a7c (bs:List Bx) (H:List Hd) (ss:List Sp):Prop where
  ndB:(bs.map (·.nm)).Nodup
  ndH:(H.map (·.1)).Nodup
  ns:a5e (bs.map (·.nm))
  hs:a2g H
  ss:∀ s∈ss,OkP (bs.map (·.nm)) H s
end K
end
section
namespace C
open PySem
theorem Ws {k:Key} {t:T} {D:List (Key × T)} (h:k∉D.map (·.1)):a0a k t D=D++[(k,t)]:=by
  unfold a0a
  rw [if_neg]
  intro z
  obtain ⟨p,hp,e⟩:=List.any_eq_true.mp z
  exact h (List.mem_map.mpr ⟨p,hp,by simpa using e⟩)
end C
namespace K
open C PySem
theorem Od {a b:Bool}:eqO (.bl a) (.bl b)=some (.bl (a==b)):=by simp [eqO,eqT,eqD,dat,PyData.depth,PyData.eqv]
abbrev nB (bs:List Bx):List Str:=bs.map (·.nm)
def eT (p:Sp × Nat):T:=.tup [.int (p.2:Int),spT p.1]
theorem Fb {α β:Type} (f:α→β):∀ (l:List α) (n:Nat),(l.map f).zipIdx n=(l.zipIdx n).map fun p=>(f p.1,p.2)
  | [],n=>rfl
  | a::l,n=>by rw [List.map_cons,List.zipIdx_cons,List.zipIdx_cons,List.map_cons,Fb f l]
theorem Xr (ss:List Sp):Jg (ss.map spT)=ss.zipIdx.map eT:=by
  unfold Jg
  rw [Fb,List.map_map]; rfl
theorem Lf {α:Type} {p:α × Nat}:∀ {l:List α} {n:Nat},p∈l.zipIdx n→n≤p.2∧l[p.2 - n]? = some p.1
  | [],n,h=>by cases h
  | a::l,n,h=>by
    rw [List.zipIdx_cons] at h
    rcases List.mem_cons.mp h with rfl | h -- here
    · exact ⟨Nat.le_refl _,by simp⟩
    · obtain ⟨h1,h2⟩:=Lf h
      refine ⟨by omega,?_⟩
      rw [show p.2 - n=(p.2 - (n+1))+1 by omega]
      simpa using h2
end K
end
section
namespace C
open PySem
theorem Rr {x:Str} (hx:okS x):∀ m:List Str,(∀ y∈m,okS y)→inL (.str x) (m.map T.str)=some (decide (x∈m))
  | [],_=>by simp [inL]
  | y::m,h=>by
    have ih:=Rr hx m fun z hz=>h z (List.mem_cons_of_mem _ hz)
    rw [List.map_cons,inL,a1f (h y List.mem_cons_self) hx]
    dsimp only
    rw [ih,Option.map_some]
    congr 1
    rw [Bool.eq_iff_iff]
    simp only [Bool.or_eq_true,beq_iff_eq,decide_eq_true_eq,List.mem_cons]
    exact ⟨fun z=>z.imp_left Eq.symm,fun z=>z.imp_left Eq.symm⟩
theorem U5 {x:Str} (h:okS x):(dat (.str x)).isSome=true:=by unfold okS at h; simp [dat,h]
theorem in_sl {x:Str} {m:List Str} (hx:okS x) (h:∀ y∈m,okS y):inT (.str x) (.lst (m.map T.str))=some (.bl (decide (x∈m))):=by
  simp [inT,U5 hx,Rr hx m h]
theorem Zn {x:Str} {m:List Str} (hx:okS x) (h:∀ y∈m,okS y):inT (.str x) (.tup (m.map T.str))=some (.bl (decide (x∈m))):=by
  simp [inT,U5 hx,Rr hx m h]
theorem Hr:∀ l:List Str,strsOf (l.map T.str)=some l
  | []=>rfl
  | x::l=>by rw [List.map_cons,strsOf,Hr l]; rfl
theorem Mp {x:Str}:∀ l:List Str,(G8 x l).Perm (x::l)
  | []=>.refl _
  | y::r=>by
    unfold G8
    split
    · exact .refl _
    · exact (List.Perm.cons y (Mp r)).trans (.swap x y r)
theorem Jq:∀ (l acc:List Str),(l.foldl (fun acc x=>G8 x acc) acc).Perm (l++acc)
  | [],acc=>.refl _
  | x::l,acc=>by
    rw [List.foldl_cons]
    refine (Jq l (G8 x acc)).trans ?_
    refine ((Mp acc).append_left l).trans ?_
    exact List.perm_middle
theorem Yg (l:List Str):(uf l).Perm l:=by
  have:=Jq l []
  rw [List.append_nil] at this
  exact this
end C
namespace K
open C PySem
def hbS (lk:List Str):List (Str × Sm)→List Str→Option (List Str)
  | [],L=>some L
  | p::r,L=>if p.1∈lk then (if p.2.1≠0 then (if p.1∈L then none else hbS lk r (L++[p.1])) else (if p.1∈L then hbS lk r (L.erase p.1) else none)) else hbS lk r L
def hb (lk:List Str) (s:Sp) (L:List Str):Option (List Str):=(hbS lk s.sets L).map uf
def hB:SX:=xIf (fu (mOp inT (bf 4) (mOp cu (bf 0) (au (.int 3)))))
  (tu (lx (qj 6 (mOp neO (mOp cu (bf 5) (au (.int 0))) (au (.int 0)))))
  (tu (xIf (fu (mOp eqO (bf 6) (u9 inT 3 (bf 4))))
  (Ai (bf 1))
  (lx wz))
  (lx (sIf (fu (bf 6))
  (uc 3 (bf 4))
  (Ce 3 (bf 4))))))
  (lx wz)
section
variable {bs:List Bx} {lk:List Str} {H:List Hd} {ss:List Sp} {sto:List SO} {s:Sp}
theorem a5m {n:Nat} {hl:T} {p:Str × Sm} {L:List Str} {o6:Slot} (hp:okS p.1) (hk:∀ y∈lk,okS y) (hL:∀ y∈L,okS y) (ll:L.length<60):∃ p6:Slot,
    hB ⟨[some (prT bs H ss lk,false),some (.int (n:Int),false),some (hl,false),some (.lst (L.map T.str),true),some (.str p.1,false),some (smT p.2,false),o6],sto⟩=(match hbS lk [p] L with
      | some L'=>some (.inl .next,⟨[some (prT bs H ss lk,false),some (.int (n:Int),false),some (hl,false),some (.lst (L'.map T.str),true),some (.str p.1,false),some (smT p.2,false),p6],sto⟩)
      | none=>some (.inr (.int (n:Int)),⟨[some (prT bs H ss lk,false),some (.int (n:Int),false),some (hl,false),some (.lst (L.map T.str),true),some (.str p.1,false),some (smT p.2,false),p6],sto⟩)):=by
  have i3:cu (prT bs H ss lk) (.int 3)=some (.tup (lk.map T.str)):=Jw
  have i0:cu (smT p.2) (.int 0)=some (.int p.2.1):=Gx
  have e1:=Zn hp hk
  have e2:=in_sl hp hL
  have al:L.length<lim:=by show _<1000000; omega
  unfold hB
  by_cases h1:p.1∈lk
  · have f1:decide (p.1∈lk)=true:=decide_eq_true h1
    rw [f1] at e1
    refine ⟨some (.bl (!(p.2.1==0)),false),?_⟩
    by_cases h2:p.2.1=0
    · by_cases h3:p.1∈L
      · have f3:decide (p.1∈L)=true:=decide_eq_true h3
        rw [f3] at e2
        have b2:(p.2.1==0)=true:=by rw [h2]; rfl
        simp only [hbS,if_pos h1,h2,ne_eq,not_true_eq_false,if_false,if_pos h3]
        simp! [xIf,tu,lx,i3,i0,e1,e2,J3,h2,u9,Od,Ce,Hr,h3]
      · have f3:decide (p.1∈L)=false:=decide_eq_false h3
        rw [f3] at e2
        simp only [hbS,if_pos h1,h2,ne_eq,not_true_eq_false,if_false,if_neg h3]
        simp! [xIf,tu,lx,Ai,i3,i0,e1,e2,J3,h2,u9,Od]
    · have b2:(p.2.1==0)=false:=beq_eq_false_iff_ne.mpr h2
      by_cases h3:p.1∈L
      · have f3:decide (p.1∈L)=true:=decide_eq_true h3
        rw [f3] at e2
        simp only [hbS,if_pos h1,ne_eq,h2,not_false_eq_true,if_true,if_pos h3]
        simp! [xIf,tu,lx,Ai,i3,i0,e1,e2,J3,b2,u9,Od]
      · have f3:decide (p.1∈L)=false:=decide_eq_false h3
        rw [f3] at e2
        simp only [hbS,if_pos h1,ne_eq,h2,not_false_eq_true,if_true,if_neg h3]
        simp! [xIf,tu,lx,i3,i0,e1,e2,J3,b2,u9,Od,al]
  · have f1:decide (p.1∈lk)=false:=decide_eq_false h1
    rw [f1] at e1
    refine ⟨o6,?_⟩
    simp only [hbS,if_neg h1]
    simp! [xIf,lx,i3,e1]
theorem Oo {p:Str × Sm} {r:List (Str × Sm)} {L:List Str}:hbS lk (p::r) L=(hbS lk [p] L).bind (hbS lk r):=by
  simp only [hbS]
  split
  · split
    · split
      · rfl
      · rfl
    · split
      · rfl
      · rfl
  · rfl
theorem Tt {p:Str × Sm} {L L':List Str} (h:hbS lk [p] L=some L'):(∀ y∈L',y=p.1∨y∈L)∧L'.length≤L.length+1∧(L.Nodup→L'.Nodup):=by
  simp only [hbS] at h
  split at h
  · split at h
    · split at h
      · cases h
      · rename_i h3
        cases h
        refine ⟨fun y hy=>?_,by simp,fun nd=>?_⟩
        · rcases List.mem_append.mp hy with z | z
          · exact .inr z
          · exact .inl (List.mem_singleton.mp z)
        · refine List.nodup_append.mpr ⟨nd,by simp,fun a ha b hb e=>?_⟩
          rw [List.mem_singleton.mp hb] at e
          exact h3 (e ▸ ha)
    · split at h
      · cases h
        exact ⟨fun y hy=>.inr (List.mem_of_mem_erase hy),Nat.le_succ_of_le List.length_erase_le,fun nd=>nd.erase _⟩
      · cases h
  · cases h
    exact ⟨fun y hy=>.inr hy,Nat.le_succ _,fun nd=>nd⟩
abbrev e7 (bs:List Bx) (H:List Hd) (ss:List Sp) (lk:List Str) (n:Nat) (hl:T) (L:List Str) (r:List Slot):List Slot:=some (prT bs H ss lk,false)::some (.int (n:Int),false)::some (hl,false)::some (.lst (L.map T.str),true)::r
theorem Sh {n:Nat} {hl:T} (hk:∀ y∈lk,okS y):∀ (l:List (Str × Sm)) (L:List Str) (o4 o5 o6:Slot),(∀ p∈l,okS p.1)→(∀ y∈L,okS y)→L.length+l.length<60 →
    (∀ L',hbS lk l L=some L'→∃ p4 p5 p6:Slot,ug (wu [4,5]) hB (l.map seT) ⟨e7 bs H ss lk n hl L [o4,o5,o6],sto⟩=some (.inl .next,⟨e7 bs H ss lk n hl L' [p4,p5,p6],sto⟩)) ∧
    (hbS lk l L=none→∃ st',ug (wu [4,5]) hB (l.map seT) ⟨e7 bs H ss lk n hl L [o4,o5,o6],sto⟩=some (.inr (.int (n:Int)),st')∧st'.sto=sto)
  | [],L,o4,o5,o6,_,_,_=>⟨fun L' e=>by cases e; exact ⟨o4,o5,o6,by simp [ug]⟩,fun e=>nomatch e⟩
  | p::l,L,o4,o5,o6,hp,hL,hn=>by
    rw [List.length_cons] at hn
    obtain ⟨q6,w⟩:=a5m (bs:=bs) (H:=H) (ss:=ss) (sto:=sto) (n:=n) (hl:=hl) (o6:=o6) (hp p List.mem_cons_self) hk hL (by omega)
    have g:wu [4,5] (seT p) ⟨e7 bs H ss lk n hl L [o4,o5,o6],sto⟩=some ⟨e7 bs H ss lk n hl L [some (.str p.1,false),some (smT p.2,false),o6],sto⟩:=Mj
    rw [Oo]
    cases hx:hbS lk [p] L with
    | none =>
      rw [hx] at w
      dsimp only at w
      refine ⟨fun L' e=>(nomatch e),fun _=>⟨⟨e7 bs H ss lk n hl L [some (.str p.1,false),some (smT p.2,false),q6],sto⟩,?_,rfl⟩⟩
      rw [List.map_cons,ug]
      dsimp only
      rw [g]
      dsimp only
      rw [w]
    | some L1 =>
      rw [hx] at w
      dsimp only at w
      obtain ⟨m1,m2,_⟩:=Tt hx
      rw [Option.bind_some,List.map_cons,ug]
      dsimp only
      rw [g]
      dsimp only
      rw [w]
      dsimp only
      exact Sh hk l L1 _ _ _ (fun q hq=>hp q (List.mem_cons_of_mem _ hq)) (fun y hy=>(m1 y hy).elim (fun e=>e ▸ hp p List.mem_cons_self) (hL y)) (by omega)
theorem Ly:∀ {l:List (Str × Sm)} {L L':List Str},hbS lk l L=some L'→L'.length≤L.length+l.length∧(∀ y∈L',y∈l.map (·.1)∨y∈L)∧(L.Nodup→L'.Nodup)
  | [],L,L',h=>by cases h; exact ⟨by simp,fun y hy=>.inr hy,id⟩
  | p::l,L,L',h=>by
    rw [Oo] at h
    obtain ⟨L1,h1,h2⟩:=Option.bind_eq_some_iff.mp h
    obtain ⟨a1,a2,a3⟩:=Tt h1
    obtain ⟨b1,b2,b3⟩:=Ly h2
    refine ⟨by rw [List.length_cons]; omega,fun y hy=>?_,fun nd=>b3 (a3 nd)⟩
    rcases b2 y hy with z | z
    · exact .inl (List.mem_cons_of_mem _ z)
    · rcases a1 y z with rfl | z
      · exact .inl (.head _)
      · exact .inr z
theorem Nk {n:Nat} (hn:n<ss.length) {L:List Str} (hk:∀ y∈lk,okS y) (hp:∀ p∈ss[n].sets,okS p.1) (hL:∀ y∈L,okS y) (hl:L.length+ss[n].sets.length<60) :
    iy [prT bs H ss lk,.int (n:Int),.tup (L.map T.str)] sto=(match hb lk ss[n] L with
      | some L'=>some (.inl (.tup (L'.map T.str)),sto)
      | none=>some (.inr (.int (n:Int)),sto)):=by
  have i2:cu (prT bs H ss lk) (.int 2)=some (.lst (ss.map spT)):=Kw
  have a1:=Dr spT ss hn
  have i3:cu (spT ss[n]) (.int 3)=some (.tup (ss[n].sets.map seT)):=Jw
  have sl:ss[n].sets.length<lim:=by show _<1000000; omega
  have ll:L.length<lim:=by show _<1000000; omega
  obtain ⟨w1,w2⟩:=Sh (bs:=bs) (H:=H) (ss:=ss) (sto:=sto) (n:=n) (hl:=.tup (L.map T.str)) hk ss[n].sets L none none none hp hL hl
  have hd:∀ R:SX,tu (lx (sNew 3 (gw uz (aq (bf 2) fj)))) R ⟨[some (prT bs H ss lk,false),some (.int (n:Int),false),some (.tup (L.map T.str),false),none,none,none,none],sto⟩=R ⟨e7 bs H ss lk n (.tup (L.map T.str)) L [none,none,none],sto⟩:=fun R=>by
    simp! [tu,lx,uz]
  have it:Ae (mOp cu (mOp cu (mOp cu (bf 0) (au (.int 2))) (bf 1)) (au (.int 3))) ⟨e7 bs H ss lk n (.tup (L.map T.str)) L [none,none,none],sto⟩=some (ss[n].sets.map seT,⟨e7 bs H ss lk n (.tup (L.map T.str)) L [none,none,none],sto⟩):=by
    simp! [i2,a1,i3,sl]
  have X:iy [prT bs H ss lk,.int (n:Int),.tup (L.map T.str)] sto=(match tu (Pa (wu [4,5]) (Ae (mOp cu (mOp cu (mOp cu (bf 0) (au (.int 2))) (bf 1)) (au (.int 3)))) hB) (lx (uy (gw oh (aq (gw yr (aq (bf 3) fj)) fj)))) ⟨e7 bs H ss lk n (.tup (L.map T.str)) L [none,none,none],sto⟩ with
      | some (.inl (.ret t),s)=>some (.inl t,s.sto)
      | some (.inl .next,s)=>some (.inl .non,s.sto)
      | some (.inr t,s)=>some (.inr t,s.sto)
      | _=>none):=by
    rw [← hd (tu (Pa (wu [4,5]) (Ae (mOp cu (mOp cu (mOp cu (bf 0) (au (.int 2))) (bf 1)) (au (.int 3)))) hB) (lx (uy (gw oh (aq (gw yr (aq (bf 3) fj)) fj)))))]; rfl
  rw [X]
  unfold hb tu Pa
  rw [it]
  dsimp only
  cases hx:hbS lk ss[n].sets L with
  | none =>
    obtain ⟨st',e1,e2⟩:=w2 hx
    rw [e1]
    dsimp only
    rw [e2]
    rfl
  | some L' =>
    obtain ⟨p4,p5,p6,e1⟩:=w1 L' hx
    rw [e1]
    have l2:L'.length<64:=by have:=(Ly hx).1; omega
    dsimp only [Option.map_some]
    simp! [lx,sorted_strs l2,oh]
end
end K
end
section
namespace C
open PySem
theorem Ii:∀ L:List Str,(∀ y∈L,okS y)→Ec (L.map T.str)=some (L.map PyData.str)
  | [],_=>rfl
  | x::L,h=>by
    have hx:=h x List.mem_cons_self
    unfold okS at hx
    rw [List.map_cons,Ec,dat,if_pos hx]
    dsimp only
    rw [Ii L fun y hy=>h y (List.mem_cons_of_mem _ hy)]
    rfl
theorem Gk:∀ L:List Str,(PyData.tuple (L.map PyData.str)).depth≤40
  | []=>by decide
  | x::L=>by
    have:=Gk L
    simp [PyData.depth,PyData.depthAll] at this ⊢
    omega
theorem Pj:∀ L M:List Str,PyData.eqvAll (L.map PyData.str) (M.map PyData.str)=decide (L=M)
  | [],[]=>rfl
  | [],_::_=>rfl
  | _::_,[]=>rfl
  | x::L,y::M=>by
    rw [List.map_cons,List.map_cons,PyData.eqvAll,PyData.eqv,Pj L M,Bool.eq_iff_iff]
    simp
theorem Oc {L M:List Str} (hL:∀ y∈L,okS y) (hM:∀ y∈M,okS y):neO (.tup (L.map T.str)) (.tup (M.map T.str))=some (.bl (!decide (L=M))):=by
  have d1:dat (.tup (L.map T.str))=some (.tuple (L.map PyData.str)):=by rw [dat,Ii L hL]; rfl
  have d2:dat (.tup (M.map T.str))=some (.tuple (M.map PyData.str)):=by rw [dat,Ii M hM]; rfl
  have e:eqT (.tup (L.map T.str)) (.tup (M.map T.str))=some (decide (L=M)):=by
    show eqD _ _=_
    unfold eqD
    rw [d1]
    dsimp only
    rw [d2]
    dsimp only
    rw [if_pos (Gk L),PyData.eqv,Pj]
  simp [neO,e]
theorem a2b:∀ (n:Nat) (l:List Int),l.Nodup→(∀ x∈l,0≤x∧x<(n:Int))→l.length≤n
  | 0,l,_,h=>by
    cases l with
    | nil=>exact Nat.le_refl _
    | cons a r=>have:=h a List.mem_cons_self; omega
  | n+1,l,nd,h=>by
    have ih:=a2b n (l.erase (n:Int)) (nd.erase _) fun x hx=>by
      have h1:=h x (List.mem_of_mem_erase hx)
      have h2:x≠(n:Int):=fun e=>by
        rw [e] at hx
        exact (List.Nodup.not_mem_erase nd) hx
      omega
    have:=List.length_erase_le (a:=(n:Int)) (l:=l)
    have h3:l.length≤(l.erase (n:Int)).length+1:=by rw [List.length_erase]; split <;> omega
    omega
theorem sub_le:∀ (lk L:List Str),L.Nodup→(∀ x∈L,x∈lk)→L.length≤lk.length
  | [],L,_,h=>by
    cases L with
    | nil=>exact Nat.le_refl _
    | cons a r=>cases h a List.mem_cons_self
  | k::lk,L,nd,h=>by
    have ih:=sub_le lk (L.erase k) (nd.erase _) fun x hx=>by
      have h1:=h x (List.mem_of_mem_erase hx)
      have h2:x≠k:=fun e=>by
        rw [e] at hx
        exact (List.Nodup.not_mem_erase nd) hx
      exact (List.mem_cons.mp h1).resolve_left h2
    have h3:L.length≤(L.erase k).length+1:=by rw [List.length_erase]; split <;> omega
    rw [List.length_cons]
    omega
end C
namespace K
open C PySem
abbrev Tb:=List (Int × List Str)
def dT (D:Tb):List (Key × T):=D.map fun p=>(.inl p.1,.tup (p.2.map T.str))
def xr (D:Tb) (k:Int):Option (List Str):=(D.find? fun p=>p.1==k).map (·.2)
theorem Pk (k:Int):∀ D:Tb,J6 (.inl k) (dT D)=(xr D k).map fun L=>.tup (L.map T.str)
  | []=>rfl
  | p::D=>by
    unfold dT xr
    rw [List.map_cons,J6,List.find?_cons]
    by_cases h:p.1=k
    · rw [if_pos (by rw [h]),show (p.1==k)=true from beq_iff_eq.mpr h]; rfl
    · rw [if_neg (fun e=>h (Sum.inl.inj e)),show (p.1==k)=false from beq_eq_false_iff_ne.mpr h]
      exact Pk k D
theorem Wy {k:Int} {D E:Tb} {L:List Str} (h:xr D k=some L):xr (D++E) k=some L:=by
  unfold xr at h ⊢
  obtain ⟨p,h1,h2⟩:=Option.map_eq_some_iff.mp h
  rw [List.find?_append,h1]
  simpa using h2
theorem Br {k:Int} {D:Tb} {L:List Str} (h:xr D k=some L):(k,L)∈D:=by
  unfold xr at h
  obtain ⟨p,h1,h2⟩:=Option.map_eq_some_iff.mp h
  have h3:=List.find?_some h1
  have h4:=List.mem_of_find?_eq_some h1
  have:p.1=k:=by simpa using h3
  rw [← this,← h2]; exact h4
theorem Fe {k:Int} {D:Tb} (h:xr D k=none):k∉D.map (·.1):=fun hm=>by
  obtain ⟨p,hp,e⟩:=List.mem_map.mp hm -- here
  unfold xr at h
  have:=List.find?_eq_none.mp (Option.map_eq_none_iff.mp h) p hp
  exact this (by simpa using e)
theorem M8 {k:Int} {L:List Str}:∀ {D:Tb},(D.map (·.1)).Nodup→(k,L)∈D→xr D k=some L
  | [],_,h=>nomatch h
  | p::D,nd,h=>by
    rw [List.map_cons] at nd
    obtain ⟨n1,n2⟩:=List.nodup_cons.mp nd -- here
    unfold xr
    rw [List.find?_cons]
    rcases List.mem_cons.mp h with rfl | h -- here
    · simp
    · have:p.1≠k:=fun e=>n1 (List.mem_map.mpr ⟨_,h,e.symm⟩)
      rw [show (p.1==k)=false from beq_eq_false_iff_ne.mpr this]
      exact M8 n2 h
theorem a0l {k:Int} {D:Tb} {L:List Str} (h:xr D k=none):a0a (.inl k) (.tup (L.map T.str)) (dT D)=dT (D++[(k,L)]):=by
  have hk:(Sum.inl k:Key)∉(dT D).map (·.1):=fun hm=>by
    obtain ⟨q,hq,e⟩:=List.mem_map.mp hm
    obtain ⟨p,hp,rfl⟩:=List.mem_map.mp hq -- here
    exact Fe h (List.mem_map.mpr ⟨p,hp,Sum.inl.inj e⟩)
  rw [Ws hk]
  unfold dT
  rw [List.map_append]
  rfl
structure Wf (lk:List Str) (P:Nat) (D:Tb):Prop where
  nd:(D.map (·.1)).Nodup
  at':∀ p∈D,0≤p.1∧p.1<(P:Int)∧p.2.Nodup∧∀ y∈p.2,y∈lk
theorem Wf.len {lk:List Str} {P:Nat} {D:Tb} (w:Wf lk P D):D.length≤P:=by
  have:=a2b P (D.map (·.1)) w.nd fun x hx=>by
    obtain ⟨p,hp,rfl⟩:=List.mem_map.mp hx
    exact ⟨(w.at' p hp).1,(w.at' p hp).2.1⟩
  rwa [List.length_map] at this
theorem Ny {lk:List Str}:∀ {l:List (Str × Sm)} {L L':List Str},hbS lk l L=some L'→∀ y∈L',y∈lk∨y∈L
  | [],L,L',h,y,hy=>by cases h; exact .inr hy
  | p::l,L,L',h,y,hy=>by
    simp only [hbS] at h
    split at h
    · rename_i hp
      split at h
      · split at h
        · cases h
        · rcases Ny h y hy with z | z
          · exact .inl z
          · rcases List.mem_append.mp z with z | z
            · exact .inr z
            · rw [List.mem_singleton.mp z]; exact .inl hp
      · split at h
        · exact (Ny h y hy).imp_right List.mem_of_mem_erase
        · cases h
    · exact Ny h y hy
theorem a2o {lk:List Str} {s:Sp} {L L':List Str} (h:hb lk s L=some L') (nd:L.Nodup) (hL:∀ y∈L,y∈lk):L'.Nodup∧∀ y∈L',y∈lk:=by
  unfold hb at h
  obtain ⟨M,h1,rfl⟩:=Option.map_eq_some_iff.mp h
  have p:=Yg M
  exact ⟨p.nodup_iff.mpr ((Ly h1).2.2 nd),fun y hy=>(Ny h1 y (p.mem_iff.mp hy)).elim id (hL y)⟩
end K
end
section
namespace K
open C PySem
structure OkK (ss:List Sp) (lk:List Str) (h:Str) (P:Nat):Prop where
  hh:okS h
  hk:∀ y∈lk,okS y
  ll:lk.length≤4
  st:∀ s∈ss,okS s.hand∧s.sets.length≤2∧(∀ p∈s.sets,okS p.1)∧(s.hand=h→0≤s.there∧s.there<(P:Int))
  sl:ss.length≤63
  P5:P≤5
def step1 (lk:List Str) (h:Str) (here:Int) (D:Tb) (s:Sp):Option Tb :=
  if s.hand=h∧s.here=here then (match hb lk s ((xr D here).getD []) with
    | none=>none
    | some L'=>match xr D s.there with
      | none=>some (D++[(s.there,L')])
      | some L2=>if L2=L' then some D else none) else some D
def kB:SX:=xIf (Hl (fu (mOp eqO (mOp cu (bf 7) (au (.int 0))) (bf 1))) (fu (mOp eqO (mOp cu (bf 7) (au (.int 1))) (bf 5))))
  (tu (Dc iy (aq (bf 0) (aq (bf 6) (aq (mj 2 (bf 5)) fj))) (Qz 8))
  (xIf (fu (u9 wg 2 (mOp cu (bf 7) (au (.int 4)))))
  (tu (lx (Cv 2 (mOp cu (bf 7) (au (.int 4))) (bf 8)))
  (lx (uc 3 (mOp cu (bf 7) (au (.int 4))))))
  (xIf (fu (mOp neO (mj 2 (mOp cu (bf 7) (au (.int 4)))) (bf 8)))
  (Ai (bf 6))
  (lx wz))))
  (lx wz)
def mT (D:Tb):List T:=D.map fun p=>.int p.1
section
variable {bs:List Bx} {lk:List Str} {H:List Hd} {ss:List Sp} {sto:List SO} {h:Str} {P:Nat}
abbrev e8 (bs:List Bx) (H:List Hd) (ss:List Sp) (lk:List Str) (h:Str) (D:Tb) (sp here:Int) (r:List Slot):List Slot :=
  some (prT bs H ss lk,false)::some (.str h,false)::some (.dic (dT D),true)::some (.lst (mT D),true)::some (.int sp,false)::some (.int here,false)::r
theorem a5i (ok:OkK ss lk h P) {n:Nat} (hn:n<ss.length) {D:Tb} {sp here:Int} {Lh:List Str} {o8:Slot} (wf:Wf lk P D) (hg:xr D here=some Lh) :
    (∃ D' E p8,step1 lk h here D ss[n]=some D'∧D'=D++E∧Wf lk P D'∧kB ⟨e8 bs H ss lk h D sp here [some (.int (n:Int),false),some (spT ss[n],false),o8],sto⟩=some (.inl .next,⟨e8 bs H ss lk h D' sp here [some (.int (n:Int),false),some (spT ss[n],false),p8],sto⟩)) ∨
    (step1 lk h here D ss[n]=none∧∃ st',kB ⟨e8 bs H ss lk h D sp here [some (.int (n:Int),false),some (spT ss[n],false),o8],sto⟩=some (.inr (.int (n:Int)),st')∧st'.sto=sto):=by
  obtain ⟨s1,s2,s3,s4⟩:=ok.st _ (List.getElem_mem hn)
  have i0:cu (spT ss[n]) (.int 0)=some (.str ss[n].hand):=Gx
  have i1:cu (spT ss[n]) (.int 1)=some (.int ss[n].here):=Om
  have i4:cu (spT ss[n]) (.int 4)=some (.int ss[n].there):=Ao (k:=4) rfl
  have eh:=Rt s1 ok.hh
  have wl:=wf.len
  have P5:=ok.P5
  have ll:=ok.ll
  have dl:(dT D).length<lim:=by unfold dT; rw [List.length_map]; show _<1000000; omega
  have ml:(mT D).length<lim:=by unfold mT; rw [List.length_map]; show _<1000000; omega
  have gd:J6 (.inl here) (dT D)=some (.tup (Lh.map T.str)):=by rw [Pk,hg]; rfl
  obtain ⟨_,_,nd,sub⟩:=wf.at' _ (Br hg)
  have l4:=sub_le lk Lh nd sub
  have hx:=Nk (bs:=bs) (H:=H) (sto:=sto) hn (L:=Lh) ok.hk s3 (fun y hy=>ok.hk y (sub y hy)) (by omega)
  have gt:J6 (.inl ss[n].there) (dT D)=(xr D ss[n].there).map fun L=>.tup (L.map T.str):=Pk _ D
  have ni:wg (.int ss[n].there) (.dic (dT D))=some (.bl (xr D ss[n].there).isNone):=by
    simp only [wg,inT,keyOf,Option.map_some,gt]
    cases xr D ss[n].there <;> rfl
  generalize hs:ss[n]=s at *
  have S0:step1 lk h here D s=(if s.hand=h∧s.here=here then (match hb lk s Lh with
    | none=>none
    | some L'=>match xr D s.there with
      | none=>some (D++[(s.there,L')])
      | some L2=>if L2=L' then some D else none) else some D):=by unfold step1; rw [hg]; rfl
  by_cases h1:s.hand=h
  · by_cases h2:s.here=here
    · have c:Hl (fu (mOp eqO (mOp cu (bf 7) (au (.int 0))) (bf 1))) (fu (mOp eqO (mOp cu (bf 7) (au (.int 1))) (bf 5))) ⟨e8 bs H ss lk h D sp here [some (.int (n:Int),false),some (spT s,false),o8],sto⟩=some (true,⟨e8 bs H ss lk h D sp here [some (.int (n:Int),false),some (spT s,false),o8],sto⟩):=by
        have b1:(s.hand==h)=true:=beq_iff_eq.mpr h1
        have b2:(s.here==here)=true:=beq_iff_eq.mpr h2
        simp! [i0,i1,eh,j7,b1,b2]
      cases hy:hb lk s Lh with
      | none =>
        rw [hy] at hx
        dsimp only at hx
        refine .inr ⟨by rw [S0]; simp [h1,h2,hy],⟨e8 bs H ss lk h D sp here [some (.int (n:Int),false),some (spT s,false),o8],sto⟩,?_,rfl⟩
        unfold kB xIf
        rw [c]
        simp! [tu,Dc,mj,Eo,keyOf,gd,hx]
      | some L' =>
        rw [hy] at hx
        dsimp only at hx
        obtain ⟨o1,o2⟩:=a2o hy nd sub
        obtain ⟨t1,t2⟩:=s4 h1
        have cl:Dc iy (aq (bf 0) (aq (bf 6) (aq (mj 2 (bf 5)) fj))) (Qz 8) ⟨e8 bs H ss lk h D sp here [some (.int (n:Int),false),some (spT s,false),o8],sto⟩=some (.inl .next,⟨e8 bs H ss lk h D sp here [some (.int (n:Int),false),some (spT s,false),some (.tup (L'.map T.str),false)],sto⟩):=by
          simp! [Dc,mj,Eo,keyOf,gd,hx,Qz]
        cases ht:xr D s.there with
        | none =>
          rw [ht] at ni
          refine .inl ⟨D++[(s.there,L')],[(s.there,L')],some (.tup (L'.map T.str),false),by rw [S0]; simp [h1,h2,hy,ht],rfl,⟨?_,?_⟩,?_⟩
          · rw [List.map_append]
            refine List.nodup_append.mpr ⟨wf.nd,by simp,fun a ha b hb e=>?_⟩
            rw [List.map_cons,List.map_nil,List.mem_singleton] at hb
            rw [hb] at e
            have e':a=s.there:=e
            exact Fe ht (e' ▸ ha)
          · intro p hp
            rcases List.mem_append.mp hp with z | z -- here
            · exact wf.at' p z
            · rw [List.mem_singleton.mp z]; exact ⟨t1,t2,o1,o2⟩
          · have pn:=a0l (L:=L') ht
            have me:mT (D++[(s.there,L')])=mT D++[.int s.there]:=by unfold mT; rw [List.map_append]; rfl
            unfold kB xIf
            rw [c]
            dsimp only
            unfold tu
            rw [cl]
            unfold e8
            rw [me,← pn]
            simp! [lx,u9,i4,ni,Cv,Eo,keyOf,dl,ml]
        | some L2 =>
          rw [ht] at ni gt
          obtain ⟨_,_,_,sub2⟩:=wf.at' _ (Br ht)
          have nq:=Oc (fun y hy=>ok.hk y (sub2 y hy)) (fun y hy=>ok.hk y (o2 y hy)) (L:=L2) (M:=L')
          by_cases hq:L2=L'
          · subst hq
            refine .inl ⟨D,[],some (.tup (L2.map T.str),false),by rw [S0]; simp [h1,h2,hy,ht],by rw [List.append_nil],wf,?_⟩
            unfold kB xIf
            rw [c]
            dsimp only
            unfold tu
            rw [cl]
            simp only [decide_true,Bool.not_true] at nq
            simp! [lx,u9,i4,ni,mj,Eo,keyOf,gt,nq]
          · refine .inr ⟨by rw [S0]; simp [h1,h2,hy,ht,hq],⟨e8 bs H ss lk h D sp here [some (.int (n:Int),false),some (spT s,false),some (.tup (L'.map T.str),false)],sto⟩,?_,rfl⟩
            unfold kB xIf
            rw [c]
            dsimp only
            unfold tu
            rw [cl]
            rw [decide_eq_false hq,Bool.not_false] at nq
            simp! [lx,Ai,u9,i4,ni,mj,Eo,keyOf,gt,nq]
    · refine .inl ⟨D,[],o8,by rw [S0]; simp [h2],by rw [List.append_nil],wf,?_⟩
      have b1:(s.hand==h)=true:=beq_iff_eq.mpr h1
      have b2:(s.here==here)=false:=beq_eq_false_iff_ne.mpr h2
      unfold kB
      simp! [xIf,lx,i0,i1,eh,j7,b1,b2]
  · refine .inl ⟨D,[],o8,by rw [S0]; simp [h1],by rw [List.append_nil],wf,?_⟩
    have b1:(s.hand==h)=false:=beq_eq_false_iff_ne.mpr h1
    unfold kB
    simp! [xIf,lx,i0,i1,eh,j7,b1]
end
end K
end
section
namespace K
open C PySem
section
variable {bs:List Bx} {lk:List Str} {H:List Hd} {ss:List Sp} {sto:List SO} {h:Str} {P:Nat}
def runIn (lk:List Str) (h:Str) (here:Int):List (Sp × Nat)→Tb→Tb ⊕ Nat
  | [],D=>.inl D
  | p::l,D=>match step1 lk h here D p.1 with
    | some D'=>runIn lk h here l D'
    | none=>.inr p.2
def jz (lk:List Str) (ss:List Sp) (h:Str):Nat→Nat→Tb→Tb ⊕ Nat
  | 0,_,D=>.inl D
  | k+1,i,D=>match D[i]? with
    | none=>.inl D
    | some p=>match runIn lk h p.1 ss.zipIdx D with
      | .inl D'=>jz lk ss h k (i+1) D'
      | .inr n=>.inr n
theorem Tn (ok:OkK ss lk h P) {sp here:Int} {Lh:List Str}:∀ (l:List (Sp × Nat)) (D:Tb) (o6 o7 o8:Slot),Wf lk P D→xr D here=some Lh→(∀ p∈l,∃ hp:p.2<ss.length,ss[p.2]=p.1) →
    (∃ D' E p6 p7 p8,runIn lk h here l D=.inl D'∧D'=D++E∧Wf lk P D'∧ug (wu [6,7]) kB (l.map eT) ⟨e8 bs H ss lk h D sp here [o6,o7,o8],sto⟩=some (.inl .next,⟨e8 bs H ss lk h D' sp here [p6,p7,p8],sto⟩)) ∨
    ∃ (n:Nat) (st':Sta),runIn lk h here l D=.inr n∧n<ss.length∧ug (wu [6,7]) kB (l.map eT) ⟨e8 bs H ss lk h D sp here [o6,o7,o8],sto⟩=some (.inr (.int (n:Int)),st')∧st'.sto=sto
  | [],D,o6,o7,o8,wf,hg,hm=>.inl ⟨D,[],o6,o7,o8,rfl,by rw [List.append_nil],wf,by simp [ug]⟩
  | p::l,D,o6,o7,o8,wf,hg,hm=>by
    obtain ⟨hp,ep⟩:=hm p List.mem_cons_self
    have g:wu [6,7] (eT p) ⟨e8 bs H ss lk h D sp here [o6,o7,o8],sto⟩=some ⟨e8 bs H ss lk h D sp here [some (.int (p.2:Int),false),some (spT p.1,false),o8],sto⟩:=Mj
    have w:=a5i (bs:=bs) (H:=H) (sto:=sto) (sp:=sp) (o8:=o8) ok hp wf hg
    rw [ep] at w
    rw [List.map_cons,ug]
    dsimp only
    rw [g]
    dsimp only
    rcases w with ⟨D1,E,p8,x1,x2,wf1,e1⟩ | ⟨x1,st',e1,e2⟩
    · rw [e1]
      dsimp only
      rw [runIn,x1]
      dsimp only
      rcases Tn ok (sp:=sp) l D1 _ _ _ wf1 (by rw [x2]; exact Wy hg) (fun q hq=>hm q (List.mem_cons_of_mem _ hq)) with ⟨D2,E2,p6,p7,p8,y1,y2,wf2,e2⟩ | ⟨n,st',y1,hn,e2,e3⟩
      · exact .inl ⟨D2,E++E2,p6,p7,p8,y1,by rw [y2,x2,List.append_assoc],wf2,e2⟩
      · exact .inr ⟨n,st',y1,hn,e2,e3⟩
    · rw [e1]
      exact .inr ⟨p.2,st',by rw [runIn,x1],hp,rfl,e2⟩
def kW:SX:=tu (lx (qj 5 (uh 3 (bf 4)))) (tu (Pa (wu [6,7]) (Jy (mOp cu (bf 0) (au (.int 2)))) kB) (lx (qj 4 (mOp Aw (bf 4) (au (.int 1))))))
def kC:M Bool:=fu (mOp ltT (bf 4) (ux 3))
abbrev e9 (bs:List Bx) (H:List Hd) (ss:List Sp) (lk:List Str) (h:Str) (D:Tb) (sp:Int) (r:List Slot):List Slot :=
  some (prT bs H ss lk,false)::some (.str h,false)::some (.dic (dT D),true)::some (.lst (mT D),true)::some (.int sp,false)::r
theorem Vi (ok:OkK ss lk h P):∀ (k i:Nat) (D:Tb) (o5 o6 o7 o8:Slot),i≤D.length→P<i+k→Wf lk P D →
    (∃ D' E q4 q5 q6 q7 q8,jz lk ss h k i D=.inl D'∧D'=D++E∧Wf lk P D'∧qp k kC kW ⟨e9 bs H ss lk h D (i:Int) [o5,o6,o7,o8],sto⟩=some (.inl .next,⟨e9 bs H ss lk h D' q4 [q5,q6,q7,q8],sto⟩)) ∨
    ∃ (n:Nat) (st':Sta),jz lk ss h k i D=.inr n∧n<ss.length∧qp k kC kW ⟨e9 bs H ss lk h D (i:Int) [o5,o6,o7,o8],sto⟩=some (.inr (.int (n:Int)),st')∧st'.sto=sto
  | 0,i,D,o5,o6,o7,o8,hi,hk,wf=>by have:=wf.len; omega
  | k+1,i,D,o5,o6,o7,o8,hi,hk,wf=>by
    have ml:(mT D).length=D.length:=List.length_map _
    by_cases hlt:i<D.length
    · have c:kC ⟨e9 bs H ss lk h D (i:Int) [o5,o6,o7,o8],sto⟩=some (true,⟨e9 bs H ss lk h D (i:Int) [o5,o6,o7,o8],sto⟩):=by
        have:(i:Int)<(D.length:Int):=by omega
        unfold kC
        simp! [ux,ml,this]
      have hg:=M8 wf.nd (k:=D[i].1) (L:=D[i].2) (List.getElem_mem hlt)
      have it:(ixI (mT D).length (i:Int)).bind ((mT D)[·]?)=some (.int D[i].1):=by
        have h0:(0:Int)≤(i:Int):=by omega
        have h1:(i:Int)<((mT D).length:Int):=by rw [ml]; omega
        unfold ixI
        rw [if_pos h0,if_pos h1,Option.bind_some,Int.toNat_natCast]
        simp [mT,List.getElem?_eq_getElem hlt]
      have sl:=ok.sl
      have i2:cu (prT bs H ss lk) (.int 2)=some (.lst (ss.map spT)):=Kw
      have ls:(ss.map spT).length<lim:=by rw [List.length_map]; show _<1000000; omega
      have A1:lx (qj 5 (uh 3 (bf 4))) ⟨e9 bs H ss lk h D (i:Int) [o5,o6,o7,o8],sto⟩=some (.inl .next,⟨e8 bs H ss lk h D (i:Int) D[i].1 [o6,o7,o8],sto⟩):=by
        simp! [lx,uh,it]
      have A2:Jy (mOp cu (bf 0) (au (.int 2))) ⟨e8 bs H ss lk h D (i:Int) D[i].1 [o6,o7,o8],sto⟩=some (ss.zipIdx.map eT,⟨e8 bs H ss lk h D (i:Int) D[i].1 [o6,o7,o8],sto⟩):=by
        rw [← Xr]
        simp! [Jy,i2,ls]
        show _<1000000
        omega
      have w:=Tn (bs:=bs) (H:=H) (sto:=sto) (sp:=(i:Int)) ok ss.zipIdx D o6 o7 o8 wf hg (fun p hp=>by
        have:=(Lf hp).2
        rw [Nat.sub_zero] at this
        obtain ⟨a,b⟩:=List.getElem?_eq_some_iff.mp this
        exact ⟨a,b⟩)
      rw [qp]
      dsimp only
      rw [c]
      dsimp only
      have gi:D[i]? = some D[i]:=List.getElem?_eq_getElem hlt
      rw [jz,gi]
      dsimp only
      rcases w with ⟨D1,E,p6,p7,p8,x1,x2,wf1,e1⟩ | ⟨n,st',x1,hn,e1,e2⟩
      · have B1:kW ⟨e9 bs H ss lk h D (i:Int) [o5,o6,o7,o8],sto⟩=some (.inl .next,⟨e9 bs H ss lk h D1 ((i+1:Nat):Int) [some (.int D[i].1,false),p6,p7,p8],sto⟩):=by
          unfold kW tu
          rw [A1]
          dsimp only
          unfold Pa
          rw [A2]
          dsimp only
          rw [e1]
          simp! [lx]
        rw [B1,x1]
        dsimp only
        rcases Vi ok k (i+1) D1 (some (.int D[i].1,false)) p6 p7 p8 (by rw [x2,List.length_append]; omega) (by omega) wf1 with ⟨D2,E2,q4,q5,q6,q7,q8,y1,y2,wf2,e2⟩ | ⟨n,st',y1,hn,e2,e3⟩
        · exact .inl ⟨D2,E++E2,q4,q5,q6,q7,q8,y1,by rw [y2,x2,List.append_assoc],wf2,e2⟩
        · exact .inr ⟨n,st',y1,hn,e2,e3⟩
      · have B1:kW ⟨e9 bs H ss lk h D (i:Int) [o5,o6,o7,o8],sto⟩=some (.inr (.int (n:Int)),st'):=by
          unfold kW tu
          rw [A1]
          dsimp only
          unfold Pa
          rw [A2]
          dsimp only
          rw [e1]
        rw [B1,x1]
        exact .inr ⟨n,st',rfl,hn,rfl,e2⟩
    · have c:kC ⟨e9 bs H ss lk h D (i:Int) [o5,o6,o7,o8],sto⟩=some (false,⟨e9 bs H ss lk h D (i:Int) [o5,o6,o7,o8],sto⟩):=by
        have:¬ (i:Int)<(D.length:Int):=by omega
        unfold kC
        simp! [ux,ml,this]
      rw [qp]
      dsimp only
      rw [c]
      have gi:D[i]? = none:=List.getElem?_eq_none_iff.mpr (by omega)
      rw [jz,gi]
      exact .inl ⟨D,[],(i:Int),o5,o6,o7,o8,rfl,by rw [List.append_nil],wf,rfl⟩
theorem Ue (ok:OkK ss lk h P) (hP:0<P) :
    (∃ D,jz lk ss h 1000 0 [(0,[])]=.inl D∧Wf lk P D∧kj [prT bs H ss lk,.str h] sto=some (.inl (.dic (dT D)),sto))∨∃ n:Nat,jz lk ss h 1000 0 [(0,[])]=.inr n∧n<ss.length∧kj [prT bs H ss lk,.str h] sto=some (.inr (.int (n:Int)),sto):=by
  have wf0:Wf lk P [(0,[])]:=⟨by simp,fun p hp=>by rw [List.mem_singleton.mp hp]; exact ⟨Int.le_refl _,by show (0:Int)<_; omega,by simp,fun y hy=>nomatch hy⟩⟩
  have P5:=ok.P5
  have w:=Vi (bs:=bs) (H:=H) (sto:=sto) ok 1000 0 [(0,[])] none none none none (Nat.zero_le _) (by omega) wf0
  have X:kj [prT bs H ss lk,.str h] sto=(match tu (qp 1000 kC kW) (lx (uy (bf 2))) ⟨e9 bs H ss lk h [(0,[])] ((0:Nat):Int) [none,none,none,none],sto⟩ with
      | some (.inl (.ret t),s)=>some (.inl t,s.sto)
      | some (.inl .next,s)=>some (.inl .non,s.sto)
      | some (.inr t,s)=>some (.inr t,s.sto)
      | _=>none):=by rfl
  rcases w with ⟨D',E,q4,q5,q6,q7,q8,x1,x2,wf1,e1⟩ | ⟨n,st',x1,hn,e1,e2⟩
  · refine .inl ⟨D',x1,wf1,?_⟩
    rw [X]
    unfold tu
    rw [e1]
    simp! [lx]
  · refine .inr ⟨n,x1,hn,?_⟩
    rw [X]
    unfold tu
    rw [e1]
    dsimp only
    rw [e2]
end
end K
end
section
namespace K
open C PySem
theorem Oj {q:List C.Key}:∀ {l r:List (List C.Key × T)},qd q (l++r)=match qd q l with | some t=>some t | none=>qd q r
  | [],r=>rfl
  | (k,t)::l,r=>by
    rw [List.cons_append,qd,qd]
    by_cases e:k=q
    · rw [if_pos e,if_pos e]
    · rw [if_neg e,if_neg e]; exact Oj
theorem Lb {q:List C.Key}:∀ {l:List (List C.Key × T)},(l.any fun p=>decide (p.1=q))=false→qd q l=none
  | [],_=>rfl
  | (k,t)::l,h=>by
    rw [List.any_cons,Bool.or_eq_false_iff] at h
    rw [qd,if_neg (by simpa using h.1)]
    exact Lb h.2
theorem Iu {q k:List C.Key} {v:T}:∀ {l:List (List C.Key × T)},qd q (l.map fun p=>if p.1=k then (p.1,v) else p)=if q=k then (qd q l).map (fun _=>v) else qd q l
  | []=>by simp [qd]
  | (a,t)::l=>by
    rw [List.map_cons]
    by_cases h1:a=k
    · subst h1
      simp only [if_true,qd,Iu (l:=l)]
      by_cases h2:a=q
      · subst h2; simp
      · simp only [if_neg h2]
    · simp only [if_neg h1,qd,Iu (l:=l)]
      by_cases h2:a=q
      · subst h2; simp [h1]
      · simp only [if_neg h2]
theorem Nv {q:List C.Key}:∀ {l:List (List C.Key × T)},(l.any fun p=>decide (p.1=q))=true→∃ t,qd q l=some t
  | [],h=>by cases h
  | (k,t)::l,h=>by
    rw [qd]
    by_cases e:k=q
    · exact ⟨t,if_pos e⟩
    · rw [if_neg e]
      refine Nv ?_
      rw [List.any_cons] at h
      simpa [e] using h
theorem Oh {q k:List C.Key} {v:T} {l:List (List C.Key × T)}:qd q (zf k v l)=if q=k then some v else qd q l:=by
  unfold zf
  split
  · rename_i h
    rw [Iu]
    by_cases e:q=k
    · subst e
      obtain ⟨t,ht⟩:=Nv h
      simp [ht]
    · simp [e]
  · rename_i h
    rw [Oj]
    by_cases e:q=k
    · subst e
      rw [Lb (Bool.eq_false_iff.mpr h)]
      simp [qd]
    · have:¬ k=q:=fun z=>e z.symm
      rw [if_neg e]
      cases qd q l with
      | some t=>rfl
      | none=>simp [qd,this]
theorem Du {k:List C.Key} {v:T} {l:List (List C.Key × T)}:(zf k v l).length≤l.length+1:=by
  unfold zf
  split
  · rw [List.length_map]; omega
  · rw [List.length_append,List.length_singleton]; omega -- here
abbrev Dit:=List (List C.Key × T)
def gv (D:Tb) (p:Int):T:=match xr D p with | some L=>.tup (L.map T.str) | none=>.non
def qk (h:Str) (p:Int):List C.Key:=[.inr h,.inl p]
def puts (h:Str) (D:Tb) (l:List Nat) (K:Dit):Dit:=l.foldl (fun K (p:Nat)=>zf (qk h (p:Int)) (gv D (p:Int)) K) K
theorem Hw {h:Str} {D:Tb}:∀ (l:List Nat) (K:Dit),(puts h D l K).length≤K.length+l.length
  | [],K=>Nat.le_refl _
  | p::l,K=>by
    have:=Hw (h:=h) (D:=D) l (zf (qk h (p:Int)) (gv D (p:Int)) K)
    have h2:=Du (k:=qk h (p:Int)) (v:=gv D (p:Int)) (l:=K)
    show (puts h D l (zf (qk h (p:Int)) (gv D (p:Int)) K)).length≤_
    rw [List.length_cons]
    omega
theorem Vm {h h':Str} {p p':Int} (e:qk h p=qk h' p'):h=h'∧p=p':=by
  unfold qk at e
  simp at e
  exact e
theorem Bs {h h':Str} {D:Tb} {p:Int}:∀ (l:List Nat) (K:Dit),qd (qk h' p) (puts h D l K)=if h'=h∧∃ n∈l,p=(n:Int) then some (gv D p) else qd (qk h' p) K
  | [],K=>by rw [if_neg (fun z=>by obtain ⟨_,n,hn,_⟩:=z; cases hn)]; rfl
  | a::l,K=>by
    show qd _ (puts h D l (zf (qk h (a:Int)) (gv D (a:Int)) K))=_
    rw [Bs l,Oh]
    by_cases h1:h'=h∧∃ n∈l,p=(n:Int)
    · rw [if_pos h1,if_pos ⟨h1.1,h1.2.elim fun n z=>⟨n,List.mem_cons_of_mem _ z.1,z.2⟩⟩]
    · rw [if_neg h1]
      by_cases h2:qk h' p=qk h (a:Int)
      · obtain ⟨e1,e2⟩:=Vm h2
        rw [if_pos h2,if_pos ⟨e1,a,List.mem_cons_self,e2⟩,e2]
      · rw [if_neg h2,if_neg]
        rintro ⟨e1,n,hn,e2⟩
        rcases List.mem_cons.mp hn with rfl | hn
        · exact h2 (by rw [e1,e2])
        · exact h1 ⟨e1,n,hn,e2⟩
def tB:S:=lu (bf 1) (aq (bf 2) (aq (bf 5) fj)) (gw Mx (aq (bf 4) (aq (bf 5) fj)))
section
variable {bs:List Bx} {lk:List Str} {H:List Hd} {ss:List Sp} {sto:List SO} {h:Str} {P:Nat}
abbrev eT5 (bs:List Bx) (H:List Hd) (ss:List Sp) (lk:List Str) (n:Nat) (h:Str) (P:Int) (D:Tb) (r:List Slot):List Slot :=
  some (prT bs H ss lk,false)::some (.obj n,false)::some (.str h,false)::some (.int P,false)::some (.dic (dT D),false)::r
theorem a5f {D:Tb} {p P:Int} {K:Dit} (hl:K.length<100):tB ⟨eT5 bs H ss lk sto.length h P D [some (.int p,false)],sto++[.dit K]⟩=some (.next,⟨eT5 bs H ss lk sto.length h P D [some (.int p,false)],sto++[.dit (zf (qk h p) (gv D p) K)]⟩):=by
  have g:Mx [.dic (dT D),.int p]=some (gv D p):=by
    simp only [Mx,keyOf,Pk]
    unfold gv
    cases xr D p <;> rfl
  have a1:(sto++[SO.dit K])[sto.length]? = some (.dit K):=by simp
  have a2:∀ x:SO,(sto++[SO.dit K]).set sto.length x=sto++[x]:=fun x=>by simp
  have kl:K.length<lim:=by show _<1000000; omega
  unfold tB
  simp! [lu,g,keysOf,keyOf,kl,qk]
theorem Tf {D:Tb} {P:Int}:∀ (l:List Nat) (K:Dit) (o5:Slot),K.length+l.length<100→∃ p5:Slot,forL (hName 5) tB (l.map fun (k:Nat)=>T.int (k:Int)) ⟨eT5 bs H ss lk sto.length h P D [o5],sto++[.dit K]⟩=some (.next,⟨eT5 bs H ss lk sto.length h P D [p5],sto++[.dit (puts h D l K)]⟩)
  | [],K,o5,_=>⟨o5,by simp [forL,puts]⟩
  | a::l,K,o5,hl=>by
    rw [List.length_cons] at hl
    have h2:=Du (k:=qk h (a:Int)) (v:=gv D (a:Int)) (l:=K)
    obtain ⟨p5,e⟩:=Tf l (zf (qk h (a:Int)) (gv D (a:Int)) K) (some (.int (a:Int),false)) (by omega)
    refine ⟨p5,?_⟩
    have g:hName 5 (.int (a:Int)) ⟨eT5 bs H ss lk sto.length h P D [o5],sto++[.dit K]⟩=some ⟨eT5 bs H ss lk sto.length h P D [some (.int (a:Int),false)],sto++[.dit K]⟩:=rfl
    rw [List.map_cons,forL]
    dsimp only
    rw [g]
    dsimp only
    rw [a5f (by omega)]
    exact e
def hdB:SX:=tu (Dc kj (aq (bf 0) (aq (bf 2) fj)) (Qz 4)) (lx (Bt (hName 5) (m8 (bf 3)) tB))
def qu (lk:List Str) (ss:List Sp):List Hd→Dit→Dit ⊕ Nat
  | [],K=>.inl K
  | hd::r,K=>match jz lk ss hd.1 1000 0 [(0,[])] with
    | .inl D=>qu lk ss r (puts hd.1 D (List.range hd.2.toNat) K)
    | .inr n=>.inr n
structure OkA (H:List Hd) (ss:List Sp) (lk:List Str):Prop where
  nd:(H.map (·.1)).Nodup
  k:∀ hd∈H,OkK ss lk hd.1 hd.2.toNat∧0<hd.2
theorem Ry (ok:OkA H ss lk):∀ (B:List Hd) (a:Nat) (K:Dit) (o2 o3 o4 o5:Slot),(∀ b∈B,b∈H)→K.length≤5 * a→a+B.length≤3 →
    (∃ K' p2 p3 p4 p5,qu lk ss B K=.inl K'∧ug (wu [2,3]) hdB (B.map hT) ⟨[some (prT bs H ss lk,false),some (.obj sto.length,false),o2,o3,o4,o5],sto++[.dit K]⟩=some (.inl .next,⟨[some (prT bs H ss lk,false),some (.obj sto.length,false),p2,p3,p4,p5],sto++[.dit K']⟩)) ∨
    ∃ (n:Nat) (st':Sta) (K':Dit),qu lk ss B K=.inr n∧n<ss.length∧ug (wu [2,3]) hdB (B.map hT) ⟨[some (prT bs H ss lk,false),some (.obj sto.length,false),o2,o3,o4,o5],sto++[.dit K]⟩=some (.inr (.int (n:Int)),st')∧st'.sto=sto++[.dit K']
  | [],a,K,o2,o3,o4,o5,_,_,_=>.inl ⟨K,o2,o3,o4,o5,rfl,by simp [ug]⟩
  | b::B,a,K,o2,o3,o4,o5,hH,hl,h3=>by
    obtain ⟨okb,pb⟩:=ok.k b (hH b List.mem_cons_self)
    have P5:=okb.P5
    rw [List.length_cons] at h3
    have g:wu [2,3] (hT b) ⟨[some (prT bs H ss lk,false),some (.obj sto.length,false),o2,o3,o4,o5],sto++[.dit K]⟩=some ⟨[some (prT bs H ss lk,false),some (.obj sto.length,false),some (.str b.1,false),some (.int b.2,false),o4,o5],sto++[.dit K]⟩:=Mj
    rw [List.map_cons,ug]
    dsimp only
    rw [g]
    dsimp only
    rw [qu]
    rcases Ue (bs:=bs) (H:=H) (sto:=sto++[.dit K]) okb (by omega) with ⟨D,x1,_,e1⟩ | ⟨n,x1,hn,e1⟩
    · rw [x1]
      obtain ⟨p5,e2⟩:=Tf (bs:=bs) (H:=H) (ss:=ss) (lk:=lk) (sto:=sto) (h:=b.1) (P:=b.2) (D:=D) (List.range b.2.toNat) K o5 (by rw [List.length_range]; omega)
      have nb:b.2.natAbs<lim:=by show _<1000000; omega
      have B1:hdB ⟨[some (prT bs H ss lk,false),some (.obj sto.length,false),some (.str b.1,false),some (.int b.2,false),o4,o5],sto++[.dit K]⟩=some (.inl .next,⟨eT5 bs H ss lk sto.length b.1 b.2 D [p5],sto++[.dit (puts b.1 D (List.range b.2.toNat) K)]⟩):=by
        have c1:Dc kj (aq (bf 0) (aq (bf 2) fj)) (Qz 4) ⟨[some (prT bs H ss lk,false),some (.obj sto.length,false),some (.str b.1,false),some (.int b.2,false),o4,o5],sto++[.dit K]⟩=some (.inl .next,⟨eT5 bs H ss lk sto.length b.1 b.2 D [o5],sto++[.dit K]⟩):=by
          simp! [Dc,e1,Qz]
        have c2:m8 (bf 3) ⟨eT5 bs H ss lk sto.length b.1 b.2 D [o5],sto++[.dit K]⟩=some ((List.range b.2.toNat).map fun (k:Nat)=>T.int (k:Int),⟨eT5 bs H ss lk sto.length b.1 b.2 D [o5],sto++[.dit K]⟩):=by
          simp! [nb,rangeT]
        unfold hdB tu
        rw [c1]
        dsimp only
        unfold lx Bt
        rw [c2]
        dsimp only
        rw [e2]
      rw [B1]
      dsimp only
      have pl:=Hw (h:=b.1) (D:=D) (List.range b.2.toNat) K
      rw [List.length_range] at pl
      exact Ry ok B (a+1) (puts b.1 D (List.range b.2.toNat) K) _ _ _ _ (fun x hx=>hH x (List.mem_cons_of_mem _ hx)) (by omega) (by omega)
    · rw [x1]
      refine .inr ⟨n,⟨[some (prT bs H ss lk,false),some (.obj sto.length,false),some (.str b.1,false),some (.int b.2,false),o4,o5],sto++[.dit K]⟩,K,rfl,hn,?_,rfl⟩
      have B1:hdB ⟨[some (prT bs H ss lk,false),some (.obj sto.length,false),some (.str b.1,false),some (.int b.2,false),o4,o5],sto++[.dit K]⟩=some (.inr (.int (n:Int)),⟨[some (prT bs H ss lk,false),some (.obj sto.length,false),some (.str b.1,false),some (.int b.2,false),o4,o5],sto++[.dit K]⟩):=by
        unfold hdB
        simp! [tu,Dc,e1]
      rw [B1]
theorem holding (ok:OkA H ss lk) (h3:H.length≤3) :
    (∃ K,qu lk ss H []=.inl K∧j9 [prT bs H ss lk] sto=some (.inl (.obj sto.length),sto++[.dit K]))∨∃ (n:Nat) (K:Dit),qu lk ss H []=.inr n∧n<ss.length∧j9 [prT bs H ss lk] sto=some (.inr (.int (n:Int)),sto++[.dit K]):=by
  have w:=Ry (bs:=bs) (sto:=sto) ok H 0 [] none none none none (fun _ h=>h) (Nat.zero_le _) (by simpa using h3)
  have i1:cu (prT bs H ss lk) (.int 1)=some (.lst (H.map hT)):=Om
  have hl:H.length<lim:=by show _<1000000; omega
  have it:Ae (mOp cu (bf 0) (au (.int 1))) ⟨[some (prT bs H ss lk,false),some (.obj sto.length,false),none,none,none,none],sto++[.dit []]⟩=some (H.map hT,⟨[some (prT bs H ss lk,false),some (.obj sto.length,false),none,none,none,none],sto++[.dit []]⟩):=by
    simp! [i1,hl]
  have X:j9 [prT bs H ss lk] sto=(match tu (Pa (wu [2,3]) (Ae (mOp cu (bf 0) (au (.int 1)))) hdB) (lx (uy (bf 1))) ⟨[some (prT bs H ss lk,false),some (.obj sto.length,false),none,none,none,none],sto++[.dit []]⟩ with
      | some (.inl (.ret t),s)=>some (.inl t,s.sto)
      | some (.inl .next,s)=>some (.inl .non,s.sto)
      | some (.inr t,s)=>some (.inr t,s.sto)
      | _=>none):=by rfl
  rcases w with ⟨K',p2,p3,p4,p5,x1,e1⟩ | ⟨n,st',K',x1,hn,e1,e2⟩
  · refine .inl ⟨K',x1,?_⟩
    rw [X]
    unfold tu Pa
    rw [it]
    dsimp only
    rw [e1]
    simp! [lx]
  · refine .inr ⟨n,K',x1,hn,?_⟩
    rw [X]
    unfold tu Pa
    rw [it]
    dsimp only
    rw [e1]
    dsimp only
    rw [e2]
end
end K
end
section
namespace K
open C PySem
def Ow (lk:List Str) (H:List Hd) (s:Sp):Prop:=∃ k,∃ hk:k<H.length,s.hand=H[k].1∧((∃ y∈lk,s.guard=.most (0,[(y,1)])∧s.sets=[(y,((k:Int)+1,[]))])∨(∃ y∈lk,s.sets=[(y,(0,[]))])∨s.sets=[]∨∃ b one,b∉lk∧s.sets=[(b,one)])
def SpO (N lk:List Str) (H:List Hd) (L:Nat) (t:T) (st:List SO):Prop:=∃ s,t=spT s∧OkP N H s∧Ow lk H s∧(∃ k,∃ hk:k<H.length,s.hand=H[k].1∧0≤s.there∧s.there<H[k].2)∧StO st∧st.length=L
section
variable {n:Nat} {N lk:List Str} {H:List Hd} {o0 o1:Str} {sto:List SO}
abbrev eL (n:Nat) (H:List Hd) (lk:List Str) (o0 o1:Str) (r:List Slot):List Slot:=some (.obj n,false)::some (.lst (H.map hT),false)::some (.tup (lk.map T.str),false)::some (.lst [.str o0,.str o1],false)::r
theorem U8 (hn:n<sto.length) (hs:StO sto) (okh:a2g H) (l1:1≤lk.length) (l4:lk.length≤4) (hN:∀ y∈lk,y∈N) (m0:o0∈N∧o0∉lk) (m1:o1∈N∧o1∉lk) :
    Out (j4 [.obj n,.lst (H.map hT),.tup (lk.map T.str),.lst [.str o0,.str o1]] sto) (SpO N lk H sto.length):=by
  obtain ⟨hl1,hl2,hok⟩:=okh
  obtain ⟨r1,s1,q1,a1,b1,w1,z1⟩:=Dm (n:=n) (many:=(H.length:Int)) hn hs (by omega) (by omega)
  obtain ⟨k,rfl⟩:∃ k:Nat,r1=(k:Int):=⟨r1.toNat,by omega⟩
  have hk:k<H.length:=by omega
  have ih:=Dr hT H hk
  obtain ⟨k1,k2,k3⟩:=hok _ (List.getElem_mem hk)
  obtain ⟨r2,s2,q2,a2,b2,w2,z2⟩:=Dm (n:=n) (many:=H[k].2) (by omega:n<s1.length) w1 (by omega) (by omega)
  obtain ⟨r3,s3,q3,a3,b3,w3,z3⟩:=Dm (n:=n) (many:=2) (by omega:n<s2.length) w2 (by decide) (by decide)
  obtain ⟨r4,s4,q4,a4,b4,w4,z4⟩:=Dm (n:=n) (many:=H[k].2) (by omega:n<s3.length) w3 (by omega) (by omega)
  obtain ⟨r5,s5,q5,a5,b5,w5,z5⟩:=Dm (n:=n) (many:=(lk.length:Int)) (by omega:n<s4.length) w4 (by omega) (by omega)
  obtain ⟨j,rfl⟩:∃ j:Nat,r5=(j:Int):=⟨r5.toNat,by omega⟩
  have hj:j<lk.length:=by omega
  have il:cu (.tup (lk.map T.str)) (.int (j:Int))=some (.str lk[j]):=Ao (by rw [List.getElem?_map,List.getElem?_eq_getElem hj]; rfl)
  have ym:=List.getElem_mem hj
  obtain ⟨r6,s6,q6,a6,b6,w6,z6⟩:=Dm (n:=n) (many:=6) (by omega:n<s5.length) w5 (by decide) (by decide)
  have hp:(0:Int)<H[k].2:=by omega
  have bm:G4 r3=true:=by simp only [G4,decide_eq_true_eq]; omega
  have mul:Hu (.int r3) (.int r4)=some (.int (r3 * r4)):=by simp [Hu,bm]
  have t0:=Int.emod_nonneg (r2+1+r3 * r4) (show H[k].2≠0 by omega)
  have t1:=Int.emod_lt_of_pos (r2+1+r3 * r4) hp
  have e1:hT H[k]=.tup [.str H[k].1,.int H[k].2]:=rfl
  have sm1:∀ (i:Int) (x:Str),x∈N→Yt N (i,[(x,1)]):=fun i x hx=>⟨List.length_pos_of_mem hx,fun p hp=>by rw [List.mem_singleton.mp hp]; exact ⟨hx,by show (-4:Int)<1; decide,by show (1:Int)<4; decide⟩⟩
  have sm0:∀ (i:Int),Yt N (i,[]):=fun i=>⟨Nat.zero_le _,fun p hp=>nomatch hp⟩
  have Ham:H[k].1∈H.map (·.1):=List.mem_map.mpr ⟨_,List.getElem_mem hk,rfl⟩
  generalize hy:lk[j]=y at *
  generalize hh:H[k]=h at *
  generalize ht:(r2+1+r3 * r4)%h.2=th at *
  have mk:∀ (g:Rem) (ss:List (Str × Sm)),OkR N H 3 g→ss.length≤2→(∀ p∈ss,p.1∈N∧Yt N p.2)→((∃ y∈lk,g=.most (0,[(y,1)])∧ss=[(y,((k:Int)+1,[]))])∨(∃ y∈lk,ss=[(y,(0,[]))])∨ss=[]∨∃ b one,b∉lk∧ss=[(b,one)])→∀ st:List SO,StO st→st.length=sto.length→SpO N lk H sto.length (spT ⟨h.1,r2,g,ss,th⟩) st :=
    fun g ss c1 c2 c3 c4 st c5 c6=>⟨_,rfl,⟨k1,Ham,c1,c2,c3⟩,⟨k,hk,by show h.1=_; rw [hh],c4⟩,⟨k,hk,by show h.1=_; rw [hh],t0,by rw [hh]; exact t1⟩,c5,c6⟩
  have okall:OkR N H 3 (.all []):=.all (by simp) (fun r hr=>nomatch hr)
  unfold j4 Ab
  rw [show ([T.obj n,.lst (H.map hT),.tup (lk.map T.str),.lst [.str o0,.str o1]].map (fun t=>some (t,false))++List.replicate (13 - [T.obj n,.lst (H.map hT),.tup (lk.map T.str),.lst [.str o0,.str o1]].length) none:List Slot)=eL n H lk o0 o1 [none,none,none,none,none,none,none,none,none] from rfl]
  rw [dh (s':=⟨eL n H lk o0 o1 [some (.int (k:Int),false),none,none,none,none,none,none,none,none],s1⟩) (by simp! [q1])]
  rw [dh (s':=⟨eL n H lk o0 o1 [some (.int (k:Int),false),some (.str h.1,false),some (.int h.2,false),none,none,none,none,none,none],s1⟩) (by simp! [ih,e1])]
  rw [dh (s':=⟨eL n H lk o0 o1 [some (.int (k:Int),false),some (.str h.1,false),some (.int h.2,false),some (.int r2,false),none,none,none,none,none],s2⟩) (by simp! [q2])]
  rw [dh (s':=⟨eL n H lk o0 o1 [some (.int (k:Int),false),some (.str h.1,false),some (.int h.2,false),some (.int r2,false),some (.int th,false),none,none,none,none],s4⟩) (by simp! [q3,q4,mul,hp,ht])]
  rw [dh (s':=⟨eL n H lk o0 o1 [some (.int (k:Int),false),some (.str h.1,false),some (.int h.2,false),some (.int r2,false),some (.int th,false),some (.str y,false),none,none,none],s5⟩) (by simp! [q5,il])]
  rw [dh (s':=⟨eL n H lk o0 o1 [some (.int (k:Int),false),some (.str h.1,false),some (.int h.2,false),some (.int r2,false),some (.int th,false),some (.str y,false),some (.int r6,false),none,none],s6⟩) (by simp! [q6])]
  by_cases h0:r6=0
  · subst h0
    simp! [j7]
    exact .of (mk (.most (0,[(y,1)])) [(y,((k:Int)+1,[]))] (.most (sm1 0 y (hN y ym))) (by simp) (fun p hp=>by rw [List.mem_singleton.mp hp]; exact ⟨hN y ym,sm0 _⟩) (.inl ⟨y,ym,rfl,rfl⟩) s6 w6 (by omega))
  have c0:(r6==0)=false:=beq_eq_false_iff_ne.mpr h0
  by_cases h1:r6=1
  · subst h1
    simp! [j7]
    exact .of (mk (.all []) [(y,(0,[]))] okall (by simp) (fun p hp=>by rw [List.mem_singleton.mp hp]; exact ⟨hN y ym,sm0 _⟩) (.inr (.inl ⟨y,ym,rfl⟩)) s6 w6 (by omega))
  have c1:(r6==1)=false:=beq_eq_false_iff_ne.mpr h1
  by_cases h2:r6=2
  · subst h2
    simp! [j7]
    exact .of (mk (.most (1 - (H.length:Int),[(y,1)])) [] (.most (sm1 _ y (hN y ym))) (by simp) (fun p hp=>nomatch hp) (.inr (.inr (.inl rfl))) s6 w6 (by omega))
  have c2:(r6==2)=false:=beq_eq_false_iff_ne.mpr h2
  by_cases h3:r6=3
  · subst h3
    simp! [j7]
    exact .of (mk (.all []) [] okall (by simp) (fun p hp=>nomatch hp) (.inr (.inr (.inl rfl))) s6 w6 (by omega))
  have c3:(r6==3)=false:=beq_eq_false_iff_ne.mpr h3
  obtain ⟨r7,s7,q7,a7,b7,w7,z7⟩:=Dm (n:=n) (many:=2) (by omega:n<s6.length) w6 (by decide) (by decide)
  obtain ⟨r8,s8,q8,a8,b8,w8,z8⟩:=Dm (n:=n) (many:=3) (by omega:n<s7.length) w7 (by decide) (by decide)
  obtain ⟨r9,s9,q9,a9,b9,w9,z9⟩:=Dm (n:=n) (many:=3) (by omega:n<s8.length) w8 (by decide) (by decide)
  obtain ⟨kb,eK⟩:∃ kb:Bool,eqO (.int (k:Int)) (.int 0)=some (.bl kb):=⟨_,j7⟩
  obtain ⟨i,x,ei,ex,xm,xn⟩:∃ (i:Int) (x:Str),Hu (.int (if kb=true then 1 else 0)) (.int r7)=some (.int i)∧cu (.lst [.str o0,.str o1]) (.int i)=some (.str x)∧x∈N∧x∉lk:=by
    have bb:G4 r7=true:=by simp only [G4,decide_eq_true_eq]; omega
    cases kb with
    | true =>
      have:r7=0∨r7=1:=by omega
      rcases this with rfl | rfl
      · exact ⟨0,o0,rfl,rfl,m0⟩
      · exact ⟨1,o1,rfl,rfl,m1⟩
    | false=>exact ⟨0,o0,by simp [Hu,bb],rfl,m0⟩
  obtain ⟨ps,ep,op⟩:∃ ps:List (Str × Int),cu (.lst [.tup [],.tup [.tup [.str x,.int 1]],.tup [.tup [.str y,.int 1]]]) (.int r9)=some (.tup (ps.map pT))∧∀ i:Int,Yt N (i,ps):=by
    have:r9=0∨r9=1∨r9=2:=by omega
    rcases this with rfl | rfl | rfl
    · exact ⟨[],rfl,sm0⟩
    · exact ⟨[(x,1)],rfl,fun i=>sm1 i x xm⟩
    · exact ⟨[(y,1)],rfl,fun i=>sm1 i y (hN y ym)⟩
  have it:a69 [.bl kb]=some (.int (if kb=true then 1 else 0)):=by cases kb <;> rfl
  generalize hE:eL n H lk o0 o1 [some (.int (k:Int),false),some (.str h.1,false),some (.int h.2,false),some (.int r2,false),some (.int th,false),some (.str y,false),some (.int r6,false),none,none]=E6
  rw [dh (s':=⟨E6,s6⟩) (by subst hE; simp! [j7,c0]),dh (s':=⟨E6,s6⟩) (by subst hE; simp! [j7,c1]),dh (s':=⟨E6,s6⟩) (by subst hE; simp! [j7,c2]),dh (s':=⟨E6,s6⟩) (by subst hE; simp! [j7,c3])]
  subst hE
  rw [dh (s':=⟨eL n H lk o0 o1 [some (.int (k:Int),false),some (.str h.1,false),some (.int h.2,false),some (.int r2,false),some (.int th,false),some (.str y,false),some (.int r6,false),some (.str x,false),none],s7⟩) (by simp! [eK,it,q7,ei,ex])]
  rw [dh (s':=⟨eL n H lk o0 o1 [some (.int (k:Int),false),some (.str h.1,false),some (.int h.2,false),some (.int r2,false),some (.int th,false),some (.str y,false),some (.int r6,false),some (.str x,false),some (smT (r8,ps),false)],s9⟩) (by simp! [q8,q9,ep,smT])]
  simp! []
  exact .of (mk (.all []) [(x,(r8,ps))] okall (by simp) (fun p hp=>by rw [List.mem_singleton.mp hp]; exact ⟨xm,op _⟩) (.inr (.inr (.inr ⟨x,_,xn,rfl⟩))) s9 w9 (by omega))
end
end K
end
section
namespace C
open PySem
theorem Vr {i:Nat} {e:M T} {s s1:Sta} {t:T} (h:e s=some (t,s1)):qj i e s=some (.next,gk i t false s1):=by unfold qj; rw [h]
end C
namespace K
open C PySem
theorem StO.add {sto:List SO} (h:StO sto) {so:SO} (hs:a5d so):StO (sto++[so]):=fun x hx=>by
  rcases List.mem_append.mp hx with z | z
  · exact h x z
  · rw [List.mem_singleton] at z; subst z; exact hs
structure OkW (bs:List Bx) (H:List Hd) (ss:List Sp) (lk:List Str):Prop where
  pr:a7c bs H ss
  a:OkA H ss lk
  st:∀ s∈ss,Ow lk H s
  k:∀ y∈lk,okS y
  n:∀ y∈lk,y∈nB bs
  z:∀ b∈bs,b.nm∈lk→b.st=0
  l:ss.length≤63
  o:∀ b∈bs,okS b.ow
def lkN (c:Int) (m:Nat):List Str:=(List.range m).map fun (k:Nat)=>nameOf c (k:Int)
def bxN (c mn:Int) (m:Nat) (h0:Str):List Bx:=⟨nameOf c 4,"",0,9,0⟩::(lkN c m).map (fun y=>⟨y,"",0,mn,0⟩)++[⟨nameOf c 8,h0,-1,4,1⟩]
theorem K7 {c mn:Int} {m:Nat} {h0:Str}:nB (bxN c mn m h0)=nameOf c 4::lkN c m++[nameOf c 8]:=by
  simp [bxN,nB,List.map_map,Function.comp_def]
theorem N8 {c:Int} {m:Nat} {y:Str} (h:y∈lkN c m):∃ k:Nat,k<m∧y=nameOf c (k:Int):=by
  obtain ⟨k,hk,e⟩:=List.mem_map.mp h
  exact ⟨k,List.mem_range.mp hk,e.symm⟩
theorem nmN {c i:Int}:okN (nameOf c i):=(name (c:=c) (k:=i) (sto:=[])).2
theorem Kg {c i:Int} {m:Nat} (h:m≤4) (h4:4≤i) (h9:i<10):nameOf c i∉lkN c m:=fun z=>by
  obtain ⟨k,hk,e⟩:=N8 z
  have:=Ci (by omega) (by omega) e
  omega
theorem a2d {c:Int} {m:Nat} (h:m≤4):(lkN c m).Nodup:=by
  have:=Ph c 0 m (by omega)
  simpa [lkN] using this
theorem a65 {c mn:Int} {m:Nat} {h0:Str} (h:m≤4):(nB (bxN c mn m h0)).Nodup:=by
  rw [K7]
  rw [List.cons_append]
  refine List.nodup_cons.mpr ⟨fun z=>?_,List.nodup_append.mpr ⟨a2d h,by simp,fun a ha b hb e=>?_⟩⟩
  · rcases List.mem_append.mp z with z | z
    · exact Kg h (by omega) (by omega) z
    · have:=Ci (by omega) (by omega) (List.mem_singleton.mp z)
      omega
  · rw [List.mem_singleton.mp hb] at e
    exact Kg h (by omega) (by omega) (e ▸ ha)
theorem a6i {c mn:Int} {m:Nat} {h0:Str} {H:List Hd} {ss:List Sp} (h:m≤4) (hw:okS h0) (okh:a2g H) (ndH:(H.map (·.1)).Nodup) (l:ss.length≤63)
    (hs:∀ s∈ss,OkP (nB (bxN c mn m h0)) H s∧Ow (lkN c m) H s∧∃ k,∃ hk:k<H.length,s.hand=H[k].1∧0≤s.there∧s.there<H[k].2):OkW (bxN c mn m h0) H ss (lkN c m):=by
  have len:(nB (bxN c mn m h0)).length=m+2:=by rw [K7]; simp [lkN]
  have okn:a5e (nB (bxN c mn m h0)):=⟨by omega,fun x hx=>by
    rw [K7] at hx
    rcases List.mem_append.mp hx with z | z
    · rcases List.mem_cons.mp z with rfl | z
      · exact nmN
      · obtain ⟨k,_,rfl⟩:=N8 z; exact nmN
    · rw [List.mem_singleton.mp z]; exact nmN⟩
  have hk:∀ y∈lkN c m,okS y:=fun y hy=>by obtain ⟨k,_,rfl⟩:=N8 hy; exact nmN.1
  refine ⟨⟨a65 h,ndH,okn,okh,fun s hm=>(hs s hm).1⟩,⟨ndH,fun hd hm=>⟨⟨((okh.2.2 hd hm).1).1,hk,by simp [lkN]; exact h,fun s hm'=>?_,l,?_⟩,?_⟩⟩,fun s hm=>(hs s hm).2.1,hk,fun y hy=>?_,fun b hb hm=>?_,l,fun b hb=>?_⟩
  · obtain ⟨p,_,k,hk',e1,e2,e3⟩:=hs s hm'
    refine ⟨p.hd.1,p.len,fun q hq=>(okn.2 _ (p.set q hq).1).1,fun e=>?_⟩
    obtain ⟨j,hj,rfl⟩:=List.mem_iff_getElem.mp hm
    have lj:j<(H.map fun x:Hd=>x.1).length:=by rw [List.length_map]; exact hj
    have lk':k<(H.map fun x:Hd=>x.1).length:=by rw [List.length_map]; exact hk'
    have jk:k=j:=(List.getElem_inj (h₀:=lk') (h₁:=lj) ndH).mp (by simpa using e1.symm.trans e)
    subst jk
    omega
  · have:=okh.2.2 hd hm; omega
  · have:=okh.2.2 hd hm; omega
  · rw [K7]; exact List.mem_append_left _ (List.mem_cons_of_mem _ hy)
  · unfold bxN at hb
    rcases List.mem_append.mp hb with z | z
    · rcases List.mem_cons.mp z with rfl | z
      · rfl
      · obtain ⟨y,_,rfl⟩:=List.mem_map.mp z; rfl
    · rw [List.mem_singleton.mp z] at hm
      exact absurd hm (Kg h (by omega) (by omega))
  · unfold bxN at hb
    have w:okS "" := by unfold okS; decide +kernel
    rcases List.mem_append.mp hb with z | z
    · rcases List.mem_cons.mp z with rfl | z
      · exact w
      · obtain ⟨y,_,rfl⟩:=List.mem_map.mp z; exact w
    · rw [List.mem_singleton.mp z]; exact hw
end K
end
section
namespace C
open PySem
theorem a7a {f:List T→Option T} {a:M T} {s s1:Sta} {t u:T} (h:a s=some (t,s1)) (hf:f [t]=some u):gw f (aq a fj) s=some (u,s1):=by
  unfold gw aq
  rw [h]
  simp [fj,hf]
theorem op2 {f:T→T→Option T} {a b:M T} {s s1 s2:Sta} {t u v:T} (h:a s=some (t,s1)) (h2:b s1=some (u,s2)) (hf:f t u=some v):mOp f a b s=some (v,s2):=by
  unfold mOp
  rw [h]
  dsimp only
  rw [h2]
  dsimp only
  rw [hf]
theorem a4a {i:Nat} {e:M T} {s s1:Sta} {t:T} (h:e s=some (t,s1)):sNew i e s=some (.next,gk i t true s1):=by unfold sNew; rw [h]
end C
namespace K
open C PySem
abbrev eP (cs:List Int) (w c:Int) (r:List Slot):List Slot:=some (scr cs,false)::some (.int 40,false)::some (.int w,false)::some (.int c,false)::some (.obj 0,false)::r
theorem hands {cs:List Int} {w c:Int} {mn:Nat} (h2:2≤mn) (h3:mn≤3) {s5:List SO} (o5:StO s5) (l5:s5.length=1):∃ (H:List Hd) (s6:List SO),a2g H∧H.length=mn∧(H.map (·.1)).Nodup∧StO s6∧s6.length=1 ∧
    v7 1 [3,4] (hName 0) (m8 (bf 5)) Cr (gw (fun l=>some (.tup l)) (aq (jo iw (aq (bf 1) (aq (mOp Aw (au (.int 5)) (bf 0)) fj))) (aq (mOp Aw (au (.int 2)) (jo dj (aq (bf 2) (aq (au (.int 4)) fj)))) fj)))
      ⟨eP cs w c [some (.int (mn:Int),false),none,none,none,none,none],s5⟩=some (.lst (H.map hT),⟨eP cs w c [some (.int (mn:Int),false),none,none,none,none,none],s6⟩):=by
  have nb:(mn:Int).natAbs<lim:=by show _<1000000; omega
  have ll:mn<lim:=by show _<1000000; omega
  obtain ⟨us,s6,ec,H,r,e0,e1,en,er,o6,l6,e4⟩:=Gf (g:=hName 0) (nv:=1) (ci:=[3,4]) (it:=m8 (bf 5)) (e:=gw (fun l=>some (.tup l)) (aq (jo iw (aq (bf 1) (aq (mOp Aw (au (.int 5)) (bf 0)) fj))) (aq (mOp Aw (au (.int 2)) (jo dj (aq (bf 2) (aq (au (.int 4)) fj)))) fj)))
    (s:=⟨eP cs w c [some (.int (mn:Int),false),none,none,none,none,none],s5⟩) rfl ((List.range' 0 mn).map fun (k:Nat)=>T.int (k:Int)) ⟨eP cs w c [some (.int (mn:Int),false),none,none,none,none,none],s5⟩
    (eP cs w c [some (.int (mn:Int),false),none,none,none,none,none]) [some (.int c,false),some (.obj 0,false)]
    (fun ts acc st=>∃ (H:List Hd) (r:Nat),ts=(List.range' H.length r).map (fun (k:Nat)=>T.int (k:Int))∧acc=H.map hT∧H.map (·.1)=(List.range H.length).map (fun (k:Nat)=>nameOf c (((5:Nat):Int)+(k:Int)))∧r+H.length=mn∧StO st∧st.length=1∧∀ h∈H,okN h.1∧1≤h.2∧h.2≤5)
    (by simp! [rangeT,List.range_eq_range',ll]) rfl rfl rfl (by rw [List.length_map,List.length_range']; exact Nat.le_of_lt ll) ⟨[],mn,rfl,rfl,rfl,rfl,o5,l5,fun h hh=>nomatch hh⟩ (by
      rintro t q acc st ⟨H,r,e0,e1,en,er,o,l,e4⟩ pre hp
      obtain ⟨a,rfl⟩:=C.p1 pre hp
      obtain ⟨r,rfl⟩:∃ j,r=j+1:=by
        cases r with
        | zero=>cases e0
        | succ j=>exact ⟨j,rfl⟩
      rw [List.range'_succ,List.map_cons] at e0
      injection e0 with e01 e02
      subst e01
      obtain ⟨kk,hk⟩:∃ k:Int,(H.length:Int)=k:=⟨_,rfl⟩
      rw [hk]
      obtain ⟨qx,ox⟩:=name (c:=c) (k:=5+kk) (sto:=st)
      obtain ⟨rr,s1,q1,a1,b1,w1,l1⟩:=Dm (n:=0) (many:=4) (by omega:0<st.length) o (by decide) (by decide)
      generalize hx:nameOf c (5+kk)=x at *
      refine ⟨[some (.int kk,false)],hT (x,2+rr),s1,rfl,rfl,?_,H++[(x,2+rr)],r,by rw [List.length_append,List.length_singleton]; exact e02,by rw [e1]; simp,by rw [List.map_append,en,List.length_append,List.length_singleton,List.range_succ,List.map_append,← hx,← hk]; rfl,by rw [List.length_append,List.length_singleton]; omega,w1,by omega,fun h hh=>?_⟩
      · simp! [qx,q1,hT]
      · rcases List.mem_append.mp hh with z | z
        · exact e4 h z
        · rw [List.mem_singleton] at z; subst z; exact ⟨ox,by show 1≤2+rr; omega,by show 2+rr≤5; omega⟩)
  have r0:r=0:=by
    cases r with
    | zero=>rfl
    | succ j=>rw [List.range'_succ] at e0; cases e0
  subst e1
  have hl:H.length=mn:=by omega
  exact ⟨H,s6,⟨by omega,by omega,e4⟩,hl,by rw [en]; exact Ph c 5 _ (by omega),o6,l6,ec⟩
theorem locked {cs:List Int} (hc:cs.length≤63):Out (nj [scr cs,.int 40] []) (fun t st=>∃ bs H ss lk,t=prT bs H ss lk∧OkW bs H ss lk):=by
  have c0e:=V9 (cs:=cs) (k:=0) (i:=0) (sto:=[]) rfl
  have c1e:=V9 (cs:=cs) (k:=1) (i:=1) (sto:=[]) rfl
  have c2e:=V9 (cs:=cs) (k:=2) (i:=2) (sto:=[]) rfl
  generalize cell cs 0=c0 at *
  generalize cell cs 1=c at *
  generalize cell cs 2=c2 at *
  obtain ⟨w,ew⟩:∃ w:Int,c0 / 5%2=w:=⟨_,rfl⟩
  have s0:StO [.lst [.int c2,.int w]]:=fun x hx=>by rw [List.mem_singleton] at hx; subst hx; exact .inl ⟨_,_,rfl⟩
  obtain ⟨r5,s5,q5,a5,b5,o5,l5⟩:=Dm (n:=0) (many:=2) (by simp) s0 (by decide) (by decide)
  have l5':s5.length=1:=l5
  obtain ⟨mn,hmn⟩:∃ mn:Nat,2+r5=(mn:Int):=⟨(2+r5).toNat,by omega⟩
  obtain ⟨H,s6,okH,lenH,ndH,o6,l6,e6⟩:=hands (cs:=cs) (w:=w) (c:=c) (mn:=mn) (by omega) (by omega) o5 l5'
  obtain ⟨r7,s7,q7,a7,b7,o7,l7⟩:=Dm (n:=0) (many:=4) (by omega:0<s6.length) o6 (by decide) (by decide)
  obtain ⟨m,hm⟩:∃ m:Nat,1+r7=(m:Int):=⟨(1+r7).toNat,by omega⟩
  have m1:1≤m:=by omega
  have m4:m≤4:=by omega
  have mb:(m:Int).natAbs<lim:=by show _<1000000; omega
  have ml':m<lim:=by show _<1000000; omega
  have ml:(List.range m).length<lim:=by rw [List.length_range]; show _<1000000; omega
  have i4:=(name (c:=c) (k:=4) (sto:=s7)).1
  have i8:=(name (c:=c) (k:=8) (sto:=s7)).1
  unfold nj Ab
  rw [show ([scr cs,T.int 40].map (fun t=>some (t,false))++List.replicate (11 - [scr cs,T.int 40].length) none:List Slot)=[some (scr cs,false),some (.int 40,false),none,none,none,none,none,none,none,none,none] from rfl]
  rw [dh (s':=⟨[some (scr cs,false),some (.int 40,false),some (.int w,false),none,none,none,none,none,none,none,none],[]⟩) (by simp! [c0e,ew])]
  rw [dh (s':=⟨[some (scr cs,false),some (.int 40,false),some (.int w,false),some (.int c,false),none,none,none,none,none,none,none],[]⟩) (by simp! [c1e])]
  rw [dh (s':=⟨eP cs w c [none,none,none,none,none,none],[.lst [.int c2,.int w]]⟩) (by simp! [c2e,zc])]
  rw [dh (s':=⟨eP cs w c [some (.int (mn:Int),false),none,none,none,none,none],s5⟩) (by simp! [q5,hmn])]
  rw [dh (s':=⟨eP cs w c [some (.int (mn:Int),false),some (.lst (H.map hT),false),none,none,none,none],s6⟩) (Vr e6)]
  have cl:=K9 (fun (k:Nat)=>T.int (k:Int)) (fun (k:Nat)=>T.str (nameOf c (k:Int))) (List.range m) (g:=hName 0) (nv:=1) (ci:=[3]) (c:=Cr) (it:=m8 (mOp Aw (au (.int 1)) (jo dj (aq (bf 4) (aq (au (.int 4)) fj))))) (e:=jo iw (aq (bf 1) (aq (bf 0) fj)))
    (s:=⟨eP cs w c [some (.int (mn:Int),false),some (.lst (H.map hT),false),none,none,none,none],s6⟩) (s1:=⟨eP cs w c [some (.int (mn:Int),false),some (.lst (H.map hT),false),none,none,none,none],s7⟩) (eP cs w c [some (.int (mn:Int),false),some (.lst (H.map hT),false),none,none,none,none]) [some (.int c,false)]
    (by simp! [q7,hm,ml',rangeT]) rfl rfl rfl (Nat.le_of_lt ml) (by
      intro k hk pre hp
      obtain ⟨a,rfl⟩:=C.p1 pre hp
      have qn:=(name (c:=c) (k:=(k:Int)) (sto:=s7)).1
      exact ⟨[some (.int (k:Int),false)],rfl,rfl,rfl,by simp! [qn]⟩)
  have el:(List.range m).map (fun (k:Nat)=>T.str (nameOf c (k:Int)))=(lkN c m).map T.str:=by unfold lkN; rw [List.map_map]; rfl
  rw [el] at cl
  rw [dh (s':=⟨eP cs w c [some (.int (mn:Int),false),some (.lst (H.map hT),false),some (.tup ((lkN c m).map T.str),false),none,none,none],s7⟩) (by
    have:gw oh (aq (v7 1 [3] (hName 0) (m8 (mOp Aw (au (.int 1)) (jo dj (aq (bf 4) (aq (au (.int 4)) fj))))) Cr (jo iw (aq (bf 1) (aq (bf 0) fj)))) fj) ⟨eP cs w c [some (.int (mn:Int),false),some (.lst (H.map hT),false),none,none,none,none],s6⟩=some (.tup ((lkN c m).map T.str),⟨eP cs w c [some (.int (mn:Int),false),some (.lst (H.map hT),false),none,none,none,none],s7⟩):=by
      exact a7a cl rfl
    exact Vr this)]
  rw [dh (s':=⟨eP cs w c [some (.int (mn:Int),false),some (.lst (H.map hT),false),some (.tup ((lkN c m).map T.str),false),some (.lst [.str (nameOf c 4),.str (nameOf c 8)],false),none,none],s7⟩) (by simp! [i4,i8])]
  have lkl:(lkN c m).length=m:=by simp [lkN]
  have lkm:(lkN c m).length<lim:=by rw [lkl]; show _<1000000; omega
  have cb:=K9 T.str (fun y=>bxT ⟨y,"",0,(mn:Int),0⟩) (lkN c m) (g:=hName 0) (nv:=1) (ci:=[5]) (c:=Cr) (it:=Ae (bf 7)) (e:=gw (fun l=>some (.tup l)) (aq (bf 0) (aq (au (.str "")) (aq (au (.int 0)) (aq (bf 1) (aq (au (.int 0)) fj))))))
    (s:=⟨eP cs w c [some (.int (mn:Int),false),some (.lst (H.map hT),false),some (.tup ((lkN c m).map T.str),false),some (.lst [.str (nameOf c 4),.str (nameOf c 8)],false),none,none],s7⟩) (s1:=⟨eP cs w c [some (.int (mn:Int),false),some (.lst (H.map hT),false),some (.tup ((lkN c m).map T.str),false),some (.lst [.str (nameOf c 4),.str (nameOf c 8)],false),none,none],s7⟩) (eP cs w c [some (.int (mn:Int),false),some (.lst (H.map hT),false),some (.tup ((lkN c m).map T.str),false),some (.lst [.str (nameOf c 4),.str (nameOf c 8)],false),none,none]) [some (.int (mn:Int),false)]
    (by simp! [lkm]) rfl rfl rfl (Nat.le_of_lt lkm) (by
      intro y hy pre hp
      obtain ⟨a,rfl⟩:=C.p1 pre hp
      exact ⟨[some (.str y,false)],rfl,rfl,rfl,by simp! [bxT]⟩)
  have h0l:0<H.length:=by omega
  generalize hbx:bxN c (mn:Int) m H[0].1=bs
  have ebs:bs.map bxT=([T.tup [.str (nameOf c 4),.str "",.int 0,.int 9,.int 0]]++(lkN c m).map (fun y=>bxT ⟨y,"",0,(mn:Int),0⟩))++[.tup [.str (nameOf c 8),.str H[0].1,.int (-1),.int 4,.int 1]]:=by
    rw [← hbx]; simp [bxN,bxT,List.map_map,Function.comp_def]
  generalize hA:[T.tup [.str (nameOf c 4),.str "",.int 0,.int 9,.int 0]]++(lkN c m).map (fun y=>bxT ⟨y,"",0,(mn:Int),0⟩)=A at ebs
  have lA:A.length=m+1:=by rw [← hA]; simp [lkl]
  have lA2:A.length<lim:=by rw [lA]; show _<1000000; omega
  rw [dh (s':=⟨eP cs w c [some (.int (mn:Int),false),some (.lst (H.map hT),false),some (.tup ((lkN c m).map T.str),false),some (.lst [.str (nameOf c 4),.str (nameOf c 8)],false),some (.lst A,true),none],s7⟩) (by
    have a1:gw (fun l=>some (.lst l)) (aq (gw (fun l=>some (.tup l)) (aq (mOp cu (bf 8) (au (.int 0))) (aq (au (.str "")) (aq (au (.int 0)) (aq (au (.int 9)) (aq (au (.int 0)) fj)))))) fj) ⟨eP cs w c [some (.int (mn:Int),false),some (.lst (H.map hT),false),some (.tup ((lkN c m).map T.str),false),some (.lst [.str (nameOf c 4),.str (nameOf c 8)],false),none,none],s7⟩=some (.lst [.tup [.str (nameOf c 4),.str "",.int 0,.int 9,.int 0]],⟨eP cs w c [some (.int (mn:Int),false),some (.lst (H.map hT),false),some (.tup ((lkN c m).map T.str),false),some (.lst [.str (nameOf c 4),.str (nameOf c 8)],false),none,none],s7⟩):=rfl
    have l9:[T.tup [.str (nameOf c 4),.str "",.int 0,.int 9,.int 0]].length+((lkN c m).map (fun y=>bxT ⟨y,"",0,(mn:Int),0⟩)).length<lim:=by rw [List.length_map,lkl,List.length_singleton]; show _<1000000; omega
    have ad:Ub (.lst [T.tup [.str (nameOf c 4),.str "",.int 0,.int 9,.int 0]]) (.lst ((lkN c m).map (fun y=>bxT ⟨y,"",0,(mn:Int),0⟩)))=some (.lst A):=by
      unfold Ub
      dsimp only
      rw [if_pos l9,hA]
    exact a4a (op2 a1 cb ad))]
  have ih:=Dr hT H h0l
  have ih':cu (.lst (H.map hT)) (.int 0)=some (hT H[0]):=ih
  have ih2:cu (hT H[0]) (.int 0)=some (.str H[0].1):=Gx
  have io:cu (.lst [.str (nameOf c 4),.str (nameOf c 8)]) (.int 1)=some (.str (nameOf c 8)):=rfl
  rw [dh (s':=⟨eP cs w c [some (.int (mn:Int),false),some (.lst (H.map hT),false),some (.tup ((lkN c m).map T.str),false),some (.lst [.str (nameOf c 4),.str (nameOf c 8)],false),some (.lst (bs.map bxT),true),none],s7⟩) (by
    rw [ebs]
    simp! [io,ih',ih2,a1v,lA2])]
  obtain ⟨sc,hmm,cx⟩:∃ sc:List Int,sc.length≤63∧a1t (some 3) (some 43) (scr cs)=some (.lst (sc.map T.int)):=by
    refine ⟨(cs.drop (sIx cs.length 0 (some 3))).take (sIx cs.length cs.length (some 43) - sIx cs.length 0 (some 3)),?_,?_⟩
    · rw [List.length_take,List.length_drop]; omega
    · simp only [a1t,a4z,List.length_map,← List.map_drop,← List.map_take]
  have mll:sc.length<lim:=by show _<1000000; omega
  generalize hN:nB bs=N
  have hN':N=nameOf c 4::lkN c m++[nameOf c 8]:=by rw [← hN,← hbx]; exact K7
  obtain ⟨us,s10,ec,ss,e1,e2,_,w10,k10⟩:=Gf (g:=hName 0) (nv:=1) (ci:=[6,7,8,2]) (it:=Ae (Gu (bf 0) (Nh (au (.int 3))) (Nh (mOp Aw (au (.int 3)) (bf 1))))) (e:=jo j4 (aq (zc (aq (bf 0) (aq (bf 4) fj))) (aq (bf 1) (aq (bf 2) (aq (bf 3) fj)))))
    (s:=⟨eP cs w c [some (.int (mn:Int),false),some (.lst (H.map hT),false),some (.tup ((lkN c m).map T.str),false),some (.lst [.str (nameOf c 4),.str (nameOf c 8)],false),some (.lst (bs.map bxT),true),none],s7⟩) rfl (sc.map T.int) ⟨eP cs w c [some (.int (mn:Int),false),some (.lst (H.map hT),false),some (.tup ((lkN c m).map T.str),false),some (.lst [.str (nameOf c 4),.str (nameOf c 8)],false),some (.lst (bs.map bxT),true),none],s7⟩
    (eP cs w c [some (.int (mn:Int),false),some (.lst (H.map hT),false),some (.tup ((lkN c m).map T.str),false),some (.lst [.str (nameOf c 4),.str (nameOf c 8)],false),some (.lst (bs.map bxT),true),none]) [some (.lst (H.map hT),false),some (.tup ((lkN c m).map T.str),false),some (.lst [.str (nameOf c 4),.str (nameOf c 8)],false),some (.int w,false)]
    (fun ts acc st=>∃ l:List Sp,acc=l.map spT∧ts.length+l.length≤63∧(∀ t∈ts,∃ i:Int,t=.int i)∧StO st∧∀ s∈l,OkP N H s∧Ow (lkN c m) H s∧∃ k,∃ hk:k<H.length,s.hand=H[k].1∧0≤s.there∧s.there<H[k].2)
    (by simp! [Gu,Nh,cx,mll]) rfl rfl rfl (by rw [List.length_map]; exact Nat.le_of_lt mll) ⟨[],rfl,by rw [List.length_map]; exact hmm,fun t ht=>by obtain ⟨i,_,rfl⟩:=List.mem_map.mp ht; exact ⟨i,rfl⟩,o7,fun s hs=>nomatch hs⟩ (by
      rintro t q acc st ⟨l,e1,e2,e0,e3,e4⟩ pre hp
      obtain ⟨a,rfl⟩:=C.p1 pre hp
      obtain ⟨i,rfl⟩:=e0 t List.mem_cons_self
      simp only [List.length_cons] at e2
      have hs':StO (st++[.lst [.int i,.int w]]):=e3.add (.inl ⟨_,_,rfl⟩)
      obtain ⟨t5,s6,p6,x,rfl,kx,kx2,kx3,o6,l6⟩:=U8 (n:=st.length) (N:=N) (by rw [List.length_append]; simp:st.length<(st++[SO.lst [.int i,.int w]]).length) hs' okH (lk:=lkN c m) (o0:=nameOf c 4) (o1:=nameOf c 8) (by omega) (by omega) (fun y hy=>by rw [hN']; exact List.mem_append_left _ (List.mem_cons_of_mem _ hy)) ⟨by rw [hN']; simp,Kg m4 (by omega) (by omega)⟩ ⟨by rw [hN']; simp,Kg m4 (by omega) (by omega)⟩
      refine ⟨[some (.int i,false)],spT x,s6,rfl,rfl,?_,l++[x],by rw [e1]; simp,by rw [List.length_append,List.length_singleton]; omega,fun t ht=>e0 t (List.mem_cons_of_mem _ ht),o6,fun r hr=>?_⟩
      · simp! [zc,p6]
      · rcases List.mem_append.mp hr with z | z
        · exact e4 r z
        · rw [List.mem_singleton] at z; subst z; exact ⟨kx,kx2,kx3⟩)
  simp only [List.length_nil,Nat.zero_add] at e2
  subst e1
  rw [dh (Vr ec)]
  simp! []
  subst hN hbx
  exact .of ⟨_,H,ss,lkN c m,rfl,a6i m4 ((okH.2.2 _ (List.getElem_mem h0l)).1).1 okH ndH e2 k10⟩
end K
end
section
namespace C
open PySem
def Le (a b:Str):Prop:=¬ (b.cps.toList<a.cps.toList)
theorem K4 {x:Str}:∀ {l:List Str},(∀ y∈l,Le y x)→G8 x l=l++[x]
  | [],_=>rfl
  | y::r,h=>by
    have hy:¬ (x.cps.toList<y.cps.toList):=h y List.mem_cons_self
    unfold G8
    rw [if_neg (by simpa using hy),K4 fun z hz=>h z (List.mem_cons_of_mem _ hz)]
    rfl
theorem Oi:∀ {l acc:List Str},(acc++l).Pairwise Le→l.foldl (fun acc x=>G8 x acc) acc=acc++l
  | [],acc,_=>by simp
  | x::l,acc,h=>by
    rw [List.foldl_cons,K4 fun y hy=>(List.pairwise_append.mp h).2.2 y hy x List.mem_cons_self]
    rw [Oi (by rw [List.append_assoc]; exact h),List.append_assoc]
    rfl
theorem Ey {l:List Str} (h:l.Pairwise Le):uf l=l:=by
  have:=Oi (acc:=[]) (l:=l) (by simpa using h)
  simpa [uf] using this
theorem Rv {x:Str}:∀ {l:List Str},l.Pairwise Le→(G8 x l).Pairwise Le
  | [],_=>by simp [G8]
  | y::r,h=>by
    obtain ⟨h1,h2⟩:=List.pairwise_cons.mp h -- here
    unfold G8
    split
    · rename_i hx
      have hx':x.cps.toList<y.cps.toList:=by simpa using hx
      refine List.pairwise_cons.mpr ⟨fun z hz=>?_,h⟩
      rcases List.mem_cons.mp hz with rfl | hz -- here
      · exact List.lt_asymm hx'
      · exact fun q=>h1 z hz (List.lt_trans q hx')
    · rename_i hx
      have hx':¬ (x.cps.toList<y.cps.toList):=by simpa using hx
      refine List.pairwise_cons.mpr ⟨fun z hz=>?_,Rv h2⟩
      rcases List.mem_cons.mp ((Mp r).mem_iff.mp hz) with rfl | hz
      · exact hx'
      · exact h1 z hz
theorem Ul:∀ {l acc:List Str},acc.Pairwise Le→(l.foldl (fun acc x=>G8 x acc) acc).Pairwise Le
  | [],acc,h=>h
  | x::l,acc,h=>by rw [List.foldl_cons]; exact Ul (Rv h)
theorem Xf (l:List Str):(uf l).Pairwise Le:=Ul .nil
theorem erase_filter {b:Str} {L:List Str} (nd:L.Nodup):L.erase b=L.filter fun y=>!(y==b):=by
  rw [nd.erase_eq_filter]
  refine List.filter_congr fun y _=>?_
  cases h:(y==b) <;> simp_all
end C
namespace K
open C PySem
section
variable {lk:List Str} {sto:List SO} {s:Sp}
def bB:S:=ju (sIf (Hl (fu (mOp inT (bf 3) (bf 2))) (fu (mOp eqO (mOp cu (bf 4) (au (.int 0))) (au (.int 0)))))
  (ju (sIf (fu (mOp wg (bf 3) (bf 1)))
  (uy (au .non))
  wz)
  (uy (gw oh (aq (v7 1 [3] (hName 0) (Ae (bf 1)) (fu (mOp neO (bf 0) (bf 1))) (bf 0)) fj))))
  wz)
  (ju (sIf (Hl (fu (mOp inT (bf 3) (bf 2))) (fu (mOp inT (bf 3) (bf 1))))
  (uy (au .non))
  wz)
  (sIf (fu (mOp inT (bf 3) (bf 2)))
  (uy (gw oh (aq (gw yr (aq (mOp Aw (gw uz (aq (bf 1) fj)) (gw (fun l=>some (.lst l)) (aq (bf 3) fj))) fj)) fj)))
  wz))
def bhT (o:Option (List Str)):T:=match o with | some L=>.tup (L.map T.str) | none=>.non
theorem a6e {b:Str} {one:Sm} {L:List Str} (hk:∀ y∈lk,okS y) (hb':okS b) (hL:∀ y∈L,okS y) (nd:L.Nodup) (le:L.Pairwise Le) (ll:L.length<60) :
    (∀ L',hbS lk [(b,one)] L=some L'→(bB ⟨[some (spT s,false),some (.tup (L.map T.str),false),some (.tup (lk.map T.str),false),some (.str b,false),some (smT one,false)],sto⟩=some (.next,⟨[some (spT s,false),some (.tup (L.map T.str),false),some (.tup (lk.map T.str),false),some (.str b,false),some (smT one,false)],sto⟩)∧uf L'=L) ∨
      ∃ st',bB ⟨[some (spT s,false),some (.tup (L.map T.str),false),some (.tup (lk.map T.str),false),some (.str b,false),some (smT one,false)],sto⟩=some (.ret (.tup ((uf L').map T.str)),st')∧st'.sto=sto) ∧
    (hbS lk [(b,one)] L=none→∃ st',bB ⟨[some (spT s,false),some (.tup (L.map T.str),false),some (.tup (lk.map T.str),false),some (.str b,false),some (smT one,false)],sto⟩=some (.ret .non,st')∧st'.sto=sto):=by
  have e1:=Zn hb' hk
  have e2:=Zn hb' hL
  have e3:wg (.str b) (.tup (L.map T.str))=some (.bl (!decide (b∈L))):=by simp [wg,e2]
  have i0:cu (smT one) (.int 0)=some (.int one.1):=Gx
  have al:L.length<lim:=by show _<1000000; omega
  simp only [hbS]
  unfold bB
  by_cases h1:b∈lk
  · rw [decide_eq_true h1] at e1
    rw [if_pos h1]
    by_cases h2:one.1=0
    · rw [if_neg (by simpa using h2)]
      by_cases h3:b∈L
      · rw [decide_eq_true h3] at e2 e3
        rw [if_pos h3]
        refine ⟨fun L' e=>.inr ⟨⟨[some (spT s,false),some (.tup (L.map T.str),false),some (.tup (lk.map T.str),false),some (.str b,false),some (smT one,false)],sto⟩,?_,rfl⟩,fun e=>nomatch e⟩
        cases e
        rw [erase_filter nd,Ey (le.filter _)]
        have cf:=U0 (g:=hName 0) (nv:=1) (ci:=[3]) (c:=fu (mOp neO (bf 0) (bf 1))) (it:=Ae (bf 1)) (e:=bf 0) (s:=⟨[some (spT s,false),some (.tup (L.map T.str),false),some (.tup (lk.map T.str),false),some (.str b,false),some (smT one,false)],sto⟩) rfl T.str T.str (fun y=>!(y==b)) L ⟨[some (spT s,false),some (.tup (L.map T.str),false),some (.tup (lk.map T.str),false),some (.str b,false),some (smT one,false)],sto⟩ [some (spT s,false),some (.tup (L.map T.str),false),some (.tup (lk.map T.str),false),some (.str b,false),some (smT one,false)] [some (.str b,false)]
          (by simp! [al]) rfl rfl rfl (Nat.le_of_lt al) (by
            intro y hy pre hp
            obtain ⟨a,rfl⟩:=C.p1 pre hp
            have nq:=a0i (hL y hy) hb'
            exact ⟨[some (.str y,false)],rfl,rfl,by simp! [nq],fun _=>rfl⟩)
        have R1:gw oh (aq (v7 1 [3] (hName 0) (Ae (bf 1)) (fu (mOp neO (bf 0) (bf 1))) (bf 0)) fj) ⟨[some (spT s,false),some (.tup (L.map T.str),false),some (.tup (lk.map T.str),false),some (.str b,false),some (smT one,false)],sto⟩=some (.tup ((L.filter fun y=>!(y==b)).map T.str),⟨[some (spT s,false),some (.tup (L.map T.str),false),some (.tup (lk.map T.str),false),some (.str b,false),some (smT one,false)],sto⟩):=a7a cf rfl
        generalize gw oh (aq (v7 1 [3] (hName 0) (Ae (bf 1)) (fu (mOp neO (bf 0) (bf 1))) (bf 0)) fj)=M0 at *
        simp! [e1,e3,i0,j7,h2,R1]
      · rw [decide_eq_false h3] at e2 e3
        rw [if_neg h3]
        refine ⟨fun L' e=>(nomatch e),fun _=>⟨⟨[some (spT s,false),some (.tup (L.map T.str),false),some (.tup (lk.map T.str),false),some (.str b,false),some (smT one,false)],sto⟩,?_,rfl⟩⟩
        simp! [e1,e3,i0,j7,h2]
    · rw [if_pos (by simpa using h2)] -- here
      have b2:(one.1==0)=false:=beq_eq_false_iff_ne.mpr h2
      by_cases h3:b∈L
      · rw [decide_eq_true h3] at e2
        rw [if_pos h3]
        refine ⟨fun L' e=>(nomatch e),fun _=>⟨⟨[some (spT s,false),some (.tup (L.map T.str),false),some (.tup (lk.map T.str),false),some (.str b,false),some (smT one,false)],sto⟩,?_,rfl⟩⟩
        simp! [e1,e2,i0,j7,b2]
      · rw [decide_eq_false h3] at e2
        rw [if_neg h3]
        refine ⟨fun L' e=>.inr ⟨⟨[some (spT s,false),some (.tup (L.map T.str),false),some (.tup (lk.map T.str),false),some (.str b,false),some (smT one,false)],sto⟩,?_,rfl⟩,fun e=>nomatch e⟩
        cases e
        have so:=sorted_strs (l:=L++[b]) (by rw [List.length_append,List.length_singleton]; omega)
        rw [List.map_append,List.map_cons,List.map_nil] at so
        have l2:L.length+1<lim:=by show _<1000000; omega
        simp! [e1,e2,i0,j7,b2,uz,l2,so,oh]
  · rw [decide_eq_false h1] at e1
    rw [if_neg h1]
    refine ⟨fun L' e=>.inl ⟨?_,by cases e; exact Ey le⟩,fun e=>nomatch e⟩
    simp! [e1]
end
end K
end
section
namespace K
open C PySem
section
variable {bs:List Bx} {lk:List Str} {H:List Hd} {ss:List Sp} {sto pre:List SO} {s:Sp} {h:Str} {P:Nat}
theorem behind {L:List Str} (one:s.sets=[]∨∃ b o,s.sets=[(b,o)]) (hp:∀ p∈s.sets,okS p.1) (hk:∀ y∈lk,okS y) (hL:∀ y∈L,okS y) (nd:L.Nodup) (le:L.Pairwise Le) (ll:L.length<60) :
    jw [spT s,.tup (L.map T.str),.tup (lk.map T.str)] sto=some (bhT (hb lk s L),sto):=by
  have i3:cu (spT s) (.int 3)=some (.tup (s.sets.map seT)):=Jw
  have sl:s.sets.length<lim:=by rcases one with h | ⟨b,o,h⟩ <;> rw [h] <;> show _<1000000 <;> simp
  have it:Ae (mOp cu (bf 0) (au (.int 3))) ⟨[some (spT s,false),some (.tup (L.map T.str),false),some (.tup (lk.map T.str),false),none,none],sto⟩=some (s.sets.map seT,⟨[some (spT s,false),some (.tup (L.map T.str),false),some (.tup (lk.map T.str),false),none,none],sto⟩):=by
    simp! [i3,sl]
  have X:jw [spT s,.tup (L.map T.str),.tup (lk.map T.str)] sto=(match ju (Bt (wu [3,4]) (Ae (mOp cu (bf 0) (au (.int 3)))) bB) (uy (bf 1)) ⟨[some (spT s,false),some (.tup (L.map T.str),false),some (.tup (lk.map T.str),false),none,none],sto⟩ with
      | some (.ret t,s)=>some (t,s.sto)
      | some (.next,s)=>some (.non,s.sto)
      | _=>none):=by rfl
  rw [X]
  unfold hb ju Bt
  rw [it]
  dsimp only
  rcases one with h0 | ⟨b,o,h0⟩
  · rw [h0]
    simp only [List.map_nil,forL,hbS,Option.map_some,Ey le]
    rfl
  · rw [h0]
    have hbb:=hp (b,o) (by rw [h0]; simp)
    obtain ⟨w1,w2⟩:=a6e (s:=s) (sto:=sto) (one:=o) hk hbb hL nd le ll
    have G:wu [3,4] (seT (b,o)) ⟨[some (spT s,false),some (.tup (L.map T.str),false),some (.tup (lk.map T.str),false),none,none],sto⟩=some ⟨[some (spT s,false),some (.tup (L.map T.str),false),some (.tup (lk.map T.str),false),some (.str b,false),some (smT o,false)],sto⟩:=Mj
    simp only [List.map_cons,List.map_nil,forL,G]
    cases hx:hbS lk [(b,o)] L with
    | none =>
      obtain ⟨st',e1,e2⟩:=w2 hx
      rw [e1]
      dsimp only
      rw [e2]
      rfl
    | some L' =>
      rcases w1 L' hx with ⟨e1,e2⟩ | ⟨st',e1,e2⟩
      · rw [e1]
        dsimp only [Option.map_some]
        rw [e2]
        rfl
      · rw [e1]
        dsimp only
        rw [e2]
        rfl
def ji (h:Str) (D:Tb) (K:Dit):Dit:=D.foldl (fun K p=>zf (qk h p.1) (.tup (p.2.map T.str)) K) K
theorem Vt {D:Tb} {p:Int × List Str} {K:Dit}:ji h (D++[p]) K=zf (qk h p.1) (.tup (p.2.map T.str)) (ji h D K):=by
  unfold ji
  rw [List.foldl_append]
  rfl
theorem Sw {p:Int × List Str} {D:Tb} {q:Int}:xr (p::D) q=if p.1=q then some p.2 else xr D q:=by
  unfold xr
  rw [List.find?_cons]
  by_cases z:p.1=q
  · rw [if_pos z,show (p.1==q)=true from beq_iff_eq.mpr z]; rfl
  · rw [if_neg z,show (p.1==q)=false from beq_eq_false_iff_ne.mpr z]
theorem u6 {h':Str} {q:Int}:∀ {D:Tb} {K:Dit},(D.map (·.1)).Nodup→qd (qk h' q) (ji h D K)=if h'=h then (match xr D q with | some L=>some (.tup (L.map T.str)) | none=>qd (qk h' q) K) else qd (qk h' q) K
  | [],K,_=>by split <;> rfl
  | p::D,K,nd=>by
    rw [List.map_cons] at nd
    obtain ⟨n1,n2⟩:=List.nodup_cons.mp nd -- here
    show qd (qk h' q) (ji h D (zf (qk h p.1) (.tup (p.2.map T.str)) K))=_
    rw [u6 n2,Oh,Sw]
    by_cases hh:h'=h
    · rw [if_pos hh,if_pos hh]
      by_cases hq:p.1=q
      · have np:xr D q=none:=by
          cases z:xr D q with
          | none=>rfl
          | some L=>exact absurd (List.mem_map.mpr ⟨_,Br z,hq.symm⟩) n1
        rw [np,if_pos hq,if_pos (by rw [hh,hq])]
      · rw [if_neg hq,if_neg (fun z=>hq (Vm z).2.symm)]
    · rw [if_neg hh,if_neg hh,if_neg (fun z=>hh (Vm z).1)]
end
end K
end
section
namespace K
open C PySem
def dI:M T:=nu (bf 2) (gw (fun l=>some (.tup l)) (aq (bf 1) (aq (mOp cu (bf 6) (au (.int 4))) fj)))
def h7:S:=qj 7 (jo jw (aq (bf 6) (aq (nu (bf 2) (gw (fun l=>some (.tup l)) (aq (bf 1) (aq (uh 3 (bf 4)) fj)))) (aq (mOp cu (bf 0) (au (.int 3))) fj))))
def hn2:S:=ju h7
  (ju (sIf (mOr (fu (mOp Li (bf 7) (au .non))) (Hl (fu (mOp Bg dI (au .non))) (fu (mOp neO dI (bf 7)))))
  (uy (bf 5))
  wz)
  (sIf (fu (mOp Li dI (au .non)))
  (ju (lu (bf 2) (aq (bf 1) (aq (mOp cu (bf 6) (au (.int 4))) fj)) (bf 7))
  (uc 3 (mOp cu (bf 6) (au (.int 4)))))
  wz))
def hnC:M Bool:=Hl (fu (mOp eqO (mOp cu (bf 6) (au (.int 0))) (bf 1))) (fu (mOp eqO (mOp cu (bf 6) (au (.int 1))) (uh 3 (bf 4))))
def hnB:S:=ju (qj 6 (mOp cu (mOp cu (bf 0) (au (.int 2))) (bf 5))) (sIf hnC hn2 wz)
def Srt (D:Tb):Prop:=∀ p∈D,p.2.Pairwise Le
section
variable {bs:List Bx} {lk:List Str} {H:List Hd} {ss:List Sp} {S0:List SO} {h:Str} {P d:Nat} {K0:Dit}
abbrev eH (bs:List Bx) (H:List Hd) (ss:List Sp) (lk:List Str) (h:Str) (d:Nat) (D:Tb) (i:Nat) (r:List Slot):List Slot :=
  some (prT bs H ss lk,false)::some (.str h,false)::some (.obj d,false)::some (.lst (mT D),true)::some (.int (i:Int),false)::r
theorem a2t (ok:OkK ss lk h P) (one:∀ s∈ss,s.sets=[]∨∃ b o,s.sets=[(b,o)]) (hd:d<S0.length) (hK:∀ q:Int,0≤q→q<(P:Int)→qd (qk h q) K0=some .non) (kl:K0.length<100) {n i:Nat} (hn:n<ss.length) {D:Tb} (hi:i<D.length) {o6 o7:Slot} (wf:Wf lk P D) (sr:Srt D) (pl:(ji h D K0).length<1000) :
    (∃ D' E p6 p7,step1 lk h D[i].1 D ss[n]=some D'∧D'=D++E∧Wf lk P D'∧Srt D'∧hnB ⟨eH bs H ss lk h d D i [some (.int (n:Int),false),o6,o7],S0.set d (.dit (ji h D K0))⟩=some (.next,⟨eH bs H ss lk h d D' i [some (.int (n:Int),false),p6,p7],S0.set d (.dit (ji h D' K0))⟩)) ∨
    (step1 lk h D[i].1 D ss[n]=none∧∃ env',hnB ⟨eH bs H ss lk h d D i [some (.int (n:Int),false),o6,o7],S0.set d (.dit (ji h D K0))⟩=some (.ret (.int (n:Int)),⟨env',S0.set d (.dit (ji h D K0))⟩)):=by
  obtain ⟨s1,s2,s3,s4⟩:=ok.st _ (List.getElem_mem hn)
  have on:=one _ (List.getElem_mem hn)
  have i2:cu (prT bs H ss lk) (.int 2)=some (.lst (ss.map spT)):=Kw
  have a1:=Dr spT ss hn
  have i3:cu (prT bs H ss lk) (.int 3)=some (.tup (lk.map T.str)):=Jw
  have i0:cu (spT ss[n]) (.int 0)=some (.str ss[n].hand):=Gx
  have i1:cu (spT ss[n]) (.int 1)=some (.int ss[n].here):=Om
  have i4:cu (spT ss[n]) (.int 4)=some (.int ss[n].there):=Ao (k:=4) rfl
  have eh:=Rt s1 ok.hh
  have wl:=wf.len
  have P5:=ok.P5
  have ll:=ok.ll
  have ml:(mT D).length<lim:=by unfold mT; rw [List.length_map]; show _<1000000; omega
  have hg:=M8 wf.nd (k:=D[i].1) (L:=D[i].2) (List.getElem_mem hi)
  obtain ⟨_,_,nd,sub⟩:=wf.at' _ (List.getElem_mem hi)
  have l4:=sub_le lk D[i].2 nd sub
  have le:=sr _ (List.getElem_mem hi)
  have it:(ixI (mT D).length (i:Int)).bind ((mT D)[·]?)=some (.int D[i].1):=by
    have h0:(0:Int)≤(i:Int):=by omega
    have h1:(i:Int)<((mT D).length:Int):=by unfold mT; rw [List.length_map]; omega
    unfold ixI
    rw [if_pos h0,if_pos h1,Option.bind_some,Int.toNat_natCast]
    simp [mT,List.getElem?_eq_getElem hi]
  have sd:(S0.set d (.dit (ji h D K0)))[d]? = some (.dit (ji h D K0)):=by rw [List.getElem?_set_self hd]
  have xh:qd [.inr h,.inl D[i].1] (ji h D K0)=some (.tup (D[i].2.map T.str)):=by
    have:=u6 (h:=h) (h':=h) (q:=D[i].1) (K:=K0) wf.nd
    rw [if_pos rfl,hg] at this
    exact this
  have bh:=behind (sto:=S0.set d (.dit (ji h D K0))) (s:=ss[n]) (L:=D[i].2) on s3 ok.hk (fun y hy=>ok.hk y (sub y hy)) nd le (by omega)
  have xt:ss[n].hand=h→qd [.inr h,.inl ss[n].there] (ji h D K0)=some (bhT (xr D ss[n].there)):=fun e=>by
    have:=u6 (h:=h) (h':=h) (q:=ss[n].there) (K:=K0) wf.nd
    rw [if_pos rfl] at this
    show qd (qk h _) _=_
    rw [this]
    obtain ⟨t1,t2⟩:=s4 e
    cases xr D ss[n].there with
    | none=>exact hK _ t1 t2
    | some L=>rfl
  generalize hs:ss[n]=s at *
  generalize hh:D[i].1=here at *
  generalize hLh:D[i].2=Lh at *
  have S0':step1 lk h here D s=(if s.hand=h∧s.here=here then (match hb lk s Lh with
    | none=>none
    | some L'=>match xr D s.there with
      | none=>some (D++[(s.there,L')])
      | some L2=>if L2=L' then some D else none) else some D):=by unfold step1; rw [hg]; rfl
  have Q1:qj 6 (mOp cu (mOp cu (bf 0) (au (.int 2))) (bf 5)) ⟨eH bs H ss lk h d D i [some (.int (n:Int),false),o6,o7],S0.set d (.dit (ji h D K0))⟩=some (.next,⟨eH bs H ss lk h d D i [some (.int (n:Int),false),some (spT s,false),o7],S0.set d (.dit (ji h D K0))⟩):=by
    simp! [i2,a1]
  unfold hnB
  rw [dh Q1]
  generalize hSt:S0.set d (.dit (ji h D K0))=St at *
  by_cases h1:s.hand=h
  · by_cases h2:s.here=here
    · have b1:(s.hand==h)=true:=beq_iff_eq.mpr h1
      have b2:(s.here==here)=true:=beq_iff_eq.mpr h2
      have c:hnC ⟨eH bs H ss lk h d D i [some (.int (n:Int),false),some (spT s,false),o7],St⟩=some (true,⟨eH bs H ss lk h d D i [some (.int (n:Int),false),some (spT s,false),o7],St⟩):=by
        unfold hnC
        simp! [i0,i1,eh,j7,b1,b2,uh,it]
      have R7:h7 ⟨eH bs H ss lk h d D i [some (.int (n:Int),false),some (spT s,false),o7],St⟩=some (.next,⟨eH bs H ss lk h d D i [some (.int (n:Int),false),some (spT s,false),some (bhT (hb lk s Lh),false)],St⟩):=by
        unfold h7
        simp! [nu,keysOf,keyOf,uh,it,sd,xh,i3,bh]
      have xd:∀ o:Slot,dI ⟨eH bs H ss lk h d D i [some (.int (n:Int),false),some (spT s,false),o],St⟩=some (bhT (xr D s.there),⟨eH bs H ss lk h d D i [some (.int (n:Int),false),some (spT s,false),o],St⟩):=fun o=>by
        have:=xt h1
        unfold dI
        simp! [nu,keysOf,keyOf,sd,i4,this]
      unfold sIf
      rw [c]
      dsimp only
      unfold hn2
      rw [dh R7]
      cases hy:hb lk s Lh with
      | none =>
        refine .inr ⟨by rw [S0']; simp [h1,h2,hy],eH bs H ss lk h d D i [some (.int (n:Int),false),some (spT s,false),some (bhT none,false)],?_⟩
        simp! [bhT,Li,Bb]
      | some L' =>
        obtain ⟨o1,o2⟩:=a2o hy nd sub
        have le':L'.Pairwise Le:=by
          unfold hb at hy
          obtain ⟨M,_,rfl⟩:=Option.map_eq_some_iff.mp hy
          exact Xf M
        obtain ⟨t1,t2⟩:=s4 h1
        have xd':=xd (some (.tup (L'.map T.str),false))
        generalize hdI:dI=dI0 at *
        cases ht:xr D s.there with
        | none =>
          rw [ht] at xd'
          refine .inl ⟨D++[(s.there,L')],[(s.there,L')],some (spT s,false),some (.tup (L'.map T.str),false),by rw [S0']; simp [h1,h2,hy,ht],rfl,⟨?_,?_⟩,?_,?_⟩
          · rw [List.map_append]
            refine List.nodup_append.mpr ⟨wf.nd,by simp,fun a ha b hb e=>?_⟩
            rw [List.map_cons,List.map_nil,List.mem_singleton] at hb
            rw [hb] at e
            have e':a=s.there:=e
            exact Fe ht (e' ▸ ha)
          · intro p hp
            rcases List.mem_append.mp hp with z | z -- here
            · exact wf.at' p z
            · rw [List.mem_singleton.mp z]; exact ⟨t1,t2,o1,o2⟩
          · intro p hp
            rcases List.mem_append.mp hp with z | z -- here
            · exact sr p z
            · rw [List.mem_singleton.mp z]; exact le'
          · have me:mT (D++[(s.there,L')])=mT D++[.int s.there]:=by unfold mT; rw [List.map_append]; rfl
            have kl':(ji h D K0).length<lim:=by show _<1000000; omega
            have st2:∀ x:SO,St.set d x=S0.set d x:=fun x=>by rw [← hSt]; exact List.set_set _
            rw [Vt]
            unfold eH
            rw [me,← st2]
            unfold qk
            simp! [bhT,Li,Bg,Bb,xd',lu,i4,keysOf,keyOf,sd,kl',ml]
        | some L2 =>
          rw [ht] at xd'
          obtain ⟨_,_,_,sub2⟩:=wf.at' _ (Br ht)
          have nq:=Oc (fun y hy=>ok.hk y (sub2 y hy)) (fun y hy=>ok.hk y (o2 y hy)) (L:=L2) (M:=L')
          by_cases hq:L2=L'
          · subst hq
            refine .inl ⟨D,[],some (spT s,false),some (.tup (L2.map T.str),false),by rw [S0']; simp [h1,h2,hy,ht],by rw [List.append_nil],wf,sr,?_⟩
            rw [hSt]
            simp only [decide_true,Bool.not_true] at nq
            simp! [bhT,Li,Bg,Bb,xd',nq]
          · refine .inr ⟨by rw [S0']; simp [h1,h2,hy,ht,hq],eH bs H ss lk h d D i [some (.int (n:Int),false),some (spT s,false),some (.tup (L'.map T.str),false)],?_⟩
            rw [decide_eq_false hq,Bool.not_false] at nq
            simp! [bhT,Li,Bg,Bb,xd',nq]
    · refine .inl ⟨D,[],some (spT s,false),o7,by rw [S0']; simp [h2],by rw [List.append_nil],wf,sr,?_⟩
      have b1:(s.hand==h)=true:=beq_iff_eq.mpr h1
      have b2:(s.here==here)=false:=beq_eq_false_iff_ne.mpr h2
      rw [hSt]
      unfold hnC
      simp! [i0,i1,eh,j7,b1,b2,uh,it]
  · refine .inl ⟨D,[],some (spT s,false),o7,by rw [S0']; simp [h1],by rw [List.append_nil],wf,sr,?_⟩
    have b1:(s.hand==h)=false:=beq_eq_false_iff_ne.mpr h1
    rw [hSt]
    unfold hnC
    simp! [i0,i1,eh,j7,b1]
end
end K
end
section
namespace K
open C PySem
section
variable {bs:List Bx} {lk:List Str} {H:List Hd} {ss:List Sp} {S0:List SO} {h:Str} {P d:Nat} {K0:Dit}
theorem Ef:∀ (D:Tb) (K:Dit),(ji h D K).length≤K.length+D.length
  | [],K=>Nat.le_refl _
  | p::D,K=>by
    have:=Ef D (zf (qk h p.1) (.tup (p.2.map T.str)) K)
    have h2:=Du (k:=qk h p.1) (v:=.tup (p.2.map T.str)) (l:=K)
    show (ji h D (zf (qk h p.1) (.tup (p.2.map T.str)) K)).length≤_
    rw [List.length_cons]
    omega
theorem T5 (ok:OkK ss lk h P) (one:∀ s∈ss,s.sets=[]∨∃ b o,s.sets=[(b,o)]) (hd:d<S0.length) (hK:∀ q:Int,0≤q→q<(P:Int)→qd (qk h q) K0=some .non) (kl:K0.length<100) {i:Nat} {here:Int} :
    ∀ (m a:Nat) (D:Tb) (o5 o6 o7:Slot),a+m=ss.length→(hi:i<D.length)→D[i].1=here→Wf lk P D→Srt D →
    (∃ D' E p5 p6 p7,runIn lk h here ((ss.drop a).zipIdx a) D=.inl D'∧D'=D++E∧Wf lk P D'∧Srt D'∧forL (hName 5) hnB ((List.range' a m).map fun (k:Nat)=>T.int (k:Int)) ⟨eH bs H ss lk h d D i [o5,o6,o7],S0.set d (.dit (ji h D K0))⟩=some (.next,⟨eH bs H ss lk h d D' i [p5,p6,p7],S0.set d (.dit (ji h D' K0))⟩)) ∨
    ∃ (n:Nat) (env':List Slot) (K':Dit),runIn lk h here ((ss.drop a).zipIdx a) D=.inr n∧forL (hName 5) hnB ((List.range' a m).map fun (k:Nat)=>T.int (k:Int)) ⟨eH bs H ss lk h d D i [o5,o6,o7],S0.set d (.dit (ji h D K0))⟩=some (.ret (.int (n:Int)),⟨env',S0.set d (.dit K')⟩)
  | 0,a,D,o5,o6,o7,ha,hi,hh,wf,sr=>by
    refine .inl ⟨D,[],o5,o6,o7,?_,by rw [List.append_nil],wf,sr,by simp [forL]⟩
    rw [show ss.drop a=[] from List.drop_eq_nil_iff.mpr (by omega)]
    rfl
  | m+1,a,D,o5,o6,o7,ha,hi,hh,wf,sr=>by
    have hn:a<ss.length:=by omega
    have wl:=wf.len
    have P5:=ok.P5
    have pl:=Ef (h:=h) D K0
    have G:hName 5 (.int (a:Int)) ⟨eH bs H ss lk h d D i [o5,o6,o7],S0.set d (.dit (ji h D K0))⟩=some ⟨eH bs H ss lk h d D i [some (.int (a:Int),false),o6,o7],S0.set d (.dit (ji h D K0))⟩:=rfl
    have w:=a2t (bs:=bs) (H:=H) (o6:=o6) (o7:=o7) ok one hd hK kl hn hi wf sr (by omega)
    rw [hh] at w
    rw [List.drop_eq_getElem_cons hn,List.zipIdx_cons,runIn,List.range'_succ,List.map_cons,forL]
    dsimp only
    rw [G]
    dsimp only
    rcases w with ⟨D1,E,p6,p7,x1,x2,wf1,sr1,e1⟩ | ⟨x1,env',e1⟩
    · rw [x1,e1]
      dsimp only
      have hi1:i<D1.length:=by rw [x2,List.length_append]; omega
      rcases T5 (here:=here) ok one hd hK kl m (a+1) D1 (some (.int (a:Int),false)) p6 p7 (by omega) hi1 (by subst x2; rw [List.getElem_append_left hi]; exact hh) wf1 sr1 with ⟨D2,E2,q5,q6,q7,y1,y2,wf2,sr2,e2⟩ | ⟨n,env',K',y1,e2⟩
      · exact .inl ⟨D2,E++E2,q5,q6,q7,y1,by rw [y2,x2,List.append_assoc],wf2,sr2,e2⟩
      · exact .inr ⟨n,env',K',y1,e2⟩
    · rw [x1,e1]
      exact .inr ⟨a,env',ji h D K0,rfl,rfl⟩
def hnW:S:=ju (Bt (hName 5) (m8 (gw Ju (aq (mOp cu (bf 0) (au (.int 2))) fj))) hnB) (qj 4 (mOp Aw (bf 4) (au (.int 1))))
theorem Vc (ok:OkK ss lk h P) (one:∀ s∈ss,s.sets=[]∨∃ b o,s.sets=[(b,o)]) (hd:d<S0.length) (hK:∀ q:Int,0≤q→q<(P:Int)→qd (qk h q) K0=some .non) (kl:K0.length<100) :
    ∀ (k i:Nat) (D:Tb) (o5 o6 o7:Slot),i≤D.length→P<i+k→Wf lk P D→Srt D →
    (∃ D' q4 q5 q6 q7,jz lk ss h k i D=.inl D'∧Wf lk P D'∧qy k kC hnW ⟨eH bs H ss lk h d D i [o5,o6,o7],S0.set d (.dit (ji h D K0))⟩=some (.next,⟨eH bs H ss lk h d D' q4 [q5,q6,q7],S0.set d (.dit (ji h D' K0))⟩)) ∨
    ∃ (n:Nat) (env':List Slot) (K':Dit),jz lk ss h k i D=.inr n∧qy k kC hnW ⟨eH bs H ss lk h d D i [o5,o6,o7],S0.set d (.dit (ji h D K0))⟩=some (.ret (.int (n:Int)),⟨env',S0.set d (.dit K')⟩)
  | 0,i,D,o5,o6,o7,hi,hk,wf,sr=>by have:=wf.len; omega
  | k+1,i,D,o5,o6,o7,hi,hk,wf,sr=>by
    have ml:(mT D).length=D.length:=List.length_map _
    generalize hSt:S0.set d (.dit (ji h D K0))=St
    by_cases hlt:i<D.length
    · have c:kC ⟨eH bs H ss lk h d D i [o5,o6,o7],St⟩=some (true,⟨eH bs H ss lk h d D i [o5,o6,o7],St⟩):=by
        have:(i:Int)<(D.length:Int):=by omega
        unfold kC
        simp! [ux,ml,this]
      have gi:D[i]? = some D[i]:=List.getElem?_eq_getElem hlt
      have i2:cu (prT bs H ss lk) (.int 2)=some (.lst (ss.map spT)):=Kw
      have sl:=ok.sl
      have ls:ss.length<lim:=by show _<1000000; omega
      have it:m8 (gw Ju (aq (mOp cu (bf 0) (au (.int 2))) fj)) ⟨eH bs H ss lk h d D i [o5,o6,o7],St⟩=some ((List.range' 0 ss.length).map fun (k:Nat)=>T.int (k:Int),⟨eH bs H ss lk h d D i [o5,o6,o7],St⟩):=by
        simp! [i2,rangeT,List.range_eq_range',ls]
      have w:=T5 (bs:=bs) (H:=H) ok one hd hK kl ss.length 0 D o5 o6 o7 (by omega) hlt rfl wf sr
      rw [hSt,List.drop_zero] at w
      rw [jz,gi,qy]
      dsimp only
      rw [c]
      dsimp only
      rcases w with ⟨D1,E,p5,p6,p7,x1,x2,wf1,sr1,e1⟩ | ⟨n,env',K',x1,e1⟩
      · have B1:hnW ⟨eH bs H ss lk h d D i [o5,o6,o7],St⟩=some (.next,⟨eH bs H ss lk h d D1 (i+1) [p5,p6,p7],S0.set d (.dit (ji h D1 K0))⟩):=by
          have F:Bt (hName 5) (m8 (gw Ju (aq (mOp cu (bf 0) (au (.int 2))) fj))) hnB ⟨eH bs H ss lk h d D i [o5,o6,o7],St⟩=some (.next,⟨eH bs H ss lk h d D1 i [p5,p6,p7],S0.set d (.dit (ji h D1 K0))⟩):=by
            unfold Bt; rw [it]; exact e1
          unfold hnW
          rw [dh F]
          simp! []
        rw [B1,x1]
        dsimp only
        exact Vc ok one hd hK kl k (i+1) D1 p5 p6 p7 (by rw [x2,List.length_append]; omega) (by omega) wf1 sr1
      · have B1:hnW ⟨eH bs H ss lk h d D i [o5,o6,o7],St⟩=some (.ret (.int (n:Int)),⟨env',S0.set d (.dit K')⟩):=by
          unfold hnW ju Bt
          rw [it]
          dsimp only
          rw [e1]
        rw [B1,x1]
        exact .inr ⟨n,env',K',rfl,rfl⟩
    · have c:kC ⟨eH bs H ss lk h d D i [o5,o6,o7],St⟩=some (false,⟨eH bs H ss lk h d D i [o5,o6,o7],St⟩):=by
        have:¬ (i:Int)<(D.length:Int):=by omega
        unfold kC
        simp! [ux,ml,this]
      have gi:D[i]? = none:=List.getElem?_eq_none_iff.mpr (by omega)
      rw [jz,gi,qy]
      dsimp only
      rw [c]
      exact .inl ⟨D,i,o5,o6,o7,rfl,wf,by rw [hSt]⟩
theorem Y7 (ok:OkK ss lk h P) (hP:0<P) (one:∀ s∈ss,s.sets=[]∨∃ b o,s.sets=[(b,o)]) (hd:d<S0.length) (hS:S0[d]? = some (.dit K0)) (hK:∀ q:Int,0≤q→q<(P:Int)→qd (qk h q) K0=some .non) (kl:K0.length<100) :
    (∃ D,jz lk ss h 1000 0 [(0,[])]=.inl D∧Wf lk P D∧m7 [prT bs H ss lk,.str h,.obj d] S0=some (.non,S0.set d (.dit (ji h D K0)))) ∨
    ∃ (n:Nat) (K':Dit),jz lk ss h 1000 0 [(0,[])]=.inr n∧m7 [prT bs H ss lk,.str h,.obj d] S0=some (.int (n:Int),S0.set d (.dit K')):=by
  have wf0:Wf lk P [(0,[])]:=⟨by simp,fun p hp=>by rw [List.mem_singleton.mp hp]; exact ⟨Int.le_refl _,by show (0:Int)<_; omega,by simp,fun y hy=>nomatch hy⟩⟩
  have P5:=ok.P5
  have w:=Vc (bs:=bs) (H:=H) ok one hd hK kl 1000 0 [(0,[])] none none none (Nat.zero_le _) (by omega) wf0 (fun p hp=>by rw [List.mem_singleton.mp hp]; exact .nil)
  have kl':K0.length<lim:=by show _<1000000; omega
  have Q1:lu (bf 2) (aq (bf 1) (aq (au (.int 0)) fj)) (gw (fun l=>some (.tup l)) fj) ⟨[some (prT bs H ss lk,false),some (.str h,false),some (.obj d,false),none,none,none,none,none],S0⟩=some (.next,⟨[some (prT bs H ss lk,false),some (.str h,false),some (.obj d,false),none,none,none,none,none],S0.set d (.dit (ji h [(0,[])] K0))⟩):=by
    show _=some (_,(⟨_,S0.set d (.dit (zf [.inr h,.inl 0] (.tup []) K0))⟩:Sta))
    simp! [lu,keysOf,keyOf,hS,kl']
  have X:m7 [prT bs H ss lk,.str h,.obj d] S0=(match ju (lu (bf 2) (aq (bf 1) (aq (au (.int 0)) fj)) (gw (fun l=>some (.tup l)) fj)) (ju (sNew 3 (gw (fun l=>some (.lst l)) (aq (au (.int 0)) fj))) (ju (qj 4 (au (.int 0))) (ju (qy 1000 kC hnW) (uy (au .non))))) ⟨[some (prT bs H ss lk,false),some (.str h,false),some (.obj d,false),none,none,none,none,none],S0⟩ with
      | some (.ret t,s)=>some (t,s.sto)
      | some (.next,s)=>some (.non,s.sto)
      | _=>none):=by rfl
  rw [X,dh Q1]
  rw [dh (s':=⟨[some (prT bs H ss lk,false),some (.str h,false),some (.obj d,false),some (.lst (mT [(0,[])]),true),none,none,none,none],S0.set d (.dit (ji h [(0,[])] K0))⟩) rfl]
  rw [dh (s':=⟨eH bs H ss lk h d [(0,[])] 0 [none,none,none],S0.set d (.dit (ji h [(0,[])] K0))⟩) rfl]
  rcases w with ⟨D',q4,q5,q6,q7,x1,wf1,e1⟩ | ⟨n,env',K',x1,e1⟩
  · refine .inl ⟨D',x1,wf1,?_⟩
    rw [dh e1]
    rfl
  · refine .inr ⟨n,K',x1,?_⟩
    unfold ju
    rw [e1]
end
end K
end
section
namespace K
open C PySem
theorem T6 {n m:Nat} {t:T} (h:Pl n t) (hm:n≤m):Pl m t:=by
  obtain ⟨d,e1,e2⟩:=h
  exact ⟨d,e1,Nat.le_trans e2 hm⟩
section
variable {N:List Str} {H:List Hd} {sto:List SO} {s o:Sp}
theorem Zj (hN:a5e N) {x:Sm} (h:Yt N x):Pl 3 (smT x):=n6 (n:=2) fun t ht=>by
  simp only [List.mem_cons,List.not_mem_nil,or_false] at ht
  rcases ht with rfl | rfl
  · exact yw 2 _
  · exact n6 (n:=1) fun t ht=>by
      obtain ⟨p,hp,rfl⟩:=List.mem_map.mp ht
      exact n6 (n:=0) fun t ht=>by
        simp only [List.mem_cons,List.not_mem_nil,or_false] at ht
        rcases ht with rfl | rfl
        · exact qz 0 (hN.2 _ (h.2 p hp).1).1
        · exact yw 0 _
theorem a70:okS "most" ∧ okS "rest" ∧ okS "at" ∧ okS "and" ∧ okS "or" ∧ okS "not" ∧ okS "" := by unfold okS; decide +kernel
theorem a4g (hN:a5e N) (hH:a2g H) {d:Nat} {r:Rem} (h:OkR N H d r):Pl (2 * d+4) (Sy r):=by
  obtain ⟨w1,w2,w3,w4,w5,w6,_⟩:=a70
  induction h with
  | most h =>
    unfold Sy
    exact n6 fun t ht=>by
      simp only [List.mem_cons,List.not_mem_nil,or_false] at ht
      rcases ht with rfl | rfl
      · exact qz _ w1
      · exact T6 (Zj hN h) (by omega)
  | rest h _ _ =>
    unfold Sy
    exact n6 fun t ht=>by
      simp only [List.mem_cons,List.not_mem_nil,or_false] at ht
      rcases ht with rfl | rfl | rfl
      · exact qz _ w2
      · exact T6 (Zj hN h) (by omega)
      · exact yw _ _
  | pl h _ _ =>
    unfold Sy
    exact n6 fun t ht=>by
      simp only [List.mem_cons,List.not_mem_nil,or_false] at ht
      rcases ht with rfl | rfl | rfl
      · exact qz _ w3
      · exact qz _ (hH.2.2 _ h).1.1
      · exact yw _ _
  | all _ _ ih =>
    unfold Sy
    rw [Fg]
    exact n6 fun t ht=>by
      simp only [List.mem_cons,List.not_mem_nil,or_false] at ht
      rcases ht with rfl | rfl
      · exact qz _ w4
      · exact n6 fun t ht=>by
          obtain ⟨r,hr,rfl⟩:=List.mem_map.mp ht
          exact ih r hr
  | any _ _ ih =>
    unfold Sy
    rw [Fg]
    exact n6 fun t ht=>by
      simp only [List.mem_cons,List.not_mem_nil,or_false] at ht
      rcases ht with rfl | rfl
      · exact qz _ w5
      · exact n6 fun t ht=>by
          obtain ⟨r,hr,rfl⟩:=List.mem_map.mp ht
          exact ih r hr
  | no _ ih =>
    unfold Sy
    exact n6 fun t ht=>by
      simp only [List.mem_cons,List.not_mem_nil,or_false] at ht
      rcases ht with rfl | rfl
      · exact qz _ w6
      · exact T6 ih (by omega)
theorem a6u {bs:List Bx} {ss:List Sp} {lk:List Str} (ok:a7c bs H ss) (ho:∀ b∈bs,okS b.ow) (hk:∀ y∈lk,okS y):Pl 14 (prT bs H ss lk):=by
  obtain ⟨w1,w2,w3,w4,w5,w6,w7⟩:=a70
  refine n6 (n:=13) fun t ht=>?_
  simp only [List.mem_cons,List.not_mem_nil,or_false] at ht
  rcases ht with rfl | rfl | rfl | rfl
  · exact Um (n:=12) fun t ht=>by
      obtain ⟨b,hb,rfl⟩:=List.mem_map.mp ht
      exact n6 (n:=11) fun t ht=>by
        simp only [List.mem_cons,List.not_mem_nil,or_false] at ht
        rcases ht with rfl | rfl | rfl | rfl | rfl
        · exact qz _ (ok.ns.2 _ (List.mem_map.mpr ⟨b,hb,rfl⟩)).1
        · exact qz _ (ho b hb)
        · exact yw _ _
        · exact yw _ _
        · exact yw _ _
  · exact Um (n:=12) fun t ht=>by
      obtain ⟨h,hh,rfl⟩:=List.mem_map.mp ht
      exact n6 (n:=11) fun t ht=>by
        simp only [List.mem_cons,List.not_mem_nil,or_false] at ht
        rcases ht with rfl | rfl
        · exact qz _ (ok.hs.2.2 h hh).1.1
        · exact yw _ _
  · exact Um (n:=12) fun t ht=>by
      obtain ⟨s,hs,rfl⟩:=List.mem_map.mp ht
      have o:=ok.ss s hs
      exact n6 (n:=11) fun t ht=>by
        simp only [List.mem_cons,List.not_mem_nil,or_false] at ht
        rcases ht with rfl | rfl | rfl | rfl | rfl
        · exact qz _ o.hd.1
        · exact yw _ _
        · exact T6 (a4g ok.ns ok.hs o.gd) (by decide)
        · exact n6 (n:=10) fun t ht=>by
            obtain ⟨p,hp,rfl⟩:=List.mem_map.mp ht
            exact n6 (n:=9) fun t ht=>by
              simp only [List.mem_cons,List.not_mem_nil,or_false] at ht
              rcases ht with rfl | rfl
              · exact qz _ (ok.ns.2 _ (o.set p hp).1).1
              · exact T6 (Zj ok.ns (o.set p hp).2) (by decide)
        · exact yw _ _
  · exact n6 (n:=12) fun t ht=>by
      obtain ⟨y,hy,rfl⟩:=List.mem_map.mp ht
      exact qz _ (hk y hy)
end
end K
end
section
namespace K
open C PySem
def Hf:List Hd→Dit→Dit
  | [],K=>K
  | hd::r,K=>Hf r (puts hd.1 [] (List.range hd.2.toNat) K)
def Rf (lk:List Str) (ss:List Sp):List Hd→Dit→Dit ⊕ Nat
  | [],K=>.inl K
  | hd::r,K=>match jz lk ss hd.1 1000 0 [(0,[])] with
    | .inl D=>Rf lk ss r (ji hd.1 D K)
    | .inr n=>.inr n
abbrev kys (K:Dit):List (List C.Key):=K.map (·.1)
theorem kys_in {k:List C.Key} {v:T} {K:Dit} (h:k∈kys K):kys (zf k v K)=kys K:=by
  unfold zf
  rw [if_pos (by
      obtain ⟨p,hp,e⟩:=List.mem_map.mp h
      exact List.any_eq_true.mpr ⟨p,hp,by simpa using e⟩)]
  rw [kys,List.map_map]
  refine List.map_congr_left fun p _=>?_
  simp only [Function.comp]
  split <;> rfl
theorem Ij {k:List C.Key} {v:T} {K:Dit} (h:k∉kys K):kys (zf k v K)=kys K++[k]:=by
  unfold zf
  rw [if_neg (by
      intro z
      obtain ⟨p,hp,e⟩:=List.any_eq_true.mp z
      exact h (List.mem_map.mpr ⟨p,hp,by simpa using e⟩))]
  rw [kys,List.map_append]
  rfl
theorem Xa {k:List C.Key} {v v':T} {K K':Dit} (e:kys K=kys K'):kys (zf k v K)=kys (zf k v' K'):=by
  by_cases h:k∈kys K
  · rw [kys_in h,kys_in (e ▸ h),e]
  · rw [Ij h,Ij (e ▸ h),e]
theorem Ov {h:Str} {D D':Tb}:∀ (l:List Nat) {K K':Dit},kys K=kys K'→kys (puts h D l K)=kys (puts h D' l K')
  | [],K,K',e=>e
  | p::l,K,K',e=>by
    show kys (puts h D l (zf (qk h (p:Int)) (gv D (p:Int)) K))=kys (puts h D' l (zf (qk h (p:Int)) (gv D' (p:Int)) K'))
    exact Ov l (Xa e)
theorem Jv {h:Str}:∀ {D:Tb} {K:Dit},(∀ p∈D,qk h p.1∈kys K)→kys (ji h D K)=kys K
  | [],K,_=>rfl
  | p::D,K,hm=>by
    have e:kys (zf (qk h p.1) (.tup (p.2.map T.str)) K)=kys K:=kys_in (hm p List.mem_cons_self)
    show kys (ji h D (zf (qk h p.1) (.tup (p.2.map T.str)) K))=_
    rw [Jv (fun q hq=>by rw [e]; exact hm q (List.mem_cons_of_mem _ hq)),e]
theorem Oz {k:List C.Key}:∀ {K:Dit},k∈kys K↔∃ t,qd k K=some t
  | []=>⟨fun h=>(nomatch h),fun h=>by obtain ⟨t,h⟩:=h; cases h⟩
  | (q,t)::r=>by
    rw [qd]
    by_cases h:q=k
    · rw [if_pos h]; exact ⟨fun _=>⟨t,rfl⟩,fun _=>by rw [← h]; exact .head _⟩
    · rw [if_neg h,← Oz (K:=r)]
      exact ⟨fun z=>(List.mem_cons.mp z).resolve_left (fun e=>h e.symm),fun z=>.tail _ z⟩
theorem a4e {k:List C.Key} {v:T} {K:Dit} (nd:(kys K).Nodup):(kys (zf k v K)).Nodup:=by
  by_cases h:k∈kys K
  · rw [kys_in h]; exact nd
  · rw [Ij h]
    exact List.nodup_append.mpr ⟨nd,by simp,fun a ha b hb e=>h (by rw [List.mem_singleton.mp hb] at e; exact e ▸ ha)⟩
theorem Vn {h:Str} {D:Tb}:∀ (l:List Nat) {K:Dit},(kys K).Nodup→(kys (puts h D l K)).Nodup
  | [],K,nd=>nd
  | p::l,K,nd=>Vn (h:=h) (D:=D) l (a4e nd)
theorem Sv {k:List C.Key} {x:T}:∀ {K:Dit},(kys K).Nodup→(k,x)∈K→qd k K=some x
  | [],_,h=>nomatch h
  | (q,t)::r,nd,h=>by
    rw [kys,List.map_cons] at nd
    obtain ⟨n1,n2⟩:=List.nodup_cons.mp nd -- here
    rw [qd]
    rcases List.mem_cons.mp h with e | h -- here
    · cases e; rw [if_pos rfl]
    · rw [if_neg (fun e:q=k=>n1 (e ▸ List.mem_map.mpr ⟨_,h,rfl⟩))]
      exact Sv n2 h
theorem T8 {b:Dit}:∀ {a:Dit},(∀ k x,(k,x)∈a→∃ y,qd k b=some y∧eqD x y=some true)→Wd a b=true
  | [],_=>rfl
  | (k,x)::r,h=>by
    obtain ⟨y,h1,h2⟩:=h k x (.head _)
    rw [Wd,h1]
    dsimp only
    rw [h2]
    exact T8 fun k x hm=>h k x (.tail _ hm)
section
variable {lk:List Str} {H:List Hd} {ss:List Sp}
theorem alike:∀ (B:List Hd) (K K':Dit),(∃ A A',qu lk ss B K=.inl A∧Rf lk ss B K'=.inl A')∨∃ n,qu lk ss B K=.inr n∧Rf lk ss B K'=.inr n
  | [],K,K'=>.inl ⟨K,K',rfl,rfl⟩
  | b::B,K,K'=>by
    rw [qu,Rf]
    cases jz lk ss b.1 1000 0 [(0,[])] with
    | inl D=>exact alike B _ _
    | inr n=>exact .inr ⟨n,rfl,rfl⟩
end
end K
end
section
namespace K
open C PySem
section
variable {lk:List Str} {H:List Hd} {ss:List Sp}
theorem Zi {h:Str} {P:Nat} {D:Tb} (ok:OkK ss lk h P) (hP:0<P) (e:jz lk ss h 1000 0 [(0,[])]=.inl D):Wf lk P D:=by
  rcases Ue (bs:=[]) (H:=[]) (sto:=[]) ok hP with ⟨D',x,wf,_⟩ | ⟨n,x,_⟩
  · rw [e] at x; cases x; exact wf
  · rw [e] at x; cases x
theorem Ti:∀ (B:List Hd) {K K' A:Dit},kys K=kys K'→qu lk ss B K=.inl A→kys A=kys (Hf B K')
  | [],K,K',A,e,h=>by cases h; exact e
  | b::B,K,K',A,e,h=>by
    rw [qu] at h
    rw [Hf]
    cases x:jz lk ss b.1 1000 0 [(0,[])] with
    | inr n=>rw [x] at h; cases h
    | inl D=>rw [x] at h; exact Ti B (Ov _ e) h
theorem Ug:∀ (B:List Hd) {K A:Dit},(∀ b∈B,OkK ss lk b.1 b.2.toNat∧0<b.2)→(∀ b∈B,∀ q:Nat,q<b.2.toNat→qk b.1 (q:Int)∈kys K)→Rf lk ss B K=.inl A→kys A=kys K
  | [],K,A,_,_,h=>by cases h; rfl
  | b::B,K,A,ok,hm,h=>by
    rw [Rf] at h
    obtain ⟨okb,pb⟩:=ok b List.mem_cons_self
    cases x:jz lk ss b.1 1000 0 [(0,[])] with
    | inr n=>rw [x] at h; cases h
    | inl D =>
      rw [x] at h
      have wf:=Zi okb (by omega) x
      have e:kys (ji b.1 D K)=kys K:=Jv fun p hp=>by
        obtain ⟨p0,p1,_⟩:=wf.at' p hp
        have:=hm b List.mem_cons_self p.1.toNat (by omega)
        rwa [Int.toNat_of_nonneg p0] at this
      rw [Ug B (fun c hc=>ok c (List.mem_cons_of_mem _ hc)) (fun c hc q hq=>by rw [e]; exact hm c (List.mem_cons_of_mem _ hc) q hq) h,e]
theorem run_get:∀ (B:List Hd) {K A:Dit},(B.map (·.1)).Nodup→qu lk ss B K=.inl A →
    (∀ b∈B,∃ D,jz lk ss b.1 1000 0 [(0,[])]=.inl D∧∀ q:Nat,q<b.2.toNat→qd (qk b.1 (q:Int)) A=some (gv D (q:Int)))∧∀ h',h'∉B.map (·.1)→∀ q,qd (qk h' q) A=qd (qk h' q) K
  | [],K,A,_,h=>by cases h; exact ⟨fun b hb=>(nomatch hb),fun _ _ _=>rfl⟩
  | b::B,K,A,nd,h=>by
    rw [List.map_cons] at nd
    obtain ⟨n1,n2⟩:=List.nodup_cons.mp nd -- here
    rw [qu] at h
    cases x:jz lk ss b.1 1000 0 [(0,[])] with
    | inr n=>rw [x] at h; cases h
    | inl D =>
      rw [x] at h
      obtain ⟨g1,g2⟩:=run_get B n2 h
      refine ⟨fun c hc=>?_,fun h' hh q=>?_⟩
      · rcases List.mem_cons.mp hc with rfl | hc -- here
        · refine ⟨D,x,fun q hq=>?_⟩
          rw [g2 _ n1,Bs,if_pos ⟨rfl,q,List.mem_range.mpr hq,rfl⟩]
        · exact g1 c hc
      · rw [List.map_cons] at hh
        rw [g2 h' (fun z=>hh (List.mem_cons_of_mem _ z)),Bs,if_neg (fun z=>hh (by rw [z.1]; exact .head _))]
theorem W3:∀ (B:List Hd) {K A:Dit},(∀ b∈B,OkK ss lk b.1 b.2.toNat∧0<b.2)→(B.map (·.1)).Nodup→(∀ b∈B,∀ q:Nat,q<b.2.toNat→qd (qk b.1 (q:Int)) K=some .non)→Rf lk ss B K=.inl A →
    (∀ b∈B,∀ D,jz lk ss b.1 1000 0 [(0,[])]=.inl D→∀ q:Nat,q<b.2.toNat→qd (qk b.1 (q:Int)) A=some (gv D (q:Int)))∧∀ h',h'∉B.map (·.1)→∀ q,qd (qk h' q) A=qd (qk h' q) K
  | [],K,A,_,_,_,h=>by cases h; exact ⟨fun b hb=>(nomatch hb),fun _ _ _=>rfl⟩
  | b::B,K,A,ok,nd,hn,h=>by
    rw [List.map_cons] at nd
    obtain ⟨n1,n2⟩:=List.nodup_cons.mp nd -- here
    obtain ⟨okb,pb⟩:=ok b List.mem_cons_self
    rw [Rf] at h
    cases x:jz lk ss b.1 1000 0 [(0,[])] with
    | inr n=>rw [x] at h; cases h
    | inl D =>
      rw [x] at h
      have wf:=Zi okb (by omega) x
      obtain ⟨g1,g2⟩:=W3 B (fun c hc=>ok c (List.mem_cons_of_mem _ hc)) n2 (fun c hc q hq=>by
        rw [u6 wf.nd,if_neg (fun e:c.1=b.1=>n1 (e ▸ List.mem_map.mpr ⟨c,hc,rfl⟩))]
        exact hn c (List.mem_cons_of_mem _ hc) q hq) h
      refine ⟨fun c hc=>?_,fun h' hh q=>?_⟩
      · rcases List.mem_cons.mp hc with rfl | hc -- here
        · intro D' x' q hq
          rw [x] at x'
          cases x'
          rw [g2 _ n1,u6 wf.nd,if_pos rfl]
          unfold gv
          cases xr D (q:Int) with
          | none=>exact hn _ List.mem_cons_self q hq
          | some L=>rfl
        · exact g1 c hc
      · rw [List.map_cons] at hh
        rw [g2 h' (fun z=>hh (List.mem_cons_of_mem _ z)),u6 wf.nd,if_neg (fun z=>hh (by rw [z]; exact .head _))]
theorem Ih:∀ (B:List Hd) {K:Dit},(B.map (·.1)).Nodup→(∀ b∈B,∀ q:Nat,q<b.2.toNat→qd (qk b.1 (q:Int)) (Hf B K)=some .non)∧∀ h',h'∉B.map (·.1)→∀ q,qd (qk h' q) (Hf B K)=qd (qk h' q) K
  | [],K,_=>⟨fun b hb=>(nomatch hb),fun _ _ _=>rfl⟩
  | b::B,K,nd=>by
    rw [List.map_cons] at nd
    obtain ⟨n1,n2⟩:=List.nodup_cons.mp nd -- here
    obtain ⟨g1,g2⟩:=Ih B (K:=puts b.1 [] (List.range b.2.toNat) K) n2
    rw [Hf]
    refine ⟨fun c hc q hq=>?_,fun h' hh q=>?_⟩
    · rcases List.mem_cons.mp hc with rfl | hc -- here
      · rw [g2 _ n1,Bs,if_pos ⟨rfl,q,List.mem_range.mpr hq,rfl⟩]; rfl
      · exact g1 c hc q hq
    · rw [List.map_cons] at hh
      rw [g2 h' (fun z=>hh (List.mem_cons_of_mem _ z)),Bs,if_neg (fun z=>hh (by rw [z.1]; exact .head _))]
theorem Nt {h:Str} {D:Tb} {k:List C.Key}:∀ (l:List Nat) {K:Dit},k∈kys (puts h D l K)→k∈kys K∨∃ q∈l,k=qk h (q:Int)
  | [],K,hk=>.inl hk
  | p::l,K,hk=>by
    rcases Nt l (K:=zf (qk h (p:Int)) (gv D (p:Int)) K) hk with z | ⟨q,hq,e⟩
    · by_cases y:qk h (p:Int)∈kys K
      · rw [kys_in y] at z; exact .inl z
      · rw [Ij y] at z
        rcases List.mem_append.mp z with z | z
        · exact .inl z
        · exact .inr ⟨p,.head _,List.mem_singleton.mp z⟩
    · exact .inr ⟨q,.tail _ hq,e⟩
theorem O4 {k:List C.Key}:∀ (B:List Hd) {K:Dit},k∈kys (Hf B K)→k∈kys K∨∃ b∈B,∃ q:Nat,q<b.2.toNat∧k=qk b.1 (q:Int)
  | [],K,hk=>.inl hk
  | b::B,K,hk=>by
    rw [Hf] at hk
    rcases O4 B hk with z | ⟨c,hc,q,hq,e⟩
    · rcases Nt _ z with z | ⟨q,hq,e⟩
      · exact .inl z
      · exact .inr ⟨b,.head _,q,List.mem_range.mp hq,e⟩
    · exact .inr ⟨c,.tail _ hc,q,hq,e⟩
theorem Yn:∀ (B:List Hd) {K A:Dit},(kys K).Nodup→qu lk ss B K=.inl A→(kys A).Nodup
  | [],K,A,nd,h=>by cases h; exact nd
  | b::B,K,A,nd,h=>by
    rw [qu] at h
    cases x:jz lk ss b.1 1000 0 [(0,[])] with
    | inr n=>rw [x] at h; cases h
    | inl D=>rw [x] at h; exact Yn B (Vn _ nd) h
theorem Yc (ok:OkA H ss lk) {A U:Dit} (h1:qu lk ss H []=.inl A) (h2:Rf lk ss H (Hf H [])=.inl U):A.length=U.length∧Wd A U=true:=by
  obtain ⟨ng,_⟩:=Ih H (K:=[]) ok.nd
  have k1:=Ti H (K':=[]) rfl h1
  have k2:=Ug H ok.k (fun b hb q hq=>Oz.mpr ⟨_,ng b hb q hq⟩) h2
  obtain ⟨r1,_⟩:=run_get H ok.nd h1
  obtain ⟨d1,_⟩:=W3 H ok.k ok.nd ng h2
  have nd:=Yn H (K:=[]) (by simp [kys]) h1
  refine ⟨by have:=congrArg List.length (k1.trans k2.symm); simpa [kys] using this,T8 fun k x hm=>?_⟩
  have hk:k∈kys (Hf H []):=by rw [← k1]; exact List.mem_map.mpr ⟨_,hm,rfl⟩
  rcases O4 H hk with z | ⟨b,hb,q,hq,rfl⟩
  · cases z
  · obtain ⟨D,x1,x2⟩:=r1 b hb
    have e1:=x2 q hq
    rw [Sv nd hm] at e1
    cases e1
    refine ⟨_,d1 b hb D x1 q hq,?_⟩
    obtain ⟨okb,pb⟩:=ok.k b hb
    have wf:=Zi okb (by omega) x1
    unfold gv
    cases z:xr D (q:Int) with
    | none=>exact Hx (n:=0) ⟨.none,rfl,by decide⟩ (by decide)
    | some L =>
      obtain ⟨_,_,_,sub⟩:=wf.at' _ (Br z)
      exact Hx (n:=1) (n6 (n:=0) fun t ht=>by
        obtain ⟨y,hy,rfl⟩:=List.mem_map.mp ht
        exact qz _ (okb.hk y (sub y hy))) (by decide)
end
end K
end
section
namespace K
open C PySem
def nB1:S:=lu (bf 2) (aq (bf 3) (aq (bf 5) fj)) (au .non)
def nB2:S:=Bt (hName 5) (m8 (bf 4)) nB1
def uB:S:=sIf (fu (mOp Li (bf 6) (au .non))) (qj 6 (jo m7 (aq (bf 1) (aq (bf 3) (aq (bf 2) fj))))) wz
section
variable {bs:List Bx} {lk:List Str} {H:List Hd} {ss:List Sp} {st:List SO} {sc:T}
abbrev eQ (sc:T) (bs:List Bx) (H:List Hd) (ss:List Sp) (lk:List Str) (d:Nat) (r:List Slot):List Slot:=some (sc,false)::some (prT bs H ss lk,false)::some (.obj d,false)::r
theorem Oq {h:Str} {P:Int} {o6 o7 o8:Slot}:∀ (l:List Nat) (K:Dit) (o5:Slot),K.length+l.length<100→∃ p5:Slot,forL (hName 5) nB1 (l.map fun (k:Nat)=>T.int (k:Int)) ⟨eQ sc bs H ss lk st.length [some (.str h,false),some (.int P,false),o5,o6,o7,o8],st++[.dit K]⟩=some (.next,⟨eQ sc bs H ss lk st.length [some (.str h,false),some (.int P,false),p5,o6,o7,o8],st++[.dit (puts h [] l K)]⟩)
  | [],K,o5,_=>⟨o5,by simp [forL,puts]⟩
  | a::l,K,o5,hl=>by
    rw [List.length_cons] at hl
    have h2:=Du (k:=qk h (a:Int)) (v:=.non) (l:=K)
    obtain ⟨p5,e⟩:=Oq l (zf (qk h (a:Int)) .non K) (some (.int (a:Int),false)) (by omega)
    refine ⟨p5,?_⟩
    have G:hName 5 (.int (a:Int)) ⟨eQ sc bs H ss lk st.length [some (.str h,false),some (.int P,false),o5,o6,o7,o8],st++[.dit K]⟩=some ⟨eQ sc bs H ss lk st.length [some (.str h,false),some (.int P,false),some (.int (a:Int),false),o6,o7,o8],st++[.dit K]⟩:=rfl
    have kl:K.length<lim:=by show _<1000000; omega
    have B1:nB1 ⟨eQ sc bs H ss lk st.length [some (.str h,false),some (.int P,false),some (.int (a:Int),false),o6,o7,o8],st++[.dit K]⟩=some (.next,⟨eQ sc bs H ss lk st.length [some (.str h,false),some (.int P,false),some (.int (a:Int),false),o6,o7,o8],st++[.dit (zf (qk h (a:Int)) .non K)]⟩):=by
      unfold nB1 qk
      simp! [lu,keysOf,keyOf,kl]
    rw [List.map_cons,forL]
    dsimp only
    rw [G]
    dsimp only
    rw [B1]
    exact e
theorem Z8 (ok:OkA H ss lk) {o6 o7 o8:Slot}:∀ (B:List Hd) (a:Nat) (K:Dit) (o3 o4 o5:Slot),(∀ b∈B,b∈H)→K.length≤5 * a→a+B.length≤3→∃ p3 p4 p5:Slot,
    forL (wu [3,4]) nB2 (B.map hT) ⟨eQ sc bs H ss lk st.length [o3,o4,o5,o6,o7,o8],st++[.dit K]⟩=some (.next,⟨eQ sc bs H ss lk st.length [p3,p4,p5,o6,o7,o8],st++[.dit (Hf B K)]⟩)∧(Hf B K).length≤15
  | [],a,K,o3,o4,o5,_,hl,h3=>⟨o3,o4,o5,by simp [forL,Hf],by show K.length≤15; simp at h3; omega⟩
  | b::B,a,K,o3,o4,o5,hH,hl,h3=>by
    obtain ⟨okb,pb⟩:=ok.k b (hH b List.mem_cons_self)
    have P5:=okb.P5
    rw [List.length_cons] at h3
    have pl:=Hw (h:=b.1) (D:=[]) (List.range b.2.toNat) K
    rw [List.length_range] at pl
    have nb:b.2.natAbs<lim:=by show _<1000000; omega
    obtain ⟨p5,e1⟩:=Oq (sc:=sc) (bs:=bs) (H:=H) (ss:=ss) (lk:=lk) (st:=st) (h:=b.1) (P:=b.2) (o6:=o6) (o7:=o7) (o8:=o8) (List.range b.2.toNat) K o5 (by rw [List.length_range]; omega)
    have G:wu [3,4] (hT b) ⟨eQ sc bs H ss lk st.length [o3,o4,o5,o6,o7,o8],st++[.dit K]⟩=some ⟨eQ sc bs H ss lk st.length [some (.str b.1,false),some (.int b.2,false),o5,o6,o7,o8],st++[.dit K]⟩:=Mj
    have it:m8 (bf 4) ⟨eQ sc bs H ss lk st.length [some (.str b.1,false),some (.int b.2,false),o5,o6,o7,o8],st++[.dit K]⟩=some ((List.range b.2.toNat).map fun (k:Nat)=>T.int (k:Int),⟨eQ sc bs H ss lk st.length [some (.str b.1,false),some (.int b.2,false),o5,o6,o7,o8],st++[.dit K]⟩):=by
      simp! [nb,rangeT]
    have B1:nB2 ⟨eQ sc bs H ss lk st.length [some (.str b.1,false),some (.int b.2,false),o5,o6,o7,o8],st++[.dit K]⟩=some (.next,⟨eQ sc bs H ss lk st.length [some (.str b.1,false),some (.int b.2,false),p5,o6,o7,o8],st++[.dit (puts b.1 [] (List.range b.2.toNat) K)]⟩):=by
      unfold nB2 Bt
      rw [it]
      exact e1
    rw [List.map_cons,forL,Hf]
    dsimp only
    rw [G]
    dsimp only
    rw [B1]
    exact Z8 ok B (a+1) _ _ _ _ (fun c hc=>hH c (List.mem_cons_of_mem _ hc)) (by omega) (by omega)
theorem Z9 {n:Nat} {S:List SO} {d:Nat} {o5 o7 o8:Slot}:∀ (B:List Hd) (o3 o4:Slot),∃ p3 p4:Slot,forL (wu [3,4]) uB (B.map hT) ⟨eQ sc bs H ss lk d [o3,o4,o5,some (.int (n:Int),false),o7,o8],S⟩=some (.next,⟨eQ sc bs H ss lk d [p3,p4,o5,some (.int (n:Int),false),o7,o8],S⟩)
  | [],o3,o4=>⟨o3,o4,by simp [forL]⟩
  | b::B,o3,o4=>by
    obtain ⟨p3,p4,e⟩:=Z9 B (some (.str b.1,false)) (some (.int b.2,false))
    refine ⟨p3,p4,?_⟩
    have G:wu [3,4] (hT b) ⟨eQ sc bs H ss lk d [o3,o4,o5,some (.int (n:Int),false),o7,o8],S⟩=some ⟨eQ sc bs H ss lk d [some (.str b.1,false),some (.int b.2,false),o5,some (.int (n:Int),false),o7,o8],S⟩:=Mj
    have B1:uB ⟨eQ sc bs H ss lk d [some (.str b.1,false),some (.int b.2,false),o5,some (.int (n:Int),false),o7,o8],S⟩=some (.next,⟨eQ sc bs H ss lk d [some (.str b.1,false),some (.int b.2,false),o5,some (.int (n:Int),false),o7,o8],S⟩):=by
      unfold uB
      simp! [Li,Bb]
    rw [List.map_cons,forL]
    dsimp only
    rw [G]
    dsimp only
    rw [B1]
    exact e
theorem Yp (ok:OkA H ss lk) (one:∀ s∈ss,s.sets=[]∨∃ b o,s.sets=[(b,o)]) {o5 o7 o8:Slot}:∀ (B:List Hd) (K:Dit) (o3 o4:Slot),(∀ b∈B,b∈H)→(B.map (·.1)).Nodup→(∀ b∈B,∀ q:Nat,q<b.2.toNat→qd (qk b.1 (q:Int)) K=some .non)→K.length+6 * B.length<60 →
    (∃ K' p3 p4,Rf lk ss B K=.inl K'∧forL (wu [3,4]) uB (B.map hT) ⟨eQ sc bs H ss lk st.length [o3,o4,o5,some (.non,false),o7,o8],st++[.dit K]⟩=some (.next,⟨eQ sc bs H ss lk st.length [p3,p4,o5,some (.non,false),o7,o8],st++[.dit K']⟩)) ∨
    ∃ (n:Nat) (K':Dit) (p3 p4:Slot),Rf lk ss B K=.inr n∧forL (wu [3,4]) uB (B.map hT) ⟨eQ sc bs H ss lk st.length [o3,o4,o5,some (.non,false),o7,o8],st++[.dit K]⟩=some (.next,⟨eQ sc bs H ss lk st.length [p3,p4,o5,some (.int (n:Int),false),o7,o8],st++[.dit K']⟩)
  | [],K,o3,o4,_,_,_,_=>.inl ⟨K,o3,o4,rfl,by simp [forL]⟩
  | b::B,K,o3,o4,hH,nd,hn,hl=>by
    obtain ⟨okb,pb⟩:=ok.k b (hH b List.mem_cons_self)
    have P5:=okb.P5
    rw [List.length_cons] at hl
    rw [List.map_cons] at nd
    obtain ⟨n1,n2⟩:=List.nodup_cons.mp nd -- here
    have G:wu [3,4] (hT b) ⟨eQ sc bs H ss lk st.length [o3,o4,o5,some (.non,false),o7,o8],st++[.dit K]⟩=some ⟨eQ sc bs H ss lk st.length [some (.str b.1,false),some (.int b.2,false),o5,some (.non,false),o7,o8],st++[.dit K]⟩:=Mj
    have sx:∀ x:SO,(st++[SO.dit K]).set st.length x=st++[x]:=fun x=>by simp
    rw [List.map_cons,forL,Rf]
    dsimp only
    rw [G]
    dsimp only
    rcases Y7 (bs:=bs) (H:=H) (S0:=st++[.dit K]) (d:=st.length) okb (by omega) one (by simp) (K0:=K) (by simp) (fun q q0 q1=>by have:=hn b List.mem_cons_self q.toNat (by omega); rwa [Int.toNat_of_nonneg q0] at this) (by omega) with ⟨D,x,wf,e⟩ | ⟨n,K',x,e⟩
    · rw [x]
      rw [sx] at e
      have B1:uB ⟨eQ sc bs H ss lk st.length [some (.str b.1,false),some (.int b.2,false),o5,some (.non,false),o7,o8],st++[.dit K]⟩=some (.next,⟨eQ sc bs H ss lk st.length [some (.str b.1,false),some (.int b.2,false),o5,some (.non,false),o7,o8],st++[.dit (ji b.1 D K)]⟩):=by
        unfold uB
        simp! [Li,Bb,e]
      rw [B1]
      dsimp only
      have wl:=wf.len
      have pl:=Ef (h:=b.1) D K
      exact Yp ok one B (ji b.1 D K) _ _ (fun c hc=>hH c (List.mem_cons_of_mem _ hc)) n2 (fun c hc q hq=>by
        rw [u6 wf.nd,if_neg (fun e:c.1=b.1=>n1 (e ▸ List.mem_map.mpr ⟨c,hc,rfl⟩))]
        exact hn c (List.mem_cons_of_mem _ hc) q hq) (by omega)
    · rw [x]
      rw [sx] at e
      have B1:uB ⟨eQ sc bs H ss lk st.length [some (.str b.1,false),some (.int b.2,false),o5,some (.non,false),o7,o8],st++[.dit K]⟩=some (.next,⟨eQ sc bs H ss lk st.length [some (.str b.1,false),some (.int b.2,false),o5,some (.int (n:Int),false),o7,o8],st++[.dit K']⟩):=by
        unfold uB
        simp! [Li,Bb,e]
      rw [B1]
      dsimp only
      obtain ⟨p3,p4,e2⟩:=Z9 (sc:=sc) (bs:=bs) (H:=H) (ss:=ss) (lk:=lk) (n:=n) (S:=st++[.dit K']) (d:=st.length) (o5:=o5) (o7:=o7) (o8:=o8) B (some (.str b.1,false)) (some (.int b.2,false))
      exact .inr ⟨n,K',p3,p4,rfl,e2⟩
end
end K
end
section
namespace K
open C PySem
section
variable {P t:T} {S S':List SO}
theorem Wt (h:j9 [P] S=some (.inl t,S')):m5 [P] S=some (t,S'):=by
  unfold m5
  simp! [Te,h,Qz]
theorem Xu (h:j9 [P] S=some (.inr t,S')):m5 [P] S=some (.tup [.str "no",t],S'):=by
  unfold m5
  simp! [Te,h,clr]
theorem a3m (h:j9 [P] S=some (.inr t,S')):v9 [P] S=some (.bl true,S'):=by
  unfold v9
  simp! [Te,h,clr]
end
theorem Xw {cs:List Int} (hc:cs.length≤63):∃ st,Qx [scr cs] []=some (.bl true,st):=by
  obtain ⟨t,st,ep,bs,H,ss,lk,rfl,ok⟩:=locked (cs:=cs) hc
  have one:∀ s∈ss,s.sets=[]∨∃ b o,s.sets=[(b,o)]:=fun s hs=>by
    obtain ⟨k,hk,_,z⟩:=ok.st s hs
    rcases z with ⟨y,_,_,e⟩ | ⟨y,_,e⟩ | e | ⟨b,o,_,e⟩
    · exact .inr ⟨_,_,e⟩
    · exact .inr ⟨_,_,e⟩
    · exact .inl e
    · exact .inr ⟨_,_,e⟩
  have h3:=ok.pr.hs.2.1
  have hl:H.length<lim:=by show _<1000000; omega
  have i0:cu (prT bs H ss lk) (.int 0)=some (.lst (bs.map bxT)):=Gx
  have i1:cu (prT bs H ss lk) (.int 1)=some (.lst (H.map hT)):=Om
  have i2:cu (prT bs H ss lk) (.int 2)=some (.lst (ss.map spT)):=Kw
  have i3:cu (prT bs H ss lk) (.int 3)=some (.tup (lk.map T.str)):=Jw
  have nq:neO (prT bs H ss lk) (prT bs H ss lk)=some (.bl false):=Yi (a6u ok.pr ok.o ok.k) (by decide)
  obtain ⟨p3,p4,p5,e1,n15⟩:=Z8 (sc:=scr cs) (bs:=bs) (st:=st) (o6:=none) (o7:=none) (o8:=none) ok.a H 0 [] none none none (fun _ h=>h) (Nat.zero_le _) (by simpa using h3)
  obtain ⟨ng,_⟩:=Ih H (K:=[]) ok.a.nd
  have u:=Yp (sc:=scr cs) (bs:=bs) (st:=st) (o5:=p5) (o7:=none) (o8:=none) ok.a one H (Hf H []) p3 p4 (fun _ h=>h) ok.a.nd ng (by omega)
  unfold Qx Ab
  rw [show ([scr cs].map (fun t=>some (t,false))++List.replicate (9 - [scr cs].length) none:List Slot)=[some (scr cs,false),none,none,none,none,none,none,none,none] from rfl]
  rw [dh (s':=⟨[some (scr cs,false),some (prT bs H ss lk,false),none,none,none,none,none,none,none],st⟩) (by simp! [ep])]
  rw [dh (s':=⟨eQ (scr cs) bs H ss lk st.length [none,none,none,none,none,none],st++[.dit []]⟩) rfl]
  have it1:∀ (r:List Slot) (S:List SO),Ae (mOp cu (bf 1) (au (.int 1))) ⟨eQ (scr cs) bs H ss lk st.length r,S⟩=some (H.map hT,⟨eQ (scr cs) bs H ss lk st.length r,S⟩):=fun r S=>by
    simp! [i1,hl]
  have F1:Bt (wu [3,4]) (Ae (mOp cu (bf 1) (au (.int 1)))) nB2 ⟨eQ (scr cs) bs H ss lk st.length [none,none,none,none,none,none],st++[.dit []]⟩=some (.next,⟨eQ (scr cs) bs H ss lk st.length [p3,p4,p5,none,none,none],st++[.dit (Hf H [])]⟩):=by
    unfold Bt; rw [it1]; exact e1
  rw [show Bt (wu [3,4]) (Ae (mOp cu (bf 1) (au (.int 1)))) (Bt (hName 5) (m8 (bf 4)) (lu (bf 2) (aq (bf 3) (aq (bf 5) fj)) (au .non)))=Bt (wu [3,4]) (Ae (mOp cu (bf 1) (au (.int 1)))) nB2 from rfl,dh F1]
  rw [dh (s':=⟨eQ (scr cs) bs H ss lk st.length [p3,p4,p5,some (.non,false),none,none],st++[.dit (Hf H [])]⟩) rfl]
  rw [show (sIf (fu (mOp Li (bf 6) (au .non))) (qj 6 (jo m7 (aq (bf 1) (aq (bf 3) (aq (bf 2) fj))))) wz:C.S)=uB from rfl]
  rcases alike (lk:=lk) (ss:=ss) H [] (Hf H []) with ⟨A,U,x1,x2⟩ | ⟨n,x1,x2⟩
  · rcases u with ⟨U',q3,q4,y1,e2⟩ | ⟨n,K',q3,q4,y1,e2⟩
    rotate_left
    · rw [x2] at y1; cases y1
    rw [x2] at y1
    cases y1
    have F2:Bt (wu [3,4]) (Ae (mOp cu (bf 1) (au (.int 1)))) uB ⟨eQ (scr cs) bs H ss lk st.length [p3,p4,p5,some (.non,false),none,none],st++[.dit (Hf H [])]⟩=some (.next,⟨eQ (scr cs) bs H ss lk st.length [q3,q4,p5,some (.non,false),none,none],st++[.dit U]⟩):=by
      unfold Bt; rw [it1]; exact e2
    rw [dh F2]
    rw [dh (s':=⟨eQ (scr cs) bs H ss lk st.length [q3,q4,p5,some (.non,false),some (prT bs H ss lk,false),none],st++[.dit U]⟩) (by simp! [i0,i1,i2,i3,uz]; rfl)]
    rcases holding (bs:=bs) (sto:=st++[.dit U]) ok.a h3 with ⟨A',z1,e3⟩ | ⟨n,K,z1,_,e3⟩
    rotate_left
    · rw [x1] at z1; cases z1
    rw [x1] at z1
    cases z1
    have as:=Wt e3
    obtain ⟨l1,l2⟩:=Yc ok.a x1 x2
    rw [dh (s':=⟨eQ (scr cs) bs H ss lk st.length [q3,q4,p5,some (.non,false),some (prT bs H ss lk,false),some (.obj (st++[SO.dit U]).length,false)],st++[.dit U]++[.dit A]⟩) (by simp! [as])]
    rw [dh (s':=⟨eQ (scr cs) bs H ss lk st.length [q3,q4,p5,some (.non,false),some (prT bs H ss lk,false),some (.obj (st++[SO.dit U]).length,false)],st++[.dit U]++[.dit A]⟩) (by simp! [nq])]
    rw [dh (s':=⟨eQ (scr cs) bs H ss lk st.length [q3,q4,p5,some (.non,false),some (prT bs H ss lk,false),some (.obj (st++[SO.dit U]).length,false)],st++[.dit U]++[.dit A]⟩) rfl]
    have g1:(st++[SO.dit U]++[SO.dit A])[(st++[SO.dit U]).length]? = some (.dit A):=by simp
    have g2:(st++[SO.dit U]++[SO.dit A])[st.length]? = some (.dit U):=by simp
    generalize hS:st++[SO.dit U]++[SO.dit A]=S at *
    generalize hm:(st++[SO.dit U]).length=m at *
    generalize hd:st.length=d at *
    have D1:Gw 8 ⟨eQ (scr cs) bs H ss lk d [q3,q4,p5,some (.non,false),some (prT bs H ss lk,false),some (.obj m,false)],S⟩=some (.bl true,⟨eQ (scr cs) bs H ss lk d [q3,q4,p5,some (.non,false),some (prT bs H ss lk,false),some (.obj m,false)],S⟩):=by
      simp [Gw,g1]
    have D2:Hq 8 2 ⟨eQ (scr cs) bs H ss lk d [q3,q4,p5,some (.non,false),some (prT bs H ss lk,false),some (.obj m,false)],S⟩=some (.bl true,⟨eQ (scr cs) bs H ss lk d [q3,q4,p5,some (.non,false),some (prT bs H ss lk,false),some (.obj m,false)],S⟩):=by
      simp [Hq,g1,g2,l1,l2]
    refine ⟨S,?_⟩
    simp only [uy,Mv,Hl,fu,D1,D2]
  · rcases u with ⟨U',q3,q4,y1,e2⟩ | ⟨n',K',q3,q4,y1,e2⟩
    · rw [x2] at y1; cases y1
    rw [x2] at y1
    cases y1
    have F2:Bt (wu [3,4]) (Ae (mOp cu (bf 1) (au (.int 1)))) uB ⟨eQ (scr cs) bs H ss lk st.length [p3,p4,p5,some (.non,false),none,none],st++[.dit (Hf H [])]⟩=some (.next,⟨eQ (scr cs) bs H ss lk st.length [q3,q4,p5,some (.int (n:Int),false),none,none],st++[.dit K']⟩):=by
      unfold Bt; rw [it1]; exact e2
    rw [dh F2]
    rw [dh (s':=⟨eQ (scr cs) bs H ss lk st.length [q3,q4,p5,some (.int (n:Int),false),some (prT bs H ss lk,false),none],st++[.dit K']⟩) (by simp! [i0,i1,i2,i3,uz]; rfl)]
    have hold:∀ S:List SO,∃ K,j9 [prT bs H ss lk] S=some (.inr (.int (n:Int)),S++[.dit K]):=fun S=>by
      rcases holding (bs:=bs) (sto:=S) ok.a h3 with ⟨A',z1,_⟩ | ⟨n'',K,z1,_,e3⟩
      · rw [x1] at z1; cases z1
      · rw [x1] at z1; cases z1; exact ⟨K,e3⟩
    obtain ⟨K1,e3⟩:=hold (st++[.dit K'])
    obtain ⟨K2,e4⟩:=hold (st++[.dit K']++[.dit K1])
    have as:=Xu e3
    have an:=a3m e4
    generalize hS1:st++[SO.dit K']++[SO.dit K1]=S1 at *
    have eq:eqO (.tup [.str "no",.int (n:Int)]) (.tup [.str "no",.int (n:Int)])=some (.bl true):=Wu (n:=1) (n6 (n:=0) fun t ht=>by
      simp only [List.mem_cons,List.not_mem_nil,or_false] at ht
      rcases ht with rfl | rfl
      · exact qz _ (by unfold okS; decide +kernel)
      · exact yw _ _) (by decide)
    rw [dh (s':=⟨eQ (scr cs) bs H ss lk st.length [q3,q4,p5,some (.int (n:Int),false),some (prT bs H ss lk,false),some (.tup [.str "no",.int (n:Int)],false)],S1⟩) (by simp! [as])]
    rw [dh (s':=⟨eQ (scr cs) bs H ss lk st.length [q3,q4,p5,some (.int (n:Int),false),some (prT bs H ss lk,false),some (.tup [.str "no",.int (n:Int)],false)],S1⟩) (by simp! [nq])]
    refine ⟨S1++[.dit K2],?_⟩
    simp! [Bg,Bb,eq,an]
end K
end
section
namespace D
open PySem L2 C
structure FA (K:PySem.W.Frag) (x:Str) (st:Stmt) (f:Addr) (fd:FuncData):Prop where
  a:PySem.W.nsIn K mainGlobals x=some (some (.ref f))
  F:Fun K x x st f fd
theorem a6c {K:PySem.W.Frag} {x:Str} {st:Stmt} {f:Addr} {oc:Value} {od an:Option Addr} {osl:Array (Option Value)} {kV doc pm cdv ct:Value} (a:PySem.W.nsIn K mainGlobals x=some (some (.ref f)))
    (l:K.lookup f=some ⟨oc,od,.func (PySem.W.fnOf x x (yq st) (qm st) (dz st) .none kV doc pm an cdv ct),osl⟩) (c:PySem.W.codeIn K cdv x=true) (k:PySem.W.keepIn K (.ref f)=true):FA K x st f (PySem.W.fnOf x x (yq st) (qm st) (dz st) .none kV doc pm an cdv ct):=⟨a,Vk l c k⟩
theorem FA.m {K:PySem.W.Frag} {x:Str} {st:Stmt} {f:Addr} {fd:FuncData} {hp:Heap} {mg:Str→Option Value} (h:FA K x st f fd) (X:K.In hp) (G:hp.Ns mainGlobals mg):mg x=some (.ref f):=PySem.W.mg_of X G h.a
theorem a5p {K:PySem.W.Frag} {Cl D fI:Addr} {f nm q:Str} {Na:Addr} {bs:List Value} {sn:List Str} {sub:List Value} {ab:Bool} {col:Option Bool} {dd:Option Addr} {k0 k1 k2 k3 k5:Option Value}
    (lk:K.lookup Cl=some (excClassObj nm q Cl Na bs (.ref D::My.vB) true sn sub ab col dd k0 k1 k2 k3 k5 "ValueError.__new__")) (b:PySem.W.excIn K D My.vB "ValueError.__new__" = true) (i:PySem.W.findIn K (.ref Cl) "__init__" = some (some (.ref fI))) (fn:PySem.W.isFn K (.ref fI)=true)
    (sa:PySem.W.findIn K (.ref Cl) "__setattr__" = some (some (.builtin "object.__setattr__"))) (ob:PySem.W.mroIn K Cl (.type "object")=some true) (na:PySem.W.findIn K (.ref Cl) f=some none) (kp:PySem.W.keepIn K (.ref Cl)=true):XC K Cl D fI f∧XCl K Cl (.ref D::My.vB) :=
  ⟨⟨⟨nm,q,Na,bs,sn,sub,ab,col,dd,k0,k1,k2,k3,k5,lk⟩,b,i,fn,sa,ob,na,kp⟩,by simp,nm,q,Na,bs,true,sn,sub,ab,col,dd,k0,k1,k2,k3,k5,lk⟩
theorem T4 {K:PySem.W.Frag} {Cl:Addr} {bm:List Value} {nm q:Str} {Na:Addr} {bs:List Value} {hd:Bool} {sn:List Str} {sub:List Value} {ab:Bool} {col:Option Bool} {dd:Option Addr} {k0 k1 k2 k3 k5:Option Value}
    (lk:K.lookup Cl=some (excClassObj nm q Cl Na bs bm hd sn sub ab col dd k0 k1 k2 k3 k5 "ValueError.__new__")) (b:bm.contains (.type "BaseException")=true):XCl K Cl bm:=⟨b,nm,q,Na,bs,hd,sn,sub,ab,col,dd,k0,k1,k2,k3,k5,lk⟩
theorem all_mk {C_NoLock D_NoLock I_NoLock:Addr} {fdI_NoLock:FuncData} {C_CalmError:Addr} {bm_CalmError:List Value} {C_NoStep:Addr} {bm_NoStep:List Value} {C_TooMany:Addr} {bm_TooMany:List Value} {l:PySem.W.OpenLaw} {w:World} {K:PySem.W.Frag} {h:Heap} {mg:Str→Option Value} {fa f1 f2 f3 f4 f5 f6 f7 f8 f9 f10 f11 f12 f13:Addr} {fd1 fd2 fd3 fd4 fd5 fd6 fd7 fd8 fd9 fd10 fd11 fd12:FuncData} (X:K.In h) (G:h.Ns mainGlobals mg) (hfa:mg "law" = some (.ref fa))
    {od13 an13:Option Addr} {sl13:Array (Option Value)} {oc13 kV13 dc13 pm13 cd13 ct13:Value}
    (h1:FA K "held_behind" sy f1 fd1)
    (h2:FA K "held_by" Ax f2 fd2)
    (h3:FA K "holding" Bl f3 fd3)
    (h4:FA K "_law_cell_at" rm f4 fd4)
    (h5:FA K "_law_pick" zy f5 fd5)
    (h6:FA K "_law_name" zq f6 fd6)
    (h7:FA K "_law_lock_step" ou f7 fd7)
    (h8:FA K "_law_locked" uo f8 fd8)
    (h9:FA K "_law_behind" ur f9 fd9)
    (h10:FA K "_law_hand" zp f10 fd10)
    (h11:FA K "_law_asked" vh f11 fd11)
    (h12:FA K "_law_any" Bj f12 fd12)
    (a13:PySem.W.nsIn K mainGlobals "law" = some (some (.ref f13))) (l13:K.lookup f13=some ⟨oc13,od13,.func (PySem.W.fnOf "law" "law" (yq Hs) (qm Hs) (dz Hs) .none kV13 dc13 pm13 an13 cd13 ct13),sl13⟩) (c13:PySem.W.codeIn K cd13 "law" = true) (k13:PySem.W.keepIn K (.ref f13)=true)
    (z_ValueError:PySem.W.nsIn K mainGlobals "ValueError" = some none)
    (z_dict:PySem.W.nsIn K mainGlobals "dict" = some none)
    (z_enumerate:PySem.W.nsIn K mainGlobals "enumerate" = some none)
    (z_int:PySem.W.nsIn K mainGlobals "int" = some none)
    (z_isinstance:PySem.W.nsIn K mainGlobals "isinstance" = some none)
    (z_len:PySem.W.nsIn K mainGlobals "len" = some none)
    (z_list:PySem.W.nsIn K mainGlobals "list" = some none)
    (z_range:PySem.W.nsIn K mainGlobals "range" = some none)
    (z_sorted:PySem.W.nsIn K mainGlobals "sorted" = some none)
    (z_tuple:PySem.W.nsIn K mainGlobals "tuple" = some none)
    (xa_NoLock:PySem.W.nsIn K mainGlobals "NoLock" = some (some (.ref C_NoLock))) (xx_NoLock:XC K C_NoLock D_NoLock I_NoLock "step" ∧ XCl K C_NoLock (.ref D_NoLock::My.vB)) (xg_NoLock:XG K C_NoLock "step") (xF_NoLock:Fun K "__init__" "NoLock.__init__" Et I_NoLock fdI_NoLock)
    (xa_CalmError:PySem.W.nsIn K mainGlobals "CalmError" = some (some (.ref C_CalmError))) (xl_CalmError:XCl K C_CalmError bm_CalmError) (t_CalmError:(Value.ref C_NoLock :: .ref D_NoLock::My.vB).contains (.ref C_CalmError)=true)
    (xa_NoStep:PySem.W.nsIn K mainGlobals "NoStep" = some (some (.ref C_NoStep))) (xl_NoStep:XCl K C_NoStep bm_NoStep) (n_NoStep:(Value.ref C_NoLock :: .ref D_NoLock::My.vB).contains (.ref C_NoStep)=false)
    (xa_TooMany:PySem.W.nsIn K mainGlobals "TooMany" = some (some (.ref C_TooMany))) (xl_TooMany:XCl K C_TooMany bm_TooMany) (n_TooMany:(Value.ref C_NoLock :: .ref D_NoLock::My.vB).contains (.ref C_TooMany)=false)
    : ∃ fd:FuncData,(∀ (s:Shared) (v:Value),BindsTo s fd ⟨[v],[]⟩ [("_law_script",v)])∧∀ base:Heap,K.In base→base.Ns mainGlobals mg→ud l.prog w K mg base CX0 7 fa fd ["_law_script"] (spF K 1 _root_.K.Qx):=by
  have e:=hfa.symm.trans (PySem.W.mg_of X G a13)
  cases e
  have F13:=Vk (st:=Hs) l13 c13 k13
  have b_ValueError:=PySem.W.mg_none_of X G z_ValueError
  have b_dict:=PySem.W.mg_none_of X G z_dict
  have b_enumerate:=PySem.W.mg_none_of X G z_enumerate
  have b_int:=PySem.W.mg_none_of X G z_int
  have b_isinstance:=PySem.W.mg_none_of X G z_isinstance
  have b_len:=PySem.W.mg_none_of X G z_len
  have b_list:=PySem.W.mg_none_of X G z_list
  have b_range:=PySem.W.mg_none_of X G z_range
  have b_sorted:=PySem.W.mg_none_of X G z_sorted
  have b_tuple:=PySem.W.mg_none_of X G z_tuple
  have k_NoLock:Og K mg "NoLock" C_NoLock (.ref D_NoLock::My.vB):=⟨xx_NoLock.2,PySem.W.mg_of X G xa_NoLock⟩
  have g_NoLock:=xg_NoLock
  have k_CalmError:Og K mg "CalmError" C_CalmError bm_CalmError:=⟨xl_CalmError,PySem.W.mg_of X G xa_CalmError⟩
  have k_NoStep:Og K mg "NoStep" C_NoStep bm_NoStep:=⟨xl_NoStep,PySem.W.mg_of X G xa_NoStep⟩
  have k_TooMany:Og K mg "TooMany" C_TooMany bm_TooMany:=⟨xl_TooMany,PySem.W.mg_of X G xa_TooMany⟩
  refine ⟨PySem.W.fnOf "law" "law" (yq Hs) (qm Hs) (dz Hs) .none kV13 dc13 pm13 an13 cd13 ct13,fun s v=>.of_eq rfl,fun base _ _=>?_⟩
  have r_NoLock:XR l.prog w K mg base "NoLock" C_NoLock "step" "step" := Uy xx_NoLock.1 xF_NoLock (PySem.W.mg_of X G xa_NoLock)
  have dx_held_behind:=Fz (P:=l.prog) (w:=w) (base:=base) h1.F (h1.m X G) r_NoLock b_list b_sorted b_tuple
  have d_held_behind:m6 l.prog w K mg base "held_behind" 3 ["program","number","held"] _root_.K.Ht:=dx_held_behind.norm
  have dx_held_by:=Q5 (P:=l.prog) (w:=w) (base:=base) h2.F (h2.m X G) dx_held_behind r_NoLock b_enumerate b_len
  have d_held_by:m6 l.prog w K mg base "held_by" 4 ["program","hand"] _root_.K.Ur:=dx_held_by.norm
  have dx_holding:=Qe (P:=l.prog) (w:=w) (base:=base) h3.F (h3.m X G) dx_held_by b_range
  have d_holding:m6 l.prog w K mg base "holding" 5 ["program"] _root_.K.Vw:=dx_holding.norm
  have d_law_cell_at:=G9 (P:=l.prog) (w:=w) (base:=base) h4.F (h4.m X G) b_len
  have d_law_pick:=Ls (P:=l.prog) (w:=w) (base:=base) h5.F (h5.m X G) b_len
  have d_law_name:=Lq (P:=l.prog) (w:=w) (base:=base) h6.F (h6.m X G)
  have d_law_lock_step:=Dl (P:=l.prog) (w:=w) (base:=base) h7.F (h7.m X G) d_law_pick b_int b_len
  have d_law_locked:=Il (P:=l.prog) (w:=w) (base:=base) h8.F (h8.m X G) d_law_cell_at d_law_lock_step d_law_name d_law_pick b_range b_tuple
  have d_law_behind:=Ig (P:=l.prog) (w:=w) (base:=base) h9.F (h9.m X G) b_list b_sorted b_tuple
  have d_law_hand:=Mu (P:=l.prog) (w:=w) (base:=base) h10.F (h10.m X G) d_law_behind b_len b_range
  have d_law_asked:=Kh (P:=l.prog) (w:=w) (base:=base) h11.F (h11.m X G) dx_holding k_NoLock g_NoLock k_NoStep n_NoStep k_TooMany n_TooMany
  have d_law_any:=R8 (P:=l.prog) (w:=w) (base:=base) h12.F (h12.m X G) dx_holding k_NoLock g_NoLock k_CalmError t_CalmError b_ValueError b_isinstance
  exact a3l F13 d_law_any d_law_asked d_law_hand d_law_locked b_dict b_isinstance b_list b_range
theorem walk {l:PySem.W.OpenLaw} {q:Program} {loose:List Str} {XP:(Str→Option Value)→Heap→Prop} {YP:World→Heap→Prop} {d:DefRec} {K:Params→PySem.W.Frag} (hn:l.most=some 63) (hdf:d.params.defaults=[])
    (hY:∀ (w:World) (h:Heap),YP w h→(K w.params).In h)
    (F:∀ (w:World) (mg:Str→Option Value) (fa:Addr) (h:Heap),(K w.params).In h→h.Ns mainGlobals mg→mg d.name=some (.ref fa) →
      ∃ fd:FuncData,(∀ (s:Shared) (u:Value),BindsTo s fd ⟨[u],[]⟩ [("_law_script",u)])∧∀ base:Heap,(K w.params).In base→base.Ns mainGlobals mg→ud l.prog w (K w.params) mg base CX0 7 fa fd ["_law_script"] (spF (K w.params) 1 _root_.K.Qx)) :
    PySem.W.WalkO q loose XP YP l.row.toRowW d [] (fun f vs=>PySem.call f vs) :=
  L2.a1i (n:=63) (k:=7) (x := "_law_script") (CX:=fun _=>CX0) (sp:=fun w=>spF (K w.params) 1 _root_.K.Qx) hn (by decide) hdf ⟨rfl,by decide,by decide⟩ hY F (fun w H a ns hl _ hS=>a1h hS (_root_.K.Xw (cs:=ns) hl)) fun _ _ _ _ _ z=>z
end D
theorem PySem.W.Fast.tw12235689868718138145:True:=⟨⟩
theorem PySem.W.Fast.tw6540465336703650824:True:=⟨⟩
theorem PySem.W.Fast.tw3991082538613225675:True:=⟨⟩
theorem PySem.W.Fast.tw3908261139998116940:True:=⟨⟩
theorem PySem.W.Fast.tw12321752410135666829:True:=⟨⟩
theorem PySem.W.Fast.tw2340374043018330061:True:=⟨⟩
theorem PySem.W.Fast.tw12066160167027999918:True:=⟨⟩
theorem PySem.W.Fast.tw10449105099259036209:True:=⟨⟩
theorem PySem.W.Fast.tw17537788953975036723:True:=⟨⟩
theorem PySem.W.Fast.tw17382723690675366164:True:=⟨⟩
theorem PySem.W.Fast.tw5524324398763995540:True:=⟨⟩
theorem PySem.W.Fast.tw15466153550164706774:True:=⟨⟩
theorem PySem.W.Fast.tw8085721842269008825:True:=⟨⟩
theorem PySem.W.Fast.tw4888122054673142810:True:=⟨⟩
theorem PySem.W.Fast.tw1049965544194948634:True:=⟨⟩
theorem PySem.W.Fast.tw1044061918133945948:True:=⟨⟩
theorem PySem.W.Fast.tw9602612896916006762:True:=⟨⟩
theorem PySem.W.Fast.tw373008045629025794:True:=⟨⟩
open PySem PySem.W PyProof.Rows
set_option maxRecDepth 100000 in
set_option maxHeartbeats 0 in
theorem PySem.Challenge.cw_calm_k35_locks_held_holds : PySem.Challenge.rw_calm_k35_locks_held.Holds := by
  w_on; o_law; k_head; (case hw=>w_witness2)
  k_fill
  refine D.walk (l:=PySem.Challenge.rw_calm_k35_locks_held) rfl rfl (fun w h Y=>PySem.W.kIn_of Y) ?F
  case F =>
    intro w mg fa h KX G hmg
    refine' D.all_mk KX G hmg ?h1 ?h2 ?h3 ?h4 ?h5 ?h6 ?h7 ?h8 ?h9 ?h10 ?h11 ?h12 ?a13 ?l13 ?c13 ?k13 ?z_ValueError ?z_dict ?z_enumerate ?z_int ?z_isinstance ?z_len ?z_list ?z_range ?z_sorted ?z_tuple ?xa_NoLock ?xx_NoLock ?xg_NoLock ?xF_NoLock ?xa_CalmError ?xl_CalmError ?t_CalmError ?xa_NoStep ?xl_NoStep ?n_NoStep ?xa_TooMany ?xl_TooMany ?n_TooMany
    (case xa_NoLock=>k_is)
    (case xx_NoLock=>refine' D.a5p ?lk ?b ?i ?fn ?sa ?ob ?na ?kp; (case lk=>k_is); (case b=>k_exc); (case i=>k_is); (case fn=>k_is); (case sa=>k_is); (case ob=>k_is); (case na=>k_is); (case kp=>k_is))
    (case xg_NoLock=>refine' L2.XG.mk ?ga ?gt ?bx ?dc ?na ?cl ?cg ?ct ?ob ?ve; (case ve=>kit_is); all_goals k_is)
    (case xF_NoLock=>refine' L2.Vk ?l ?c ?k; (case l=>k_is); (case c=>k_is); (case k=>k_is))
    (case xa_CalmError=>k_is)
    (case xl_CalmError=>refine' D.T4 ?lk ?b; (case lk=>k_is); (case b=>rfl))
    (case t_CalmError=>rfl)
    (case xa_NoStep=>k_is)
    (case xl_NoStep=>refine' D.T4 ?lk ?b; (case lk=>k_is); (case b=>rfl))
    (case n_NoStep=>rfl)
    (case xa_TooMany=>k_is)
    (case xl_TooMany=>refine' D.T4 ?lk ?b; (case lk=>k_is); (case b=>rfl))
    (case n_TooMany=>rfl)
    case h1 | h2 | h3 | h4 | h5 | h6 | h7 | h8 | h9 | h10 | h11 | h12=>refine' D.a6c ?a ?l ?c ?k; (case a=>k_is); (case l=>k_is); (case c=>k_is); (case k=>k_is)
    case a13 | l13 | c13 | k13 | z_ValueError | z_dict | z_enumerate | z_int | z_isinstance | z_len | z_list | z_range | z_sorted | z_tuple=>k_is
#print axioms PySem.Challenge.cw_calm_k35_locks_held_holds
end
