import PyProof.Rows.All
import Wide.All
import OpenK.AllK
import Wide.FinOn
import Lean
import PyProof.EqAt
import PyProof.EqKinds
import PyProof.TupleCall
import PyProof.P3Statements
import PyProof.Lay0
import PyProof.P3Eq
import PyProof.NeData
import KE.KEqDict
import PyProof.ListRange
import KE.KDictSum
import PyProof.AttrMissHeap
import PyProof.WalksS
import KE.KDictOf
import KE.KRevSl
import PyProof.ZipIter
import PyProof.WalksMore
import PyProof.Rows.FactsT2
import PyProof.Rows.SetFrom
import PyProof.Rows.SortStr
import KE.KDictList
import PyProof.FactsAll.set
import PyProof.CollectWalk
import PyProof.DictWalks
import PyProof.DictItems
import KE.KSortTup
import KE.KDictLaws
import PyProof.WalkInts
import PyProof.SeqI3
import KE.KRevIter
import PyProof.TupleOfGen
import PyProof.CollectIter
import PyProof.EnumMake
import PyProof.Rows.EnumRows
import PySem.Challenge.RW_calm_k32_straightened
set_option Elab.async false
set_option linter.all false
set_option maxRecDepth 100000
set_option maxHeartbeats 8000000
section
namespace L2
open PySem PySem.Spec PyProof.Rows
abbrev Key:=Sum Int Str
def Rj:Key→Value→Bool
  | .inl k,v=>Value.isInt k v
  | .inr x,v=>Value.isStrOf x v
def ae2 (w:World):Key→Int
  | .inl k=>hashInt k
  | .inr x=>hashStr w x
theorem qy:∀ {k:Key} {v:Value},Rj k v=true→(∃ i t,k=Sum.inl i∧v=Value.int i t)∨(∃ x t,k=Sum.inr x∧v=Value.str x t)
  | .inl i,v,h=>by
    obtain ⟨t,e⟩:=Value.isInt_shape (k:=i) (v:=v) h
    exact .inl ⟨i,t,rfl,e⟩
  | .inr x,v,h=>by
    obtain ⟨t,e⟩:=Value.isStrOf_shape (x:=x) (v:=v) h
    exact .inr ⟨x,t,rfl,e⟩
theorem Zd (i:Int) (t:Tok):Rj (.inl i) (.int i t)=true:=by simp [Rj,Value.isInt]
theorem a1o (x:Str) (t:Tok):Rj (.inr x) (.str x t)=true:=by simp [Rj,Value.isStrOf]
theorem aal (a b:Int):decide ((Sum.inl a:Key)=Sum.inl b)=(a==b):=by
  by_cases e:a=b
  · subst e; simp
  · have h:¬ (Sum.inl a:Key)=Sum.inl b:=fun q=>e (Sum.inl.inj q)
    rw [decide_eq_false h]
    exact (beq_eq_false_iff_ne.mpr e).symm
theorem aao (a b:Str):decide ((Sum.inr a:Key)=Sum.inr b)=decide (a=b):=by
  by_cases e:a=b
  · subst e; simp
  · have h:¬ (Sum.inr a:Key)=Sum.inr b:=fun q=>e (Sum.inr.inj q)
    rw [decide_eq_false h,decide_eq_false e]
theorem a92 (a:Int) (b:Str):decide ((Sum.inl a:Key)=Sum.inr b)=false:=decide_eq_false (fun q=>nomatch q)
theorem a96 (a:Str) (b:Int):decide ((Sum.inr a:Key)=Sum.inl b)=false:=decide_eq_false (fun q=>nomatch q)
def u5 (prog:Program) (w:World):PySem.KeyKind prog w Key where
  is:=Rj
  hash:=ae2 w
  inj:=fun v a b ha hb=>by
    rcases qy ha with ⟨i,t,rfl,rfl⟩ | ⟨x,t,rfl,rfl⟩
    · rcases qy hb with ⟨j,u,rfl,e⟩ | ⟨y,u,rfl,e⟩
      · injection e with e1 _; rw [e1]
      · exact nomatch e
    · rcases qy hb with ⟨j,u,rfl,e⟩ | ⟨y,u,rfl,e⟩
      · exact nomatch e
      · injection e with e1 _; rw [e1]
  byValue:=fun k v h=>by
    rcases qy h with ⟨i,t,rfl,rfl⟩ | ⟨x,t,rfl,rfl⟩ <;> rfl
  pyHash:=fun hv h=>by
    rcases qy hv with ⟨i,t,rfl,rfl⟩ | ⟨x,t,rfl,rfl⟩
    · exact wpAny_pyHash_int h
    · exact wpAny_pyHash_str h
  eqBool:=fun hu hv h=>by
    rcases qy hu with ⟨i,t,rfl,rfl⟩ | ⟨x,t,rfl,rfl⟩
    · rcases qy hv with ⟨j,u,rfl,rfl⟩ | ⟨y,u,rfl,rfl⟩
      · rw [aal] at h; exact wpAny_eqBool_int h
      · rw [a92] at h; exact SeqAt.EqAt.int_str i t y u _ _ _ _ h
    · rcases qy hv with ⟨j,u,rfl,rfl⟩ | ⟨y,u,rfl,rfl⟩
      · rw [a96] at h; exact SeqAt.EqAt.str_int x t j u _ _ _ _ h
      · rw [aao] at h; exact wpAny_eqBool_str h
  «strs»:=fun k x t v h=>by
    rcases qy h with ⟨i,u,rfl,e⟩ | ⟨y,u,rfl,e⟩
    · exact nomatch e
    · injection e with e1 _
      subst e1
      cases v <;> rfl
theorem Xa (prog:Program) (w:World) (k:Key) (v:Value):(u5 prog w).is k v=Rj k v:=rfl
theorem Td (prog:Program) (w:World) (i:Int) (t:Tok):(u5 prog w).is (.inl i) (.int i t)=true:=Zd i t
theorem U5 (prog:Program) (w:World) (x:Str) (t:Tok):(u5 prog w).is (.inr x) (.str x t)=true:=a1o x t
end L2
namespace L2
open PySem PySem.Spec PyProof.Rows
inductive V where
  | non | bl (b:Bool) | int (i:Int) | str (x:Str) | byt (b:Array UInt8) | flt (b:UInt64) | ref (a:Addr) | ty (n:String)
  deriving DecidableEq
def RelV:V→Value→Prop
  | .non,u=>u=Value.none
  | .bl b,u=>u=Value.bool b
  | .int i,u=>∃ t,u=Value.int i t
  | .str x,u=>∃ t,u=Value.str x t
  | .byt b,u=>∃ t,u=Value.bytes b t
  | .flt b,u=>∃ t,u=Value.float b t
  | .ref a,u=>u=Value.ref a
  | .ty n,u=>u=Value.type n
abbrev Vals:List V→List Value→Prop:=Paired RelV
theorem Vals.length {xs:List V} {us:List Value} (r:Vals xs us):xs.length=us.length:=Paired.length r
theorem Vals.get:∀ {xs:List V} {us:List Value} {i:Nat} {x:V},Vals xs us→xs[i]? = some x→∃ u,us[i]? = some u∧RelV x u
  | _,_,_,_,.nil,e=>by simp at e
  | _,_,0,_,.cons r _,e=>by simp at e; subst e; exact ⟨_,rfl,r⟩
  | _,_,i+1,x,.cons _ t,e=>by
    obtain ⟨u,h1,h2⟩:=Vals.get (i:=i) (x:=x) t (by simpa using e)
    exact ⟨u,by simpa using h1,h2⟩
theorem Vals.set {x:V} {u:Value} (r:RelV x u):∀ {xs:List V} {us:List Value} (i:Nat),Vals xs us→Vals (xs.set i x) (us.set i u)
  | _,_,_,.nil=>.nil
  | _,_,0,.cons _ t=>.cons r t
  | _,_,i+1,.cons q t=>.cons q (Vals.set r i t)
theorem Vals.append {xs ys:List V} {us ws:List Value} (r:Vals xs us) (s:Vals ys ws):Vals (xs++ys) (us++ws):=by
  induction r with
  | nil=>exact s
  | cons r _ ih=>exact .cons r ih
theorem Vals.take:∀ {xs:List V} {us:List Value} (n:Nat),Vals xs us→Vals (xs.take n) (us.take n)
  | _,_,0,_=>.nil
  | _,_,_+1,.nil=>.nil
  | _,_,n+1,.cons r t=>.cons r (Vals.take n t)
theorem Vals.drop:∀ {xs:List V} {us:List Value} (n:Nat),Vals xs us→Vals (xs.drop n) (us.drop n)
  | _,_,0,r=>r
  | _,_,_+1,.nil=>.nil
  | _,_,n+1,.cons _ t=>Vals.drop n t
def Mr:Option V→Option Value→Prop
  | some v,some u=>RelV v u
  | none,none=>True
  | _,_=>False
def KV {κ:Type}:List (κ × V)→List (κ × Value)→Prop:=Paired fun (p:κ × V) (q:κ × Value)=>p.1=q.1∧RelV p.2 q.2
def kV:Key→V
  | .inl i=>.int i
  | .inr x=>.str x
inductive HO where
  /-- a list -/
  | lst (xs:List V)
  /-- a tuple (never changes) -/
  | tup (xs:List V)
  /-- a dict whose keys are ints and texts; one whose keys are tuples of ints and texts (the empty one is both) -/
  | dK (kvs:List (Key × V)) | dT (kvs:List (List Key × V))
  /-- a set of ints: its members,its size -/
  | set (S:Int→Bool) (n:Nat)
  /-- an instance of the class at C,its dict at dx,its attributes -/
  | ins (C dx:Addr) (fs:List (Str × V))
  /-- the dict of the instance at x -/
  | own (x:Addr)
  /-- the dict of an exception -/
  | xd (fs:List (Str × V))
  /-- a bound method,f of x -/
  | met (f x:Addr)
  /-- a range object lo,lo+1,.. below hi -/
  | rng (lo hi:Int)
  /-- a thing that is known to the object (the script; a dict while a loop walks it): read,never written while it is so -/
  | frz (o:Obj) (u:HO)
  /-- a code object's table -/
  | tbl (ps:Array Value)
  /-- any other thing,by what is true of its one object (a def of one's own: aat a S n:=HO.ext fun h=>..) -/
  | ext (φ:Heap→Prop)
abbrev Hp:=Addr→Option HO
def upd (H:Hp) (a:Addr) (o:HO):Hp:=fun b=>if b=a then some o else H b
theorem d7 {H:Hp} {a:Addr} {o:HO}:upd H a o a=some o:=by unfold upd; rw [if_pos rfl]
theorem dj {H:Hp} {a b:Addr} {o:HO} (h:b≠a):upd H a o b=H b:=by unfold upd; rw [if_neg h]
theorem ab6 {H:Hp} {a b:Addr} {o u:HO} (h:H a=some o) (h':H b=some u) (d:o≠u):a≠b:=by
  intro e; subst e; rw [h] at h'; exact d (Option.some.inj h')
theorem ug {H:Hp} {a b:Addr} {o:HO} (h:H a=some o) (h':H b=none):a≠b:=by
  intro e; subst e; rw [h] at h'; cases h'
def a3c (h:Heap) (a:Addr) (items:Array Value):Prop:=∃ o,h.get? a=some o∧o.cls=.type "tuple" ∧ o.dict=none∧∃ n,o.data=.seq items n
theorem a3c.is {h:Heap} {a:Addr} {items:Array Value} (x:a3c h a items):IsTup h a items:=let ⟨o,e,c,_,d⟩:=x; ⟨o,e,c,d⟩
theorem a3c.new (h:Heap) (items:Array Value):a3c (h.push { cls:=.type "tuple",data:=.seq items }) h.objs.size items:=⟨_,Heap.get?_push_size _ rfl,rfl,rfl,0,rfl⟩
section
variable (P:Program) (w:World)
def vg (H:Hp) (h:Heap) (a:Addr):HO→Prop
  | .lst xs=>xs.length≤sizeLine∧∃ (its:List Value) (n:Nat),Vals xs its∧h.get? a=some { cls:=.type "list",data:=.seq its.toArray n }
  | .tup xs=>xs.length≤sizeLine∧∃ its:List Value,Vals xs its∧a3c h a its.toArray
  | .dK kvs=>kvs.length≤sizeLine∧(a==sysModules)=false∧∃ vs,KV kvs vs∧h.DictOf (u5 P w) a vs
  | .dT kvs=>kvs.length≤sizeLine∧(a==sysModules)=false∧∃ xs:List (List Key × Addr × Value),
      Paired (fun (p:List Key × V) (q:List Key × Addr × Value)=>p.1=q.1∧H q.2.1=some (.tup (p.1.map kV))∧RelV p.2 q.2.2) kvs xs ∧
      ∃ o es ep,h.get? a=some o∧o.ExactDict∧o.data=.dict es ep∧es.toList=xs.map (entryOfKey (tupleKind (u5 P w)))∧(xs.map (·.1)).Nodup
  | .set S n=>h.SetOf (intKind P w) a S n
  | .ins C dx fs=>H dx=some (.own a)∧fs.length≤1000∧dx≠a∧h.get? a=some (PySem.W.instObj C dx) ∧
      ∃ mA,h.Ns1 dx mA∧(∀ f,Mr (fs.lookup f) (mA f))∧PySem.Within mA (fs.map (·.1))
  | .own _=>∃ o,h.get? a=some o
  | .xd fs=>∃ mA,h.Ns1 a mA∧∀ f,Mr (fs.lookup f) (mA f)
  | .rng lo hi=>∃ t u v,h.get? a=some { cls:=.type "range",data:=.fields #[.int lo t,.int hi u,.int 1 v] }
  | .frz o u=>h.get? a=some o∧vg H h a u
  | .tbl ps=>h.get? a=some { cls:=.none,data:=.fields ps }
  | .met f x=>h.get? a=some (PySem.W.methodObj (.ref f) (.ref x))
  | .ext φ=>φ h∧(∃ o,h.get? a=some o)∧∀ h1 h2:Heap,φ h1→(∀ o,h1.get? a=some o→h2.get? a=some o)→φ h2
def HOk (H:Hp) (h:Heap):Prop:=∀ a o,H a=some o→vg P w H h a o
end
section
variable {P:Program} {w:World} {H H':Hp} {h h':Heap} {a:Addr} {o:HO}
theorem vg.lt (x:vg P w H h a o):a<h.objs.size:=by
  cases o with
  | lst xs=>obtain ⟨_,_,_,_,e⟩:=x; exact Heap.lt_size e
  | tup xs=>obtain ⟨_,_,_,p⟩:=x; exact p.is.lt
  | dK kvs=>obtain ⟨_,_,_,_,o,_,_,e,_⟩:=x; exact Heap.lt_size e
  | dT kvs=>obtain ⟨_,_,_,_,o,_,_,e,_⟩:=x; exact Heap.lt_size e
  | set S n=>obtain ⟨o,_,_,_,e,_⟩:=x; exact Heap.lt_size e
  | ins C dx fs=>obtain ⟨_,_,_,e,_⟩:=x; exact Heap.lt_size e
  | own y=>obtain ⟨_,e⟩:=x; exact Heap.lt_size e
  | xd fs=>obtain ⟨_,⟨_,_,_,e,_⟩,_⟩:=x; exact Heap.lt_size e
  | rng lo hi=>obtain ⟨_,_,_,e⟩:=x; exact Heap.lt_size e
  | frz ob u=>obtain ⟨e,_⟩:=x; exact Heap.lt_size e
  | tbl ps=>exact Heap.lt_size (show h.get? a=some _ from x)
  | met f y=>exact Heap.lt_size (show h.get? a=some _ from x)
  | ext φ=>obtain ⟨_,⟨_,e⟩,_⟩:=x; exact Heap.lt_size e
theorem Paired.acp {α β:Type} {F G:α→β→Prop} {l₁:List α} {l₂:List β} (r:Paired F l₁ l₂) (f:∀ a b,F a b→G a b):Paired G l₁ l₂:=by
  induction r with
  | nil=>exact .nil
  | cons r _ ih=>exact .cons (f _ _ r) ih
theorem vg.stay (x:vg P w H h a o) (k:∀ b u,(b=a∨H b=some (.own a))→h.get? b=some u→h'.get? b=some u)
    (ho:∀ b,H b=some (.own a)→H' b=some (.own a)) (ht:∀ b xs,H b=some (.tup xs)→H' b=some (.tup xs)):vg P w H' h' a o:=by
  induction o with
  | lst xs=>obtain ⟨z,its,n,r,e⟩:=x; exact ⟨z,its,n,r,k _ _ (.inl rfl) e⟩
  | tup xs=>obtain ⟨z,its,r,ob,e,c⟩:=x; exact ⟨z,its,r,ob,k _ _ (.inl rfl) e,c⟩
  | dK kvs=>obtain ⟨z,y,vs,r,ob,es,ep,e,c⟩:=x; exact ⟨z,y,vs,r,ob,es,ep,k _ _ (.inl rfl) e,c⟩
  | dT kvs =>
    obtain ⟨z,y,xs,r,ob,es,ep,e,c⟩:=x
    exact ⟨z,y,xs,Paired.acp r fun p q z=>⟨z.1,ht _ _ z.2.1,z.2.2⟩,ob,es,ep,k _ _ (.inl rfl) e,c⟩
  | set S n=>obtain ⟨ob,es,ep,t,e,c⟩:=x; exact ⟨ob,es,ep,t,k _ _ (.inl rfl) e,c⟩
  | ins C dx fs =>
    obtain ⟨d,z,ne,e,mA,⟨od,es,ep,e2,c⟩,r⟩:=x
    exact ⟨ho _ d,z,ne,k _ _ (.inl rfl) e,mA,⟨od,es,ep,k _ _ (.inr d) e2,c⟩,r⟩
  | own y=>obtain ⟨ob,e⟩:=x; exact ⟨ob,k _ _ (.inl rfl) e⟩
  | xd fs=>obtain ⟨mA,⟨od,es,ep,e,c⟩,r⟩:=x; exact ⟨mA,⟨od,es,ep,k _ _ (.inl rfl) e,c⟩,r⟩
  | rng lo hi=>obtain ⟨t,u,v,e⟩:=x; exact ⟨t,u,v,k _ _ (.inl rfl) e⟩
  | frz ob u ih=>obtain ⟨e,q⟩:=x; exact ⟨k _ _ (.inl rfl) e,ih q⟩
  | tbl ps =>
    have e:h.get? a=some { cls:=.none,data:=.fields ps }:=x
    show h'.get? a=some { cls:=.none,data:=.fields ps }
    exact k a _ (.inl rfl) e
  | met f y =>
    have e:h.get? a=some (PySem.W.methodObj (.ref f) (.ref y)):=x
    show h'.get? a=some (PySem.W.methodObj (.ref f) (.ref y))
    exact k a _ (.inl rfl) e
  | ext φ=>obtain ⟨p,⟨o,e⟩,st⟩:=x; exact ⟨st _ _ p fun o q=>k _ _ (.inl rfl) q,⟨o,k _ _ (.inl rfl) e⟩,st⟩
theorem HOk.lt (x:HOk P w H h) (e:H a=some o):a<h.objs.size:=(x a o e).lt
theorem HOk.fresh (x:HOk P w H h) (e:h.objs.size≤a):H a=none:=by
  cases q:H a with
  | none=>rfl
  | some u=>exact absurd (Nat.lt_of_lt_of_le (x.lt q) e) (Nat.lt_irrefl _)
theorem HOk.kept (x:HOk P w H h) (k:∀ b u,h.get? b=some u→h'.get? b=some u):HOk P w H h':=fun a o e =>
  (x a o e).stay (fun b u _ q=>k b u q) (fun _ q=>q) fun _ _ q=>q
theorem HOk.laid (x:HOk P w H h) (k:∀ b u,h.get? b=some u→h'.get? b=some u) (hp:h.objs.size≤a) (new:vg P w (upd H a o) h' a o):HOk P w (upd H a o) h':=fun b u e=>by
  have hn:=x.fresh hp
  by_cases hb:b=a
  · subst hb; rw [d7] at e; cases e; exact new
  · rw [dj hb] at e
    exact (x b u e).stay (fun c v _ q=>k c v q) (fun c q=>by rw [dj (ug q hn)]; exact q) fun c xs q=>by rw [dj (ug q hn)]; exact q
end
def Rd (H:Hp) (a:Addr) (u:HO):Prop:=H a=some u∨∃ o,H a=some (.frz o u)
theorem Rd.of {H:Hp} {a:Addr} {u:HO} (h:H a=some u):Rd H a u:=.inl h
theorem Rd.ok {P:Program} {w:World} {H:Hp} {h:Heap} {a:Addr} {u:HO} (r:Rd H a u) (x:HOk P w H h):vg P w H h a u:=by
  rcases r with r | ⟨o,r⟩
  · exact x a u r
  · obtain ⟨_,q⟩:=x a _ r
    exact q
def Mut:Option HO→Prop
  | some (.lst _)=>True
  | some (.dK _)=>True
  | some (.dT _)=>True
  | some (.set _ _)=>True
  | some (.ins _ _ _)=>True
  | some (.ext _)=>True
  | _=>False
section
variable {P:Program} {w:World} {H:Hp} {h h':Heap} {x e:Addr} {o':HO}
theorem HOk.write (ok:HOk P w H h) (mu:Mut (H x)) (he:e=x∨H e=some (.own x)) (k:∀ b u,b≠e→h.get? b=some u→h'.get? b=some u) (heo:∃ u,h'.get? e=some u)
    (new:vg P w (upd H x o') h' x o'):HOk P w (upd H x o') h':=fun b u q=>by
  have nown:∀ c y,H c=some (.own y)→c≠x:=fun c y r z=>by subst z; rw [r] at mu; exact mu
  have ntup:∀ c xs,H c=some (.tup xs)→c≠x:=fun c xs r z=>by subst z; rw [r] at mu; exact mu
  by_cases hb:b=x
  · subst hb; rw [d7] at q; cases q; exact new
  · rw [dj hb] at q
    by_cases hbe:b=e
    · have q':H b=some (.own x):=by
        rcases he with z | z
        · exact absurd (hbe.trans z) hb
        · rw [hbe]; exact z
      rw [q] at q'; cases q'
      obtain ⟨v,hv⟩:=heo
      exact ⟨v,by rw [hbe]; exact hv⟩
    · refine (ok b u q).stay (fun c v hc r=>k c v ?_ r) (fun c r=>by rw [dj (nown c b r)]; exact r) fun c xs r=>by rw [dj (ntup c xs r)]; exact r
      rcases hc with rfl | hc
      · exact hbe
      · rintro rfl
        rcases he with z | z
        · exact nown c b hc z
        · rw [hc] at z; cases z; exact hb rfl
end
structure Un (fs ex:List Addr) (H H':Hp) (h h':Heap):Prop where
  keep:∀ b o,h.get? b=some o→H b=none→b∉fs→b∉ex→h'.get? b=some o
  slot:∀ b o,h.get? b=some o→H b=none→b∈fs→b∉ex→∃ sl,h'.get? b=some { o with slots:=sl }
  free:∀ b o,h.get? b=some o→H b=none→b∉ex→H' b=none
  there:∀ b o,h.get? b=some o→b∉ex→∃ o',h'.get? b=some o'
  tups:∀ b xs,H b=some (.tup xs)→H' b=some (.tup xs)
  frzs:∀ b o u,H b=some (.frz o u)→H' b=some (.frz o u)
  tbls:∀ b ps,H b=some (.tbl ps)→∃ more,H' b=some (.tbl (ps++more))
section
variable {fs fs' ex ex':List Addr} {H H1 H2:Hp} {h h1 h2 h':Heap} {a x e:Addr} {o:HO}
theorem Un.any (u:Un fs ex H H1 h h1) {b:Addr} {ob:Obj} (q:h.get? b=some ob) (n:H b=none) (hx:b∉ex):∃ sl,h1.get? b=some { ob with slots:=sl }:=by
  by_cases hb:b∈fs
  · exact u.slot b ob q n hb hx
  · exact ⟨ob.slots,u.keep b ob q n hb hx⟩
theorem Un.trans (a:Un fs ex H H1 h h1) (b:Un fs ex H1 H2 h1 h2):Un fs ex H H2 h h2 where
  keep:=fun c ob q n hc hx=>b.keep c ob (a.keep c ob q n hc hx) (a.free c ob q n hx) hc hx
  slot:=fun c ob q n hc hx=>by
    obtain ⟨sl,e1⟩:=a.slot c ob q n hc hx
    obtain ⟨sl',e2⟩:=b.slot c _ e1 (a.free c ob q n hx) hc hx
    exact ⟨sl',e2⟩
  free:=fun c ob q n hx=>by
    obtain ⟨o',e1⟩:=a.there c ob q hx
    exact b.free c o' e1 (a.free c ob q n hx) hx
  there:=fun c ob q hx=>by
    obtain ⟨o',e1⟩:=a.there c ob q hx
    exact b.there c o' e1 hx
  tups:=fun c xs q=>b.tups c xs (a.tups c xs q)
  frzs:=fun c ob xs q=>b.frzs c ob xs (a.frzs c ob xs q)
  tbls:=fun c ps q=>by
    obtain ⟨m1,e1⟩:=a.tbls c ps q
    obtain ⟨m2,e2⟩:=b.tbls c _ e1
    exact ⟨m1++m2,by rw [e2,Array.append_assoc]⟩
theorem Un.kept (k:∀ b u,h.get? b=some u→h'.get? b=some u):Un fs ex H H h h' :=
  ⟨fun b ob q _ _ _=>k b ob q,fun b ob q _ _ _=>⟨ob.slots,k b ob q⟩,fun _ _ _ n _=>n,fun b ob q _=>⟨ob,k b ob q⟩,fun _ _ q=>q,fun _ _ _ q=>q,fun _ ps q=>⟨#[],by rw [q]; simp⟩⟩
theorem Un.refl:Un fs ex H H h h:=Un.kept fun _ _ q=>q
theorem Un.laid (k:∀ b u,h.get? b=some u→h'.get? b=some u) (hp:h.objs.size≤a) (hn:H a=none):Un fs ex H (upd H a o) h h' where
  keep:=fun b u q _ _ _=>k b u q
  slot:=fun b u q _ _ _=>⟨u.slots,k b u q⟩
  free:=fun b u q n _=>by rw [dj (Nat.ne_of_lt (Nat.lt_of_lt_of_le (Heap.lt_size q) hp))]; exact n
  there:=fun b u q _=>⟨u,k b u q⟩
  tups:=fun b xs q=>by rw [dj (ug q hn)]; exact q
  frzs:=fun b u xs q=>by rw [dj (ug q hn)]; exact q
  tbls:=fun b ps q=>⟨#[],by rw [dj (ug q hn),q]; simp⟩
theorem Un.write (mu:Mut (H x)) (he:e=x∨H e=some (.own x)) (k:∀ b u,b≠e→h.get? b=some u→h'.get? b=some u) (heo:∃ u,h'.get? e=some u):Un fs ex H (upd H x o) h h':=by
  have hx:∀ b,H b=none→b≠x:=fun b n z=>by subst z; rw [n] at mu; exact mu
  have hb:∀ b,H b=none→b≠e:=fun b n z=>by
    subst z
    rcases he with r | r
    · exact hx b n r
    · rw [n] at r; cases r
  have hm:∀ b u,H b=some u→¬ Mut (some u)→b≠x:=fun b u q nm z=>by subst z; rw [q] at mu; exact nm mu
  refine ⟨fun b u q n _ _=>k b u (hb b n) q,fun b u q n _ _=>⟨u.slots,k b u (hb b n) q⟩,fun b u q n _=>by rw [dj (hx b n)]; exact n,fun b u q _=>?_,
    fun b xs q=>by rw [dj (hm b _ q fun z=>z)]; exact q,fun b u xs q=>by rw [dj (hm b _ q fun z=>z)]; exact q,fun b ps q=>⟨#[],by rw [dj (hm b _ q fun z=>z),q]; simp⟩⟩
  by_cases hbe:b=e
  · subst hbe; exact heo
  · exact ⟨u,k b u hbe q⟩
theorem Un.mono (u:Un fs ex H H1 h h1) (hs:∀ b∈fs,b∈fs') (hx:∀ b∈ex,b∈ex'):Un fs' ex' H H1 h h1 :=
  ⟨fun b ob q n hb he=>u.keep b ob q n (fun z=>hb (hs b z)) fun z=>he (hx b z),fun _ _ q n _ he=>u.any q n fun z=>he (hx _ z),fun b ob q n he=>u.free b ob q n fun z=>he (hx b z),fun b ob q he=>u.there b ob q fun z=>he (hx b z),u.tups,u.frzs,u.tbls⟩
end
def trk (h:Heap) (H:Hp):List Addr:=(List.range h.objs.size).filter fun a=>(H a).isSome
def a4b (h:Heap) (H:Hp):Heap:=PySem.W.hideAll h (trk h H)
theorem Yz (h:Heap) (H:Hp):(a4b h H).objs.size=h.objs.size:=PySem.W.hideAll_size _ _
theorem a4a {h:Heap} {H:Hp} {b:Addr} {o:Obj} (e:h.get? b=some o) (n:H b=none):(a4b h H).get? b=some o :=
  PySem.W.hideAll_get _ e fun hm=>by
    have q:(H b).isSome=true:=(List.mem_filter.mp hm).2
    rw [n] at q; simp at q
theorem a8f {h:Heap} {H:Hp} {b:Addr} {o:Obj} (e:(a4b h H).get? b=some o):h.get? b=some o∧H b=none:=by
  have e':h.get? b=some o:=PySem.W.of_hideAll (trk h H) e
  refine ⟨e',?_⟩
  cases q:H b with
  | none=>rfl
  | some x =>
    have hm:b∈trk h H:=List.mem_filter.mpr ⟨List.mem_range.mpr (Heap.lt_size e'),by simp [q]⟩
    have z:(a4b h H).get? b=none:=PySem.W.hideAll_none (trk h H) hm
    rw [z] at e; cases e
def a7n (g h:Heap) (L:Addr):List (Addr × Obj):=(List.range h.objs.size).filterMap fun a=>if a=L∨(g.get? a).isSome=true then none else (h.get? a).map fun o=>(a,o)
def rest (g h:Heap) (L d:Addr):List (Addr × Obj):=(a7n g h L).filter fun p=>decide (p.1≠d)
end L2
namespace L2
open PySem PySem.Spec PyProof.Rows
structure Mod (K:PySem.W.Frag) (mg:Str→Option Value) (base:Heap):Prop where
  kin:K.In base
  glob:base.Ns mainGlobals mg
  blt:∃ mb,base.Ns builtinsNs mb∧∀ x:Str,x ≠ "__name__" → mb x=bootBuiltins x
  nolimit:base.NoLimit
structure Cx where
  prog:Program
  w:World
  K:PySem.W.Frag
  mg:Str→Option Value
  base:Heap
  A:Around
  N:List Str
  s₀:Shared
  H₀:Hp
  env:Env
  outer:List Env
  stack:List Env
  ex:List Addr
  fn:Str→Bool
  calm:Bool
  pn:List (Addr × Obj)
  xe:Value→Shared→Prop
def frs (l:List Env):List Addr:=l.filterMap (·.frame)
abbrev Cx.fs (X:Cx):List Addr:=frs X.outer
def Vis (sc:Scope) (x:Str):Prop:=sc.names.lookup x=some .local∨sc.names.lookup x=some .cell∨sc.names.lookup x=some .free
def Loc (sc:Scope) (x:Str):Prop:=sc.names.lookup x=some .local∨sc.names.lookup x=some .cell
def Look (env:Env) (h:Heap) (m:Str→Option Value) (x:Str) (u:Value):Prop :=
  (env.kindOf x=some .local∧m x=some u)∨((env.kindOf x=some .cell∨env.kindOf x=some .free)∧∃ c,env.cells.lookup x=some c∧h.IsCell c (some u))
structure Cx.Ok (X:Cx):Prop where
  mod:Mod X.K X.mg X.base
  kind:X.env.scope.kind=.function
  glob:X.env.globals=mainGlobals
  blt:X.env.builtins=builtinsNs
  above:X.s₀.heap.objs.size≤X.env.locals
  inj:∀ x y c,X.env.cells.lookup x=some c→X.env.cells.lookup y=some c→x=y
  has:∀ x,(X.env.kindOf x=some .cell∨X.env.kindOf x=some .free)→∃ c,X.env.cells.lookup x=some c
  cab:∀ x c,X.fn x=true→X.env.cells.lookup x=some c→X.s₀.heap.objs.size≤c
  hd:X.calm=true→X.A.handled=none
  frames:X.A.frames=some X.stack
  stk:X.stack=X.outer∨(X.stack=X.env::X.outer∧X.env.frame=some X.env.locals)
  exf:∀ b∈X.ex,b≠X.env.locals∧∀ x c,X.env.cells.lookup x=some c→c≠b
  bs:∀ b o,X.base.get? b=some o→X.s₀.heap.get? b=some o∧X.H₀ b=none
  bsz:X.base.objs.size≤X.s₀.heap.objs.size
  noex:∀ b o,X.base.get? b=some o→b∉X.ex
  exfs:∀ b∈X.ex,b∉X.fs
  Yw:X.s₀.heap.FunFrames X.base X.outer
  frf:∀ b∈X.fs,X.H₀ b=none
structure Inv (X:Cx) (pins:List (Addr × Obj)) (σ:List (Option V)) (H:Hp) (s:Shared):Prop where
  ok:X.Ok
  os:s.os=X.s₀.os
  bare:AllBare s.gens
  base:Un X.fs X.ex X.H₀ H X.s₀.heap s.heap
  loc:∃ m,s.heap.Ns X.env.locals m∧∀ (i:Nat) (x:Str) (v:V),X.N[i]? = some x→σ[i]? = some (some v)→Vis X.env.scope x→∃ u,RelV v u∧Look X.env s.heap m x u
  cell:∀ x c,X.env.cells.lookup x=some c→∃ v,s.heap.IsCell c v
  free:H X.env.locals=none
  freeC:∀ x c,X.env.cells.lookup x=some c→H c=none
  pin:∀ p∈X.pn++pins,s.heap.get? p.1=some p.2∧H p.1=none∧p.1≠X.env.locals∧p.1∉X.fs∧∀ v,p.2.data≠.cell v
  hok:HOk X.prog X.w H s.heap
  len:σ.length=X.N.length
section
variable {X:Cx} {pins:List (Addr × Obj)} {σ:List (Option V)} {H H':Hp} {s:Shared} {h':Heap}
theorem Cx.Ok.adv (ok:X.Ok) {b:Addr} {o:Obj} (e:X.base.get? b=some o):b∉X.fs:=fun hb=>by
  have:=(ok.Yw.mem hb).1
  rw [e] at this; cases this
theorem Inv.bs (I:Inv X pins σ H s):∀ b o,X.base.get? b=some o→s.heap.get? b=some o∧H b=none:=fun b o e =>
  ⟨I.base.keep b o (I.ok.bs b o e).1 (I.ok.bs b o e).2 (I.ok.adv e) (I.ok.noex b o e),I.base.free b o (I.ok.bs b o e).1 (I.ok.bs b o e).2 (I.ok.noex b o e)⟩
theorem Inv.bk (I:Inv X pins σ H s):∀ b o,X.base.get? b=some o→s.heap.get? b=some o:=fun b o e=>(I.bs b o e).1
theorem Inv.mod (I:Inv X pins σ H s):Mod X.K X.mg X.base:=I.ok.mod
theorem Inv.kIn (I:Inv X pins σ H s):X.K.In s.heap:=I.ok.mod.kin.keeps I.bk
theorem Inv.fr (I:Inv X pins σ H s):∃ m,Fr X.base X.env.locals s.heap m :=
  let ⟨m,hn,_⟩:=I.loc
  ⟨m,hn,I.bk,Nat.le_trans I.ok.bsz I.ok.above⟩
theorem Inv.lt (I:Inv X pins σ H s):X.env.locals<s.heap.objs.size:=let ⟨_,hn,_⟩:=I.loc; hn.lt
theorem Inv.sz (I:Inv X pins σ H s):X.s₀.heap.objs.size≤s.heap.objs.size:=Nat.le_trans I.ok.above (Nat.le_of_lt I.lt)
theorem Inv.ae0 (I:Inv X pins σ H s) {a:Addr} (h:s.heap.objs.size≤a):a∉X.fs:=fun hb=>by
  obtain ⟨_,o,ho,_⟩:=I.ok.Yw.mem hb
  exact absurd (Nat.lt_of_lt_of_le (Heap.lt_size ho) (Nat.le_trans I.sz h)) (Nat.lt_irrefl _)
theorem Inv.cne (I:Inv X pins σ H s):∀ x c,X.env.cells.lookup x=some c→c≠X.env.locals:=fun x c e z=>by
  obtain ⟨v,o,ho,hd⟩:=I.cell x c e
  obtain ⟨m,⟨o',es,ep,ho',hd',_⟩,_⟩:=I.loc
  rw [z,ho'] at ho; cases ho; rw [hd'] at hd; cases hd
theorem Inv.Yw (I:Inv X pins σ H s):s.heap.FunFrames X.base X.outer:=by
  have all:∀ (l:List Env),(∀ b∈frs l,b∈X.fs)→X.s₀.heap.FunFrames X.base l→s.heap.FunFrames X.base l:=by
    intro l
    induction l with
    | nil=>intro _ _; trivial
    | cons env r ih =>
      intro hs hl
      obtain ⟨hk,⟨L,o,hf,hn,ho,hd⟩,hr⟩:=hl
      have hL:L∈X.fs:=hs L (by unfold frs; rw [List.filterMap_cons,hf]; exact List.mem_cons_self)
      obtain ⟨sl,e⟩:=I.base.slot L o ho (I.ok.frf L hL) hL fun z=>I.ok.exfs L z hL
      exact ⟨hk,⟨L,_,hf,hn,e,hd⟩,ih (fun b hb=>hs b (by unfold frs; rw [List.filterMap_cons,hf]; exact List.mem_cons_of_mem _ hb)) hr⟩
  exact all X.outer (fun _ hb=>hb) I.ok.Yw
theorem Inv.stack (I:Inv X pins σ H s):s.heap.FunFrames X.base X.stack:=by
  rcases I.ok.stk with e | ⟨e,hf⟩
  · rw [e]; exact I.Yw
  · rw [e]
    obtain ⟨m,hn,_⟩:=I.loc
    refine .cons (by rw [I.ok.kind]; decide) hf hn ?_ I.Yw
    exact Heap.get?_none_of_le (Nat.le_trans I.ok.bsz I.ok.above)
theorem Inv.X3 (I:Inv X pins σ H s):∀ b∈frs X.stack,b∈X.env.locals::X.fs:=fun b hb=>by
  rcases I.ok.stk with e | ⟨e,hf⟩
  · rw [e] at hb; exact List.mem_cons_of_mem _ hb
  · rw [e] at hb
    unfold frs at hb
    rw [List.filterMap_cons,hf] at hb
    exact hb
theorem Inv.Z2 (I:Inv X pins σ H s):∀ b∈frs X.stack,H b=none:=fun b hb=>by
  rcases List.mem_cons.mp (I.X3 b hb) with e | hb
  · rw [e]; exact I.free
  · obtain ⟨_,o,ho,_⟩:=I.ok.Yw.mem hb
    exact I.base.free b o ho (I.ok.frf b hb) fun z=>I.ok.exfs b z hb
theorem Inv.step {g':Array GenState} {t':Nat} {d':Drawn} {ch:List Addr} (I:Inv X pins σ H s)
    (hch:∀ b∈ch,(b∈X.ex∨X.s₀.heap.objs.size≤b)∧b≠X.env.locals∧(∀ x c,X.env.cells.lookup x=some c→c≠b)∧∀ p∈X.pn++pins,p.1≠b)
    (keep:∀ b o,b≠X.env.locals→b∉X.fs→b∉ch→s.heap.get? b=some o→H b=none→h'.get? b=some o)
    (slot:∀ b o,b≠X.env.locals→b∈X.fs→b∉ch→s.heap.get? b=some o→H b=none→∃ sl,h'.get? b=some { o with slots:=sl }) (free:∀ b o,b∉ch→s.heap.get? b=some o→H b=none→H' b=none)
    (there:∀ b o,b∉ch→s.heap.get? b=some o→∃ o',h'.get? b=some o')
    (tups:∀ b xs,H b=some (.tup xs)→H' b=some (.tup xs)) (frzs:∀ b o u,H b=some (.frz o u)→H' b=some (.frz o u)) (tbls:∀ b ps,H b=some (.tbl ps)→∃ more,H' b=some (.tbl (ps++more)))
    (ns:∀ m,s.heap.Ns X.env.locals m→h'.Ns X.env.locals m) (hok:HOk X.prog X.w H' h') (hg:AllBare g') :
    Inv X pins σ H' { s with heap:=h',gens:=g',drawn:=d',toks:=t' }:=by
  have neL:∀ b o,X.s₀.heap.get? b=some o→b≠X.env.locals:=fun b o e=>Nat.ne_of_lt (Nat.lt_of_lt_of_le (Heap.lt_size e) I.ok.above)
  have neC:∀ b o,X.s₀.heap.get? b=some o→b∉X.ex→b∉ch:=fun b o e hx hb=>by
    rcases (hch b hb).1 with z | z
    · exact hx z
    · exact absurd (Nat.lt_of_lt_of_le (Heap.lt_size e) z) (Nat.lt_irrefl _)
  have cellK:∀ x c,X.env.cells.lookup x=some c→∀ v,s.heap.IsCell c v→h'.IsCell c v:=fun x c e v z9=>by
    obtain ⟨o,ho,hd⟩:=z9
    have nch:c∉ch:=fun z=>(hch c z).2.2.1 x c e rfl
    by_cases hc:c∈X.fs
    · obtain ⟨sl,q⟩:=slot c o (I.cne x c e) hc nch ho (I.freeC x c e)
      exact ⟨_,q,hd⟩
    · exact ⟨o,keep c o (I.cne x c e) hc nch ho (I.freeC x c e),hd⟩
  refine ⟨I.ok,I.os,hg,⟨fun b o e n hb hx=>?_,fun b o e n hb hx=>?_,fun b o e n hx=>?_,fun b o e hx=>?_,fun b xs e=>tups b xs (I.base.tups b xs e),fun b o xs e=>frzs b o xs (I.base.frzs b o xs e),fun b ps e=>?_⟩,?_,fun x c e=>?_,?_,fun x c e=>?_,fun p hp=>?_,hok,I.len⟩
  · exact keep b o (neL b o e) hb (neC b o e hx) (I.base.keep b o e n hb hx) (I.base.free b o e n hx)
  · obtain ⟨sl,e1⟩:=I.base.slot b o e n hb hx
    obtain ⟨sl',e2⟩:=slot b _ (neL b o e) hb (neC b o e hx) e1 (I.base.free b o e n hx)
    exact ⟨sl',e2⟩
  · obtain ⟨o',e1⟩:=I.base.there b o e hx
    exact free b o' (neC b o e hx) e1 (I.base.free b o e n hx)
  · obtain ⟨o',e1⟩:=I.base.there b o e hx
    exact there b o' (neC b o e hx) e1
  · obtain ⟨m1,e1⟩:=I.base.tbls b ps e
    obtain ⟨m2,e2⟩:=tbls b _ e1
    exact ⟨m1++m2,by rw [e2,Array.append_assoc]⟩
  · obtain ⟨m,hn,hl⟩:=I.loc
    refine ⟨m,ns m hn,fun i x v e1 e2 e3=>?_⟩
    obtain ⟨u,r,l⟩:=hl i x v e1 e2 e3
    refine ⟨u,r,?_⟩
    rcases l with l | ⟨k,c,e,z⟩
    · exact .inl l
    · exact .inr ⟨k,c,e,cellK x c e _ z⟩
  · obtain ⟨v,z⟩:=I.cell x c e
    exact ⟨v,cellK x c e v z⟩
  · obtain ⟨m,⟨o,_,_,ho,_⟩,_⟩:=I.loc
    exact free _ o (fun z=>(hch _ z).2.1 rfl) ho I.free
  · obtain ⟨v,o,ho,hd⟩:=I.cell x c e
    exact free c o (fun z=>(hch c z).2.2.1 x c e rfl) ho (I.freeC x c e)
  · obtain ⟨e,n,ne,nf,d⟩:=I.pin p hp
    have nch:p.1∉ch:=fun z=>(hch p.1 z).2.2.2 p hp rfl
    exact ⟨keep p.1 p.2 ne nf nch e n,free p.1 p.2 nch e n,ne,nf,d⟩
theorem Inv.un {t':Nat} (I:Inv X pins σ H s) (u:Un X.fs [] H H' s.heap h') (hok:HOk X.prog X.w H' h'):Inv X pins σ H' { s with heap:=h',toks:=t' }:=by
  obtain ⟨m,⟨o,es,ep,ho,r⟩,_⟩:=id I.loc
  obtain ⟨sl,hL⟩:=u.any ho I.free (by simp)
  exact I.step (g':=s.gens) (d':=s.drawn) (ch:=[]) (fun _ z=>nomatch z) (fun b o _ hb _ e n=>u.keep b o e n hb (by simp)) (fun b o _ hb _ e n=>u.slot b o e n hb (by simp)) (fun b o _ e n=>u.free b o e n (by simp)) (fun b o _ e=>u.there b o e (by simp)) u.tups u.frzs u.tbls (fun m' hm=>by
    obtain ⟨o',es',ep',ho',r'⟩:=hm
    rw [ho] at ho'; cases ho'
    exact ⟨_,es',ep',hL,r'⟩) hok I.bare
theorem Inv.call {g':Array GenState} {t':Nat} {d':Drawn} {ch:List Addr} (I:Inv X pins σ H s) (u:Un (frs X.stack) ch H H' s.heap h') (hok:HOk X.prog X.w H' h') (hg:AllBare g')
    (hch:∀ b∈ch,(b∈X.ex∨X.s₀.heap.objs.size≤b)∧b≠X.env.locals∧(∀ x c,X.env.cells.lookup x=some c→c≠b)∧∀ p∈X.pn++pins,p.1≠b) :
    Inv X pins σ H' { s with heap:=h',gens:=g',drawn:=d',toks:=t' }:=by
  obtain ⟨m,⟨o,es,ep,ho,r⟩,_⟩:=id I.loc
  obtain ⟨sl,hL⟩:=u.any ho I.free fun z=>(hch _ z).2.1 rfl
  exact I.step (ch:=ch) hch (fun b o hL hb hc e n=>u.keep b o e n (fun z=>(List.mem_cons.mp (I.X3 b z)).elim hL hb) hc) (fun b o _ _ hc e n=>u.any e n hc) (fun b o hc e n=>u.free b o e n hc) (fun b o hc e=>u.there b o e hc) u.tups u.frzs u.tbls (fun m' hm=>by
    obtain ⟨o',es',ep',ho',r'⟩:=hm
    rw [ho] at ho'; cases ho'
    exact ⟨_,es',ep',hL,r'⟩) hok hg
theorem Inv.turned {t':Nat} {it:Addr} (I:Inv X pins σ H s) (k:∀ b o,b≠it→s.heap.get? b=some o→h'.get? b=some o) (hn:H it=none) (hL:it≠X.env.locals)
    (h1:it∈X.ex∨X.s₀.heap.objs.size≤it) (h2:∀ x c,X.env.cells.lookup x=some c→c≠it) (h3:∀ p∈X.pn++pins,p.1≠it):Inv X pins σ H { s with heap:=h',toks:=t' }:=by
  have nit:∀ b u,H b=some u→b≠it:=fun b u e z=>by rw [z,hn] at e; cases e
  refine I.step (g':=s.gens) (d':=s.drawn) (ch:=[it]) (fun b hb=>?_) (fun b o _ _ hc e _=>k b o (fun z=>hc (by simp [z])) e) (fun b o _ _ hc e _=>⟨o.slots,k b o (fun z=>hc (by simp [z])) e⟩) (fun _ _ _ _ n=>n)
    (fun b o hc e=>⟨o,k b o (fun z=>hc (by simp [z])) e⟩) (fun _ _ e=>e) (fun _ _ _ e=>e) (fun b ps e=>⟨#[],by rw [e]; simp⟩) (fun m hm=>?_) (fun b u e=>?_) I.bare
  · have e:b=it:=by simpa using hb
    subst e
    exact ⟨h1,hL,h2,h3⟩
  · obtain ⟨o,es,ep,ho,r⟩:=hm
    exact ⟨o,es,ep,k _ o (Ne.symm hL) ho,r⟩
  · refine (I.hok b u e).stay (fun c v hc q=>k c v ?_ q) (fun _ q=>q) fun _ _ q=>q
    rcases hc with z | z
    · rw [z]; exact nit b u e
    · exact nit c _ z
theorem Inv.tok (I:Inv X pins σ H s) (t:Nat):Inv X pins σ H { s with toks:=t }:=I.un (h':=s.heap) (t':=t) Un.refl I.hok
theorem Inv.kept {t':Nat} (I:Inv X pins σ H s) (k:∀ b u,s.heap.get? b=some u→h'.get? b=some u):Inv X pins σ H { s with heap:=h',toks:=t' }:=I.un (Un.kept k) (I.hok.kept k)
theorem Inv.laid {a:Addr} {o:HO} {t':Nat} (I:Inv X pins σ H s) (k:∀ b u,s.heap.get? b=some u→h'.get? b=some u) (hp:s.heap.objs.size≤a) (new:vg X.prog X.w (upd H a o) h' a o) :
    Inv X pins σ (upd H a o) { s with heap:=h',toks:=t' }:=I.un (Un.laid k hp (I.hok.fresh hp)) (I.hok.laid k hp new)
theorem Inv.write {x e:Addr} {o:HO} {t':Nat} (I:Inv X pins σ H s) (mu:Mut (H x)) (he:e=x∨H e=some (.own x)) (k:∀ b u,b≠e→s.heap.get? b=some u→h'.get? b=some u) (heo:∃ u,h'.get? e=some u)
    (new:vg X.prog X.w (upd H x o) h' x o):Inv X pins σ (upd H x o) { s with heap:=h',toks:=t' }:=I.un (Un.write mu he k heo) (I.hok.write mu he k heo new)
theorem Inv.a0c {pins':List (Addr × Obj)} (I:Inv X pins σ H s) (h:∀ p∈pins',s.heap.get? p.1=some p.2∧H p.1=none∧p.1≠X.env.locals∧p.1∉X.fs∧∀ v,p.2.data≠.cell v):Inv X pins' σ H s :=
  ⟨I.ok,I.os,I.bare,I.base,I.loc,I.cell,I.free,I.freeC,fun p hp=>(List.mem_append.mp hp).elim (fun z=>I.pin p (List.mem_append_left _ z)) (h p),I.hok,I.len⟩
theorem Vq {N:List Str} (hN:N.Nodup) {i j:Nat} {x:Str} (a:N[i]? = some x) (b:N[j]? = some x):i=j:=by
  obtain ⟨h1,e1⟩:=List.getElem?_eq_some_iff.mp a
  obtain ⟨h2,e2⟩:=List.getElem?_eq_some_iff.mp b
  exact (List.getElem_inj hN).mp (e1.trans e2.symm)
theorem a1u {M:Model} {A:Around} {E:Value→Shared→Prop} {i:Nat} {x:Str} {v:V} {u:Value} {Q:Unit→Shared→Prop} (I:Inv X pins σ H s) (hN:X.N.Nodup) (hi:X.N[i]? = some x) (hx:Loc X.env.scope x) (r:RelV v u)
    (h:∀ s',Inv X pins (σ.set i (some v)) H s'→(∃ a,Heap.SameBut a s.heap s'.heap∧(a=X.env.locals∨X.env.cells.lookup x=some a))→Q () s') (hf:X.fn x=true∨X.env.scope.names.lookup x=some .local:=by first | exact .inl rfl | exact .inr rfl | assumption):wpAny M A (storeName X.env x u) Q E s:=by
  obtain ⟨m,hn,hl⟩:=id I.loc
  have hcls:(X.env.scope.kind == .class||(X.env.scope.kind == .module&&X.env.locals != X.env.globals))=false:=by rw [I.ok.kind]; rfl
  have hiσ:i<σ.length:=by rw [I.len]; exact (List.getElem?_eq_some_iff.mp hi).1
  have cne:=I.cne
  have tracked:∀ {a:Addr} {h':Heap},(∃ o,s.heap.get? a=some o∧H a=none)→Heap.SameBut a s.heap h'→HOk X.prog X.w H h':=fun {a h'} ha hs b ob e=>by
    obtain ⟨_,_,hfree⟩:=ha
    refine (I.hok b ob e).stay (fun c w' hc q=>(hs.2 c ?_).trans q) (fun _ q=>q) fun _ _ q=>q
    rintro rfl
    rcases hc with rfl | hc
    · rw [hfree] at e; cases e
    · rw [hfree] at hc; cases hc
  rcases hx with hk | hk
  · refine wpAny_storeName_local hk hn (fun h' hn' hs=>?_) hcls
    obtain ⟨oL,_,_,hoL,_⟩:=id hn
    refine h _ ⟨I.ok,I.os,I.bare,⟨fun b o e n hb hx=>?_,fun b o e n hb hx=>?_,I.base.free,fun b o e hx=>?_,I.base.tups,I.base.frzs,I.base.tbls⟩,⟨_,hn',fun j y v' e1 e2 e3=>?_⟩,fun y c e=>?_,I.free,I.freeC,fun p hp=>?_,tracked ⟨oL,hoL,I.free⟩ hs,by simpa using I.len⟩ ⟨_,hs,.inl rfl⟩
    · exact (hs.2 b (Nat.ne_of_lt (Nat.lt_of_lt_of_le (Heap.lt_size e) I.ok.above))).trans (I.base.keep b o e n hb hx)
    · obtain ⟨sl,e1⟩:=I.base.slot b o e n hb hx
      exact ⟨sl,(hs.2 b (Nat.ne_of_lt (Nat.lt_of_lt_of_le (Heap.lt_size e) I.ok.above))).trans e1⟩
    · obtain ⟨o',e1⟩:=I.base.there b o e hx
      exact ⟨o',(hs.2 b (Nat.ne_of_lt (Nat.lt_of_lt_of_le (Heap.lt_size e) I.ok.above))).trans e1⟩
    · by_cases hj:j=i
      · subst hj
        rw [hi] at e1; cases e1
        rw [List.getElem?_set_self hiσ] at e2
        cases e2
        exact ⟨u,r,.inl ⟨hk,by simp⟩⟩
      · rw [List.getElem?_set_ne (Ne.symm hj)] at e2
        obtain ⟨u',r',q⟩:=hl j y v' e1 e2 e3
        refine ⟨u',r',?_⟩
        rcases q with ⟨k,e⟩ | ⟨k,c,e,z⟩
        · refine .inl ⟨k,?_⟩
          have:y≠x:=fun e=>hj (Vq hN e1 (e ▸ hi))
          simp [this,e]
        · exact .inr ⟨k,c,e,z.sameBut hs (cne y c e)⟩
    · obtain ⟨w',z⟩:=I.cell y c e
      exact ⟨w',z.sameBut hs (cne y c e)⟩
    · obtain ⟨e,n,ne,nf,d⟩:=I.pin p hp
      exact ⟨(hs.2 p.1 ne).trans e,n,ne,nf,d⟩
  · have hfn:X.fn x=true:=by
      rcases hf with z | z
      · exact z
      · rw [z] at hk; cases hk
    obtain ⟨c,hc⟩:=I.ok.has x (.inl hk)
    obtain ⟨w',z⟩:=I.cell x c hc
    refine wpAny_storeName_cell I.ok.kind hk hc z (fun h' hc' hs=>?_)
    obtain ⟨oc,hoc,hocd⟩:=id z
    refine h { s with heap:=h' } ⟨I.ok,I.os,I.bare,⟨fun b o e n hb hx=>?_,fun b o e n hb hx=>?_,I.base.free,fun b o e hx=>?_,I.base.tups,I.base.frzs,I.base.tbls⟩,⟨m,hn.sameBut hs (Ne.symm (cne x c hc)),fun j y v' e1 e2 e3=>?_⟩,fun y c' e=>?_,I.free,I.freeC,fun p hp=>?_,tracked ⟨oc,hoc,I.freeC x c hc⟩ hs,by simpa using I.len⟩ ⟨c,hs,.inr hc⟩
    · exact (hs.2 b (Nat.ne_of_lt (Nat.lt_of_lt_of_le (Heap.lt_size e) (I.ok.cab x c hfn hc)))).trans (I.base.keep b o e n hb hx)
    · obtain ⟨sl,e1⟩:=I.base.slot b o e n hb hx
      exact ⟨sl,(hs.2 b (Nat.ne_of_lt (Nat.lt_of_lt_of_le (Heap.lt_size e) (I.ok.cab x c hfn hc)))).trans e1⟩
    · obtain ⟨o',e1⟩:=I.base.there b o e hx
      exact ⟨o',(hs.2 b (Nat.ne_of_lt (Nat.lt_of_lt_of_le (Heap.lt_size e) (I.ok.cab x c hfn hc)))).trans e1⟩
    · by_cases hj:j=i
      · subst hj
        rw [hi] at e1; cases e1
        rw [List.getElem?_set_self hiσ] at e2
        cases e2
        exact ⟨u,r,.inr ⟨.inl hk,c,hc,hc'⟩⟩
      · rw [List.getElem?_set_ne (Ne.symm hj)] at e2
        obtain ⟨u',r',q⟩:=hl j y v' e1 e2 e3
        refine ⟨u',r',?_⟩
        rcases q with q | ⟨k,c',e,z'⟩
        · exact .inl q
        · refine .inr ⟨k,c',e,z'.sameBut hs ?_⟩
          rintro rfl
          exact hj (Vq hN e1 (I.ok.inj _ _ _ e hc ▸ hi))
    · by_cases hcc:c'=c
      · subst hcc; exact ⟨_,hc'⟩
      · obtain ⟨w2,z2⟩:=I.cell y c' e
        exact ⟨w2,z2.sameBut hs hcc⟩
    · obtain ⟨e,n,ne,nf,d⟩:=I.pin p hp
      refine ⟨(hs.2 p.1 ?_).trans e,n,ne,nf,d⟩
      intro q
      rw [q,hoc] at e
      have q':oc=p.2:=Option.some.inj e
      exact d w' (by rw [← q']; exact hocd)
theorem Wo {M:Model} {A:Around} {E:Value→Shared→Prop} {i:Nat} {x:Str} {v:V} {u:Value} {Q:Unit→Shared→Prop} (I:Inv X pins σ H s) (hN:X.N.Nodup) (hi:X.N[i]? = some x) (hx:Loc X.env.scope x) (r:RelV v u)
    (h:∀ s',Inv X pins (σ.set i (some v)) H s'→Q () s') (hf:X.fn x=true∨X.env.scope.names.lookup x=some .local:=by first | exact .inl rfl | exact .inr rfl | assumption):wpAny M A (storeName X.env x u) Q E s :=
  a1u I hN hi hx r (fun s' I' _=>h s' I') hf
end
abbrev XK:=Value→Option Addr→Hp→Prop
abbrev St:=List (Option V)
abbrev VK:=V→Hp→Prop
abbrev TE:=St→Hp→VK→Prop
abbrev TT:=St→Hp→(Bool→Hp→Prop)→Prop
abbrev TA:=St→Hp→(List V→Hp→Prop)→Prop
structure Ends where
  nx:St→Hp→Prop
  rt:VK
  bk:St→Hp→Prop:=fun _ _=>False
  ct:St→Hp→Prop:=fun _ _=>False
abbrev TS:=Ends→St→Hp→Prop
inductive EP (X:Cx) (pins:List (Addr × Obj)) (σ:St) (Q:VK) (u:Value) (s':Shared):Prop
  | mk (v:V) (H':Hp) (I:Inv X pins σ H' s') (r:RelV v u) (q:Q v H')
def TP (X:Cx) (pins:List (Addr × Obj)) (σ:St) (Q:Bool→Hp→Prop) (b:Bool) (s':Shared):Prop:=∃ H',Inv X pins σ H' s'∧Q b H'
inductive AP (X:Cx) (pins:List (Addr × Obj)) (σ:St) (Q:List V→Hp→Prop) (us:List Value) (s':Shared):Prop
  | mk (vs:List V) (H':Hp) (I:Inv X pins σ H' s') (r:Vals vs us) (q:Q vs H')
def SP (X:Cx) (pins:List (Addr × Obj)) (D:Ends) (f:Flow) (s':Shared):Prop :=
  match f with
  | .next=>∃ σ' H',Inv X pins σ' H' s'∧D.nx σ' H'
  | .brk=>∃ σ' H',Inv X pins σ' H' s'∧D.bk σ' H'
  | .cont=>∃ σ' H',Inv X pins σ' H' s'∧D.ct σ' H'
  | .ret u=>∃ v σ' H',Inv X pins σ' H' s'∧RelV v u∧D.rt v H'
def PE (X:Cx) (e:Expr) (t:TE):Prop :=
  ∀ (pins:List (Addr × Obj)) (s:Shared) (σ:St) (H:Hp) (Q:VK),Inv X pins σ H s→t σ H Q→wpAny (model X.prog X.w) X.A (eval e X.env) (EP X pins σ Q) X.xe s
def PT (X:Cx) (e:Expr) (t:TT):Prop :=
  ∀ (pins:List (Addr × Obj)) (s:Shared) (σ:St) (H:Hp) (Q:Bool→Hp→Prop),Inv X pins σ H s→t σ H Q→wpAny (model X.prog X.w) X.A (isTrue e X.env (eval e X.env)) (TP X pins σ Q) X.xe s
def PW (X:Cx) (e:Expr) (t:TT):Prop :=
  ∀ (whole:Sem Value) (pins:List (Addr × Obj)) (s:Shared) (σ:St) (H:Hp) (Q:Bool→Hp→Prop),Inv X pins σ H s→t σ H Q→wpAny (model X.prog X.w) X.A (isTrue e X.env whole) (TP X pins σ Q) X.xe s
theorem PW.pt {X:Cx} {e:Expr} {t:TT} (h:PW X e t):PT X e t:=h _
def PA (X:Cx) (es:List Expr) (t:TA):Prop :=
  ∀ (pos:Pos) (pins:List (Addr × Obj)) (s:Shared) (σ:St) (H:Hp) (Q:List V→Hp→Prop),Inv X pins σ H s→t σ H Q→wpAny (model X.prog X.w) X.A (spliced (backTo pos (starEach es X.env))) (AP X pins σ Q) X.xe s
def PS (X:Cx) (st:Stmt) (t:TS):Prop :=
  ∀ (pins:List (Addr × Obj)) (s:Shared) (σ:St) (H:Hp) (D:Ends),Inv X pins σ H s→t D σ H→wpAny (model X.prog X.w) X.A (exec st X.env) (SP X pins D) X.xe s
def PSs (X:Cx) (st:List Stmt) (t:TS):Prop :=
  ∀ (pins:List (Addr × Obj)) (s:Shared) (σ:St) (H:Hp) (D:Ends),Inv X pins σ H s→t D σ H→wpAny (model X.prog X.w) X.A (execs st X.env) (SP X pins D) X.xe s
theorem thn {α:Type} {t:Sem α} {Q Q':α→Shared→Prop} {M:Model} {A:Around} {E:Value→Shared→Prop} {s:Shared} (h:wpAny M A t Q E s) (hQ:∀ a s,Q a s→Q' a s):wpAny M A t Q' E s:=wpAny_mono h hQ fun _ _ x=>x
end L2
namespace L2
open PySem PySem.Spec PyProof.Rows
section
variable {X:Cx}
def Mq (i:Nat):TE:=fun σ H Q=>∃ v,σ[i]? = some (some v)∧Q v H
def tC (v:V):TE:=fun _ H Q=>Q v H
theorem a9e {i:Nat} {x:Str} {pos:Pos} (hN:X.N[i]? = some x) (hv:Vis X.env.scope x) (hd:(x==("__debug__" : Str))=false:=by decide) (hcd:(x==("__classdict__" : Str))=false:=by decide):PE X (.Name x pos) (Mq i):=by
  intro pins s σ H Q I h
  obtain ⟨v,e,h⟩:=h
  obtain ⟨m,hn,hl⟩:=I.loc
  obtain ⟨u,r,l⟩:=hl i x v hN e hv
  have fin:EP X pins σ Q u s:=⟨v,H,I,r,h⟩
  rcases l with ⟨hk,hm⟩ | ⟨hk,c,hc,hcell⟩
  · exact wpAny_Name (wpAny_loadName_local I.ok.kind hk hn hm fin) hd
  · rcases hk with hk | hk
    · exact wpAny_Name (wpAny_loadName_cell I.ok.kind hk hc hcell fin) hd
    · exact wpAny_Name (wpAny_loadName_free I.ok.kind hk hc hcell fin hcd) hd
theorem a6g {i j pos}:PE X (.Constant (.int i) j pos) (tC (.int i)):=fun _ _ _ H _ I h=>wpAny_Constant_int ⟨.int i,H,I.tok _,⟨_,rfl⟩,h⟩
theorem ac0 {b j pos}:PE X (.Constant (.bool b) j pos) (tC (.bl b)):=fun _ _ _ H _ I h=>Constant_bool ⟨.bl b,H,I,rfl,h⟩
theorem a9l {x j pos}:PE X (.Constant (.str x) j pos) (tC (.str x)):=fun _ _ _ H _ I h=>Calls.Constant_str ⟨.str x,H,I.tok _,⟨_,rfl⟩,h⟩
def Gl (X:Cx) (x:Str):Prop:=X.env.kindOf x=some .globalImplicit
theorem a8a {E:Value→Shared→Prop} {pins:List (Addr × Obj)} {s:Shared} {σ:St} {H:Hp} {x:Str} {u:Value} {pos:Pos} {Q:Value→Shared→Prop} (I:Inv X pins σ H s) (hg:Gl X x) (hm:X.mg x=some u) (h:Q u s)
    (hd:(x==("__debug__" : Str))=false:=by decide):wpAny (model X.prog X.w) X.A (eval (.Name x pos) X.env) Q E s :=
  Calls.Name_function_global I.ok.kind hg (Calls.loadGlobal_global (by rw [I.ok.glob]; exact I.mod.glob.keeps I.bk) hm h) hd
theorem Ng {E:Value→Shared→Prop} {pins:List (Addr × Obj)} {s:Shared} {σ:St} {H:Hp} {x:Str} {u:Value} {pos:Pos} {Q:Value→Shared→Prop} (I:Inv X pins σ H s) (hg:Gl X x) (hm:X.mg x=none) (hv:bootBuiltins x=some u) (h:Q u s)
    (hn:x ≠ "__name__" := by decide) (hd:(x==("__debug__" : Str))=false:=by decide):wpAny (model X.prog X.w) X.A (eval (.Name x pos) X.env) Q E s:=by
  obtain ⟨mb,h1,h2⟩:=I.mod.blt
  exact Calls.Name_function_global I.ok.kind hg (Calls.loadGlobal_builtin (by rw [I.ok.glob]; exact I.mod.glob.keeps I.bk) hm (by rw [I.ok.blt]; exact h1.keeps I.bk) ((h2 x hn).trans hv) h) hd
theorem a75 {x:Str} {v:V} {u:Value} {pos:Pos} (hg:Gl X x) (hm:X.mg x=none) (hv:bootBuiltins x=some u) (r:RelV v u) (hn:x ≠ "__name__" := by decide) (hd:(x==("__debug__" : Str))=false:=by decide):PE X (.Name x pos) (tC v) :=
  fun _ _ _ H _ I h=>Ng I hg hm hv ⟨v,H,I,r,h⟩ hn hd
variable {a b:Expr} {ta tb:TE} {pos:Pos}
def tB (t:TE):TT:=fun σ H Q=>t σ H fun x H1=>∃ c,x=.bl c∧Q c H1
theorem aa8 {e:Expr} {t:TE} (h:PE X e t) (he:∀ whole,isTrue e X.env whole=(do let v ← whole; standAt e.pos; holding [v] (truthy v)):=by intro _; rfl):PT X e (tB t):=by
  intro pins s σ H Q I hw
  refine isTrue_plain (thn (h pins s σ H _ I hw) fun v s1 z0=>?_) (he _)
  obtain ⟨x,H1,I1,r1,q1⟩:=z0
  obtain ⟨d,rfl,q⟩:=q1
  cases r1
  exact wpAny_truthy_bool ⟨H1,I1,q⟩
variable {tA tB':TT} {rest:List Expr}
def ad6 (t u:TT):TT:=fun σ H Q=>t σ H fun c H1=>if c=true then u σ H1 Q else Q false H1
def tOr (t u:TT):TT:=fun σ H Q=>t σ H fun c H1=>if c=true then Q true H1 else u σ H1 Q
def ady (t:TT):TT:=fun σ H Q=>t σ H fun c H1=>Q (!c) H1
theorem pw_and1 (ha:PT X a tA):PW X (.BoolOp .And [a] pos) tA:=by
  intro wh pins s σ H Q I h
  refine isTrue_and (thn (ha pins s σ H Q I h) fun c s1 e=>?_)
  cases c with
  | true=>exact isTrue_and_nil e
  | false=>exact e
theorem pw_or1 (ha:PT X a tA):PW X (.BoolOp .Or [a] pos) tA:=by
  intro wh pins s σ H Q I h
  refine isTrue_or (thn (ha pins s σ H Q I h) fun c s1 e=>?_)
  cases c with
  | false=>exact isTrue_or_nil e
  | true=>exact e
theorem pw_and (ha:PT X a tA) (hb:PW X (.BoolOp .And (b::rest) pos) tB'):PW X (.BoolOp .And (a::b::rest) pos) (ad6 tA tB'):=by
  intro wh pins s σ H Q I h
  refine isTrue_and (thn (ha pins s σ H _ I h) fun c s1 z0=>?_)
  obtain ⟨H1,I1,q1⟩:=z0
  cases c with
  | true=>exact hb wh pins s1 σ H1 Q I1 q1
  | false=>exact ⟨H1,I1,q1⟩
theorem pw_or (ha:PT X a tA) (hb:PW X (.BoolOp .Or (b::rest) pos) tB'):PW X (.BoolOp .Or (a::b::rest) pos) (tOr tA tB'):=by
  intro wh pins s σ H Q I h
  refine isTrue_or (thn (ha pins s σ H _ I h) fun c s1 z0=>?_)
  obtain ⟨H1,I1,q1⟩:=z0
  cases c with
  | true=>exact ⟨H1,I1,q1⟩
  | false=>exact hb wh pins s1 σ H1 Q I1 q1
theorem a91 (ha:PT X a tA):PT X (.UnaryOp .Not a pos) (ady tA):=by
  intro pins s σ H Q I h
  exact isTrue_not (ha pins s σ H (fun c H1=>Q (!c) H1) I h)
def abf (ta tb:TE):TE:=fun σ H Q=>ta σ H fun x H1=>∃ c,x=.bl c∧if c=true then tb σ H1 Q else Q (.bl false) H1
def adt (ta tb:TE):TE:=fun σ H Q=>ta σ H fun x H1=>∃ c,x=.bl c∧if c=true then Q (.bl true) H1 else tb σ H1 Q
def abx (ta:TE):TE:=fun σ H Q=>ta σ H fun x H1=>∃ c,x=.bl c∧Q (.bl (!c)) H1
theorem a9a {op} {t:TE} (h:PE X a t):PE X (.BoolOp op [a] pos) t:=fun pins s σ H Q I hw=>BoolOp_one (h pins s σ H Q I hw)
theorem a8p (ha:PE X a ta) (hb:PE X (.BoolOp .And (b::rest) pos) tb):PE X (.BoolOp .And (a::b::rest) pos) (abf ta tb):=by
  intro pins s σ H Q I h
  refine BoolOp_and (thn (ha pins s σ H _ I h) fun v s1 z0=>?_)
  obtain ⟨x,H1,I1,r1,q1⟩:=z0
  obtain ⟨c,rfl,q1⟩:=q1
  cases r1
  refine wpAny_truthy_bool ?_
  cases c with
  | true=>exact hb pins s1 σ H1 Q I1 q1
  | false=>exact ⟨.bl false,H1,I1,rfl,q1⟩
theorem ac3 (ha:PE X a ta) (hb:PE X (.BoolOp .Or (b::rest) pos) tb):PE X (.BoolOp .Or (a::b::rest) pos) (adt ta tb):=by
  intro pins s σ H Q I h
  refine BoolOp_or (thn (ha pins s σ H _ I h) fun v s1 z0=>?_)
  obtain ⟨x,H1,I1,r1,q1⟩:=z0
  obtain ⟨c,rfl,q1⟩:=q1
  cases r1
  refine wpAny_truthy_bool ?_
  cases c with
  | false=>exact hb pins s1 σ H1 Q I1 q1
  | true=>exact ⟨.bl true,H1,I1,rfl,q1⟩
theorem aah (ha:PE X a ta):PE X (.UnaryOp .Not a pos) (abx ta):=by
  intro pins s σ H Q I h
  refine UnaryOp_ (thn (ha pins s σ H _ I h) fun v s1 z0=>?_)
  obtain ⟨x,H1,I1,r1,q1⟩:=z0
  obtain ⟨c,rfl,q1⟩:=q1
  cases r1
  exact not_of (wpAny_truthy_bool ⟨.bl (!c),H1,I1,rfl,q1⟩)
def tIf (t:TT) (ta tb:TE):TE:=fun σ H Q=>t σ H fun c H1=>if c=true then ta σ H1 Q else tb σ H1 Q
theorem a3y {c:Expr} (hc:PT X c tA) (ha:PE X a ta) (hb:PE X b tb):PE X (.IfExp c a b pos) (tIf tA ta tb):=by
  intro pins s σ H Q I h
  refine wpAny_IfExp (thn (hc pins s σ H _ I h) fun d s1 z0=>?_)
  obtain ⟨H1,I1,q1⟩:=z0
  cases d with
  | true=>exact ha pins s1 σ H1 Q I1 q1
  | false=>exact hb pins s1 σ H1 Q I1 q1
end
end L2
namespace L2
open PySem PySem.Spec PyProof.Rows
def SqL (K:PySem.W.Frag) (H:Hp) (a:Addr) (xs:List V):Prop :=
  Rd H a (.lst xs) ∨
    ∃ (o:Obj) (its:Array Value) (n:Nat),K.lookup a=some o∧o.cls=.type "list" ∧ o.dict=none∧o.data=.seq its n∧its.size≤sizeLine∧Vals xs its.toList
def SqT (K:PySem.W.Frag) (H:Hp) (a:Addr) (xs:List V):Prop :=
  Rd H a (.tup xs) ∨
    ∃ (o:Obj) (its:Array Value) (n:Nat),K.lookup a=some o∧o.cls=.type "tuple" ∧ o.dict=none∧o.data=.seq its n∧its.size≤sizeLine∧Vals xs its.toList
def ae3:Value→Option V
  | .none=>some .non
  | .bool b=>some (.bl b)
  | .int i _=>some (.int i)
  | .str x _=>some (.str x)
  | .bytes b _=>some (.byt b)
  | .float b _=>some (.flt b)
  | .ref a=>some (.ref a)
  | .type n=>some (.ty n)
  | _=>none
theorem RelV.abs {x:V} {u:Value} (r:RelV x u):ae3 u=some x:=by
  cases x with
  | non=>cases r; rfl
  | bl _=>cases r; rfl
  | int _=>obtain ⟨t,rfl⟩:=r; rfl
  | str _=>obtain ⟨t,rfl⟩:=r; rfl
  | byt _=>obtain ⟨t,rfl⟩:=r; rfl
  | flt _=>obtain ⟨t,rfl⟩:=r; rfl
  | ref _=>cases r; rfl
  | ty _=>cases r; rfl
theorem RelV.inj {x y:V} {u:Value} (r:RelV x u) (q:RelV y u):x=y:=Option.some.inj (r.abs.symm.trans q.abs)
theorem Vals.inj {xs ys:List V} {us:List Value} (h:Vals xs us):Vals ys us→xs=ys:=by
  induction h generalizing ys with
  | nil=>intro k; cases k; rfl
  | cons r t ih=>intro k; cases k with | cons r' t'=>rw [r.inj r',ih t']
section
variable {X:Cx} {pins:List (Addr × Obj)} {σ:St} {H:Hp} {s:Shared} {a:Addr} {xs ys:List V}
theorem SqL.of {K:PySem.W.Frag} (h:H a=some (.lst xs)):SqL K H a xs:=.inl (.inl h)
theorem SqT.of {K:PySem.W.Frag} (h:H a=some (.tup xs)):SqT K H a xs:=.inl (.inl h)
theorem Inv.list (I:Inv X pins σ H s) (h:SqL X.K H a xs):∃ its:List Value,Vals xs its∧PlainL s.heap a its.toArray∧xs.length≤sizeLine:=by
  rcases h with h | ⟨o,its,n,hk,hc,hd,hs,hz,r⟩
  · obtain ⟨z,its,n,r,e⟩:=h.ok I.hok
    exact ⟨its,r,⟨_,n,e,rfl,rfl,rfl⟩,z⟩
  · refine ⟨its.toList,r,⟨o,n,I.kIn a o hk,hc,hd,by simpa using hs⟩,?_⟩
    have e:=r.length
    simp only [Array.length_toList] at e
    omega
theorem Inv.tuple (I:Inv X pins σ H s) (h:SqT X.K H a xs):∃ its:List Value,Vals xs its∧IsTup s.heap a its.toArray∧xs.length≤sizeLine:=by
  rcases h with h | ⟨o,its,n,hk,hc,hdn,hs,hz,r⟩
  · obtain ⟨z,its,r,p⟩:=h.ok I.hok
    exact ⟨its,r,p.is,z⟩
  · refine ⟨its.toList,r,⟨o,I.kIn a o hk,hc,n,by simpa using hs⟩,?_⟩
    have e:=r.length
    simp only [Array.length_toList] at e
    omega
theorem Inv.X8 (I:Inv X pins σ H s) (h:SqL X.K H a xs) (h':SqL X.K H a ys):xs=ys:=by
  obtain ⟨its,r,⟨o,n,e,_,_,d⟩,_⟩:=I.list h
  obtain ⟨its',r',⟨o',n',e',_,_,d'⟩,_⟩:=I.list h'
  rw [e] at e'; cases e'
  rw [d] at d'
  injection d' with d1 _
  have:its=its':=by simpa using congrArg Array.toList d1
  subst this
  exact r.inj r'
theorem Inv.Z9 (I:Inv X pins σ H s) (h:SqT X.K H a xs) (h':SqT X.K H a ys):xs=ys:=by
  obtain ⟨its,r,⟨o,e,_,n,d⟩,_⟩:=I.tuple h
  obtain ⟨its',r',⟨o',e',_,n',d'⟩,_⟩:=I.tuple h'
  rw [e] at e'; cases e'
  rw [d] at d'
  injection d' with d1 _
  have:its=its':=by simpa using congrArg Array.toList d1
  subst this
  exact r.inj r'
end
abbrev Cx.wish (X:Cx) (E:Value→Shared→Prop):Cx:={ X with xe:=E }
abbrev Cx.nox (X:Cx):Cx:=X.wish fun _ _=>False
theorem Cx.Ok.wish {X:Cx} (ok:X.Ok) (E:Value→Shared→Prop):(X.wish E).Ok :=
  ⟨ok.mod,ok.kind,ok.glob,ok.blt,ok.above,ok.inj,ok.has,ok.cab,ok.hd,ok.frames,ok.stk,ok.exf,ok.bs,ok.bsz,ok.noex,ok.exfs,ok.Yw,ok.frf⟩
theorem Cx.Ok.Fq {X:Cx} {E:Value→Shared→Prop} (ok:(X.wish E).Ok):X.Ok :=
  ⟨ok.mod,ok.kind,ok.glob,ok.blt,ok.above,ok.inj,ok.has,ok.cab,ok.hd,ok.frames,ok.stk,ok.exf,ok.bs,ok.bsz,ok.noex,ok.exfs,ok.Yw,ok.frf⟩
section
variable {X:Cx} {pins:List (Addr × Obj)} {σ:St} {H:Hp} {s:Shared} {E:Value→Shared→Prop}
theorem Inv.wish (I:Inv X pins σ H s) (E:Value→Shared→Prop):Inv (X.wish E) pins σ H s:=⟨I.ok.wish E,I.os,I.bare,I.base,I.loc,I.cell,I.free,I.freeC,I.pin,I.hok,I.len⟩
theorem Inv.Fq (I:Inv (X.wish E) pins σ H s):Inv X pins σ H s:=⟨I.ok.Fq,I.os,I.bare,I.base,I.loc,I.cell,I.free,I.freeC,I.pin,I.hok,I.len⟩
theorem SP.Fq {D:Ends} {f:Flow} {s':Shared} (h:SP (X.wish E) pins D f s'):SP X pins D f s':=by
  cases f with
  | next=>obtain ⟨σ',H',I,q⟩:=h; exact ⟨σ',H',I.Fq,q⟩
  | brk=>obtain ⟨σ',H',I,q⟩:=h; exact ⟨σ',H',I.Fq,q⟩
  | cont=>obtain ⟨σ',H',I,q⟩:=h; exact ⟨σ',H',I.Fq,q⟩
  | ret u=>obtain ⟨v,σ',H',I,r,q⟩:=h; exact ⟨v,σ',H',I.Fq,r,q⟩
theorem PE.nox {e:Expr} {t:TE} (h:PE X.nox e t):PE X e t:=fun pins s σ H Q I hw =>
  wpAny_mono (h pins s σ H Q (I.wish _) hw) (fun _ _ z7=>by obtain ⟨v,H',I',r,q⟩:=z7; exact ⟨v,H',I'.Fq,r,q⟩) fun _ _ z=>False.elim z
theorem PT.nox {e:Expr} {t:TT} (h:PT X.nox e t):PT X e t:=fun pins s σ H Q I hw =>
  wpAny_mono (h pins s σ H Q (I.wish _) hw) (fun _ _ z7=>by obtain ⟨H',I',q⟩:=z7; exact ⟨H',I'.Fq,q⟩) fun _ _ z=>False.elim z
theorem PSs.nox {st:List Stmt} {t:TS} (h:PSs X.nox st t):PSs X st t:=fun pins s σ H D I hw =>
  wpAny_mono (h pins s σ H D (I.wish _) hw) (fun _ _ q=>q.Fq) fun _ _ z=>False.elim z
end
section
variable {X:Cx} {st:Stmt} {rest:List Stmt} {t u:TS} {e:Expr} {te:TE} {pos:Pos}
def abq:TS:=fun D σ H=>D.nx σ H
def adb (t u:TS):TS:=fun D σ H=>t { D with nx:=u D } σ H
theorem a6w:PSs X [] abq:=fun _ _ σ H _ I h=>wpAny_execs_nil ⟨σ,H,I,h⟩
theorem Vk (h1:PS X st t) (h2:PSs X rest u):PSs X (st::rest) (adb t u):=by
  intro pins s σ H D I h
  refine wpAny_execs_cons (thn (h1 pins s σ H { D with nx:=u D } I h) fun f s1 q=>?_)
  cases f with
  | next =>
    obtain ⟨σ',H',I',q⟩:=q
    exact h2 pins s1 σ' H' D I' q
  | ret v=>exact q
  | brk=>exact q
  | cont=>exact q
theorem U0 (h1:PS X st t):PSs X [st] t:=by
  intro pins s σ H D I h
  refine wpAny_execs_cons (thn (h1 pins s σ H D I h) fun f s1 q=>?_)
  cases f with
  | next=>exact wpAny_execs_nil q
  | ret v=>exact q
  | brk=>exact q
  | cont=>exact q
theorem Inv.quiet {pins:List (Addr × Obj)} {σ:St} {H:Hp} {s:Shared} (I:Inv X pins σ H s):interactive X.env=false:=by simp [interactive,I.ok.kind]
def Rc (te:TE):TS:=fun D σ H=>te σ H fun _ H1=>D.nx σ H1
theorem v7 (he:PE X e te) (hs:swapsWith e none pos.line X.env=pure false:=by rfl):PS X (.Expr e pos) (Rc te):=by
  intro pins s σ H D I h
  exact wpAny_Expr_any (thn (he pins s σ H _ I h) fun v s1 z7=>by obtain ⟨x,H1,I1,r1,q1⟩:=z7; exact ⟨σ,H1,I1,q1⟩) I.quiet hs
def adl (te:TE):TS:=fun D σ H=>te σ H D.rt
theorem Zr (he:PE X e te):PS X (.Return (some e) pos) (adl te):=by
  intro pins s σ H D I h
  exact wpAny_Return_some (thn (he pins s σ H _ I h) fun v s1 z7=>by obtain ⟨x,H1,I1,r1,q1⟩:=z7; exact ⟨x,σ,H1,I1,r1,q1⟩)
def adz (c:TT) (t u:TS):TS:=fun D σ H=>c σ H fun b H1=>if b=true then t D σ H1 else u D σ H1
theorem acg {c:Expr} {a b:List Stmt} {tc:TT} (hc:PT X c tc) (ha:PSs X a t) (hb:PSs X b u):PS X (.If c a b pos) (adz tc t u):=by
  intro pins s σ H D I h
  refine wpAny_If (thn (hc pins s σ H _ I h) fun d s1 z0=>?_)
  obtain ⟨H1,I1,q1⟩:=z0
  cases d with
  | true=>exact ha pins s1 σ H1 D I1 q1
  | false=>exact hb pins s1 σ H1 D I1 q1
end
abbrev TG:=V→St→Hp→(St→Hp→Prop)→Prop
abbrev TGs:=List V→St→Hp→(St→Hp→Prop)→Prop
def PG (X:Cx) (target:Expr) (t:TG):Prop :=
  ∀ (pins:List (Addr × Obj)) (s:Shared) (σ:St) (H:Hp) (v:V) (u:Value) (Q:St→Hp→Prop),Inv X pins σ H s→RelV v u→t v σ H Q →
    wpAny (model X.prog X.w) X.A (assign target X.env u) (fun _ s'=>∃ σ' H',Inv X pins σ' H' s'∧Q σ' H') X.xe s
def PGs (X:Cx) (ts:List Expr) (t:TGs):Prop :=
  ∀ (pins:List (Addr × Obj)) (s:Shared) (σ:St) (H:Hp) (vs:List V) (us:List Value) (Q:St→Hp→Prop),Inv X pins σ H s→Vals vs us→t vs σ H Q →
    wpAny (model X.prog X.w) X.A (assignInOrder ((assignEach ts X.env).map (·.2)) us) (fun _ s'=>∃ σ' H',Inv X pins σ' H' s'∧Q σ' H') X.xe s
abbrev ac7:=V→V→V→Hp→(Hp→Prop)→Prop
def acy (X:Cx) (t:ac7):Prop :=
  ∀ (pins:List (Addr × Obj)) (s:Shared) (σ:St) (H:Hp) (o i v:V) (ov iv u:Value) (Q:Hp→Prop),Inv X pins σ H s→RelV o ov→RelV i iv→RelV v u→t o i v H Q →
    wpAny (model X.prog X.w) X.A (setItem ov iv u) (fun _ s'=>∃ H',Inv X pins σ H' s'∧Q H') X.xe s
section
variable {X:Cx} {pos:Pos}
def O5 (i:Nat):TG:=fun v σ H Q=>Q (σ.set i (some v)) H
theorem gn {i:Nat} {x:Str} (hN:X.N.Nodup) (hi:X.N[i]? = some x) (hx:Loc X.env.scope x) (hf:X.fn x=true∨X.env.scope.names.lookup x=some .local:=by first | exact .inl rfl | exact .inr rfl | assumption):PG X (.Name x pos) (O5 i):=by
  intro pins s σ H v u Q I r h
  exact wpAny_assign_Name (Wo I hN hi hx r (fun s' I'=>⟨_,H,I',h⟩) hf)
def acs:TGs:=fun vs σ H Q=>vs=[]∧Q σ H
def a9p (t:TG) (u:TGs):TGs:=fun vs σ H Q=>∃ v r,vs=v::r∧t v σ H fun σ' H'=>u r σ' H' Q
theorem Cm:PGs X [] acs:=by
  intro pins s σ H vs us Q I r h
  obtain ⟨e,h⟩:=h
  subst e
  cases r
  exact assignInOrder_nil ⟨σ,H,I,h⟩
theorem ql {e:Expr} {es:List Expr} {t:TG} {u:TGs} (h1:PG X e t) (h2:PGs X es u)
    (hs:(assignEach (e::es) X.env).map (·.2)=assign e X.env::(assignEach es X.env).map (·.2):=by rfl):PGs X (e::es) (a9p t u):=by
  intro pins s σ H vs us Q I r h
  obtain ⟨v,vr,e1,h⟩:=h
  subst e1
  cases r with
  | cons r rr =>
    rw [hs]
    refine assignInOrder_cons (thn (h1 pins s σ H _ _ _ I r h) fun _ s1 z0=>?_)
    obtain ⟨σ1,H1,I1,q1⟩:=z0
    exact h2 pins s1 σ1 H1 _ _ Q I1 rr q1
def ad0 (K:PySem.W.Frag) (n:Nat) (t:TGs):TG:=fun v σ H Q=>∃ a xs,v=.ref a∧SqT K H a xs∧xs.length=n∧t xs σ H Q
theorem G5 {es:List Expr} {k:Nat} {t:TGs} {n:Nat} (hc:X.calm=true) (h:PGs X es t)
    (hn:(assignEach es X.env).length=n:=by rfl) (hst:(assignEach es X.env).findIdx? (·.1)=none:=by rfl):PG X (.Tuple es k pos) (ad0 X.K n t):=by
  intro pins s σ H v u Q I r hw
  obtain ⟨a,xs,e1,hq,hl,hw⟩:=hw
  subst e1
  cases r
  obtain ⟨its,rv,ht,hz⟩:=I.tuple hq
  refine assign_Tuple_tuple (I.ok.hd hc) ht (by simp [hn,← hl,rv.length]) hst fun h' hx=>?_
  have I1:Inv X pins σ H { s with heap:=h' }:=I.kept (t':=s.toks) fun b o e=>hx b o (Nat.ne_of_lt (Heap.lt_size e)) e
  exact h pins _ σ H xs _ Q I1 (by simpa using rv) hw
def ad2 (to ti:TE) (t:ac7):TG:=fun v σ H Q=>to σ H fun o H1=>ti σ H1 fun i H2=>t o i v H2 fun H3=>Q σ H3
theorem Vd {o i:Expr} {to ti:TE} {t:ac7} (ho:PE X o to) (hi:PE X i ti) (hs:acy X t)
    (ha:∀ v,assign (.Subscript o i pos) X.env v=(do
      let ov ← holding [v] (eval o X.env)
      let iv ← holding [v,ov] (eval i X.env)
      standAt pos
      holding [v,ov,iv] (setItem ov iv v)
      release [v,ov,iv] []):=by intro _; rfl):PG X (.Subscript o i pos) (ad2 to ti t):=by
  intro pins s σ H v u Q I r h
  rw [ha]
  refine wpAny_bind (wpAny_holding (thn (ho pins s σ H _ I h) fun ov s1 z0=>?_))
  obtain ⟨x,H1,I1,r1,q1⟩:=z0
  refine wpAny_bind (wpAny_holding (thn (hi pins s1 σ H1 _ I1 q1) fun iv s2 z0=>?_))
  obtain ⟨y,H2,I2,r2,q2⟩:=z0
  refine wpAny_bind (wpAny_standAt (wpAny_bind (wpAny_holding (thn (hs pins s2 σ H2 x y v ov iv u _ I2 r1 r2 r q2) fun _ s3 z0=>?_))))
  obtain ⟨H3,I3,q3⟩:=z0
  exact wpAny_release ⟨σ,H3,I3,q3⟩
def a5r (te:TE) (g:TG):TS:=fun D σ H=>te σ H fun x H1=>g x σ H1 D.nx
theorem Ks {tg e:Expr} {te:TE} {g:TG} (he:PE X e te) (hg:PG X tg g) (hs:swapsWithSole [tg] e pos.line X.env=pure false:=by rfl) (hw:swappedStores [tg] e X.env=pure none:=by rfl)
    (h1:(assignEach [tg] X.env).map (·.2)=[assign tg X.env]:=by rfl):PS X (.Assign [tg] e pos) (a5r te g):=by
  intro pins s σ H D I h
  refine wpAny_Assign_stores (thn (he pins s σ H _ I h) fun v s1 z0=>?_) hs hw
  obtain ⟨x,H1,I1,r1,q1⟩:=z0
  rw [h1]
  exact thn (hg pins s1 σ H1 x v _ I1 r1 q1) fun _ s2 q=>q
theorem ig {i:Nat} {x:Str} {e:Expr} {te:TE} {pos':Pos} (hN:X.N.Nodup) (hi:X.N[i]? = some x) (hx:Loc X.env.scope x) (he:PE X e te) (hs:swapsWith e (some (.Name x pos')) pos.line X.env=pure false:=by rfl) (hf:X.fn x=true∨X.env.scope.names.lookup x=some .local:=by first | exact .inl rfl | exact .inr rfl | assumption) :
    PS X (.Assign [.Name x pos'] e pos) (a5r te (O5 i)):=by
  intro pins s σ H D I h
  refine wpAny_Assign_Name (thn (he pins s σ H _ I h) fun v s1 z0=>?_) hs
  obtain ⟨y,H1,I1,r1,q1⟩:=z0
  exact Wo I1 hN hi hx r1 (fun s2 I2=>⟨_,H1,I2,q1⟩) hf
end
section
variable {X:Cx} {pos:Pos}
def a94 (c:TT) (tb:TS):TS:=fun D σ H=>∃ W:Nat→St→Hp→Prop,(∃ m,W m σ H)∧∀ m σ H,W m σ H →
  c σ H fun b H1=>if b=true then ∃ N:St→Hp→Prop,(∀ σ' H',N σ' H'→∃ m',m'<m∧W m' σ' H')∧tb { D with nx:=N,ct:=N,bk:=D.nx } σ H1 else D.nx σ H1
theorem a5e {c:Expr} {body:List Stmt} {tc:TT} {tb:TS} (hp:PassesOwn (model X.prog X.w) X.A X.env X.xe) (hc:PT X c tc) (hb:PSs X body tb):PS X (.While c body [] pos) (a94 tc tb):=by
  intro pins s σ H D I h
  obtain ⟨W,⟨m0,w0⟩,turn⟩:=h
  refine wpAny_While (codeAny_whileLoop (fun n s'=>∃ σ' H',Inv X pins σ' H' s'∧W n σ' H') ?_ m0 ⟨σ,H,I,w0⟩)
  rintro n s1 ⟨σ1,H1,I1,w1⟩
  refine wpAny_passesOwn hp (thn (hc pins s1 σ1 H1 _ I1 (turn n σ1 H1 w1)) fun b s2 z0=>?_)
  obtain ⟨H2,I2,q2⟩:=z0
  cases b with
  | true =>
    obtain ⟨N,hN,q2⟩:=q2
    rw [if_pos rfl]
    refine wpAny_passesOwn hp (thn (hb pins s2 σ1 H2 _ I2 q2) fun f s3 q3=>?_)
    cases f with
    | next =>
      obtain ⟨σ3,H3,I3,n3⟩:=q3
      obtain ⟨m',hm,w3⟩:=hN σ3 H3 n3
      exact ⟨m',hm,σ3,H3,I3,w3⟩
    | cont =>
      obtain ⟨σ3,H3,I3,n3⟩:=q3
      obtain ⟨m',hm,w3⟩:=hN σ3 H3 n3
      exact ⟨m',hm,σ3,H3,I3,w3⟩
    | brk=>exact q3
    | ret v=>exact q3
  | false =>
    rw [if_neg Bool.false_ne_true]
    exact wpAny_execs_nil ⟨σ1,H2,I2,q2⟩
end
structure It where
  go:Nat→Hp→Prop
  yld:Nat→Hp→V→Hp→Prop
  stop:Nat→Hp→Prop
def T7 (X:Cx) (pins:List (Addr × Obj)) (H:Hp) (b:Addr):Prop :=
  H b=none∧b≠X.env.locals∧b∉X.fs∧(b∈X.ex∨X.s₀.heap.objs.size≤b)∧(∀ x c,X.env.cells.lookup x=some c→c≠b)∧∀ p∈X.pn++pins,p.1≠b
theorem Inv.a8h {X:Cx} {pins:List (Addr × Obj)} {σ:St} {H H':Hp} {s:Shared} {b:Addr} (I:Inv X pins σ H s) (hb:s.heap.objs.size≤b) (hn:H' b=none):T7 X pins H' b:=by
  refine ⟨hn,Nat.ne_of_gt (Nat.lt_of_lt_of_le I.lt hb),I.ae0 hb,.inr (Nat.le_trans I.sz hb),fun x c e z=>?_,fun p hp z=>?_⟩
  · obtain ⟨v,q⟩:=I.cell x c e
    exact absurd (Nat.lt_of_lt_of_le q.lt (by rw [z]; exact hb)) (Nat.lt_irrefl _)
  · exact absurd (Nat.lt_of_lt_of_le (Heap.lt_size (I.pin p hp).1) (by rw [z]; exact hb)) (Nat.lt_irrefl _)
structure Turn (P:Program) (w:World) (K:PySem.W.Frag) (tg:Expr) (J:It) (fp:List Addr) (it:Addr) (tn:Nat→Heap→Prop):Prop where
  mem:it∈fp
  obj:∀ i h,tn i h→∀ b∈fp,∃ o,h.get? b=some o∧∀ v,o.data≠.cell v
  keep:∀ i h h',tn i h→(∀ b∈fp,∀ o,h.get? b=some o→h'.get? b=some o)→tn i h'
  item:∀ (X:Cx),X.prog=P→X.w=w→X.K=K→X.calm=true→∀ (i:Nat) (pins:List (Addr × Obj)) (s:Shared) (σ:St) (H:Hp) (E:Value→Shared→Prop),Inv X pins σ H s→(∀ b∈fp,T7 X pins H b)→tn i s.heap→J.go i H →
    wpAny (model P w) X.A (pyNext (.ref it)) (fun r s1=>∃ u,r=some u ∧
      wpAny (model P w) X.A (letOwnedTupleGo tg (.ref it) u) (fun _ s2=>∃ x H',Inv X pins σ H' s2∧RelV x u∧J.yld i H x H'∧tn (i+1) s2.heap∧∀ b∈fp,H' b=none) E s1) E s
  done:∀ (X:Cx),X.prog=P→X.w=w→X.K=K→X.calm=true→∀ (i:Nat) (pins:List (Addr × Obj)) (s:Shared) (σ:St) (H:Hp) (E:Value→Shared→Prop),Inv X pins σ H s→(∀ b∈fp,T7 X pins H b)→tn i s.heap→J.stop i H →
    wpAny (model P w) X.A (pyNext (.ref it)) (fun r s1=>r=none∧Inv X pins σ H s1) E s
  self:∀ (A:Around) (i:Nat) (s:Shared) (Q:Value→Shared→Prop) (E:Value→Shared→Prop),tn i s.heap→Q (.ref it) s→wpAny (model P w) A (pyIter (.ref it)) Q E s
abbrev TI:=St→Hp→(It→Hp→Prop)→Prop
def PIE (X:Cx) (pins:List (Addr × Obj)) (σ:St) (tg:Expr) (R:It→Hp→Prop) (itv:Value) (s2:Shared):Prop :=
  ∃ (it:Addr) (fp:List Addr) (tn:Nat→Heap→Prop) (J:It) (H':Hp),itv=.ref it∧Inv X pins σ H' s2∧Turn X.prog X.w X.K tg J fp it tn∧tn 0 s2.heap∧(∀ b∈fp,T7 X pins H' b)∧R J H'
def PI (X:Cx) (tg iter:Expr) (wi:TI):Prop :=
  ∀ (pins:List (Addr × Obj)) (s:Shared) (σ:St) (H:Hp) (R:It→Hp→Prop),Inv X pins σ H s→wi σ H R →
    wpAny (model X.prog X.w) X.A (eval iter X.env) (fun v s1=>wpAny (model X.prog X.w) X.A (pyIter v) (PIE X pins σ tg R) X.xe s1) X.xe s
theorem a3d {M:Model} {A:Around} {E:Value→Shared→Prop} {s:Shared} {tg:Expr} {it:Addr} {u:Value} {o:Obj} {n:String} {vs:Array Value} {Q:Unit→Shared→Prop} (ho:s.heap.get? it=some o) (hc:o.cls=.type n) (hd:o.data=.fields vs)
    (hn:["enumerate","zip","dict_itemiterator","dict_reverseitemiterator","odict_iterator","itertools.zip_longest","itertools.pairwise"].contains n=false) (hQ:Q () s):wpAny M A (letOwnedTupleGo tg (.ref it) u) Q E s:=by
  unfold letOwnedTupleGo
  cases tg <;> first
    | exact wpAny_pure hQ
    | (cases u <;> first
        | exact wpAny_pure hQ
        | (refine wpAny_bind (wpAny_load ho ?_)
           rw [hc,hd]
           show wpAny M A (if (["enumerate","zip","dict_itemiterator","dict_reverseitemiterator","odict_iterator","itertools.zip_longest","itertools.pairwise"].contains n&&vs[0]? == some (rawInt _))=true then _ else _) Q E s
           rw [if_neg (by intro h; rw [hn,Bool.false_and] at h; cases h)]
           exact wpAny_pure hQ))
def Itl (K:PySem.W.Frag) (a:Addr):It :=
  ⟨fun i H=>∃ xs x,SqL K H a xs∧xs[i]? = some x,fun i H x H'=>H'=H∧∀ xs,SqL K H a xs→xs[i]? = some x,fun i H=>∃ xs,SqL K H a xs∧xs.length≤i⟩
def Itt (K:PySem.W.Frag) (a:Addr):It :=
  ⟨fun i H=>∃ xs x,SqT K H a xs∧xs[i]? = some x,fun i H x H'=>H'=H∧∀ xs,SqT K H a xs→xs[i]? = some x,fun i H=>∃ xs,SqT K H a xs∧xs.length≤i⟩
def Itr (lo:Int) (n:Nat):It:=⟨fun i _=>i<n,fun i H x H'=>H'=H∧x=.int (lo+i),fun i _=>n≤i⟩
theorem a0u {P:Program} {w:World} {K:PySem.W.Frag} {tg:Expr} (a it:Addr):Turn P w K tg (Itl K a) [it] it (fun i h=>h.IsListIter it a i) where
  mem:=by simp
  obj:=fun i h st b hb=>by
    have e:b=it:=by simpa using hb
    subst e
    obtain ⟨o,e,c,d⟩:=st
    exact ⟨o,e,fun v z=>by rw [d] at z; cases z⟩
  keep:=fun i h h' st k=>st.at fun o e=>k it (by simp) o e
  item:=by
    intro X hP hw hK hc i pins s σ H E I hf st hg
    subst hP hw hK
    obtain ⟨xs,x,hq,hx⟩:=hg
    obtain ⟨its,rv,p,hz⟩:=I.list hq
    obtain ⟨u,hu,ru⟩:=rv.get hx
    obtain ⟨f0,f1,f2,f3,f4,f5⟩:=hf it (by simp)
    refine wpAny_pyNext_list_item st p.isList (x:=u) (by simpa using hu) fun h' st' sb=>?_
    have I1:Inv X pins σ H { s with heap:=h' }:=I.turned (t':=s.toks) (fun b o hb e=>(sb.2 b hb).trans e) f0 f1 f3 f4 f5
    obtain ⟨o,e,c,d⟩:=id st'
    exact ⟨u,rfl,a3d (s:={ s with heap:=h' }) e c d (by decide) ⟨x,H,I1,ru,⟨rfl,fun ys hy=>by rw [I.X8 hy hq]; exact hx⟩,st',fun b hb=>(hf b hb).1⟩⟩
  done:=by
    intro X hP hw hK hc i pins s σ H E I hf st hg
    subst hP hw hK
    obtain ⟨xs,hq,hx⟩:=hg
    obtain ⟨its,rv,p,hz⟩:=I.list hq
    obtain ⟨f0,f1,f2,f3,f4,f5⟩:=hf it (by simp)
    have hl:=rv.length
    exact wpAny_pyNext_list_end (I.ok.hd hc) st p.isList (by simp; omega) fun h' eb=>⟨rfl,I.turned (t':=s.toks) (fun b o hb e=>eb b o hb e) f0 f1 f3 f4 f5⟩
  self:=fun _ _ _ _ _ st h=>wpAny_pyIter_listiter st h
theorem Yl {P:Program} {w:World} {K:PySem.W.Frag} {tg:Expr} (a it:Addr):Turn P w K tg (Itt K a) [it] it (fun i h=>h.IsTupleIter it a i) where
  mem:=by simp
  obj:=fun i h st b hb=>by
    have e:b=it:=by simpa using hb
    subst e
    obtain ⟨o,e,c,d⟩:=st
    exact ⟨o,e,fun v z=>by rw [d] at z; cases z⟩
  keep:=fun i h h' st k=>st.at fun o e=>k it (by simp) o e
  item:=by
    intro X hP hw hK hc i pins s σ H E I hf st hg
    subst hP hw hK
    obtain ⟨xs,x,hq,hx⟩:=hg
    obtain ⟨its,rv,p,hz⟩:=I.tuple hq
    obtain ⟨u,hu,ru⟩:=rv.get hx
    obtain ⟨f0,f1,f2,f3,f4,f5⟩:=hf it (by simp)
    refine wpAny_pyNext_tuple_item st (show s.heap.IsTuple a its.toArray from p) (x:=u) (by simpa using hu) fun h' st' sb=>?_
    have I1:Inv X pins σ H { s with heap:=h' }:=I.turned (t':=s.toks) (fun b o hb e=>(sb.2 b hb).trans e) f0 f1 f3 f4 f5
    obtain ⟨o,e,c,d⟩:=id st'
    exact ⟨u,rfl,a3d (s:={ s with heap:=h' }) e c d (by decide) ⟨x,H,I1,ru,⟨rfl,fun ys hy=>by rw [I.Z9 hy hq]; exact hx⟩,st',fun b hb=>(hf b hb).1⟩⟩
  done:=by
    intro X hP hw hK hc i pins s σ H E I hf st hg
    subst hP hw hK
    obtain ⟨xs,hq,hx⟩:=hg
    obtain ⟨its,rv,p,hz⟩:=I.tuple hq
    obtain ⟨f0,f1,f2,f3,f4,f5⟩:=hf it (by simp)
    have hl:=rv.length
    exact wpAny_pyNext_tuple_end (I.ok.hd hc) st (show s.heap.IsTuple a its.toArray from p) (by simp; omega) fun h' eb=>⟨rfl,I.turned (t':=s.toks) (fun b o hb e=>eb b o hb e) f0 f1 f3 f4 f5⟩
  self:=fun _ _ _ _ _ st h=>wpAny_pyIter_tupleiter st h
theorem Xx {P:Program} {w:World} {K:PySem.W.Frag} {tg:Expr} (it:Addr) (lo:Int) (n:Nat):Turn P w K tg (Itr lo n) [it] it (fun i h=>IsRangeIter h it (lo+(i:Nat) * 1) ((n:Int) - (i:Nat)) 1) where
  mem:=by simp
  obj:=fun i h st b hb=>by
    have e:b=it:=by simpa using hb
    subst e
    exact ⟨_,st,fun v z=>by
      have z':Data.fields _=Data.cell v:=z
      cases z'⟩
  keep:=fun i h h' st k=>k it (by simp) _ st
  item:=by
    intro X hP hw hK hc i pins s σ H E I hf st hg
    subst hP hw hK
    obtain ⟨f0,f1,f2,f3,f4,f5⟩:=hf it (by simp)
    have W:=Walks.range (prog:=X.prog) (w:=X.w) (I.ok.hd hc) it lo 1 n
    refine W.item i s _ _ hg st fun v h' tk hv st' kk=>?_
    obtain ⟨t,rfl⟩:=hv
    have I1:Inv X pins σ H { s with heap:=h',toks:=tk }:=I.turned (fun b o hb e=>kk b o (by simpa using hb) e) f0 f1 f3 f4 f5
    refine ⟨_,rfl,a3d (s:={ s with heap:=h',toks:=tk }) (n := "range_iterator") st' rfl rfl (by decide) ⟨.int (lo+i),H,I1,⟨t,?_⟩,⟨rfl,rfl⟩,st',fun b hb=>(hf b hb).1⟩⟩
    rw [Int.mul_one]
  done:=by
    intro X hP hw hK hc i pins s σ H E I hf st hg
    subst hP hw hK
    obtain ⟨f0,f1,f2,f3,f4,f5⟩:=hf it (by simp)
    exact wpAny_pyNext_range_end (I.ok.hd hc) st (by have:n≤i:=hg; omega) fun h' eb=>⟨rfl,I.turned (t':=s.toks) (fun b o hb e=>eb b o hb e) f0 f1 f3 f4 f5⟩
  self:=fun _ _ _ _ _ st h=>wpAny_pyIter_rangeiter st h
end L2
namespace L2
open PySem PySem.Spec PyProof.Rows
section
variable {X:Cx} {tg:Expr}
theorem a2z {pins:List (Addr × Obj)} {σ:St} {H:Hp} {s:Shared} {R:It→Hp→Prop} {E:Value→Shared→Prop} {lo hi:Int} {t u v:Tok} {tk:Nat} (I:Inv X pins σ H s) (h1:-(2 ^ 62)≤lo) (h2:lo<2 ^ 62) (h3:-(2 ^ 62)≤hi) (h4:hi<2 ^ 62)
    (q:R (Itr lo (hi - lo).toNat) H):wpAny (model X.prog X.w) X.A (pyIter (.ref s.heap.objs.size)) (PIE X pins σ tg R) E { s with heap:=s.heap.push { cls:=.type "range",data:=.fields #[.int lo t,.int hi u,.int 1 v] },toks:=tk }:=by
  refine wpAny_pyIter_range (IsRange.new ..) (small_one h1 h2 h3 h4) ?_
  have I1:Inv X pins σ H { s with heap:=s.heap.push { cls:=.type "range",data:=.fields #[.int lo t,.int hi u,.int 1 v] },toks:=tk }:=I.kept fun b o e=>Heap.get?_push_of_some _ e
  refine ⟨(s.heap.push { cls:=.type "range",data:=.fields #[.int lo t,.int hi u,.int 1 v] }).objs.size,[(s.heap.push { cls:=.type "range",data:=.fields #[.int lo t,.int hi u,.int 1 v] }).objs.size],_,_,H,rfl,
    I1.kept (t':=tk) fun b o e=>Heap.get?_push_of_some _ e,Xx _ lo (hi - lo).toNat,?_,fun b hb=>?_,q⟩
  · have e1:lo+((0:Nat):Int) * 1=lo:=by simp
    have e2:(((hi - lo).toNat:Nat):Int) - ((0:Nat):Int)=Builtin.Range.rangeSize lo hi 1:=by rw [rangeSize_one]; split <;> omega
    show IsRangeIter _ _ (lo+((0:Nat):Int) * 1) ((((hi - lo).toNat:Nat):Int) - ((0:Nat):Int)) 1
    rw [e1,e2]
    exact Heap.get?_push_size _ rfl
  · have e:b=(s.heap.push { cls:=.type "range",data:=.fields #[.int lo t,.int hi u,.int 1 v] }).objs.size:=by simpa using hb
    subst e
    exact I1.a8h (Nat.le_refl _) (I1.hok.fresh (Nat.le_refl _))
def ab8 (ta:TA):TI:=fun σ H R=>ta σ H fun vs H1=>∃ j:Int,vs=[.int j]∧-(2 ^ 62)≤j∧j<2 ^ 62∧R (Itr 0 j.toNat) H1
theorem a2l {a:Expr} {ta:TA} {p pos:Pos} (hg:Gl X "range") (hm:X.mg "range" = none) (ha:PA X [a] ta) (hs:starEach [a] X.env=[(false,eval a X.env)]:=by rfl):PI X tg (.Call (.Name "range" p) [a] [] pos) (ab8 ta):=by
  intro pins s σ H R I h
  refine Call_ (Ng I hg hm boot_range (PyProof.Rows.callWith_type1 (thn (ha pos pins s σ H _ I h) fun us s1 z0=>?_) hs rfl))
  obtain ⟨vs,H1,I1,r1,q1⟩:=z0
  obtain ⟨j,e,q1,q2,q⟩:=q1
  subst e
  cases r1 with
  | cons r rr =>
    cases rr
    obtain ⟨t,rfl⟩:=r
    exact call_range_1 (a2z I1 (by omega) (by omega) q1 q2 (by simpa using q))
def adw (wi:TI) (g:TG) (tb:TS):TS:=fun D σ H=>wi σ H fun J H1=>∃ W:Nat→Nat→St→Hp→Prop,(∃ m,W 0 m σ H1)∧∀ i m σ H,W i m σ H →
  (J.stop i H∧D.nx σ H)∨(J.go i H∧∃ N:St→Hp→Prop,(∀ σ' H',N σ' H'→∃ m',m'<m∧W (i+1) m' σ' H')∧∀ x H',J.yld i H x H'→g x σ H' fun σ2 H2=>tb { D with nx:=N,ct:=N,bk:=D.nx } σ2 H2)
def Rx (fp:List Addr) (h:Heap):List (Addr × Obj):=fp.filterMap fun b=>(h.get? b).map fun o=>(b,o)
theorem Dc {fp:List Addr} {h:Heap} {b:Addr} {o:Obj} (hb:b∈fp) (e:h.get? b=some o):(b,o)∈Rx fp h:=List.mem_filterMap.mpr ⟨b,hb,by rw [e]; rfl⟩
theorem a0i {fp:List Addr} {h:Heap} {p:Addr × Obj} (hp:p∈Rx fp h):p.1∈fp∧h.get? p.1=some p.2:=by
  obtain ⟨b,hb,e⟩:=List.mem_filterMap.mp hp
  cases q:h.get? b with
  | none=>rw [q] at e; cases e
  | some o =>
    rw [q] at e
    have e':(b,o)=p:=Option.some.inj e
    subst e'
    exact ⟨hb,q⟩
theorem Inv.pinned {pins:List (Addr × Obj)} {σ:St} {H:Hp} {s:Shared} {fp:List Addr} (I:Inv X pins σ H s) (hf:∀ b∈fp,T7 X pins H b) (ho:∀ b∈fp,∃ o,s.heap.get? b=some o∧∀ v,o.data≠.cell v):Inv X (pins++Rx fp s.heap) σ H s :=
  I.a0c fun p hp=>(List.mem_append.mp hp).elim (fun z=>I.pin p (List.mem_append_right _ z)) fun z=>by
    obtain ⟨hb,e⟩:=a0i z
    obtain ⟨f0,f1,f2,_⟩:=hf p.1 hb
    obtain ⟨o,e',d⟩:=ho p.1 hb
    rw [e] at e'; cases e'
    exact ⟨e,f0,f1,f2,d⟩
theorem Inv.Ho {pins pl:List (Addr × Obj)} {σ:St} {H:Hp} {s:Shared} (I:Inv X (pins++pl) σ H s):Inv X pins σ H s:=I.a0c fun p hp=>I.pin p (List.mem_append_right _ (List.mem_append_left _ hp))
theorem a9o {iter:Expr} {body:List Stmt} {wi:TI} {g:TG} {tb:TS} {pos:Pos} (hp:PassesOwn (model X.prog X.w) X.A X.env X.xe) (hc:X.calm=true) (hi:PI X tg iter wi) (hg:PG X tg g) (hb:PSs X body tb)
    (hs:∀ x,foldedSetIterable iter X.env x=pure x:=by intro _; rfl):PS X (.For tg iter body [] pos) (adw wi g tb):=by
  intro pins s σ H D I h
  refine wpAny_For (thn (hi pins s σ H _ I h) fun v s1 h1=>thn h1 fun itv s2 h2=>?_) hs
  obtain ⟨it,fp,tn,J,H2,e,I2,T,st2,f2,W,⟨m0,w0⟩,turn⟩:=h2
  subst e
  have stat:∀ {H':Hp},(∀ b∈fp,H' b=none)→∀ b∈fp,T7 X pins H' b:=fun hn b hb=>⟨hn b hb,(f2 b hb).2⟩
  refine codeAny_forLoop_any (fun n s'=>∃ i σ' H',Inv X pins σ' H' s'∧tn i s'.heap∧(∀ b∈fp,H' b=none)∧W i n σ' H') ?_ m0 ⟨0,σ,H2,I2,st2,fun b hb=>(f2 b hb).1,w0⟩
  rintro n s3 ⟨i,σ3,H3,I3,st3,fr3,w3⟩
  rcases turn i n σ3 H3 w3 with ⟨stop,qn⟩ | ⟨go,N,hN,step⟩
  · refine wpAny_passesOwn hp (thn (T.done X rfl rfl rfl hc i pins s3 σ3 H3 X.xe I3 (stat fr3) st3 stop) fun r s4 z0=>?_)
    obtain ⟨hr,I4⟩:=z0
    subst hr
    exact wpAny_execs_nil ⟨σ3,H3,I4,qn⟩
  · refine wpAny_passesOwn hp (thn (T.item X rfl rfl rfl hc i pins s3 σ3 H3 X.xe I3 (stat fr3) st3 go) fun r s4 z0=>?_)
    obtain ⟨u,hr,h4⟩:=z0
    subst hr
    refine wpAny_passesOwn hp (thn h4 fun _ s5 z0=>?_)
    obtain ⟨x,H5,I5,r5,y5,st5,fr5⟩:=z0
    have I5':=I5.pinned (stat fr5) (T.obj _ _ st5)
    refine wpAny_passesOwn hp (thn (hg _ s5 σ3 H5 x u _ I5' r5 (step x H5 y5)) fun _ s6 z0=>?_)
    obtain ⟨σ6,H6,I6,q6⟩:=z0
    refine wpAny_passesOwn hp (thn (hb _ s6 σ6 H6 _ I6 q6) fun f s7 q7=>?_)
    have again:∀ {σ7:St} {H7:Hp},Inv X (pins++Rx fp s5.heap) σ7 H7 s7→N σ7 H7→∃ m,m<n∧∃ i σ' H',Inv X pins σ' H' s7∧tn i s7.heap∧(∀ b∈fp,H' b=none)∧W i m σ' H':=fun {σ7 H7} I7 n7=>by
      obtain ⟨m',hm,w7⟩:=hN σ7 H7 n7
      refine ⟨m',hm,i+1,σ7,H7,I7.Ho,T.keep _ _ _ st5 fun b hb o e=>(I7.pin (b,o) (List.mem_append_right _ (List.mem_append_right _ (Dc hb e)))).1,fun b hb=>?_,w7⟩
      obtain ⟨o,e,d⟩:=T.obj _ _ st5 b hb
      exact (I7.pin (b,o) (List.mem_append_right _ (List.mem_append_right _ (Dc hb e)))).2.1
    cases f with
    | next=>obtain ⟨σ7,H7,I7,n7⟩:=q7; exact again I7 n7
    | cont=>obtain ⟨σ7,H7,I7,n7⟩:=q7; exact again I7 n7
    | brk=>obtain ⟨σ7,H7,I7,q7⟩:=q7; exact ⟨σ7,H7,I7.Ho,q7⟩
    | ret v=>obtain ⟨x7,σ7,H7,I7,r7,q7⟩:=q7; exact ⟨x7,σ7,H7,I7.Ho,r7,q7⟩
end
end L2
namespace L2
open PySem PySem.Spec PyProof.Rows
abbrev R2:=V→V→Hp→VK→Prop
def OpR (X:Cx) (f:Value→Value→Sem Value) (r:R2):Prop :=
  ∀ (pins:List (Addr × Obj)) (s:Shared) (σ:St) (H:Hp) (x y:V) (v u:Value) (Q:VK),Inv X pins σ H s→RelV x v→RelV y u→r x y H Q →
    wpAny (model X.prog X.w) X.A (f v u) (EP X pins σ Q) X.xe s
def UnR (X:Cx) (f:Value→Sem Value) (r:V→Hp→VK→Prop):Prop :=
  ∀ (pins:List (Addr × Obj)) (s:Shared) (σ:St) (H:Hp) (x:V) (v:Value) (Q:VK),Inv X pins σ H s→RelV x v→r x H Q →
    wpAny (model X.prog X.w) X.A (f v) (EP X pins σ Q) X.xe s
def Du (X:Cx) (f:Value) (r:List V→Hp→VK→Prop):Prop :=
  ∀ (pins:List (Addr × Obj)) (s:Shared) (σ:St) (H:Hp) (xs:List V) (us:List Value) (Q:VK),Inv X pins σ H s→Vals xs us→r xs H Q →
    wpAny (model X.prog X.w) X.A (call f us) (EP X pins σ Q) X.xe s
def tOp (r:R2) (ta tb:TE):TE:=fun σ H Q=>ta σ H fun x H1=>tb σ H1 fun y H2=>r x y H2 Q
def tUn (r:V→Hp→VK→Prop) (ta:TE):TE:=fun σ H Q=>ta σ H fun x H1=>r x H1 Q
def rI (C:Int→Int→Prop) (g:Int→Int→V):R2:=fun x y H Q=>∃ i j,x=.int i∧y=.int j∧C i j∧Q (g i j) H
def rI0 (g:Int→Int→V):R2:=fun x y H Q=>∃ i j,x=.int i∧y=.int j∧Q (g i j) H
def rU (g:Int→V):V→Hp→VK→Prop:=fun x H Q=>∃ i,x=.int i∧Q (g i) H
section
variable {X:Cx} {a b c:Expr} {ta tb tc:TE} {pos:Pos}
theorem acf (ha:PE X a ta) (hb:PE X b tb) {pins:List (Addr × Obj)} {s:Shared} {σ:St} {H:Hp} {R:V→V→Hp→Prop} (I:Inv X pins σ H s)
    (h:ta σ H fun x H1=>tb σ H1 fun y H2=>R x y H2) {Q:Value→Shared→Prop} {f:Value→Value→Sem Value}
    (hf:∀ v u s2 x y H2,Inv X pins σ H2 s2→RelV x v→RelV y u→R x y H2→wpAny (model X.prog X.w) X.A (f v u) Q X.xe s2) :
    wpAny (model X.prog X.w) X.A (eval a X.env) (fun v s₁=>wpAny (model X.prog X.w) X.A (eval b X.env) (fun u s₂=>wpAny (model X.prog X.w) X.A (f v u) Q X.xe s₂) X.xe s₁) X.xe s:=by
  refine thn (ha pins s σ H _ I h) fun v s1 z0=>?_
  obtain ⟨x,H1,I1,r1,q1⟩:=z0
  refine thn (hb pins s1 σ H1 _ I1 q1) fun u s2 z0=>?_
  obtain ⟨y,H2,I2,r2,q2⟩:=z0
  exact hf v u s2 x y H2 I2 r1 r2 q2
theorem ab2 {op:Operator} {r:R2} (ho:OpR X (binaryOp op) r) (ha:PE X a ta) (hb:PE X b tb):PE X (.BinOp a op b pos) (tOp r ta tb):=by
  intro pins s σ H Q I h
  exact wpAny_BinOp (acf ha hb I h fun v u s2 x y H2 I2 rx ry q=>ho pins s2 σ H2 x y v u Q I2 rx ry q)
theorem aac {op:UnaryOp} {r:V→Hp→VK→Prop} (ho:UnR X (unaryOp op) r) (ha:PE X a ta):PE X (.UnaryOp op a pos) (tUn r ta):=by
  intro pins s σ H Q I h
  exact UnaryOp_ (thn (ha pins s σ H _ I h) fun v s1 z7=>by obtain ⟨x,H1,I1,r1,q1⟩:=z7; exact ho pins s1 σ H1 x v Q I1 r1 q1)
theorem opI {f:Value→Value→Sem Value} {C:Int→Int→Prop} {g:Int→Int→Int}
    (rule:∀ (i j:Int) (t u:Tok) (s:Shared) (Q:Value→Shared→Prop) (E:Value→Shared→Prop),C i j→Q (.int (g i j) s.toks) { s with toks:=s.toks+1 }→wpAny (model X.prog X.w) X.A (f (.int i t) (.int j u)) Q E s) :
    OpR X f (rI C fun i j=>.int (g i j)):=by
  intro pins s σ H x y v u Q I rx ry h
  obtain ⟨i,j,rfl,rfl,hc,q⟩:=h
  obtain ⟨t,rfl⟩:=rx
  obtain ⟨t',rfl⟩:=ry
  exact rule i j t t' s _ _ hc ⟨.int (g i j),H,I.tok _,⟨_,rfl⟩,q⟩
theorem acv {f:Value→Value→Sem Value} {g:Int→Int→Int}
    (rule:∀ (i j:Int) (t u:Tok) (s:Shared) (Q:Value→Shared→Prop) (E:Value→Shared→Prop),Q (.int (g i j) s.toks) { s with toks:=s.toks+1 }→wpAny (model X.prog X.w) X.A (f (.int i t) (.int j u)) Q E s) :
    OpR X f (rI0 fun i j=>.int (g i j)):=by
  intro pins s σ H x y v u Q I rx ry h
  obtain ⟨i,j,rfl,rfl,q⟩:=h
  obtain ⟨t,rfl⟩:=rx
  obtain ⟨t',rfl⟩:=ry
  exact rule i j t t' s _ _ ⟨.int (g i j),H,I.tok _,⟨_,rfl⟩,q⟩
theorem ad5 {f:Value→Value→Sem Value} {g:Int→Int→Bool}
    (rule:∀ (i j:Int) (t u:Tok) (s:Shared) (Q:Value→Shared→Prop) (E:Value→Shared→Prop),Q (.bool (g i j)) s→wpAny (model X.prog X.w) X.A (f (.int i t) (.int j u)) Q E s) :
    OpR X f (rI0 fun i j=>.bl (g i j)):=by
  intro pins s σ H x y v u Q I rx ry h
  obtain ⟨i,j,rfl,rfl,q⟩:=h
  obtain ⟨t,rfl⟩:=rx
  obtain ⟨t',rfl⟩:=ry
  exact rule i j t t' s _ _ ⟨.bl (g i j),H,I,rfl,q⟩
def adg (i j:Int):Prop:=0≤j∧j≤1000000∧i.natAbs<2 ^ 64
def ac5 (i j:Int):Prop:=(-(2 ^ 64)<i∧i<2 ^ 64)∨(-(2 ^ 64)<j∧j<2 ^ 64)
theorem ac5.ok {i j:Int} (h:ac5 i j):IntMulOk i j:=by
  rcases h with ⟨h1,h2⟩ | ⟨h1,h2⟩
  · exact .of_left (intBits_le_64 h1 h2)
  · exact .of_right (intBits_le_64 h1 h2)
theorem a9n:OpR X (binaryOp .Add) (rI0 fun i j=>.int (i+j)):=acv fun _ _ _ _ _ _ _ q=>add_int q
theorem a8t:OpR X (binaryOp .Sub) (rI0 fun i j=>.int (i - j)):=acv fun _ _ _ _ _ _ _ q=>sub_int q
theorem a8s:OpR X (binaryOp .Mult) (rI ac5 fun i j=>.int (i * j)):=opI fun _ _ _ _ _ _ _ hc q=>mul_int q hc.ok
theorem a8x:OpR X (binaryOp .Mod) (rI (fun _ j=>0<j) fun i j=>.int (i%j)):=opI fun i j _ _ _ _ _ hc q=>by
  have h1:(0:Int)<j:=hc
  exact mod_int' (by omega) (by rw [Int.fmod_eq_emod_of_nonneg i (by omega)]; exact q)
theorem aad:OpR X (binaryOp .Pow) (rI adg fun i j=>.int (i ^ j.toNat)):=opI fun _ _ _ _ _ _ _ hc q=>pow_int_small hc.1 hc.2.1 hc.2.2 q
theorem unI {f:Value→Sem Value} {g:Int→Int}
    (rule:∀ (i:Int) (t:Tok) (s:Shared) (Q:Value→Shared→Prop) (E:Value→Shared→Prop),Q (.int (g i) s.toks) { s with toks:=s.toks+1 }→wpAny (model X.prog X.w) X.A (f (.int i t)) Q E s) :
    UnR X f (rU fun i=>.int (g i)):=by
  intro pins s σ H x v Q I rx h
  obtain ⟨i,rfl,q⟩:=h
  obtain ⟨t,rfl⟩:=rx
  exact rule i t s _ _ ⟨.int (g i),H,I.tok _,⟨_,rfl⟩,q⟩
theorem a5v:UnR X (unaryOp .USub) (rU fun i=>.int (-i)):=unI fun _ _ _ _ _ q=>neg_int q
end
section
variable {X:Cx} {a b c:Expr} {ta tb tc:TE} {pos:Pos}
theorem ace:OpR X (compareOp .Lt) (rI0 fun i j=>.bl (decide (i<j))):=ad5 fun _ _ _ _ _ _ _ q=>lt_int q
theorem abr:OpR X (compareOp .Gt) (rI0 fun i j=>.bl (decide (j<i))):=ad5 fun _ _ _ _ _ _ _ q=>gt_int q
theorem OpR.or {f:Value→Value→Sem Value} {r r':R2} (h:OpR X f r) (h':OpR X f r'):OpR X f (fun x y H Q=>r x y H Q∨r' x y H Q):=by
  intro pins s σ H x y v u Q I rx ry q
  rcases q with q | q
  · exact h pins s σ H x y v u Q I rx ry q
  · exact h' pins s σ H x y v u Q I rx ry q
theorem jj (b:Expr) {op:CmpOp} (h:op≠.In:=by decide) (h2:op≠.NotIn:=by decide):behindInMarks op b=false:=by
  have e1:(op==CmpOp.In)=false:=by cases op <;> first | rfl | exact absurd rfl h
  have e2:(op==CmpOp.NotIn)=false:=by cases op <;> first | rfl | exact absurd rfl h2
  cases b <;> simp [behindInMarks,e1,e2]
theorem a7s {op:CmpOp} {r:R2} (ho:OpR X (compareOp op) r) (ha:PE X a ta) (hb:PE X b tb) (hm:behindInMarks op b=false):PE X (.Compare a [op] [b] pos) (tOp r ta tb):=by
  intro pins s σ H Q I h
  exact wpAny_Compare1 (acf ha hb I h fun v u s2 x y H2 I2 rx ry q=>ho pins s2 σ H2 x y v u Q I2 rx ry q) hm
def a9k (t:TE):TT:=fun σ H Q=>t σ H fun x H'=>∃ k,x=.bl k∧Q k H'
theorem a07 {op:CmpOp} {r:R2} (ho:OpR X (compareOp op) r) (ha:PE X a ta) (hb:PE X b tb) (hm:behindInMarks op b=false):PT X (.Compare a [op] [b] pos) (a9k (tOp r ta tb)):=by
  intro pins s σ H Q I h
  refine wpAny_isTrue_Compare1 (thn (ha pins s σ H _ I h) fun v s1 ⟨x,H1,I1,r1,q1⟩=>thn (hb pins s1 σ H1 _ I1 q1) fun u s2 ⟨y,H2,I2,r2,q2⟩ =>
    thn (ho pins s2 σ H2 x y v u _ I2 r1 r2 q2) fun c s3 ⟨z,H3,I3,r3,k,e,q3⟩=>?_) hm
  subst e
  cases r3
  exact wpAny_truthy_bool ⟨H3,I3,q3⟩
theorem N6:(sizeLine:Nat)<2 ^ 63:=by rw [sizeLine_eq]; decide
theorem Xk:OpR X (binaryOp .Add) (fun x y H Q=>∃ i j,x=.str i∧y=.str j∧i.length+j.length≤sizeLine∧Q (.str (i++j)) H):=by
  intro pins s σ H x y v u Q I rx ry h
  obtain ⟨i,j,rfl,rfl,hz,q⟩:=h
  obtain ⟨t,rfl⟩:=rx
  obtain ⟨t',rfl⟩:=ry
  exact add_str (fun t' tk=>⟨.str (i++j),H,I.tok _,⟨_,rfl⟩,q⟩) hz
theorem vals1 {x:V} {us:List Value} (r:Vals [x] us):∃ u,us=[u]∧RelV x u:=by
  cases r with
  | cons r1 r2=>cases r2; exact ⟨_,rfl,r1⟩
end
end L2
namespace L2
open PySem PySem.Spec PyProof.Rows
structure ach (h:Heap) (x dx C:Addr) (mA:Str→Option Value):Prop where
  obj:h.get? x=some (PySem.W.instObj C dx)
  ns:h.Ns1 dx mA
  ne:dx≠x
theorem a1r {h:Heap} {dx:Addr} {mA:Str→Option Value} (n:h.Ns1 dx mA):∃ od,h.get? dx=some od∧∀ name,PySem.W.lookIn name od=some (mA name):=by
  obtain ⟨o,es,ep,ho,hd,hk,_,hm⟩:=n
  refine ⟨o,ho,fun name=>?_⟩
  have e:=hm name
  unfold nsFind findBy at e
  rw [← Array.find?_toList] at e
  unfold PySem.W.lookIn
  rw [hd]
  dsimp only
  split
  · rename_i y q
    rw [q] at e
    exact congrArg some e
  · rename_i q
    rw [q] at e
    have a:es.toList.any (·.refKey)=false:=by
      rw [List.any_eq_false]
      intro y hy
      obtain ⟨z,t,hkey⟩:=hk y (Array.mem_toList_iff.mp hy)
      simp [DictEntry.refKey,hkey]
    have a':¬ es.toList.any (·.refKey)=true:=by rw [a]; exact Bool.false_ne_true
    rw [if_neg a']
    exact congrArg some e
theorem ach.look {h:Heap} {x dx C:Addr} {mA:Str→Option Value} (I:ach h x dx C mA):∃ od,PySem.W.InstAt h x (PySem.W.instObj C dx) C (some od)∧∀ name,PySem.W.lookIn name od=some (mA name) :=
  let ⟨od,ho,hl⟩:=a1r I.ns
  ⟨od,⟨I.obj,rfl,rfl,ho⟩,hl⟩
section
variable {prog:Program} {w:World} {A:Around} {E:Value→Shared→Prop} {s:Shared} {K:PySem.W.Frag} {x dx C f:Addr} {mA:Str→Option Value} {name:Str} {v:Value}
end
theorem Mr.some_of {v:V} {o:Option Value} (r:Mr (some v) o):∃ u,o=some u∧RelV v u:=by
  cases o with
  | none=>exact (show False from r).elim
  | some u=>exact ⟨u,rfl,r⟩
theorem Mr.none_of {o:Option Value} (r:Mr none o):o=none:=by
  cases o with
  | none=>rfl
  | some u=>exact (show False from r).elim
section
variable {P:Program} {w:World} {H H':Hp} {h h':Heap} {a C dx:Addr} {fs fs':List (Str × V)}
theorem a7c (hok:HOk P w H h) (e:H a=some (.ins C dx fs)):∃ mA,ach h a dx C mA∧(∀ f,Mr (fs.lookup f) (mA f))∧PySem.Within mA (fs.map (·.1))∧fs.length≤1000∧H dx=some (.own a):=by
  obtain ⟨d,z,ne,ob,mA,n,r,q⟩:=(show vg P w H h a (.ins C dx fs) from hok a _ e)
  exact ⟨mA,⟨ob,n,ne⟩,r,q,z,d⟩
end
structure Cls (K:PySem.W.Frag) (C:Addr):Prop where
  pg:PySem.W.plainGet K C Str.empty=true
  hd:PySem.W.hasDictIn K C=true
  po:PySem.W.plainOver K C=true
  sa:PySem.W.findIn K (.ref C) "__setattr__" = some (some (.builtin "object.__setattr__"))
theorem Cls.get {K:PySem.W.Frag} {C:Addr} (c:Cls K C) (f:Str):PySem.W.plainGet K C f=true:=c.pg
structure Con (K:PySem.W.Frag) (C:Addr) (f:Str) (v:V) (u:Value):Prop where
  at_:PySem.W.findIn K (.ref C) f=some (some u)
  rel:RelV v u
  get:PySem.W.specialIn K u "__get__" = some none
  cp:PySem.W.copiedNames.contains f=false
structure Meth (K:PySem.W.Frag) (C:Addr) (m:Str) (f:Addr):Prop where
  at_:PySem.W.findIn K (.ref C) m=some (some (.ref f))
  fn:PySem.W.isFn K (.ref f)=true
  kp:PySem.W.keepIn K (.ref f)=true
section
variable {X:Cx} {pins:List (Addr × Obj)} {σ:St} {H:Hp} {s:Shared} {a C dx:Addr} {fs:List (Str × V)} {f:Str} {v:V} {A:Around} {E:Value→Shared→Prop}
end
section
variable {X:Cx} {o e value:Expr} {f:Str} {pos pos' tpos:Pos} {ta tv:TE}
end
section
variable {X:Cx} {pins:List (Addr × Obj)} {σ:St} {H:Hp} {s:Shared} {A:Around} {E:Value→Shared→Prop} {Q:Value→Shared→Prop} {c:Value} {b:Bool}
inductive Yx (K:PySem.W.Frag) (H:Hp):V→Value→Prop where
  | non:Yx K H .non (.type "NoneType")
  | bl (x:Bool):Yx K H (.bl x) (.type "bool")
  | int (i:Int):Yx K H (.int i) (.type "int")
  | str (x:Str):Yx K H (.str x) (.type "str")
  | flt (x:UInt64):Yx K H (.flt x) (.type "float")
  | lst {a:Addr} {xs:List V} (e:H a=some (.lst xs)):Yx K H (.ref a) (.type "list")
  | frz {a:Addr} {o:Obj} {xs:List V} (e:H a=some (.frz o (.lst xs))):Yx K H (.ref a) (.type "list")
  | tup {a:Addr} {xs:List V} (e:H a=some (.tup xs)):Yx K H (.ref a) (.type "tuple")
  | dK {a:Addr} {kvs:List (Key × V)} (e:H a=some (.dK kvs)):Yx K H (.ref a) (.type "dict")
  | dT {a:Addr} {kvs:List (List Key × V)} (e:H a=some (.dT kvs)):Yx K H (.ref a) (.type "dict")
  | ins {a C dx:Addr} {fs:List (Str × V)} (e:H a=some (.ins C dx fs)) (cl:Cls K C) (ha:PySem.W.findIn K (.ref C) "__class__" = some (some (.builtin "object.__class__")))
      (hn:PySem.W.specialIn K (.builtin "object.__class__") "__get__" = some (some (.builtin "getset_descriptor.__get__"))) (htk:PySem.W.takesIn K (.builtin "object.__class__")=some true)
      (hm:PySem.W.mroIn K C (.type "object")=some true):Yx K H (.ref a) (.ref C)
theorem Hg {x:V} {u t:Value} (I:Inv X pins σ H s) (rx:RelV x u) (ty:Yx X.K H x t) (e:PySem.W.kitOne X.K t c=some b) (h:∀ tk,Q (.bool b) { s with toks:=tk }) :
    wpAny (model X.prog X.w) A (call (.builtin "isinstance") [u,c]) Q E s:=by
  cases ty with
  | non=>cases (show u=Value.none from rx); exact PySem.W.kia_one PySem.W.kitx_none I.kIn True.intro e (fun z=>nomatch z) h
  | bl y=>cases (show u=Value.bool y from rx); exact PySem.W.kia_one PySem.W.kitx_bool I.kIn True.intro e (fun z=>nomatch z) h
  | int i=>obtain ⟨t,q⟩:=(show ∃ t,u=Value.int i t from rx); cases q; exact PySem.W.kia_one PySem.W.kitx_int I.kIn True.intro e (fun z=>nomatch z) h
  | str y=>obtain ⟨t,q⟩:=(show ∃ t,u=Value.str y t from rx); cases q; exact PySem.W.kia_one PySem.W.kitx_str I.kIn True.intro e (fun z=>nomatch z) h
  | flt y=>obtain ⟨t,q⟩:=(show ∃ t,u=Value.float y t from rx); cases q; exact PySem.W.kia_one PySem.W.kitx_float I.kIn True.intro e (fun z=>nomatch z) h
  | @lst a xs ea =>
    cases (show u=Value.ref a from rx)
    obtain ⟨_,_,n,_,h1⟩:=(show vg X.prog X.w H s.heap a (.lst xs) from I.hok a _ ea)
    exact PySem.W.kia_one PySem.W.kitx_list I.kIn ⟨_,h1,rfl⟩ e (fun z=>nomatch z) h
  | @frz a ob xs ea =>
    cases (show u=Value.ref a from rx)
    obtain ⟨_,_,_,n,_,h1⟩:=(show vg X.prog X.w H s.heap a (.frz ob (.lst xs)) from I.hok a _ ea)
    exact PySem.W.kia_one PySem.W.kitx_list I.kIn ⟨_,h1,rfl⟩ e (fun z=>nomatch z) h
  | @tup a xs ea =>
    cases (show u=Value.ref a from rx)
    obtain ⟨_,_,_,p⟩:=(show vg X.prog X.w H s.heap a (.tup xs) from I.hok a _ ea)
    obtain ⟨o,h1,h2,_⟩:=p
    exact PySem.W.kia_one PySem.W.kitx_tuple I.kIn ⟨o,h1,h2⟩ e (fun z=>nomatch z) h
  | @dK a kvs ea =>
    cases (show u=Value.ref a from rx)
    obtain ⟨_,_,vs,_,p⟩:=(show vg X.prog X.w H s.heap a (.dK kvs) from I.hok a _ ea)
    obtain ⟨o,es,ep,h1,h2,_⟩:=p
    exact PySem.W.kia_one PySem.W.kitx_dict I.kIn ⟨o,h1,h2.1⟩ e (fun z=>nomatch z) h
  | @dT a kvs ea =>
    cases (show u=Value.ref a from rx)
    obtain ⟨_,_,xs,_,o,es,ep,h1,h2,_⟩:=(show vg X.prog X.w H s.heap a (.dT kvs) from I.hok a _ ea)
    exact PySem.W.kia_one PySem.W.kitx_dict I.kIn ⟨o,h1,h2.1⟩ e (fun z=>nomatch z) h
  | @ins a C dx fs ea cl ha hn htk hm =>
    cases (show u=Value.ref a from rx)
    obtain ⟨mA,O,_⟩:=a7c I.hok ea
    obtain ⟨od,J,_⟩:=O.look
    exact PySem.W.kia_one (PySem.W.kitx_own (cl.get _) cl.hd ha hn htk hm) I.kIn J e (fun z=>nomatch z) h
end
end L2
namespace L2
open PySem PySem.Spec PyProof.Rows
structure Kv (k:Nat) (A:Around):Prop where
  hd:A.handled=none
  dp:A.depth+3 * k+5<recursionLimit
  un:A.units+16 * k+200<cLine
theorem Kv.mono {j k:Nat} {A:Around} (r:Kv k A) (h:j≤k):Kv j A:=⟨r.hd,by have:=r.dp; omega,by have:=r.un; omega⟩
theorem Kv.deeper {k:Nat} {A:Around} (r:Kv (k+1) A) (env:Env):Kv k (A.deeper env) :=
  ⟨r.hd,by have:=r.dp; show A.depth+1+3 * k+5<_; omega,by have:=r.un; show A.units+3+16 * k+200<_; omega⟩
theorem Kv.depth {k:Nat} {A:Around} (r:Kv k A):A.depth<recursionLimit:=by have:=r.dp; omega
theorem Kv.units {k:Nat} {A:Around} (r:Kv k A):A.units+64<cLine:=by have:=r.un; omega
def Xm:TA:=fun _ H Q=>Q [] H
def Ii (ta:TE) (tr:TA):TA:=fun σ H Q=>ta σ H fun x H1=>tr σ H1 fun xs H2=>Q (x::xs) H2
section
variable {X:Cx} {e:Expr} {es:List Expr} {te:TE} {t:TA} {pos:Pos}
theorem qz:PA X [] Xm:=fun _ _ _ _ H Q I h=>Calls.spliced_nil ⟨[],H,I,.nil,h⟩
theorem jr (ha:PE X e te) (hr:PA X es t) (hs:starEach (e::es) X.env=(false,eval e X.env)::starEach es X.env:=by rfl):PA X (e::es) (Ii te t):=by
  intro pos pins s σ H Q I h
  rw [hs]
  show wpAny _ _ (spliced ((false,eval e X.env)::backTo pos (starEach es X.env))) _ _ s
  refine Calls.spliced_cons (thn (ha pins s σ H _ I h) fun u s1 z0=>?_)
  obtain ⟨x,H1,I1,r1,q1⟩:=z0
  exact thn (hr pos pins s1 σ H1 _ I1 q1) fun us s2 ⟨xs,H2,I2,r2,q2⟩=>⟨x::xs,H2,I2,.cons r1 r2,q2⟩
def ado (t:TA):TE:=fun σ H Q=>t σ H fun xs H1=>xs.length≤sizeLine∧∀ p,H1 p=none→Q (.ref p) (upd H1 p (.tup xs))
def aco (t:TA):TE:=fun σ H Q=>t σ H fun xs H1=>xs.length≤sizeLine∧∀ p,H1 p=none→Q (.ref p) (upd H1 p (.lst xs))
theorem a8z {x1} (h:PA X es t):PE X (.Tuple es x1 pos) (ado t):=by
  intro pins s σ H Q I hq
  refine wpAny_Tuple_spliced (thn (h pos pins s σ H _ I hq) fun us s1 ⟨xs,H1,I1,r,z,q⟩=>⟨by rw [← r.length]; exact z,?_⟩)
  have hf:H1 s1.heap.objs.size=none:=I1.hok.fresh (Nat.le_refl _)
  refine ⟨.ref s1.heap.objs.size,upd H1 s1.heap.objs.size (.tup xs),I1.laid (t':=s1.toks) (fun b u e=>Heap.get?_push_of_some _ e) (Nat.le_refl _) ?_,rfl,q _ hf⟩
  exact ⟨z,us,r,⟨_,Heap.get?_push_size _ rfl,rfl,rfl,_,rfl⟩⟩
theorem Ww (h:PA X es t):PE X (.List es pos) (aco t):=by
  intro pins s σ H Q I hq
  refine wpAny_List_spliced (thn (h pos pins s σ H _ I hq) fun us s1 ⟨xs,H1,I1,r,z,q⟩=>⟨by rw [← r.length]; exact z,?_⟩)
  have hf:H1 s1.heap.objs.size=none:=I1.hok.fresh (Nat.le_refl _)
  refine ⟨.ref s1.heap.objs.size,upd H1 s1.heap.objs.size (.lst xs),I1.laid (t':=s1.toks) (fun b u e=>Heap.get?_push_of_some _ e) (Nat.le_refl _) ?_,rfl,q _ hf⟩
  exact ⟨z,us,0,r,Heap.get?_push_size _ rfl⟩
end
abbrev Sp:=List V→Hp→VK→XK→Prop
abbrev CXT:=List Env→Hp→Shared→XK→Value→Shared→Prop
structure aay (P:Program) (w:World) (K:PySem.W.Frag) (mg:Str→Option Value) (base:Heap) (A:Around) (outer:List Env) (s:Shared) (H:Hp):Prop where
  frames:A.frames=some outer
  mod:Mod K mg base
  bs:∀ b o,base.get? b=some o→s.heap.get? b=some o∧H b=none
  bsz:base.objs.size≤s.heap.objs.size
  Yw:s.heap.FunFrames base outer
  frf:∀ b∈frs outer,H b=none
  hok:HOk P w H s.heap
  bare:AllBare s.gens
def CE (outer:List Env) (P:Program) (w:World) (H:Hp) (s:Shared) (Q:VK) (u:Value) (s':Shared):Prop :=
  ∃ v H',s'.os=s.os∧AllBare s'.gens∧Un (frs outer) [] H H' s.heap s'.heap∧HOk P w H' s'.heap∧RelV v u∧Q v H'
def CR (CX:CXT) (outer:List Env) (P:Program) (w:World) (H:Hp) (s:Shared) (Q:VK) (E:XK) (r:Result) (s':Shared):Prop :=
  match r with
  | .ok (.ret u)=>CE outer P w H s Q u s'
  | .ok _=>False
  | .error e=>CX outer H s E e s'
structure Bf (P:Program) (w:World) (K:PySem.W.Frag) (mg:Str→Option Value) (base:Heap) (CX:CXT) (k:Nat) (f:Addr) (fd:FuncData) (ps:List Str) (sp:Sp):Prop where
  len:∀ vs H Q E,sp vs H Q E→vs.length=ps.length
  run:∀ (A:Around) (outer:List Env) (s:Shared) (H:Hp) (args:Args) (us:List Value) (vs:List V) (Q:VK) (E:XK),Kv k A→aay P w K mg base A outer s H→BindsTo s fd args (ps.zip us)→Vals vs us→sp vs H Q E →
    codeAny (model P w) A (.call (.ref f) args) (CR CX outer P w H s Q E) s
theorem Bf.mono {P:Program} {w:World} {K:PySem.W.Frag} {mg:Str→Option Value} {base:Heap} {CX:CXT} {j k:Nat} {f:Addr} {fd:FuncData} {ps:List Str} {sp:Sp} (F:Bf P w K mg base CX j f fd ps sp) (h:j≤k) :
    Bf P w K mg base CX k f fd ps sp:=⟨F.len,fun A outer s H args us vs Q E hr=>F.run A outer s H args us vs Q E (hr.mono h)⟩
theorem Bf.imp {P:Program} {w:World} {K:PySem.W.Frag} {mg:Str→Option Value} {base:Heap} {CX:CXT} {k:Nat} {f:Addr} {fd:FuncData} {ps:List Str} {sp sp':Sp} (F:Bf P w K mg base CX k f fd ps sp)
    (h:∀ vs H Q E,sp' vs H Q E→sp vs H Q E):Bf P w K mg base CX k f fd ps sp' :=
  ⟨fun vs H Q E q=>F.len vs H Q E (h _ _ _ _ q),fun A outer s H args us vs Q E hr he hb hv hs=>F.run A outer s H args us vs Q E hr he hb hv (h _ _ _ _ hs)⟩
section
variable {X:Cx} {pins:List (Addr × Obj)} {σ:St} {H:Hp} {s s':Shared}
theorem Inv.env0 (I:Inv X pins σ H s):aay X.prog X.w X.K X.mg X.base X.A X.stack s H :=
  ⟨I.ok.frames,I.ok.mod,I.bs,Nat.le_trans I.ok.bsz I.sz,I.stack,I.Z2,I.hok,I.bare⟩
theorem Inv.after {Q:VK} {u:Value} (I:Inv X pins σ H s) (h:CE X.stack X.prog X.w H s Q u s'):EP X pins σ Q u s':=by
  obtain ⟨v,H',os,bare,un,hok,r,q⟩:=h
  obtain ⟨hh,g,d,t,os'⟩:=s'
  obtain rfl:os'=s.os:=os
  exact ⟨v,H',I.call (h':=hh) (g':=g) (d':=d) (t':=t) (ch:=[]) un hok bare (fun b z=>absurd z (by simp)),r,q⟩
end
def abj (sp:Sp) (dvs:List V) (E:XK) (t:TA):TE:=fun σ H Q=>t σ H fun vs H1=>sp (vs++dvs) H1 Q E
def Binds (K:PySem.W.Frag) (fd:FuncData) (ps:List Str) (ds:List Value):Prop :=
  ∀ (s:Shared) (us:List Value),K.In s.heap→(us++ds).length=ps.length→BindsTo s fd ⟨us,[]⟩ (ps.zip (us++ds))
theorem Binds.all {K:PySem.W.Frag} {fd:FuncData} {ps:List Str} (h:∀ us:List Value,us.length=ps.length→bindArgs fd ⟨us,[]⟩=pure (ps.zip us)):Binds K fd ps []:=fun s us _ hl=>by
  rw [List.append_nil] at hl ⊢
  exact .of_eq (h us hl)
def Passes (CX:CXT) (X:Cx) (E:XK):Prop:=∀ (pins:List (Addr × Obj)) (σ:St) (H:Hp) (s:Shared) (e:Value) (s':Shared),Inv X pins σ H s→CX X.stack H s E e s'→X.xe e s'
section
variable {X:Cx} {CX:CXT} {k:Nat} {f C:Addr} {fd:FuncData} {ps:List Str} {sp:Sp} {dvs:List V} {ds:List Value} {E:XK} {x m:Str} {p pos apos:Pos} {e o:Expr} {es:List Expr} {ta:TE} {t:TA}
theorem aau {pins:List (Addr × Obj)} {σ:St} {H:Hp} {s:Shared} {Q:VK} {us:List Value} {vs:List V} (F:Bf X.prog X.w X.K X.mg X.base CX k f fd ps sp) (hr:Kv k X.A) (hb:Binds X.K fd ps ds) (hd:Vals dvs ds) (hx:Passes CX X E)
    (I:Inv X pins σ H s) (r:Vals vs us) (h:sp (vs++dvs) H Q E):wpAny (model X.prog X.w) X.A (call (.ref f) us) (EP X pins σ Q) X.xe s:=by
  have r2:Vals (vs++dvs) (us++ds):=r.append hd
  have hl:(us++ds).length=ps.length:=by rw [← r2.length]; exact F.len _ _ _ _ h
  refine wpAny_call (codeAny_mono (F.run X.A X.stack s H ⟨us,[]⟩ (us++ds) (vs++dvs) Q E hr I.env0 (hb s us I.kIn hl) r2 h) fun r s' hq=>?_)
  cases r with
  | error e=>exact hx pins σ H s e s' I hq
  | ok fl =>
    cases fl with
    | ret u=>exact I.after hq
    | next=>exact False.elim hq
    | brk=>exact False.elim hq
    | cont=>exact False.elim hq
theorem Zy (F:Bf X.prog X.w X.K X.mg X.base CX k f fd ps sp) (hr:Kv k X.A) (hg:Gl X x) (hm:X.mg x=some (.ref f)) (hk:PySem.W.keepIn X.K (.ref f)=true) (hb:Binds X.K fd ps ds) (hd:Vals dvs ds) (hx:Passes CX X E)
    (ha:PA X (e::es) t) (hdb:(x==("__debug__" : Str))=false:=by decide) (he:starEach (e::es) X.env=(false,eval e X.env)::starEach es X.env:=by rfl) (hpl:(backTo pos (starEach es X.env)).any (·.1)=false:=by rfl) :
    PE X (.Call (.Name x p) (e::es) [] pos) (abj sp dvs E t):=by
  intro pins s σ H Q I h
  refine wpAny_Call_Name_kw (a8a I hg hm ?_ hdb)
  refine PySem.W.callWith_K (h₀:=X.base) I.ok.mod.kin hk (thn (ha pos pins s σ H _ I h) fun us s1 ⟨vs,H1,I1,r,q⟩=>⟨I1.kIn,?_⟩) he hpl
  exact aau F hr hb hd hx I1 r q
structure Mk (K:PySem.W.Frag) (C f:Addr):Prop where
  makes:PySem.W.makesIn K C=true
  init:PySem.W.findIn K (.ref C) "__init__" = some (some (.ref f))
  fn:PySem.W.isFn K (.ref f)=true
  kp:PySem.W.keepIn K (.ref C)=true
end
section
variable {X:Cx} {CX:CXT} {k:Nat} {f C:Addr} {fd:FuncData} {ps ks:List Str} {sp:Sp} {E:XK} {x m:Str} {p pos apos kpos:Pos} {e o:Expr} {es:List Expr} {kws:List Keyword} {te ta:TE} {t tk:TA} {nm:Option Str}
structure ad3 (K:PySem.W.Frag) (fd:FuncData) (ps ks:List Str) (g:List Value→List Value→List Value) (gV:List V→List V→List V):Prop where
  to:∀ (s:Shared) (us ws:List Value),K.In s.heap→(g us ws).length=ps.length→BindsTo s fd ⟨us,ks.zip ws⟩ (ps.zip (g us ws))
  rel:∀ {vs:List V} {us:List Value} {zs:List V} {ws:List Value},Vals vs us→Vals zs ws→Vals (gV vs zs) (g us ws)
variable {g:List Value→List Value→List Value} {gV:List V→List V→List V}
end
structure jg (N P:List Str) (sc:Scope):Prop where
  kind:sc.kind=.function
  co:sc.isCoroutine=false
  gen:sc.isGenerator=false
  nd:N.Nodup
  pre:N.take P.length=P
  par:∀ x∈P,sc.names.lookup x=some .local∨sc.names.lookup x=some .cell
  nofree:∀ y∈sc.names,y.2≠.free
theorem Rf {kindOf:Str→Option NameKind} {x:Str}:∀ {binds:List (Str × Value)} {m:Str→Option Value},(∀ v,(x,v)∉binds)→bindL kindOf binds m x=m x
  | [],_,_=>rfl
  | (n,v)::r,m,h=>by
    unfold bindL
    rw [Rf fun w hw=>h w (List.mem_cons_of_mem _ hw)]
    split
    · have:x≠n:=by rintro rfl; exact h v List.mem_cons_self
      simp [this]
    · rfl
theorem Sx {kindOf:Str→Option NameKind} {x:Str}:∀ {binds:List (Str × Value)} {m:Str→Option Value},(∀ v,(x,v)∉binds)→bindC kindOf binds m x=m x
  | [],_,_=>rfl
  | (n,v)::r,m,h=>by
    unfold bindC
    rw [Sx fun w hw=>h w (List.mem_cons_of_mem _ hw)]
    split
    · rfl
    · have:x≠n:=by rintro rfl; exact h v List.mem_cons_self
      simp [this]
theorem Qh {kindOf:Str→Option NameKind} {x:Str} {v:Value}:∀ {P:List Str} {vs:List Value} {i:Nat} {m:Str→Option Value},P.Nodup→P[i]? = some x→vs[i]? = some v→kindOf x=some .local →
    bindL kindOf (P.zip vs) m x=some v
  | [],_,_,_,_,h,_,_=>by simp at h
  | _::_,[],_,_,_,_,h,_=>by simp at h
  | p::P,w::vs,0,m,nd,h1,h2,hk=>by
    simp at h1 h2; subst h1; subst h2
    show bindL kindOf ((p,w)::P.zip vs) m p=_
    unfold bindL
    rw [Rf fun v hv=>(List.nodup_cons.mp nd).1 (List.of_mem_zip hv).1,if_pos hk]
    simp
  | p::P,w::vs,i+1,m,nd,h1,h2,hk=>by
    show bindL kindOf ((p,w)::P.zip vs) m x=_
    unfold bindL
    exact Qh (i:=i) (List.nodup_cons.mp nd).2 (by simpa using h1) (by simpa using h2) hk
theorem Ss {kindOf:Str→Option NameKind} {x:Str} {v:Value}:∀ {P:List Str} {vs:List Value} {i:Nat} {m:Str→Option Value},P.Nodup→P[i]? = some x→vs[i]? = some v→kindOf x≠some .local →
    bindC kindOf (P.zip vs) m x=some v
  | [],_,_,_,_,h,_,_=>by simp at h
  | _::_,[],_,_,_,_,h,_=>by simp at h
  | p::P,w::vs,0,m,nd,h1,h2,hk=>by
    simp at h1 h2; subst h1; subst h2
    show bindC kindOf ((p,w)::P.zip vs) m p=_
    unfold bindC
    rw [Sx fun v hv=>(List.nodup_cons.mp nd).1 (List.of_mem_zip hv).1,if_neg hk]
    simp
  | p::P,w::vs,i+1,m,nd,h1,h2,hk=>by
    show bindC kindOf ((p,w)::P.zip vs) m x=_
    unfold bindC
    exact Ss (i:=i) (List.nodup_cons.mp nd).2 (by simpa using h1) (by simpa using h2) hk
def start (N:List Str) (vs:List V):St:=vs.map some++List.replicate (N.length - vs.length) none
def a5z (CX:CXT) (P:Program) (w:World) (K:PySem.W.Frag) (mg:Str→Option Value) (base:Heap) (N:List Str) (qual:Str) (scope:Scope) (f:Addr) (cd:Value) (A:Around) (outer:List Env) (s:Shared) (H:Hp) (E:XK):Cx where
  prog:=P
  w:=w
  K:=K
  mg:=mg
  base:=base
  A:=A.deeper (envOfC qual scope s.heap.objs.size f cd)
  N:=N
  s₀:=s
  H₀:=H
  env:=envOfC qual scope s.heap.objs.size f cd
  outer:=outer
  stack:=envOfC qual scope s.heap.objs.size f cd::outer
  ex:=[]
  calm:=true
  fn:=fun _=>true
  pn:=[]
  xe:=fun e s'=>wpAny (model P w) (A.deeper (envOfC qual scope s.heap.objs.size f cd)) (leaving (envOfC qual scope s.heap.objs.size f cd) e) (fun _ s''=>CX outer H s E e s'') (fun e' s''=>CX outer H s E e' s'') s'
theorem Vv {sc:Scope} {n:Nat} {x:Str} (h:sc.names.lookup x=some .cell):∃ c,(cellsFrom n sc.names []).lookup x=some c:=by
  have q:=PySem.W.cellsFrom_some sc.names n [] (.inl h)
  exact Option.isSome_iff_exists.mp q
theorem a0l {CX:CXT} {P:Program} {w:World} {K:PySem.W.Frag} {mg:Str→Option Value} {base:Heap} {N ps:List Str} {qual:Str} {scope:Scope} {f:Addr} {cd:Value} {A:Around} {outer:List Env} {s s1:Shared} {H:Hp} {E:XK} {us:List Value} {vs:List V}
    (S:jg N ps scope) (hd:A.handled=none) (e0:aay P w K mg base A outer s H) (hl:vs.length=ps.length) (r:Vals vs us)
    (x:InCallC s s.heap.objs.size (bindL (envOfC qual scope s.heap.objs.size f cd).kindOf (ps.zip us) fun _=>none) (cellsFrom (s.heap.objs.size+1) scope.names []) (bindC (envOfC qual scope s.heap.objs.size f cd).kindOf (ps.zip us) fun _=>none) s1) :
    Inv (a5z CX P w K mg base N qual scope f cd A outer s H E) [] (start N vs) H s1:=by
  have hpl:ps.length≤N.length:=by have:=congrArg List.length S.pre; rw [List.length_take] at this; omega
  obtain ⟨h1,tk,rfl,hk⟩:=x.done
  have noA:∀ b:Addr,b∉(a5z CX P w K mg base N qual scope f cd A outer s H E).ex:=fun b z=>absurd (show b∈([]:List Addr) from z) (by simp)
  refine ⟨⟨e0.mod,S.kind,rfl,rfl,Nat.le_refl _,fun y z c h1 h2=>?_,fun y hy=>?_,fun y c _ h=>?_,fun _=>hd,Around.frames_deeper e0.frames,.inr ⟨rfl,rfl⟩,fun b z=>absurd z (noA b),e0.bs,e0.bsz,fun b _ _=>noA b,fun b z=>absurd z (noA b),e0.Yw,e0.frf⟩,
    rfl,e0.bare,Un.kept hk,⟨_,x.toInCall.ns,fun i y v h1 h2 h3=>?_⟩,fun y c h=>⟨_,x.cell y c h⟩,e0.hok.fresh (Nat.le_refl _),fun y c h=>?_,fun p hp=>absurd (show p∈([]:List (Addr × Obj)) from hp) (by simp),e0.hok.kept hk,?_⟩
  · exact name_of_addr x.apart (PySem.mem_of_lookup h1) (PySem.mem_of_lookup h2)
  · have hy:scope.names.lookup y=some .cell∨scope.names.lookup y=some .free:=hy
    rcases hy with hy | hy
    · exact Vv hy
    · exact absurd rfl (S.nofree _ (PySem.mem_of_lookup hy))
  · exact Nat.le_of_lt (x.above y c (PySem.mem_of_lookup h))
  · have hi:i<vs.length:=by
      unfold start at h2
      by_cases hi:i<vs.length
      · exact hi
      · rw [List.getElem?_append_right (by simpa using hi)] at h2
        rw [List.getElem?_replicate] at h2
        split at h2 <;> cases h2
    have ha:vs[i]? = some v:=by
      unfold start at h2
      rw [List.getElem?_append_left (by simpa using hi),List.getElem?_map] at h2
      cases e:vs[i]? with
      | none=>rw [e] at h2; cases h2
      | some a=>rw [e] at h2; cases h2; rfl
    obtain ⟨u,hu,rv⟩:=r.get ha
    have hp:ps[i]? = some y:=by
      rw [← S.pre,List.getElem?_take_of_lt (by omega)]; exact h1
    have ndP:ps.Nodup:=by rw [← S.pre]; exact S.nd.sublist (List.take_sublist _ _)
    refine ⟨u,rv,?_⟩
    rcases S.par y (List.mem_of_getElem? hp) with k | k
    · exact .inl ⟨k,Qh ndP hp hu k⟩
    · obtain ⟨c,e⟩:=Vv (n:=s.heap.objs.size+1) k
      refine .inr ⟨.inl k,c,e,?_⟩
      have q:=x.cell y c e
      rw [Ss ndP hp hu (by show scope.names.lookup y≠_; rw [k]; decide)] at q
      exact q
  · exact e0.hok.fresh (Nat.le_of_lt (x.above y c (PySem.mem_of_lookup h)))
  · unfold start
    show _=N.length
    rw [List.length_append,List.length_map,List.length_replicate]
    omega
theorem ab3 {CX:CXT} {P:Program} {w:World} {K:PySem.W.Frag} {mg:Str→Option Value} {base:Heap} {k:Nat} {f:Addr} {name qual:Str} {params:Arguments} {body:List Stmt} {scope:Scope} {dV kV doc pm cdv ct oc:Value} {an od:Option Addr}
    {osl:Array (Option Value)} {N ps:List Str} {sp:Sp} (lk:K.lookup f=some ⟨oc,od,.func (PySem.W.fnOf name qual params body scope dV kV doc pm an cdv ct),osl⟩) (hcd:PySem.W.codeIn K cdv qual=true) (S:jg N ps scope)
    (len:∀ vs H Q E,sp vs H Q E→vs.length=ps.length)
    (hbody:∀ (A:Around) (outer:List Env) (s:Shared) (H:Hp) (vs:List V) (Q:VK) (E:XK),Kv k (A.deeper (envOfC qual scope s.heap.objs.size f cdv))→sp vs H Q E →
      ∃ t,PSs (a5z CX P w K mg base N qual scope f cdv A outer s H E) body t∧t { nx:=fun _ H'=>Q .non H',rt:=Q } (start N vs) H) :
    Bf P w K mg base CX (k+1) f (PySem.W.fnOf name qual params body scope dV kV doc pm an cdv ct) ps sp:=by
  refine ⟨len,fun A outer s H args us vs Q E hr e0 hb r hsp=>?_⟩
  have hl:=len _ _ _ _ hsp
  have KX:K.In s.heap:=e0.mod.kin.keeps fun b o e=>(e0.bs b o e).1
  have lim:s.heap.NoLimit:=e0.mod.nolimit.keeps fun b o e=>(e0.bs b o e).1
  have hkind:∀ y∈ps.zip us,scope.names.lookup y.1=some .local∨(scope.names.lookup y.1=some .cell∧((cellsFrom (s.heap.objs.size+1) scope.names []).lookup y.1).isSome=true):=fun ⟨n,v⟩ hy=>by
    rcases S.par n (List.of_mem_zip hy).1 with q | q
    · exact .inl q
    · exact .inr ⟨q,PySem.W.cellsFrom_some _ _ _ (.inl q)⟩
  refine codeAny_call_function hr.depth (KX _ _ lk) rfl S.co S.gen rfl (PySem.W.codeRec_of KX hcd) (hb _ _ _ _ ?_)
  refine wpAny_newFunctionEnv_cells S.kind hkind fun env he s1 x=>?_
  subst he
  refine ⟨lim.keeps x.toInCall.keep,codeAny_func ?_⟩
  obtain ⟨t,ht,hq⟩:=hbody A outer s H vs Q E (hr.deeper _) hsp
  have I:Inv (a5z CX P w K mg base N qual scope f cdv A outer s H E) [] (start N vs) H s1:=a0l S hr.hd e0 hl r x
  refine wpAny_mono (ht [] s1 (start N vs) H _ I hq) (fun fl s' hs=>?_) fun e s' hs=>hs
  have fin:∀ {σ':St} {H':Hp} {v:V} {u:Value},Inv (a5z CX P w K mg base N qual scope f cdv A outer s H E) [] σ' H' s'→RelV v u→Q v H'→CE outer P w H s Q u s' :=
    fun {σ' H' v u} J rv q=>⟨v,H',J.os,J.bare,J.base,J.hok,rv,q⟩
  cases fl with
  | ret u =>
    obtain ⟨v,σ',H',J,rv,q⟩:=hs
    exact fin J rv q
  | next =>
    obtain ⟨σ',H',J,q⟩:=hs
    exact fin (v:=V.non) (u:=Value.none) J rfl q
  | brk =>
    obtain ⟨_,_,_,q⟩:=hs
    exact False.elim q
  | cont =>
    obtain ⟨_,_,_,q⟩:=hs
    exact False.elim q
end L2
namespace L2
open PySem PySem.Spec PyProof.Rows
section
variable {X:Cx} {x:Str} {p pos:Pos} {e:Expr} {es:List Expr} {t:TA} {id T:String} {r:List V→Hp→VK→Prop}
def tCB (r:List V→Hp→VK→Prop) (t:TA):TE:=fun σ H Q=>t σ H fun vs H1=>r vs H1 Q
theorem wz (hc:Du X (.builtin id) r) (hg:Gl X x) (hm:X.mg x=none) (hv:bootBuiltins x=some (.builtin id)) (ha:PA X (e::es) t) (hn:x ≠ "__name__" := by decide) (hdb:(x==("__debug__" : Str))=false:=by decide)
    (he:starEach (e::es) X.env=(false,eval e X.env)::starEach es X.env:=by rfl) (hpl:(backTo pos (starEach es X.env)).any (·.1)=false:=by rfl):PE X (.Call (.Name x p) (e::es) [] pos) (tCB r t):=by
  intro pins s σ H Q I h
  refine wpAny_Call_Name_kw (Ng I hg hm hv ?_ hn hdb)
  exact PyProof.Rows.callWith_builtin1 (thn (ha pos pins s σ H _ I h) fun us s1 z7=>by obtain ⟨vs,H1,I1,r1,q1⟩:=z7; exact hc pins s1 σ H1 vs us Q I1 r1 q1) he hpl
theorem Dd (hc:Du X (.type T) r) (hg:Gl X x) (hm:X.mg x=none) (hv:bootBuiltins x=some (.type T)) (ha:PA X (e::es) t) (hn:x ≠ "__name__" := by decide) (hdb:(x==("__debug__" : Str))=false:=by decide)
    (he:starEach (e::es) X.env=(false,eval e X.env)::starEach es X.env:=by rfl) (hpl:(backTo pos (starEach es X.env)).any (·.1)=false:=by rfl):PE X (.Call (.Name x p) (e::es) [] pos) (tCB r t):=by
  intro pins s σ H Q I h
  refine wpAny_Call_Name_kw (Ng I hg hm hv ?_ hn hdb)
  exact PyProof.Rows.callWith_type1 (thn (ha pos pins s σ H _ I h) fun us s1 z7=>by obtain ⟨vs,H1,I1,r1,q1⟩:=z7; exact hc pins s1 σ H1 vs us Q I1 r1 q1) he hpl
end
end L2
end
section
namespace HT
open PySem PyProof.Rows
section
open PySem.SeqAt
open PySem.AutoSeq1 (wpAny_loadPart')
open PySem.MeetsSeq PySem.MeetsSeq2 PySem.MeetsSeq3
end
section
variable {prog:Program} {w:World} {A:Around} {E:Value→Shared→Prop} {s:Shared}
theorem a7h {t b:Addr} {vs ws:List Value} {Q:Value→Shared→Prop} (ht:IsTup s.heap t vs.toArray) (hb:IsTup s.heap b ws.toArray) (hv:vs≠[])
    (h1:ws=[]→Q (.ref t) s) (h2:ws≠[]→Q (.ref s.heap.objs.size) { s with heap:=s.heap.push { cls:=.type "tuple",data:=.seq (vs++ws).toArray } })
    (hsz:vs.length+ws.length≤sizeLine):wpAny (model prog w) A (binaryOp .Add (.ref t) (.ref b)) Q E s:=by
  obtain ⟨⟨cls,dd,data,sl⟩,ho,hc,n,hd⟩:=id ht
  obtain ⟨⟨cls2,dd2,data2,sl2⟩,ho2,hc2,n2,hd2⟩:=id hb
  simp only at hc hd hc2 hd2
  subst hc hd hc2 hd2
  have e:vs.toArray++ws.toArray=(vs++ws).toArray:=by simp
  by_cases hw:ws=[]
  · exact concat_meets ⟨_,ho,rfl⟩ ⟨_,ho2,rfl⟩ noFill_tuple_add seq_tuple_add PySem.F.slot_tuple_add PySem.F.entry_tuple_add (PySem.F.args_tuple_add_2 _ _)
      (tuple_addW1 t b vs.toArray ws.toArray n n2 dd dd2 sl sl2 (by simpa using hv) (by simp [hw])) ⟨ho,ho2,h1 hw⟩
  · refine concat_meets ⟨_,ho,rfl⟩ ⟨_,ho2,rfl⟩ noFill_tuple_add seq_tuple_add PySem.F.slot_tuple_add PySem.F.entry_tuple_add (PySem.F.args_tuple_add_2 _ _)
      (tuple_addW2 t b vs.toArray ws.toArray n n2 dd dd2 sl sl2 (by simpa using hv) (by simpa using hw) (by rw [List.size_toArray,List.size_toArray]; exact hsz)) ⟨ho,ho2,?_⟩
    rw [e]
    exact h2 hw
def sIx (n d:Nat):Option Int→Nat
  | none=>d
  | some v=>if v<0 then (v+(n:Int)).toNat else min v.toNat n
theorem a9i (n d:Nat) (hd:d≤n) (o:Option Int):sIx n d o≤n:=by
  cases o with
  | none=>exact hd
  | some v =>
    show (if v<0 then (v+(n:Int)).toNat else min v.toNat n)≤n
    by_cases hv:v<0
    · rw [if_pos hv]; omega
    · rw [if_neg hv]; exact Nat.min_le_right _ _
theorem Zi (v:Int) (n d:Nat):(if v<0 then max (v+(n:Int)) 0 else min v (n:Int))=((sIx n d (some v):Nat):Int):=by
  show (if v<0 then max (v+(n:Int)) 0 else min v (n:Int))=(((if v<0 then (v+(n:Int)).toNat else min v.toNat n):Nat):Int)
  by_cases hv:v<0
  · simp only [if_pos hv]; omega
  · simp only [if_neg hv]; omega
theorem Xl (lo hi:Option Int) (n:Nat):Builtin.Slice.sliceAdjust lo hi 1 (n:Int)=(((sIx n 0 lo:Nat):Int),((sIx n n hi:Nat):Int)):=by
  have h1:¬ ((1:Int)<0):=by omega
  unfold Builtin.Slice.sliceAdjust
  simp only [h1,if_false]
  refine Prod.ext ?_ ?_
  · cases lo with
    | none=>rfl
    | some v=>exact Zi v n 0
  · cases hi with
    | none=>rfl
    | some v=>exact Zi v n n
theorem Y9 (i j:Nat):Builtin.Slice.slicePlaces (i:Int) (j:Int) 1=j - i:=by
  unfold Builtin.Slice.slicePlaces
  have h1:(1:Int) > 0:=by omega
  simp only [h1,if_true,Int.ediv_one]
  split <;> omega
theorem Df {v:Value} {o:Option Int} {Q:Option Int→Shared→Prop} (p:IsPart v o) (h:Q o s):wpAny (model prog w) A (Builtin.Slice.slicePartIndex v) Q E s:=by
  cases p with
  | none=>exact slicePart_none h
  | int i t=>exact slicePart_int h
theorem Jk {sl:Addr} {vl vu:Value} {lo hi:Option Int} {n:Nat} {Q:Int × Int × Nat→Shared→Prop} (hs:s.heap.IsSliceOf sl vl vu .none) (pl:IsPart vl lo) (pu:IsPart vu hi)
    (h:Q (((sIx n 0 lo:Nat):Int),1,sIx n n hi - sIx n 0 lo) s):wpAny (model prog w) A (Builtin.Slice.sliceApplied (.ref sl) (pure (n:Int))) Q E s:=by
  obtain ⟨os,hos,hcs,hds⟩:=id hs
  unfold Builtin.Slice.sliceApplied Builtin.Slice.sliceFields
  refine wpAny_bind (wpAny_bind (wpAny_field hos hds (x:=vl) rfl (wpAny_bind (wpAny_field hos hds (x:=vu) rfl (wpAny_bind (wpAny_field hos hds (x:=.none) rfl (wpAny_pure ?_)))))))
  refine wpAny_bind (slicePart_none ?_)
  show wpAny _ _ (if ((1:Int)==0)=true then _ else _) _ _ s
  rw [if_neg (by decide)]
  refine wpAny_bind (Df pl (wpAny_bind (Df pu (wpAny_bind (wpAny_pure ?_)))))
  show wpAny _ _ (match Builtin.Slice.sliceAdjust lo hi 1 (n:Int) with | (lo,hi)=>pure (lo,(1:Int),Builtin.Slice.slicePlaces lo hi 1)) _ _ s
  rw [Xl lo hi n]
  show wpAny _ _ (pure (((sIx n 0 lo:Nat):Int),(1:Int),Builtin.Slice.slicePlaces ((sIx n 0 lo:Nat):Int) ((sIx n n hi:Nat):Int) 1)) _ _ s
  rw [Y9]
  exact wpAny_pure h
theorem a4i (xs:Array Value) (i k:Nat):((List.range k).filterMap fun (m:Nat)=>xs[((i:Int)+(m:Int) * 1).toNat]?).toArray=((xs.toList.drop i).take k).toArray:=by
  have e:(fun (m:Nat)=>xs[((i:Int)+(m:Int) * 1).toNat]?)=fun m=>xs[i+m]?:=by
    funext m
    have:((i:Int)+(m:Int) * 1).toNat=i+m:=by omega
    rw [this]
  rw [e]
  have:=pick_run xs i k
  rw [List.filterMap_map] at this
  have e2:((fun x=>xs[x]?) ∘ fun x=>i+x)=fun m=>xs[i+m]?:=rfl
  rw [e2] at this
  rw [this]
theorem Il {t sl:Addr} {items:Array Value} {vl vu:Value} {lo hi:Option Int} {Q:Value→Shared→Prop} (ht:IsTup s.heap t items) (hs:s.heap.IsSliceOf sl vl vu .none) (pl:IsPart vl lo) (pu:IsPart vu hi)
    (hw:¬ (sIx items.size 0 lo=0∧sIx items.size items.size hi=items.size))
    (h:Q (.ref s.heap.objs.size) { s with heap:=s.heap.push { cls:=.type "tuple",data:=.seq ((items.toList.drop (sIx items.size 0 lo)).take (sIx items.size items.size hi - sIx items.size 0 lo)).toArray } })
    (hsz:items.size≤sizeLine):wpAny (model prog w) A (getItem (.ref t) (.ref sl)) Q E s:=by
  have htake:sizeOk (.seq ((items.toList.drop (sIx items.size 0 lo)).take (sIx items.size items.size hi - sIx items.size 0 lo)).toArray):=by
    show ((items.toList.drop (sIx items.size 0 lo)).take (sIx items.size items.size hi - sIx items.size 0 lo)).toArray.size≤sizeLine
    rw [List.size_toArray,List.length_take,List.length_drop,Array.length_toList]
    omega
  have hj:sIx items.size items.size hi≤items.size:=a9i _ _ (Nat.le_refl _) hi
  obtain ⟨os,hos,hcs,hds⟩:=id hs
  have hTs:s.TypeIs (.ref sl) "slice" := ⟨os,hos,hcs⟩
  unfold getItem
  try with_reducible refine wpAny_holding ?_
  first | refine wpAny_bind (wpAny_pure ?_) | skip
  refine wpAny_bind (wpAny_sequenceKey ht.typeIs (by decide) ?_)
  refine wpAny_bind (wpAny_callSpecial?_slot (name:=Str.ofString "__getitem__") ht.typeIs PyProof.Rows.slot_tuple_getitem
    (wpAny_call_entry PyProof.Rows.slot_tuple_getitem ht.typeIs entry_tuple_getitem ?_ (args_tuple_getitem _ _)))
  show wpAny _ _ (Builtin.Tuple.tupleItemsOf (.ref t) >>= _) _ _ s
  refine wpAny_bind (tupleItemsOf_ ht ?_)
  refine wpAny_bind (wpAny_typeOf hTs ?_)
  rw [if_pos (by decide)]
  refine wpAny_bind (Jk hs pl pu ?_)
  have hno:¬ ((((sIx items.size 0 lo:Nat):Int)==0&&(1:Int)==1&&(sIx items.size items.size hi - sIx items.size 0 lo)==items.size)=true):=by
    intro q
    rw [Bool.and_eq_true,Bool.and_eq_true] at q
    have q1:((sIx items.size 0 lo:Nat):Int)=0:=eq_of_beq q.1.1
    have q2:sIx items.size items.size hi - sIx items.size 0 lo=items.size:=eq_of_beq q.2
    exact hw ⟨by omega,by omega⟩
  show wpAny _ _ (if (((sIx items.size 0 lo:Nat):Int)==0&&(1:Int)==1&&(sIx items.size items.size hi - sIx items.size 0 lo)==items.size)=true then _ else _) _ _ s
  rw [if_neg hno,a4i]
  first
    | exact wpAny_bind (m:=Builtin.Tuple.tupleExact _) (wpAny_newObj_type (wpAny_pure ⟨_,rfl,wpAny_pure h⟩) htake)
    | exact wpAny_bind (m:=Builtin.Tuple.tupleExact _) (wpAny_newObj_type (wpAny_bind (wpAny_pure (wpAny_pure ⟨_,rfl,wpAny_pure h⟩))) htake)
    | exact wpAny_bind (wpAny_bind (m:=Builtin.Tuple.tupleExact _) (wpAny_newObj_type (wpAny_pure (wpAny_pure ⟨_,rfl,wpAny_pure h⟩)) htake))
    | exact wpAny_bind (wpAny_bind (m:=Builtin.Tuple.tupleExact _) (wpAny_newObj_type (wpAny_pure ⟨_,rfl,wpAny_pure h⟩) htake))
end
end HT
namespace L2
open PySem PySem.Spec PyProof.Rows
abbrev TO:=St→Hp→(Option Int→Hp→Prop)→Prop
def PO (X:Cx) (e:Option Expr) (t:TO):Prop :=
  ∀ (pins:List (Addr × Obj)) (s:Shared) (σ:St) (H:Hp) (Q:Option Int→Hp→Prop),Inv X pins σ H s→t σ H Q →
    wpAny (model X.prog X.w) X.A (evalPart e X.env) (fun u s'=>∃ o H',Inv X pins σ H' s'∧IsPart u o∧Q o H') X.xe s
def a7w:TO:=fun _ H Q=>Q none H
def abn (t:TE):TO:=fun σ H Q=>t σ H fun x H1=>∃ i,x=.int i∧Q (some i) H1
section
variable {X:Cx} {e:Expr} {te:TE} {lo hi:Option Expr} {tl th:TO} {pos p2:Pos}
theorem a72:PO X none a7w:=by
  intro pins s σ H Q I h
  rw [evalPart_none]
  exact wpAny_pure ⟨none,H,I,.none,h⟩
theorem a7g (h:PE X e te):PO X (some e) (abn te):=by
  intro pins s σ H Q I hw
  rw [evalPart_some]
  refine thn (h pins s σ H _ I hw) fun u s1 z0=>?_
  obtain ⟨x,H1,I1,r1,q1⟩:=z0
  obtain ⟨i,rfl,q⟩:=q1
  obtain ⟨t,rfl⟩:=r1
  exact ⟨some i,H1,I1,.int i t,q⟩
def SlR (X:Cx) (r:V→Option Int→Option Int→Hp→VK→Prop):Prop :=
  ∀ (pins:List (Addr × Obj)) (s:Shared) (σ:St) (H:Hp) (x:V) (v vl vu:Value) (lo hi:Option Int) (sl:Addr) (Q:VK),Inv X pins σ H s→RelV x v→s.heap.IsSliceOf sl vl vu .none→IsPart vl lo→IsPart vu hi→r x lo hi H Q →
    ∃ T id,typeLookup (.type T) "__getitem__" = pure (some (.builtin id))∧s.TypeIs v T∧wpAny (model X.prog X.w) X.A (getItem v (.ref sl)) (EP X pins σ Q) X.xe s
theorem SlR.or {r r':V→Option Int→Option Int→Hp→VK→Prop} (h:SlR X r) (h':SlR X r'):SlR X (fun x lo hi H Q=>r x lo hi H Q∨r' x lo hi H Q):=by
  intro pins s σ H x v vl vu lo hi sl Q I rx hs pl pu q
  rcases q with q | q
  · exact h pins s σ H x v vl vu lo hi sl Q I rx hs pl pu q
  · exact h' pins s σ H x v vl vu lo hi sl Q I rx hs pl pu q
def tSl (r:V→Option Int→Option Int→Hp→VK→Prop) (te:TE) (tl th:TO):TE:=fun σ H Q=>te σ H fun x H1=>tl σ H1 fun l H2=>th σ H2 fun u H3=>r x l u H3 Q
theorem Wh {r:V→Option Int→Option Int→Hp→VK→Prop} (hr:SlR X r) (he:PE X e te) (hl:PO X lo tl) (hu:PO X hi th):PE X (.Subscript e (.Slice lo hi none p2) pos) (tSl r te tl th):=by
  intro pins s σ H Q I h
  refine Subscript_ (thn (he pins s σ H _ I h) fun v s1 z0=>?_)
  obtain ⟨x,H1,I1,r1,q1⟩:=z0
  refine wpAny_Slice (thn (hl pins s1 σ H1 _ I1 q1) fun vl s2 ⟨l,H2,I2,pl,q2⟩=>thn (hu pins s2 σ H2 _ I2 q2) fun vu s3 ⟨u,H3,I3,pu,q3⟩=>?_)
  rw [evalPart_none]
  refine wpAny_pure ?_
  have I4:Inv X pins σ H3 { s3 with heap:=s3.heap.push { cls:=.type "slice",data:=.fields #[vl,vu,.none] } }:=I3.kept (t':=s3.toks) fun b ob q=>Heap.get?_push_of_some _ q
  obtain ⟨T,id,hT,ht,hg⟩:=hr pins { s3 with heap:=s3.heap.push { cls:=.type "slice",data:=.fields #[vl,vu,.none] } } σ H3 x v vl vu l u s3.heap.objs.size Q I4 r1 (Heap.IsSliceOf.new ..) pl pu q3
  show wpAny (model X.prog X.w) X.A (subscriptTail e (.Slice lo hi none p2) v (.ref s3.heap.objs.size)) (EP X pins σ Q) X.xe { s3 with heap:=s3.heap.push { cls:=.type "slice",data:=.fields #[vl,vu,.none] } }
  exact tail_any (ops:=[.ref s3.heap.objs.size,v]) ht hT hg (by with_unfolding_all rfl)
def Zn (xs:List V) (lo hi:Option Int):List V:=(xs.drop (HT.sIx xs.length 0 lo)).take (HT.sIx xs.length xs.length hi - HT.sIx xs.length 0 lo)
theorem Ke (xs:List V) (lo hi:Option Int):(Zn xs lo hi).length≤xs.length:=by
  unfold Zn
  rw [List.length_take,List.length_drop]
  omega
def adu (K:PySem.W.Frag):V→Option Int→Option Int→Hp→VK→Prop:=fun x lo hi H Q=>∃ a xs,x=.ref a∧SqT K H a xs ∧
  ¬ (HT.sIx xs.length 0 lo=0∧HT.sIx xs.length xs.length hi=xs.length)∧∀ p,H p=none→Q (.ref p) (upd H p (.tup (Zn xs lo hi)))
theorem a5w:SlR X (adu X.K):=by
  intro pins s σ H x v vl vu lo hi sl Q I rx hs pl pu h
  obtain ⟨a,xs,rfl,hx,hw,q⟩:=h
  cases rx
  obtain ⟨its,r,ht,hz⟩:=I.tuple hx
  have hlen:its.toArray.size=xs.length:=by rw [List.size_toArray]; exact r.length.symm
  refine ⟨"tuple",_,PyProof.Rows.slot_tuple_getitem.lookup,ht.typeIs,?_⟩
  refine HT.Il ht hs pl pu (by rw [hlen]; exact hw) ?_ (by rw [hlen]; exact hz)
  rw [hlen]
  refine ⟨.ref s.heap.objs.size,_,I.laid (t':=s.toks) (o:=.tup (Zn xs lo hi)) (fun b ob q=>Heap.get?_push_of_some _ q) (Nat.le_refl _) ?_,rfl,q _ (I.hok.fresh (Nat.le_refl _))⟩
  exact ⟨Nat.le_trans (Ke xs lo hi) hz,_,(r.drop (HT.sIx xs.length 0 lo)).take (HT.sIx xs.length xs.length hi - HT.sIx xs.length 0 lo),a3c.new _ _⟩
def abo (K:PySem.W.Frag):R2:=fun x y H Q=>∃ a b xs ys,x=.ref a∧y=.ref b∧SqT K H a xs∧SqT K H b ys∧xs≠[]∧xs.length+ys.length≤sizeLine ∧
  (ys=[]→Q (.ref a) H)∧(ys≠[]→∀ p,H p=none→Q (.ref p) (upd H p (.tup (xs++ys))))
theorem Vals.Va {xs:List V} {us:List Value} (r:Vals xs us):us=[]↔xs=[]:=by
  cases r with
  | nil=>simp
  | cons _ _=>simp
theorem a6x:OpR X (binaryOp .Add) (abo X.K):=by
  intro pins s σ H x y v u Q I rx ry h
  obtain ⟨a,b,xs,ys,rfl,rfl,ha,hb,hx,hz,q1,q2⟩:=h
  cases rx
  cases ry
  obtain ⟨its,r1,p1,_⟩:=I.tuple ha
  obtain ⟨its2,r2,p2,_⟩:=I.tuple hb
  refine HT.a7h p1 p2 (fun z=>hx (r1.Va.mp z)) (fun z=>⟨.ref a,H,I,rfl,q1 (r2.Va.mp z)⟩) (fun z=>?_) (by rw [← r1.length,← r2.length]; exact hz)
  refine ⟨.ref s.heap.objs.size,_,I.laid (t':=s.toks) (o:=.tup (xs++ys)) (fun b ob q=>Heap.get?_push_of_some _ q) (Nat.le_refl _) ?_,rfl,q2 (fun w=>z (r2.Va.mpr w)) _ (I.hok.fresh (Nat.le_refl _))⟩
  exact ⟨by rw [List.length_append]; exact hz,_,r1.append r2,a3c.new _ _⟩
end
end L2
namespace L2
open PySem PySem.Spec PyProof.Rows
def ixN (n:Nat) (i:Int):Option Nat:=if 0≤i then (if i<n then some i.toNat else none) else if -(n:Int)≤i then some (i+n).toNat else none
def atI {α:Type} (xs:List α) (i:Int):Option α:=(ixN xs.length i).bind fun j=>xs[j]?
theorem Zz {n:Nat} {i:Int} {j:Nat} (h:ixN n i=some j):seqIndex? i n=some j∧j<n∧-(n:Int)≤i∧i<n:=by
  unfold ixN at h
  by_cases h0:0≤i
  · rw [if_pos h0] at h
    by_cases h1:i<n
    · rw [if_pos h1] at h
      have e:i.toNat=j:=Option.some.inj h
      exact ⟨by rw [seqIndex_of h0 h1,e],by omega,by omega,h1⟩
    · rw [if_neg h1] at h; cases h
  · rw [if_neg h0] at h
    by_cases h1:-(n:Int)≤i
    · rw [if_pos h1] at h
      have e:(i+n).toNat=j:=Option.some.inj h
      exact ⟨by rw [seqIndex_neg (by omega) h1,e],by omega,h1,by omega⟩
    · rw [if_neg h1] at h; cases h
theorem Tw {α:Type} {xs:List α} {i:Int} {v:α} (h:atI xs i=some v):∃ j,seqIndex? i xs.length=some j∧xs[j]? = some v∧j<xs.length∧-(xs.length:Int)≤i∧i<xs.length:=by
  unfold atI at h
  cases e:ixN xs.length i with
  | none=>rw [e] at h; cases h
  | some j =>
    rw [e] at h
    obtain ⟨h1,h2,h3,h4⟩:=Zz e
    exact ⟨j,h1,h,h2,h3,h4⟩
def Ot (b:Expr):Prop:=∀ o i,subscripted b false o i=operate [o,i] (getItem o i)
def IxR (X:Cx) (r:R2):Prop :=
  ∀ (value slice:Expr) (pins:List (Addr × Obj)) (s:Shared) (σ:St) (H:Hp) (x y:V) (v u:Value) (Q:VK),Inv X pins σ H s→RelV x v→RelV y u→r x y H Q →
    subscripted slice false v u=operate [v,u] (getItem v u)→wpAny (model X.prog X.w) X.A (subscriptTail value slice v u) (EP X pins σ Q) X.xe s
def MtR (X:Cx) (id:String) (r:V→List V→Hp→VK→Prop):Prop :=
  ∀ (pins:List (Addr × Obj)) (s:Shared) (σ:St) (H:Hp) (x:V) (xs:List V) (v:Value) (us:List Value) (Q:VK),Inv X pins σ H s→RelV x v→Vals xs us→r x xs H Q →
    wpAny (model X.prog X.w) X.A (call (.builtin id) (v::us)) (EP X pins σ Q) X.xe s
section
variable {X:Cx} {a b:Expr} {ta tb:TE} {pos:Pos}
theorem IxR.or {r r':R2} (h:IxR X r) (h':IxR X r'):IxR X (fun x y H Q=>r x y H Q∨r' x y H Q):=by
  intro value slice pins s σ H x y v u Q I rx ry q hs
  rcases q with q | q
  · exact h value slice pins s σ H x y v u Q I rx ry q hs
  · exact h' value slice pins s σ H x y v u Q I rx ry q hs
theorem MtR.or {id:String} {r r':V→List V→Hp→VK→Prop} (h:MtR X id r) (h':MtR X id r'):MtR X id (fun x xs H Q=>r x xs H Q∨r' x xs H Q):=by
  intro pins s σ H x xs v us Q I rx rs q
  rcases q with q | q
  · exact h pins s σ H x xs v us Q I rx rs q
  · exact h' pins s σ H x xs v us Q I rx rs q
theorem a74 {r:R2} (hr:IxR X r) (ha:PE X a ta) (hb:PE X b tb) (hs:Ot b):PE X (.Subscript a b pos) (tOp r ta tb):=by
  intro pins s σ H Q I h
  exact Subscript_ (acf ha hb I h fun v u s2 x y H2 I2 rx ry q=>hr a b pins s2 σ H2 x y v u Q I2 rx ry q (hs _ _))
def adq (K:PySem.W.Frag):R2:=fun x y H Q=>∃ p xs i v,x=.ref p∧y=.int i∧SqL K H p xs∧atI xs i=some v∧Q v H
def ad7 (K:PySem.W.Frag):R2:=fun x y H Q=>∃ p xs i v,x=.ref p∧y=.int i∧SqT K H p xs∧atI xs i=some v∧Q v H
def ad9:R2:=fun x y H Q=>∃ z i c,x=.str z∧y=.int i∧z.length≤sizeLine∧atI z.cps.toList i=some c∧Q (.str ⟨#[c]⟩) H
theorem Ug:IxR X (adq X.K):=by
  intro value slice pins s σ H x y v u Q I rx ry h hs
  obtain ⟨p,xs,i,z,rfl,rfl,hq,he,q⟩:=h
  cases rx
  obtain ⟨t,rfl⟩:=ry
  obtain ⟨its,r,pl,hz⟩:=I.list hq
  obtain ⟨j,h1,h2,h3,h4,h5⟩:=Tw he
  obtain ⟨w,ew,rw'⟩:=r.get h2
  have hl:=r.length
  have hn:=N6
  have fin:EP X pins σ Q w s:=⟨z,H,I,rw',q⟩
  by_cases h0:0≤i
  · have hj:i.toNat=j:=by
      rw [seqIndex_of h0 h5] at h1
      exact Option.some.inj h1
    exact item_listR pl.isList h0 (by omega) (by rw [hj]; simpa using ew) fin hs
  · have hj:(i+(its.toArray.size:Int)).toNat=j:=by
      rw [seqIndex_neg (by omega) h4] at h1
      rw [List.size_toArray,← hl]
      exact Option.some.inj h1
    exact subscriptTail_builtinR (x:=w) pl.isList.typeIs slot_list_getitem.lookup
      (wpAny_getItem_list_neg (Q:=fun r s'=>r=w∧EP X pins σ Q r s') pl.isList (by omega) (by rw [List.size_toArray] <;> omega) (by omega) (by rw [hj]; simpa using ew) ⟨rfl,fin⟩) hs
theorem a9t:IxR X (ad7 X.K):=by
  intro value slice pins s σ H x y v u Q I rx ry h hs
  obtain ⟨p,xs,i,z,rfl,rfl,hq,he,q⟩:=h
  cases rx
  obtain ⟨t,rfl⟩:=ry
  obtain ⟨its,r,pl,hz⟩:=I.tuple hq
  obtain ⟨j,h1,h2,h3,h4,h5⟩:=Tw he
  obtain ⟨w,ew,rw'⟩:=r.get h2
  have hl:=r.length
  have hn:=N6
  have fin:EP X pins σ Q w s:=⟨z,H,I,rw',q⟩
  exact subscriptTail_builtinR (x:=w) pl.typeIs slot_tuple_getitem.lookup
    (getItem_tuple (j:=j) (Q:=fun r s'=>r=w∧EP X pins σ Q r s') pl (by omega) (by omega) (by rw [List.size_toArray,← hl]; exact h1) (by simpa using ew) ⟨rfl,fin⟩) hs
theorem a9m:IxR X ad9:=by
  intro value slice pins s σ H x y v u Q I rx ry h hs
  obtain ⟨z,i,c,rfl,rfl,hz,he,q⟩:=h
  obtain ⟨t,rfl⟩:=rx
  obtain ⟨t',rfl⟩:=ry
  obtain ⟨j,h1,h2,h3,h4,h5⟩:=Tw he
  have hl:z.cps.toList.length=z.length:=by simp [Str.length]
  rw [hl] at h1 h4 h5
  have hn:=N6
  exact tail_any (typeIs_str s z t) slot_str_getitem.lookup (getItem_str (c:=c) (by
    have e1:decide (i < -(2 ^ 63:Int))=false:=decide_eq_false (by omega)
    have e2:decide (i ≥ 2 ^ 63)=false:=decide_eq_false (by omega)
    rw [e1,e2,Bool.or_false]) (by rw [h1]; simpa using h2) ⟨.str ⟨#[c]⟩,H,I.tok _,⟨_,rfl⟩,q⟩) hs
theorem Xi (its:List Value) (n j:Nat) (u:Value):Obj.mapSeq (·.setIfInBounds j u) { cls:=.type "list",data:=.seq its.toArray n } = { cls:=.type "list",data:=.seq (its.set j u).toArray n }:=by
  simp [Obj.mapSeq]
theorem Inv.lst {pins:List (Addr × Obj)} {σ:St} {H:Hp} {s:Shared} {p:Addr} {xs:List V} (I:Inv X pins σ H s) (h:H p=some (.lst xs)) :
    ∃ (its:List Value) (n:Nat),Vals xs its∧s.heap.get? p=some { cls:=.type "list",data:=.seq its.toArray n }∧xs.length≤sizeLine:=by
  obtain ⟨z,its,n,r,e⟩:=I.hok p _ h
  exact ⟨its,n,r,e,z⟩
theorem Inv.aan {pins:List (Addr × Obj)} {σ:St} {H:Hp} {s:Shared} {p:Addr} {xs ys:List V} {its its':List Value} {n n':Nat} {f:Obj→Obj} (I:Inv X pins σ H s) (h:H p=some (.lst xs))
    (ho:s.heap.get? p=some { cls:=.type "list",data:=.seq its.toArray n }) (hf:f { cls:=.type "list",data:=.seq its.toArray n } = { cls:=.type "list",data:=.seq its'.toArray n' }) (r:Vals ys its') (hz:ys.length≤sizeLine) (t:Nat) :
    Inv X pins σ (upd H p (.lst ys)) { s with heap:=s.heap.update p f,toks:=t }:=by
  have e:(s.heap.update p f).get? p=some { cls:=.type "list",data:=.seq its'.toArray n' }:=by
    rw [Heap.get?_update_self f ho (by rw [hf] <;> rfl),hf]
  refine I.write (x:=p) (e:=p) (by rw [h]; trivial) (.inl rfl) (fun b u hb q=>(Heap.get?_update_other _ _ (Ne.symm hb)).trans q) ⟨_,e⟩ ?_
  exact ⟨hz,its',n',r,e⟩
def a8w:V→V→V→Hp→(Hp→Prop)→Prop:=fun o i v H Q=>∃ p xs k j,o=.ref p∧i=.int k∧H p=some (.lst xs)∧ixN xs.length k=some j∧Q (upd H p (.lst (xs.set j v)))
theorem set_list:acy X a8w:=by
  intro pins s σ H o i v ov iv u Q I ro ri rv h
  obtain ⟨p,xs,k,j,rfl,rfl,hp,hj,q⟩:=h
  cases ro
  obtain ⟨t,rfl⟩:=ri
  obtain ⟨its,n,r,ho,hz⟩:=I.lst hp
  obtain ⟨h1,h2,h3,h4⟩:=Zz hj
  have hl:=r.length
  have hn:=N6
  have I':Inv X pins σ (upd H p (.lst (xs.set j v))) { s with heap:=s.heap.update p (Obj.mapSeq (·.setIfInBounds j u)) } :=
    I.aan hp ho (Xi its n j u) (r.set rv j) (by rw [List.length_set]; exact hz) s.toks
  by_cases h0:0≤k
  · have hk:k.toNat=j:=by
      rw [seqIndex_of h0 h4] at h1
      exact Option.some.inj h1
    exact PySem.W.ki_setAt ho h0 (by omega) (by rw [List.size_toArray,← hl]; exact h4) (by rw [hk]; exact ⟨_,I',q⟩)
  · have hk:(k+(its.toArray.size:Int)).toNat=j:=by
      rw [seqIndex_neg (by omega) h3] at h1
      rw [List.size_toArray,← hl]
      exact Option.some.inj h1
    exact PySem.W.ki_setBack ho (by omega) (by rw [List.size_toArray,← hl]; exact h3) (by omega) (by rw [hk]; exact ⟨_,I',q⟩)
theorem Rg (lo hi:Option Int) (n:Nat):(sliceBounds lo hi none n).1=((HT.sIx n 0 lo:Nat):Int)∧(sliceBounds lo hi none n).2.1=((HT.sIx n n hi:Nat):Int)∧(sliceBounds lo hi none n).2.2=1:=by
  refine ⟨?_,?_,rfl⟩
  · cases lo with
    | none=>simp [sliceBounds,HT.sIx]
    | some i =>
      simp only [sliceBounds,HT.sIx,Option.getD_none,show (1:Int) > 0 by decide,if_true]
      by_cases h:i<0
      · simp only [h,if_true] <;> omega
      · simp only [h,if_false] <;> omega
  · cases hi with
    | none=>simp [sliceBounds,HT.sIx]
    | some i =>
      simp only [sliceBounds,HT.sIx,Option.getD_none,show (1:Int) > 0 by decide,if_true]
      by_cases h:i<0
      · simp only [h,if_true] <;> omega
      · simp only [h,if_false] <;> omega
theorem O7 (its:List Value) (lo hi:Option Int):slicePick its.toArray lo hi none=((its.drop (HT.sIx its.length 0 lo)).take (HT.sIx its.length its.length hi - HT.sIx its.length 0 lo)).toArray:=by
  obtain ⟨h1,h2,h3⟩:=Rg lo hi its.toArray.size
  unfold slicePick
  rw [h1,h2,h3]
  simp only [sliceRange_one,pick_run,List.size_toArray] <;> rfl
def adh (K:PySem.W.Frag):V→Option Int→Option Int→Hp→VK→Prop:=fun x lo hi H Q=>∃ a xs,x=.ref a∧SqL K H a xs∧∀ p,H p=none→Q (.ref p) (upd H p (.lst (Zn xs lo hi)))
theorem Zg:SlR X (adh X.K):=by
  intro pins s σ H x v vl vu lo hi sl Q I rx hs pl pu h
  obtain ⟨a,xs,rfl,hx,q⟩:=h
  cases rx
  obtain ⟨its,r,ht,hz⟩:=I.list hx
  have hlen:=r.length
  refine ⟨"list",_,slot_list_getitem.lookup,ht.isList.typeIs,?_⟩
  refine wpAny_getItem_list_slice ht.isList hs pl pu .none (by simp) ?_ (by rw [List.size_toArray] <;> omega)
  rw [O7,← hlen]
  refine ⟨.ref s.heap.objs.size,_,I.laid (t':=s.toks) (o:=.lst (Zn xs lo hi)) (fun b ob q=>Heap.get?_push_of_some _ q) (Nat.le_refl _) ?_,rfl,q _ (I.hok.fresh (Nat.le_refl _))⟩
  exact ⟨Nat.le_trans (Ke xs lo hi) hz,_,0,(r.drop (HT.sIx xs.length 0 lo)).take (HT.sIx xs.length xs.length hi - HT.sIx xs.length 0 lo),Heap.get?_push_size _ rfl⟩
theorem Bw:Du X (.builtin "len") (fun xs H Q=>∃ p ys,xs=[.ref p]∧(SqL X.K H p ys∨SqT X.K H p ys)∧Q (.int ys.length) H):=by
  intro pins s σ H xs us Q I r h
  obtain ⟨p,ys,rfl,hq,q⟩:=h
  obtain ⟨u,rfl,rx⟩:=vals1 r
  cases rx
  have hn:=N6
  rcases hq with hq | hq
  · obtain ⟨its,r',pl,hz⟩:=I.list hq
    have hlen:=r'.length
    exact Calls.call_len_list pl.isList (by simp only [List.size_toArray] <;> omega) ⟨.int ys.length,H,I.tok _,⟨s.toks+1,by rw [List.size_toArray,hlen]⟩,q⟩
  · obtain ⟨its,r',pl,hz⟩:=I.tuple hq
    have hlen:=r'.length
    exact len_tuple pl (by simp only [List.size_toArray] <;> omega) ⟨.int ys.length,H,I.tok _,⟨s.toks+1,by rw [List.size_toArray,hlen]⟩,q⟩
theorem Qv:Du X (.builtin "len") (fun xs H Q=>∃ z,xs=[.str z]∧z.length≤sizeLine∧Q (.int z.length) H):=by
  intro pins s σ H xs us Q I r h
  obtain ⟨z,rfl,hz,q⟩:=h
  obtain ⟨u,rfl,t,rfl⟩:=vals1 r
  have hn:=N6
  exact len_str (by omega) ⟨.int z.length,H,I.tok _,⟨_,rfl⟩,q⟩
theorem Du.or {f:Value} {r r':List V→Hp→VK→Prop} (h:Du X f r) (h':Du X f r'):Du X f (fun xs H Q=>r xs H Q∨r' xs H Q):=by
  intro pins s σ H xs us Q I rs q
  rcases q with q | q
  · exact h pins s σ H xs us Q I rs q
  · exact h' pins s σ H xs us Q I rs q
theorem Eo:Du X (.type "list") (fun xs H Q=>∃ p ys,xs=[.ref p]∧(SqL X.K H p ys∨SqT X.K H p ys)∧∀ l,H l=none→Q (.ref l) (upd H l (.lst ys))):=by
  intro pins s σ H xs us Q I r h
  obtain ⟨p,ys,rfl,hq,q⟩:=h
  obtain ⟨u,rfl,rx⟩:=vals1 r
  cases rx
  have fin:∀ (its:List Value),Vals ys its→ys.length≤sizeLine→∀ (h':Heap) (c':Nat),(∀ b o',s.heap.get? b=some o'→h'.get? b=some o') →
      h'.get? s.heap.objs.size=some { cls:=.type "list",dict:=none,data:=.seq its.toArray c',slots:=#[] }→EP X pins σ Q (.ref s.heap.objs.size) { s with heap:=h' }:=fun its r' hz h' c' kp e =>
    ⟨.ref s.heap.objs.size,_,I.laid (t':=s.toks) kp (Nat.le_refl _) (show vg X.prog X.w _ h' _ (.lst ys) from ⟨hz,its,c',r',e⟩),rfl,q _ (I.hok.fresh (Nat.le_refl _))⟩
  rcases hq with hq | hq
  · obtain ⟨its,r',pl,hz⟩:=I.list hq
    have hlen:=r'.length
    obtain ⟨o,ho,hc,n,hd⟩:=pl.isList
    exact call_list_seq p (.inl rfl) ho hc hd (fun h' c' kp e=>fin its r' hz h' c' kp e) (by simp only [List.size_toArray] <;> omega)
  · obtain ⟨its,r',pl,hz⟩:=I.tuple hq
    have hlen:=r'.length
    obtain ⟨o,ho,hc,n,hd⟩:=pl
    exact call_list_seq p (.inr rfl) ho hc hd (fun h' c' kp e=>fin its r' hz h' c' kp e) (by simp only [List.size_toArray] <;> omega)
theorem Hu:Du X (.type "tuple") (fun xs H Q=>∃ p ys,xs=[.ref p]∧((SqL X.K H p ys∧∀ l,H l=none→Q (.ref l) (upd H l (.tup ys)))∨(SqT X.K H p ys∧Q (.ref p) H))):=by
  intro pins s σ H xs us Q I r h
  obtain ⟨p,ys,rfl,h⟩:=h
  obtain ⟨u,rfl,rx⟩:=vals1 r
  cases rx
  rcases h with ⟨hq,q⟩ | ⟨hq,q⟩
  · obtain ⟨its,r',pl,hz⟩:=I.list hq
    have hlen:=r'.length
    refine call_tuple_list pl.isList (fun h' kp=>?_) (by simp only [List.size_toArray] <;> omega)
    have I1:Inv X pins σ H { s with heap:=h' }:=I.kept (t':=s.toks) kp
    have I2:Inv X pins σ (upd H h'.objs.size (.tup ys)) { s with heap:=h'.push { cls:=.type "tuple",data:=.seq its.toArray } } :=
      I1.laid (t':=s.toks) (fun b o e=>Heap.get?_push_of_some _ e) (Nat.le_refl _) (show vg X.prog X.w _ _ _ (.tup ys) from ⟨hz,its,r',a3c.new _ _⟩)
    exact ⟨.ref h'.objs.size,_,I2,rfl,q _ (I1.hok.fresh (Nat.le_refl _))⟩
  · obtain ⟨its,r',pl,hz⟩:=I.tuple hq
    exact call_tuple_same pl ⟨.ref p,H,I,rfl,q⟩
def tyV (K:PySem.W.Frag) (T:String) (x:V) (H:Hp):Prop:=match x with
  | .str _=>T = "str"
  | .int _=>T = "int"
  | .ref p=>(T = "list" ∧ ∃ xs,SqL K H p xs)∨(T = "tuple" ∧ ∃ o,K.lookup p=some o∧o.cls=.type "tuple" ∧ o.dict=none) ∨
      (T = "dict" ∧ ((∃ kvs,H p=some (.dK kvs))∨∃ kvs,H p=some (.dT kvs)))∨(T = "set" ∧ ∃ S n,H p=some (.set S n))
  | _=>False
theorem a5u {pins:List (Addr × Obj)} {σ:St} {H:Hp} {s:Shared} {T:String} {x:V} {v:Value} (I:Inv X pins σ H s) (r:RelV x v) (ty:tyV X.K T x H) :
    s.TypeIs v T∧∀ a,v=.ref a→∃ ob,s.heap.get? a=some ob∧ob.dict=none:=by
  cases x with
  | str z =>
    obtain ⟨t,rfl⟩:=r
    cases (show T = "str" from ty)
    exact ⟨typeIs_str s z t,fun _ e=>nomatch e⟩
  | int i =>
    obtain ⟨t,rfl⟩:=r
    cases (show T = "int" from ty)
    exact ⟨typeIs_int s i t,fun _ e=>nomatch e⟩
  | ref p =>
    cases r
    rcases ty with ⟨rfl,xs,hq⟩ | ⟨rfl,o,hk,hc,hd⟩ | ⟨rfl,hk⟩ | ⟨rfl,S,n,hk⟩
    · obtain ⟨its,_,pl,_⟩:=I.list hq
      refine ⟨pl.isList.typeIs,fun a e=>?_⟩
      cases e
      obtain ⟨o,n,e,c,hd,_⟩:=pl
      exact ⟨o,e,hd⟩
    · refine ⟨⟨o,I.kIn p o hk,hc⟩,fun a e=>?_⟩
      cases e
      exact ⟨o,I.kIn _ o hk,hd⟩
    · have z:∃ o,s.heap.get? p=some o∧o.ExactDict:=by
        rcases hk with ⟨kvs,hk⟩ | ⟨kvs,hk⟩
        · obtain ⟨_,_,_,_,o,_,_,e,ex,_⟩:=I.hok p _ hk
          exact ⟨o,e,ex⟩
        · obtain ⟨_,_,_,_,o,_,_,e,ex,_⟩:=I.hok p _ hk
          exact ⟨o,e,ex⟩
      obtain ⟨o,e,ex⟩:=z
      refine ⟨⟨o,e,ex.1⟩,fun a e2=>?_⟩
      cases e2
      exact ⟨o,e,ex.2.1⟩
    · obtain ⟨o,_,_,_,e,ex,_⟩:=I.hok p _ hk
      refine ⟨⟨o,e,ex.1⟩,fun a e2=>?_⟩
      cases e2
      exact ⟨o,e,ex.2.1⟩
  | _=>exact False.elim ty
def ad1 (K:PySem.W.Frag) (T:String) (r:V→List V→Hp→VK→Prop) (to:TE):TE:=fun σ H Q=>to σ H fun x H1=>tyV K T x H1∧r x [] H1 Q
def tBM (K:PySem.W.Frag) (T:String) (r:V→List V→Hp→VK→Prop) (to:TE) (t:TA):TE:=fun σ H Q=>to σ H fun x H1=>tyV K T x H1∧t σ H1 fun xs H2=>r x xs H2 Q
variable {o e:Expr} {es:List Expr} {to:TE} {t:TA} {name:Str} {apos cpos:Pos} {T id:String} {r:V→List V→Hp→VK→Prop}
theorem a93 (pa:PlainAttrs T) (slot:Slot T name id) (hty:typeOf (.builtin id)=pure (.type "method_descriptor")) (hm:MtR X id r) (ho:PE X o to)
    (hbase:attributeBase o name X.env (eval o X.env)=eval o X.env:=by rfl) (hline:(apos.endLine==cpos.line)=true:=by rfl):PE X (.Call (.Attribute o name apos) [] [] cpos) (ad1 X.K T r to):=by
  intro pins s σ H Q I h
  refine wpAny_Call_method0_late hbase hline (thn (ho pins s σ H _ I h) fun v s1 z0=>?_)
  obtain ⟨x,H1,I1,r1,ty,q1⟩:=z0
  obtain ⟨h1,h2⟩:=a5u I1 r1 ty
  exact ⟨T,id,pa,slot,hty,h1,h2,Calls.callWith_builtin rfl (PySem.evalArgs_none (hm pins s1 σ H1 x [] v [] Q I1 r1 .nil q1))⟩
theorem Dm (pa:PlainAttrs T) (slot:Slot T name id) (hty:typeOf (.builtin id)=pure (.type "method_descriptor")) (hm:MtR X id r) (ho:PE X o to) (ha:PA X (e::es) t)
    (hbase:attributeBase o name X.env (eval o X.env)=eval o X.env:=by rfl)
    (hfew:((backTo cpos (starEach (e::es) X.env)).all (fun x=>!x.1)&&(backToKw cpos (keywordEach [] X.env)).all (fun x=>x.1.isSome)
      && decide ((e::es).length+([]:List Keyword).length+(if ([]:List Keyword).isEmpty then 0 else 1)<30))=true:=by rfl)
    (hline:(apos.endLine==cpos.line)=true:=by rfl) (hs:starEach (e::es) X.env=(false,eval e X.env)::starEach es X.env:=by rfl) (hplain:(backTo cpos (starEach es X.env)).any (·.1)=false:=by rfl) :
    PE X (.Call (.Attribute o name apos) (e::es) [] cpos) (tBM X.K T r to t):=by
  intro pins s σ H Q I h
  refine wpAny_Call_method_late hbase hfew hline rfl (thn (ho pins s σ H _ I h) fun v s1 z0=>?_)
  obtain ⟨x,H1,I1,r1,ty,q1⟩:=z0
  obtain ⟨h1,h2⟩:=a5u I1 r1 ty
  refine ⟨T,id,pa,slot,hty,h1,h2,?_⟩
  have hA:=ha cpos pins s1 σ H1 _ I1 q1
  rw [hs] at hA ⊢
  refine Calls.callWith_builtin (by show (false||(backTo cpos (starEach es X.env)).any (·.1))=false; rw [hplain] <;> rfl) (Calls.evalArgs_plain ?_)
  exact thn hA fun us s2 ⟨vs,H2,I2,r2,q2⟩=>hm pins s2 σ H2 x vs v us Q I2 r1 r2 q2
end
end L2
namespace L2
open PySem PySem.Spec PyProof.Rows
def MtM (X:Cx) (id:String) (r:V→List V→Hp→VK→Prop):Prop :=
  ∀ (pins:List (Addr × Obj)) (s:Shared) (σ:St) (H:Hp) (x:V) (xs:List V) (v:Value) (us:List Value) (Q:VK),Inv X pins σ H s→RelV x v→Vals xs us→r x xs H Q →
    wpAny (model X.prog X.w) X.A (call (.builtin id) (v::us)) (EP X pins σ Q) X.xe s
theorem Vals.one {x:V} {us:List Value} (h:Vals [x] us):∃ u,us=[u]∧RelV x u:=by
  cases h with
  | cons r t=>cases t; exact ⟨_,rfl,r⟩
theorem Vals.two {x y:V} {us:List Value} (h:Vals [x,y] us):∃ u v,us=[u,v]∧RelV x u∧RelV y v:=by
  cases h with
  | cons r t=>obtain ⟨v,e,q⟩:=Vals.one t; exact ⟨_,v,congrArg _ e,r,q⟩
theorem Vals.zero:∀ {us:List Value},Vals [] us→us=[]
  | _,.nil=>rfl
theorem Vals.dropLast {xs:List V} {us:List Value} (h:Vals xs us):Vals xs.dropLast us.dropLast:=by
  induction h with
  | nil=>exact .nil
  | cons r t ih =>
    cases t with
    | nil=>exact .nil
    | cons q t'=>exact .cons r ih
theorem Vals.eraseIdx:∀ {xs:List V} {us:List Value} (i:Nat),Vals xs us→Vals (xs.eraseIdx i) (us.eraseIdx i)
  | _,_,_,.nil=>.nil
  | _,_,0,.cons _ t=>t
  | _,_,i+1,.cons r t=>.cons r (Vals.eraseIdx i t)
theorem Vals.reverse {xs:List V} {us:List Value} (h:Vals xs us):Vals xs.reverse us.reverse:=by
  induction h with
  | nil=>exact .nil
  | cons r t ih=>rw [List.reverse_cons,List.reverse_cons]; exact Vals.append ih (.cons r .nil)
theorem Vals.rep {xs:List V} {us:List Value} (h:Vals xs us):∀ k:Nat,Vals (List.replicate k xs).flatten (List.replicate k us).flatten
  | 0=>.nil
  | k+1=>by
    rw [List.replicate_succ,List.replicate_succ,List.flatten_cons,List.flatten_cons]
    exact Vals.append h (Vals.rep h k)
theorem Xh {α:Type} (l:List α):l.eraseIdx (l.length - 1)=l.dropLast:=by
  induction l with
  | nil=>rfl
  | cons a r ih =>
    cases r with
    | nil=>rfl
    | cons b r =>
      have e:(a::b::r).length - 1=((b::r).length - 1)+1:=by
        have h1:(a::b::r).length=r.length+2:=rfl
        have h2:(b::r).length=r.length+1:=rfl
        omega
      rw [e,List.eraseIdx_cons_succ,ih]
      all_goals rfl
theorem Qc {α:Type}:∀ (l:List α) (i:Nat),(l.eraseIdx i).length≤l.length
  | [],_=>Nat.le_refl _
  | _::_,0=>Nat.le_succ _
  | _::r,i+1=>Nat.succ_le_succ (Qc r i)
section
variable {X:Cx} {pins:List (Addr × Obj)} {σ:St} {H:Hp} {s:Shared} {l b:Addr} {xs ys zs:List V}
theorem Inv.aaz {its its':List Value} {n:Nat} {f:Array Value→Array Value} {t':Nat} (I:Inv X pins σ H s) (hH:H l=some (.lst xs))
    (e:s.heap.get? l=some { cls:=.type "list",data:=.seq its.toArray n }) (hf:f its.toArray=its'.toArray) (hv:Vals ys its') (hz:ys.length≤sizeLine) :
    Inv X pins σ (upd H l (.lst ys)) { s with heap:=s.heap.update l (Obj.mapSeq f),toks:=t' }:=by
  have q:=PySem.IsL.update e f
  rw [hf] at q
  refine I.write (x:=l) (e:=l) (by rw [hH]; exact trivial) (.inl rfl) (fun b' u hb hu=>(Heap.get?_update_other s.heap (Obj.mapSeq f) (Ne.symm hb)).trans hu) ⟨_,q⟩ ?_
  exact ⟨hz,its',_,hv,q⟩
theorem Inv.adk {its:List Value} {t':Nat} (I:Inv X pins σ H s) (hv:Vals ys its) (hz:ys.length≤sizeLine) :
    Inv X pins σ (upd H s.heap.objs.size (.lst ys)) { s with heap:=s.heap.push { cls:=.type "list",data:=.seq its.toArray },toks:=t' } :=
  I.laid (fun _ _ q=>Heap.get?_push_of_some _ q) (Nat.le_refl _) ⟨hz,its,0,hv,Heap.get?_push_size _ rfl⟩
theorem Inv.fresh (I:Inv X pins σ H s):H s.heap.objs.size=none:=I.hok.fresh (Nat.le_refl _)
theorem Inv.aaw (I:Inv X pins σ H s) (hH:H l=some (.lst xs)):xs.length≤sizeLine∧∃ (its:List Value) (n:Nat),Vals xs its∧xs.length=its.length∧s.heap.get? l=some { cls:=.type "list",data:=.seq its.toArray n }:=by
  obtain ⟨z,its,n,r,e⟩:=I.hok l _ hH
  exact ⟨z,its,n,r,r.length,e⟩
theorem a4x {n:Nat} (h:n≤sizeLine):Builtin.List.listTooLong n=false:=by
  unfold Builtin.List.listTooLong
  exact decide_eq_false (by omega)
end
section
variable {X:Cx}
def Io:V→List V→Hp→VK→Prop:=fun x vs H Q=>∃ l xs y,x=.ref l∧vs=[y]∧H l=some (.lst xs)∧xs.length<sizeLine∧Q .non (upd H l (.lst (xs++[y])))
theorem ux:MtM X "list.append" Io:=by
  intro pins s σ H x vs v us Q I rx rv h
  obtain ⟨l,xs,y,rfl,rfl,hH,hz,q⟩:=h
  cases rx
  obtain ⟨u,rfl,ru⟩:=rv.one
  obtain ⟨z,its,n,r,hl,e⟩:=I.aaw hH
  refine call_meets F.slot_list_append ⟨_,e,rfl⟩ F.entry_list_append (F.args_list_append_2 _ _) (PySem.list_append l its.toArray n u (by rw [List.size_toArray]; omega)) ⟨e,?_⟩
  refine ⟨.non,_,I.aaz (its':=its++[u]) hH e (by simp) (r.append (.cons ru .nil)) ?_,rfl,q⟩
  rw [List.length_append,List.length_singleton]
  omega
def acw:V→List V→Hp→VK→Prop:=fun x vs H Q=>∃ l xs y,x=.ref l∧vs=[]∧H l=some (.lst xs)∧xs[xs.length - 1]? = some y∧Q y (upd H l (.lst xs.dropLast))
theorem a9f:MtM X "list.pop" acw:=by
  intro pins s σ H x vs v us Q I rx rv h
  obtain ⟨l,xs,y,rfl,rfl,hH,hy,q⟩:=h
  cases rx
  have hus:=rv.zero
  subst hus
  obtain ⟨z,its,n,r,hl,e⟩:=I.aaw hH
  obtain ⟨u,hu,ru⟩:=r.get hy
  have hy':its.toArray[its.toArray.size - 1]? = some u:=by
    show its.toArray[its.length - 1]? = some u
    rw [← Array.getElem?_toList,← hl]
    exact hu
  refine call_meets F.slot_list_pop ⟨_,e,rfl⟩ F.entry_list_pop (F.args_list_pop_1 _) (MeetsSeq.list_pop_last l its.toArray n u hy' (by rw [List.size_toArray]; omega)) ⟨e,?_⟩
  refine ⟨y,_,I.aaz (its':=its.dropLast) hH e ?_ r.dropLast ?_,ru,q⟩
  · show its.toArray.eraseIdxIfInBounds (its.toArray.size - 1)=its.dropLast.toArray
    rw [List.size_toArray,List.eraseIdxIfInBounds_toArray,Xh]
  · rw [List.length_dropLast]
    omega
def a1a:V→List V→Hp→VK→Prop:=fun x vs H Q=>∃ l xs i k y,x=.ref l∧vs=[.int i]∧H l=some (.lst xs)∧-(2 ^ 63)≤i∧i<2 ^ 63∧seqIndex? i xs.length=some k∧xs[k]? = some y∧Q y (upd H l (.lst (xs.eraseIdx k)))
theorem W7:MtM X "list.pop" a1a:=by
  intro pins s σ H x vs v us Q I rx rv h
  obtain ⟨l,xs,i,k,y,rfl,rfl,hH,h1,h2,hk,hy,q⟩:=h
  cases rx
  obtain ⟨u,rfl,ru⟩:=rv.one
  obtain ⟨t,rfl⟩:=ru
  obtain ⟨z,its,n,r,hl,e⟩:=I.aaw hH
  obtain ⟨w,hw,rw'⟩:=r.get hy
  refine call_meets F.slot_list_pop ⟨_,e,rfl⟩ F.entry_list_pop (F.args_list_pop_2 _ _)
    (MeetsSeq.list_pop_at l its.toArray n i t k w (fitsIndex_both h1 h2) (by rw [List.size_toArray,← hl]; exact hk) (by rw [← Array.getElem?_toList]; exact hw) (by rw [List.size_toArray]; omega)) ⟨e,?_⟩
  refine ⟨y,_,I.aaz (its':=its.eraseIdx k) hH e ?_ (r.eraseIdx k) ?_,rw',q⟩
  · show its.toArray.eraseIdxIfInBounds k=(its.eraseIdx k).toArray
    rw [List.eraseIdxIfInBounds_toArray]
  · have:=Qc xs k
    omega
end
section
variable {prog:Program} {w:World} {A:Around} {E:Value→Shared→Prop} {s:Shared}
end
section
variable {X:Cx}
end
end L2
end
section
namespace L2
open PySem PySem.Spec PyProof.Rows
section
variable {κ:Type} [DecidableEq κ]
def Kz (kvs:List (κ × V)) (k:κ):Option V:=(kvs.find? fun kv=>decide (kv.1=k)).map (·.2)
def putK (kvs:List (κ × V)) (k:κ) (v:V):List (κ × V) :=
  if (kvs.any fun kv=>decide (kv.1=k))=true then kvs.map (fun kv=>if kv.1=k then (kv.1,v) else kv) else kvs++[(k,v)]
def Tc (kvs:List (κ × V)) (k:κ):List (κ × V):=kvs.filter fun kv=>decide (kv.1≠k)
theorem Jx {p:κ × V} {r:List (κ × V)} {k:κ} (e:p.1=k):Kz (p::r) k=some p.2:=by simp [Kz,List.find?_cons,e]
theorem Jt {p:κ × V} {r:List (κ × V)} {k:κ} (e:¬ p.1=k):Kz (p::r) k=Kz r k:=by simp [Kz,List.find?_cons,e]
theorem W0 (k:κ):∀ kvs:List (κ × V),(kvs.any fun kv=>decide (kv.1=k))=(Kz kvs k).isSome
  | []=>rfl
  | p::r=>by
    rw [List.any_cons]
    by_cases e:p.1=k
    · simp only [Jx e,decide_eq_true e,Bool.true_or,Option.isSome_some]
    · rw [Jt e,decide_eq_false e,Bool.false_or]; exact W0 k r
theorem Gi (kvs:List (κ × V)) (k:κ) (v:V):(putK kvs k v).length≤kvs.length+1:=by
  unfold putK
  split
  · rw [List.length_map]; omega
  · rw [List.length_append,List.length_cons,List.length_nil]; omega
theorem Mr.Eb {o:Option V} {u:Option Value} (r:Mr o u):o.isSome=u.isSome:=by
  cases o with
  | none=>cases u with
    | none=>rfl
    | some _=>exact (show False from r).elim
  | some _=>cases u with
    | none=>exact (show False from r).elim
    | some _=>rfl
theorem Mr.getD {o:Option V} {u:Option Value} {d:V} {d':Value} (r:Mr o u) (rd:RelV d d'):RelV (o.getD d) (u.getD d'):=by
  cases o with
  | none=>cases u with
    | none=>exact rd
    | some _=>exact (show False from r).elim
  | some _=>cases u with
    | none=>exact (show False from r).elim
    | some _=>exact r
theorem KV.val {kvs:List (κ × V)} {vs:List (κ × Value)} (r:KV kvs vs) (k:κ):Mr (Kz kvs k) (valueAt vs k):=by
  unfold KV at r
  induction r with
  | nil=>exact True.intro
  | @cons p q ps qs h t ih =>
    obtain ⟨h1,h2⟩:=h
    by_cases e:p.1=k
    · have e':q.1=k:=h1.symm.trans e
      have b:valueAt (q::qs) k=some q.2:=by simp [valueAt,List.find?_cons,e']
      rw [Jx e,b]; exact h2
    · have e':¬ q.1=k:=fun z=>e (h1.trans z)
      have b:valueAt (q::qs) k=valueAt qs k:=by simp [valueAt,List.find?_cons,e']
      rw [Jt e,b]; exact ih
theorem KV.any {kvs:List (κ × V)} {vs:List (κ × Value)} (r:KV kvs vs) (k:κ):(kvs.any fun kv=>decide (kv.1=k))=vs.any fun kv=>decide (kv.1=k):=by
  unfold KV at r
  induction r with
  | nil=>rfl
  | cons h t ih=>rw [List.any_cons,List.any_cons,ih,h.1]
theorem KV.repl {kvs:List (κ × V)} {vs:List (κ × Value)} (r:KV kvs vs) (k:κ) {y:V} {u:Value} (ry:RelV y u) :
    KV (kvs.map fun kv=>if kv.1=k then (kv.1,y) else kv) (vs.map fun kv=>if kv.1=k then (kv.1,u) else kv):=by
  unfold KV at r ⊢
  induction r with
  | nil=>exact .nil
  | @cons p q ps qs h t ih =>
    rw [List.map_cons,List.map_cons]
    refine .cons ?_ ih
    obtain ⟨h1,h2⟩:=h
    by_cases e:p.1=k
    · rw [if_pos e,if_pos (h1.symm.trans e)]; exact ⟨h1,ry⟩
    · rw [if_neg e,if_neg (fun z=>e (h1.trans z))]; exact ⟨h1,h2⟩
theorem KV.put {kvs:List (κ × V)} {vs:List (κ × Value)} (r:KV kvs vs) (k:κ) {y:V} {u:Value} (ry:RelV y u):KV (putK kvs k y) (stored vs k u):=by
  unfold putK stored
  rw [r.any k]
  by_cases e:(vs.any fun kv=>decide (kv.1=k))=true
  · rw [if_pos e,if_pos e]; exact r.repl k ry
  · rw [if_neg e,if_neg e]; exact Paired.snoc r ⟨rfl,ry⟩
theorem KV.drop {kvs:List (κ × V)} {vs:List (κ × Value)} (r:KV kvs vs) (k:κ):KV (Tc kvs k) (without vs k):=by
  unfold KV at r ⊢
  unfold Tc without
  induction r with
  | nil=>exact .nil
  | @cons p q ps qs h t ih =>
    obtain ⟨h1,h2⟩:=h
    rw [List.filter_cons,List.filter_cons]
    by_cases e:p.1=k
    · have a:¬ decide (p.1≠k)=true:=by simp [e]
      have b:¬ decide (q.1≠k)=true:=by simp [h1.symm.trans e]
      rw [if_neg a,if_neg b]; exact ih
    · have e':¬ q.1=k:=fun z=>e (h1.trans z)
      have a:decide (p.1≠k)=true:=by simp [e]
      have b:decide (q.1≠k)=true:=by simp [e']
      rw [if_pos a,if_pos b]; exact .cons ⟨h1,h2⟩ ih
theorem KV.keys {kvs:List (κ × V)} {vs:List (κ × Value)} (r:KV kvs vs):kvs.map (·.1)=vs.map (·.1):=by
  unfold KV at r
  induction r with
  | nil=>rfl
  | cons h t ih=>rw [List.map_cons,List.map_cons,ih,h.1]
theorem KV.length {kvs:List (κ × V)} {vs:List (κ × Value)} (r:KV kvs vs):kvs.length=vs.length:=Paired.length r
theorem a4r (kvs:List (κ × V)) (k:κ):(Tc kvs k).length≤kvs.length:=List.length_filter_le _ _
end
theorem Vb {P:Program} {w:World} {k:Key} {u:Value} (r:RelV (kV k) u):(u5 P w).is k u=true:=by
  cases k with
  | inl i=>obtain ⟨t,e⟩:=(show ∃ t,u=Value.int i t from r); subst e; exact Td P w i t
  | inr x=>obtain ⟨t,e⟩:=(show ∃ t,u=Value.str x t from r); subst e; exact U5 P w x t
theorem Qg {P:Program} {w:World}:∀ {ks:List Key} {us:List Value},Vals (ks.map kV) us→ItemsAre (u5 P w) ks us
  | [],_,r=>by rw [List.map_nil] at r; cases r; exact .nil
  | k::ks,_,r=>by
    rw [List.map_cons] at r
    cases r with
    | cons h t=>exact .cons (Vb h) (Qg t)
abbrev KT (H:Hp):List (List Key × V)→List (List Key × Addr × Value)→Prop:=Paired fun p q=>p.1=q.1∧H q.2.1=some (.tup (p.1.map kV))∧RelV p.2 q.2.2
theorem KT.val {H:Hp} {kvs:List (List Key × V)} {xs:List (List Key × Addr × Value)} (r:KT H kvs xs) (k:List Key):Mr (Kz kvs k) ((atKey xs k).map (·.2)):=by
  induction r with
  | nil=>exact True.intro
  | @cons p q ps qs h t ih =>
    obtain ⟨h1,_,h2⟩:=h
    by_cases e:p.1=k
    · have e':q.1=k:=h1.symm.trans e
      have b:atKey (q::qs) k=some q.2:=by simp [atKey,List.find?_cons,e']
      rw [Jx e,b]; exact h2
    · have e':¬ q.1=k:=fun z=>e (h1.trans z)
      have b:atKey (q::qs) k=atKey qs k:=by simp [atKey,List.find?_cons,e']
      rw [Jt e,b]; exact ih
theorem KT.repl {H:Hp} {kvs:List (List Key × V)} {xs:List (List Key × Addr × Value)} (r:KT H kvs xs) (k:List Key) {y:V} {u:Value} (ry:RelV y u) :
    KT H (kvs.map fun kv=>if kv.1=k then (kv.1,y) else kv) (xs.map (putAt k u)):=by
  induction r with
  | nil=>exact .nil
  | @cons p q ps qs h t ih =>
    rw [List.map_cons,List.map_cons]
    refine .cons ?_ ih
    obtain ⟨h1,h2,h3⟩:=h
    unfold putAt
    by_cases e:p.1=k
    · rw [if_pos e,if_pos (h1.symm.trans e)]; exact ⟨h1,h2,ry⟩
    · rw [if_neg e,if_neg (fun z=>e (h1.trans z))]; exact ⟨h1,h2,h3⟩
theorem KT.put {H:Hp} {kvs:List (List Key × V)} {xs:List (List Key × Addr × Value)} (r:KT H kvs xs) (k:List Key) {b:Addr} {y:V} {u:Value} (hb:H b=some (.tup (k.map kV))) (ry:RelV y u) :
    KT H (putK kvs k y) (storedH xs k b u):=by
  have e:(kvs.any fun kv=>decide (kv.1=k))=(atKey xs k).isSome:=by
    rw [W0,(r.val k).Eb,Option.isSome_map]
  unfold putK storedH
  rw [e]
  by_cases q:(atKey xs k).isSome=true
  · rw [if_pos q,if_pos q]; exact r.repl k ry
  · rw [if_neg q,if_neg q]; exact Paired.snoc r ⟨rfl,hb,ry⟩
theorem KT.keeps {H H':Hp} {kvs:List (List Key × V)} {xs:List (List Key × Addr × Value)} (r:KT H kvs xs) (ht:∀ b ys,H b=some (.tup ys)→H' b=some (.tup ys)):KT H' kvs xs :=
  Paired.acp r fun _ _ z=>⟨z.1,ht _ _ z.2.1,z.2.2⟩
section
variable {P:Program} {w:World} {H:Hp} {h:Heap} {a:Addr}
theorem aa6 {u:HO} (ok:HOk P w H h) (e:Rd H a u):vg P w H h a u:=e.ok ok
theorem Jm {kvs:List (Key × V)} (ok:HOk P w H h) (e:Rd H a (.dK kvs)):kvs.length≤sizeLine∧(a==sysModules)=false∧∃ vs,KV kvs vs∧h.DictOf (u5 P w) a vs :=
  show vg P w H h a (.dK kvs) from aa6 ok e
theorem a7l {kvs:List (Key × V)} (ok:HOk P w H h) (e:H a=some (.dK kvs)):kvs.length≤sizeLine∧(a==sysModules)=false∧∃ vs,KV kvs vs∧h.DictOf (u5 P w) a vs:=Jm ok (.inl e)
theorem Rp {ks:List Key} (ok:HOk P w H h) (e:H a=some (.tup (ks.map kV))):(tupleKind (u5 P w)).is h ks a:=by
  obtain ⟨_,its,r,o,h1,h2,_,n,h3⟩:=(show vg P w H h a (.tup (ks.map kV)) from ok a _ e)
  exact ⟨o,its.toArray,n,h1,h2,h3,by simpa using Qg r⟩
theorem Yo {kvs:List (List Key × V)} (ok:HOk P w H h) (e:Rd H a (.dT kvs)):kvs.length≤sizeLine∧(a==sysModules)=false ∧
    ∃ xs,KT H kvs xs∧h.DictOfH (tupleKind (u5 P w)) a xs:=by
  obtain ⟨z,y,xs,r,o,es,ep,h1,h2,h3,h4,h5⟩:=(show vg P w H h a (.dT kvs) from aa6 ok e)
  refine ⟨z,y,xs,r,o,es,ep,h1,h2,h3,h4,fun x hx=>?_,h5⟩
  have all:∀ {l:List (List Key × V)} {m:List (List Key × Addr × Value)},KT H l m→∀ x∈m,(tupleKind (u5 P w)).is h x.1 x.2.1:=by
    intro l m q
    induction q with
    | nil=>intro x hx; exact nomatch hx
    | @cons p q ps qs hq t ih =>
      intro x hx
      rcases List.mem_cons.mp hx with e | hx
      · subst e
        exact Rp ok (by rw [← hq.1]; exact hq.2.1)
      · exact ih x hx
  exact all r x hx
theorem ab9 {kvs:List (List Key × V)} (ok:HOk P w H h) (e:H a=some (.dT kvs)):kvs.length≤sizeLine∧(a==sysModules)=false ∧
    ∃ xs,KT H kvs xs∧h.DictOfH (tupleKind (u5 P w)) a xs:=Yo ok (.inl e)
end
def Zv (H:Hp) (a:Addr) (y:V) (r:Option V):Prop :=
  (∃ kvs k,Rd H a (.dK kvs)∧y=kV k∧r=Kz kvs k)∨∃ kvs k b,Rd H a (.dT kvs)∧y=.ref b∧H b=some (.tup (k.map kV))∧r=Kz kvs k
def a8e (H:Hp) (a:Addr) (y v:V) (H':Hp):Prop :=
  (∃ kvs k,H a=some (.dK kvs)∧y=kV k∧kvs.length<sizeLine∧H'=upd H a (.dK (putK kvs k v))) ∨
  ∃ kvs k b,H a=some (.dT kvs)∧y=.ref b∧H b=some (.tup (k.map kV))∧kvs.length<sizeLine∧H'=upd H a (.dT (putK kvs k v))
theorem Zv.k {H:Hp} {a:Addr} {kvs:List (Key × V)} {k:Key} (e:H a=some (.dK kvs)):Zv H a (kV k) (Kz kvs k):=.inl ⟨kvs,k,.inl e,rfl,rfl⟩
theorem Zv.t {H:Hp} {a b:Addr} {kvs:List (List Key × V)} {k:List Key} (e:H a=some (.dT kvs)) (eb:H b=some (.tup (k.map kV))):Zv H a (.ref b) (Kz kvs k):=.inr ⟨kvs,k,b,.inl e,rfl,eb,rfl⟩
theorem a8e.k {H:Hp} {a:Addr} {kvs:List (Key × V)} {k:Key} {v:V} (e:H a=some (.dK kvs)) (hl:kvs.length<sizeLine):a8e H a (kV k) v (upd H a (.dK (putK kvs k v))):=.inl ⟨kvs,k,e,rfl,hl,rfl⟩
theorem a8e.t {H:Hp} {a b:Addr} {kvs:List (List Key × V)} {k:List Key} {v:V} (e:H a=some (.dT kvs)) (eb:H b=some (.tup (k.map kV))) (hl:kvs.length<sizeLine) :
    a8e H a (.ref b) v (upd H a (.dT (putK kvs k v))):=.inr ⟨kvs,k,b,e,rfl,eb,hl,rfl⟩
section
variable {X:Cx} {pins:List (Addr × Obj)} {σ:St} {H:Hp} {s:Shared} {a:Addr} {y v:V} {u r:Value} {o:Option V} {A:Around} {E:Value→Shared→Prop}
theorem Inv.big (I:Inv X pins σ H s):sysModules<s.heap.objs.size:=by
  have h:mainGlobals<s.heap.objs.size:=(I.mod.glob.keeps I.bk).lt
  exact Nat.lt_trans (by decide) h
theorem R8 {Q:Value→Shared→Prop} (hu:A.units+1<cLine) (I:Inv X pins σ H s) (g:Zv H a y (some v)) (ry:RelV y u) (h:∀ w' s',Inv X pins σ H s'→RelV v w'→Q w' s') :
    wpAny (model X.prog X.w) A (getItem (.ref a) u) Q E s:=by
  rcases g with ⟨kvs,k,e,ey,l⟩ | ⟨kvs,k,b,e,ey,eb,l⟩
  · subst ey
    obtain ⟨z,hd,vs,rel,dd⟩:=Jm I.hok e
    obtain ⟨w',hw,rw'⟩:=Mr.some_of (v:=v) (o:=valueAt vs k) (by rw [l]; exact rel.val k)
    exact wpAny_getItem_of (Vb ry) dd.mapOf hw (h w' _ (I.tok _) rw')
  · subst ey
    cases (show u=Value.ref b from ry)
    obtain ⟨z,hd,xs,rel,dd⟩:=Yo I.hok e
    obtain ⟨w',hw,rw'⟩:=Mr.some_of (v:=v) (o:=(atKey xs k).map (·.2)) (by rw [l]; exact rel.val k)
    obtain ⟨p,hp,hp2⟩:=Option.map_eq_some_iff.mp hw
    refine wpAny_getItem_heap (tupleKind_room_in1 hu) (Rp I.hok eb) dd hp ?_
    rw [hp2]
    exact h w' _ (I.tok _) rw'
theorem ae1 {Q:Value→Shared→Prop} (hu:A.units+1<cLine) (I:Inv X pins σ H s) (g:Zv H a y o) (ry:RelV y u) (h:∀ s',Inv X pins σ H s'→Q (.bool o.isSome) s') :
    wpAny (model X.prog X.w) A (compareOp .In u (.ref a)) Q E s:=by
  rcases g with ⟨kvs,k,e,ey,l⟩ | ⟨kvs,k,b,e,ey,eb,l⟩
  · subst ey
    obtain ⟨z,hd,vs,rel,dd⟩:=Jm I.hok e
    refine wpAny_in_of (Vb ry) hd dd.mapOf ?_
    rw [← (rel.val k).Eb,← l]
    exact h _ (I.tok _)
  · subst ey
    cases (show u=Value.ref b from ry)
    obtain ⟨z,hd,xs,rel,dd⟩:=Yo I.hok e
    refine wpAny_in_heap (tupleKind_room_in1 hu) (Rp I.hok eb) hd dd ?_
    have q:=(rel.val k).Eb
    rw [Option.isSome_map] at q
    rw [← q,← l]
    exact h _ (I.tok _)
theorem a7t {Q:Value→Shared→Prop} (hu:A.units+1<cLine) (I:Inv X pins σ H s) (g:Zv H a y o) (ry:RelV y u) (h:∀ s',Inv X pins σ H s'→Q (.bool (!o.isSome)) s') :
    wpAny (model X.prog X.w) A (compareOp .NotIn u (.ref a)) Q E s:=by
  rcases g with ⟨kvs,k,e,ey,l⟩ | ⟨kvs,k,b,e,ey,eb,l⟩
  · subst ey
    obtain ⟨z,hd,vs,rel,dd⟩:=Jm I.hok e
    refine wpAny_notIn_of (Vb ry) hd dd.mapOf ?_
    rw [← (rel.val k).Eb,← l]
    exact h _ (I.tok _)
  · subst ey
    cases (show u=Value.ref b from ry)
    obtain ⟨z,hd,xs,rel,dd⟩:=Yo I.hok e
    refine wpAny_notIn_heap (tupleKind_room_in1 hu) (Rp I.hok eb) hd dd ?_
    have q:=(rel.val k).Eb
    rw [Option.isSome_map] at q
    rw [← q,← l]
    exact h _ (I.tok _)
theorem O6 {h':Heap} {t':Nat} {ob:HO} (I:Inv X pins σ H s) (mu:Mut (H a)) (hs:Heap.SameBut a s.heap h') (he:∃ q,h'.get? a=some q) (new:vg X.prog X.w (upd H a ob) h' a ob) :
    Inv X pins σ (upd H a ob) { s with heap:=h',toks:=t' } :=
  I.write (x:=a) (e:=a) mu (.inl rfl) (fun b q hb z=>(hs.2 b hb).trans z) he new
theorem Za {P:Program} {w:World} {H':Hp} {h':Heap} {kvs:List (Key × V)} {vs:List (Key × Value)} (z:kvs.length≤sizeLine) (hd:(a==sysModules)=false) (rel:KV kvs vs) (dd:h'.DictOf (u5 P w) a vs) :
    vg P w H' h' a (.dK kvs):=⟨z,hd,vs,rel,dd⟩
theorem a02 {H':Hp} {Q:Unit→Shared→Prop} (hu:A.units+1<cLine) (I:Inv X pins σ H s) (g:a8e H a y v H') (ry:RelV y u) (rv:RelV v r) (h:∀ s',Inv X pins σ H' s'→Q () s') :
    wpAny (model X.prog X.w) A (setItem (.ref a) u r) Q E s:=by
  rcases g with ⟨kvs,k,e,ey,l,eH⟩ | ⟨kvs,k,b,e,ey,eb,l,eH⟩
  · subst ey eH
    obtain ⟨z,hd,vs,rel,dd⟩:=a7l I.hok e
    have hz:vs.length≤sizeLine:=by rw [← rel.length]; exact z
    have hl:(putK kvs k v).length≤sizeLine:=by have:=Gi kvs k v; omega
    refine wpAny_setItem_pairs (hsz:=hz) (Vb ry) dd fun h' dd' hs=>h _ ?_
    have he:∃ q,h'.get? a=some q:=let ⟨q,_,_,hq,_⟩:=dd'; ⟨q,hq⟩
    exact O6 I (by rw [e]; exact True.intro) hs he (Za hl hd (rel.put k rv) dd')
  · subst ey eH
    cases (show u=Value.ref b from ry)
    obtain ⟨z,hd,xs,rel,dd⟩:=ab9 I.hok e
    have hz:xs.length≤sizeLine:=by rw [← Paired.length rel]; exact z
    have hl:(putK kvs k v).length≤sizeLine:=by have:=Gi kvs k v; omega
    refine wpAny_setItem_heap (hsz:=hz) (tupleKind_room_in1 hu) (Rp I.hok eb) dd fun h' dd' hs=>h _ ?_
    obtain ⟨q,es,ep,hq,h2,h3,h4,_,h5⟩:=dd'
    refine O6 I (by rw [e]; exact True.intro) hs ⟨q,hq⟩ ⟨hl,hd,_,(rel.put k eb rv).keeps fun c ys ec=>?_,q,es,ep,hq,h2,h3,h4,h5⟩
    rw [dj (ab6 ec e (fun z=>nomatch z))]
    exact ec
end
section
variable {X:Cx} {pins:List (Addr × Obj)} {σ:St} {H:Hp} {s:Shared} {a:Addr} {kvs:List (Key × V)} {k:Key} {u:Value} {A:Around} {E:Value→Shared→Prop}
theorem ab7 {v:V} {more:List Value} {Q:Value→Shared→Prop} (I:Inv X pins σ H s) (e:H a=some (.dK kvs)) (ry:RelV (kV k) u) (l:Kz kvs k=some v) (hm:more=[]∨∃ x,more=[x])
    (h:∀ w' s',Inv X pins σ (upd H a (.dK (Tc kvs k))) s'→RelV v w'→Q w' s'):wpAny (model X.prog X.w) A (call (.builtin "dict.pop") (.ref a::u::more)) Q E s:=by
  obtain ⟨z,hd,vs,rel,dd⟩:=a7l I.hok e
  obtain ⟨w',hw,rw'⟩:=Mr.some_of (v:=v) (o:=valueAt vs k) (by rw [← l]; exact rel.val k)
  have hp:(keyPart u).isSome=true:=by
    cases k with
    | inl i=>obtain ⟨t,q⟩:=(show ∃ t,u=Value.int i t from ry); subst q; rfl
    | inr x=>obtain ⟨t,q⟩:=(show ∃ t,u=Value.str x t from ry); subst q; rfl
  have ha:argsOk "dict.pop" ⟨.ref a::u::more,[]⟩:=by
    rcases hm with q | ⟨x,q⟩
    · subst q; exact PySem.F.args_dict_pop_2 _ _
    · subst q; exact PySem.F.args_dict_pop_3 _ _ _
  refine call_meetsIn PySem.F.slot_dict_pop dd.typeIs PySem.F.entry_dict_pop ha (meets_dict_pop_there (u5 X.prog X.w) a (Vb ry) more hm hp)
    ⟨vs,w',dd,by rw [← rel.length]; exact z,hw,fun h' dd' hs=>h w' _ ?_ rw'⟩
  have he:∃ q,h'.get? a=some q:=let ⟨q,_,_,hq,_⟩:=dd'; ⟨q,hq⟩
  exact O6 I (by rw [e]; exact True.intro) hs he (Za (Nat.le_trans (a4r kvs k) z) hd (rel.drop k) dd')
theorem aai {Q:Value→Shared→Prop} (I:Inv X pins σ H s) (e:Rd H a (.dK kvs)) (h:∀ t s',Inv X pins σ H s'→Q (.int kvs.length t) s'):wpAny (model X.prog X.w) A (call (.builtin "len") [.ref a]) Q E s:=by
  obtain ⟨z,hd,vs,rel,dd⟩:=Jm I.hok e
  refine call_len_dict hd dd (by rw [← rel.length]; rw [sizeLine_eq] at z; omega) ?_
  rw [← rel.length]
  exact h _ _ (I.tok _)
end
def aby (i:Expr):Prop:=∀ ov iv,subscripted i false ov iv=operate [ov,iv] (getItem ov iv)
theorem a82 {prog:Program} {w:World} {A:Around} {E:Value→Shared→Prop} {s:Shared} {env:Env} {value slice:Expr} {pos:Pos} {T id:String} {Q:Value→Shared→Prop}
    (hl:typeLookup (.type T) "__getitem__" = pure (some (.builtin id))) (hs:aby slice)
    (h:wpAny (model prog w) A (eval value env) (fun o s₁=>wpAny (model prog w) A (eval slice env) (fun i s₂=>s₂.TypeIs o T∧wpAny (model prog w) A (getItem o i) Q E s₂) E s₁) E s) :
    wpAny (model prog w) A (eval (.Subscript value slice pos) env) Q E s:=by
  refine Subscript_ (wpAny_mono h (fun o s₁ h₁=>wpAny_mono h₁ (fun i s₂ h₂=>?_) fun _ _ x=>x) fun _ _ x=>x)
  obtain ⟨hT,h₂⟩:=h₂
  unfold subscriptTail
  refine wpAny_bind ?_
  rw [getitemInPython_of_ne hT.not_modules]
  refine wpAny_bind (wpAny_specialOf hT hl ?_)
  have fin:wpAny (model prog w) A (subscripted slice false o i) (fun r s₃=>wpAny (model prog w) A (letTemporaryGo value o r >>= fun _=>pure r) Q E s₃) E s₂:=by
    rw [hs o i]
    exact wpAny_operating (wpAny_mono h₂ (fun r s₃ h₃=>wpAny_bind (wpAny_letTemporaryGo (wpAny_pure h₃))) fun _ _ x=>x)
  first
    | exact wpAny_pure (wpAny_bind fin)
    | exact wpAny_bind (wpAny_pure (wpAny_bind fin))
    | exact wpAny_bind fin
theorem Ku {X:Cx} {pins:List (Addr × Obj)} {σ:St} {H:Hp} {s:Shared} {a:Addr} {y:V} {o:Option V} (I:Inv X pins σ H s) (g:Zv H a y o):s.TypeIs (.ref a) "dict" := by
  rcases g with ⟨kvs,k,e,_,_⟩ | ⟨kvs,k,b,e,_,_,_⟩
  · obtain ⟨_,_,vs,_,dd⟩:=Jm I.hok e
    exact dd.typeIs
  · obtain ⟨_,_,xs,_,dd⟩:=Yo I.hok e
    exact dd.typeIs
def abk (td ty:TE):TE:=fun σ H Q=>td σ H fun x H1=>ty σ H1 fun y H2=>∃ a v,x=.ref a∧Zv H2 a y (some v)∧Q v H2
def abh (td ty tv:TE):TS:=fun D σ H=>tv σ H fun v H1=>td σ H1 fun x H2=>ty σ H2 fun y H3=>∃ a H4,x=.ref a∧a8e H3 a y v H4∧D.nx σ H4
section
variable {X:Cx} {o i e value:Expr} {pos pos' tpos:Pos} {td ty tv:TE}
theorem a6l (hu:X.A.units+1<cLine) (ho:PE X o td) (hi:PE X i ty) (hs:aby i):PE X (.Subscript o i pos) (abk td ty):=by
  intro pins s σ H Q I h
  refine a82 PySem.F.slot_dict_getitem.lookup hs (thn (ho pins s σ H _ I h) fun u s1 ⟨x,H1,I1,rx,q1⟩=>thn (hi pins s1 σ H1 _ I1 q1) fun iv s2 ⟨y,H2,I2,ry,a,v,ex,g,q2⟩=>?_)
  subst ex
  obtain rfl:u=Value.ref a:=rx
  exact ⟨Ku I2 g,R8 hu I2 g ry fun w' s3 I3 rw'=>⟨v,H2,I3,rw',q2⟩⟩
theorem a6v (hu:X.A.units+1<cLine) (ho:PE X o td) (hi:PE X i ty) (hv:PE X value tv) (hs:swapsWith value (some (.Subscript o i pos')) pos.line X.env=pure false) :
    PS X (.Assign [.Subscript o i pos'] value pos) (abh td ty tv):=by
  intro pins s σ H D I h
  refine wpAny_Assign_Subscript (thn (hv pins s σ H _ I h) fun r s1 ⟨v,H1,I1,rv,q1⟩=>thn (ho pins s1 σ H1 _ I1 q1) fun u s2 ⟨x,H2,I2,rx,q2⟩=>thn (hi pins s2 σ H2 _ I2 q2) fun iv s3 ⟨y,H3,I3,ry,a,H4,ex,g,q3⟩=>?_) hs
  subst ex
  obtain rfl:u=Value.ref a:=rx
  exact a02 hu I3 g ry rv fun s4 I4=>⟨σ,H4,I4,q3⟩
end
theorem a3m {P:Program} {w:World} {H:Hp} (h:Heap) (hb:sysModules<h.objs.size):vg P w H (h.push { cls:=.type "dict",data:=.dict #[] }) h.objs.size (.dK []) :=
  ⟨Nat.zero_le _,beq_eq_false_iff_ne.mpr (Ne.symm (Nat.ne_of_lt hb)),[],.nil,Heap.DictOf.new h⟩
def aa0:TE:=fun _ H Q=>∀ p,H p=none→Q (.ref p) (upd H p (.dK []))
section
variable {X:Cx} {pos:Pos}
theorem a3k:PE X (.Dict [] [] pos) aa0:=fun pins s σ H Q I h =>
  wpAny_Dict_empty ⟨.ref s.heap.objs.size,_,I.laid (a:=s.heap.objs.size) (o:=.dK []) (t':=s.toks) (fun _ _ q=>Heap.get?_push_of_some _ q) (Nat.le_refl _) (a3m s.heap I.big),rfl,h _ (I.hok.fresh (Nat.le_refl _))⟩
end
structure M1 (X:Cx) (o:Expr) (m:Str) (apos:Pos) (e:Expr) (cpos:Pos):Prop where
  base:attributeBase o m X.env (eval o X.env)=eval o X.env
  few:((backTo cpos (starEach [e] X.env)).all (fun x=>!x.1)&&(backToKw cpos (keywordEach [] X.env)).all (fun x=>x.1.isSome)
    && decide (([e]:List Expr).length+([]:List Keyword).length+(if ([]:List Keyword).isEmpty then 0 else 1)<30))=true
  line:(apos.endLine==cpos.line)=true
  trees:backTo cpos (starEach [e] X.env)=[(false,eval e X.env)]
structure M2 (X:Cx) (o:Expr) (m:Str) (apos:Pos) (e f:Expr) (cpos:Pos):Prop where
  base:attributeBase o m X.env (eval o X.env)=eval o X.env
  few:((backTo cpos (starEach [e,f] X.env)).all (fun x=>!x.1)&&(backToKw cpos (keywordEach [] X.env)).all (fun x=>x.1.isSome)
    && decide (([e,f]:List Expr).length+([]:List Keyword).length+(if ([]:List Keyword).isEmpty then 0 else 1)<30))=true
  line:(apos.endLine==cpos.line)=true
  trees:backTo cpos (starEach [e,f] X.env)=[(false,eval e X.env),(false,eval f X.env)]
def IsD (H:Hp) (a:Addr):Prop:=(∃ kvs,Rd H a (.dK kvs))∨∃ kvs,Rd H a (.dT kvs)
theorem a9u {X:Cx} {pins:List (Addr × Obj)} {σ:St} {H:Hp} {s:Shared} {a:Addr} (I:Inv X pins σ H s) (d:IsD H a) :
    s.TypeIs (.ref a) "dict" ∧ (∀ b,Value.ref a=.ref b→∃ ob,s.heap.get? b=some ob∧ob.dict=none)∧(a==sysModules)=false:=by
  rcases d with ⟨kvs,e⟩ | ⟨kvs,e⟩
  · obtain ⟨_,hd,vs,_,dd⟩:=Jm I.hok e
    refine ⟨dd.typeIs,fun b q=>?_,hd⟩
    cases q
    obtain ⟨ob,_,_,h1,h2,_⟩:=dd
    exact ⟨ob,h1,h2.2.1⟩
  · obtain ⟨_,hd,xs,_,dd⟩:=Yo I.hok e
    refine ⟨dd.typeIs,fun b q=>?_,hd⟩
    cases q
    obtain ⟨ob,_,_,h1,h2,_⟩:=dd
    exact ⟨ob,h1,h2.2.1⟩
section
variable {X:Cx} {pins:List (Addr × Obj)} {σ:St} {H:Hp} {s:Shared} {a:Addr} {y d:V} {u r:Value} {o:Option V} {A:Around} {E:Value→Shared→Prop}
end
def a6c (td ty:TE):TE:=fun σ H Q=>td σ H fun x H1=>∃ a,x=.ref a∧IsD H1 a∧ty σ H1 fun y H2=>∃ kvs k v,H2 a=some (.dK kvs)∧y=kV k∧Kz kvs k=some v∧Q v (upd H2 a (.dK (Tc kvs k)))
section
variable {X:Cx} {o e f:Expr} {apos cpos:Pos} {td ty tx:TE}
theorem a3a (ho:PE X o td) (he:PE X e ty) (m:M1 X o "pop" apos e cpos):PE X (.Call (.Attribute o "pop" apos) [e] [] cpos) (a6c td ty):=by
  intro pins s σ H Q I h
  refine wpAny_Call_method m.base m.few m.line PySem.F.plainAttrs_dict PySem.F.slot_dict_pop PySem.F.type_dict_pop (thn (ho pins s σ H _ I h) fun u s1 z0=>?_)
  obtain ⟨x,H1,I1,rx,a,ex,d,q1⟩:=z0
  subst ex
  obtain rfl:u=Value.ref a:=rx
  obtain ⟨t1,t2,_⟩:=a9u I1 d
  refine ⟨t1,t2,?_⟩
  rw [m.trees]
  refine Calls.callWith_builtin rfl (Calls.evalArgs_plain (Calls.spliced_cons (thn (he pins s1 σ H1 _ I1 q1) fun iv s2 z0=>Calls.spliced_nil ?_)))
  obtain ⟨y,H2,I2,ry,kvs,k,v,ea,ey,l,q2⟩:=z0
  subst ey
  exact ab7 I2 ea ry l (.inl rfl) fun w' s3 I3 rw'=>⟨v,_,I3,rw',q2⟩
end
section
variable {X:Cx} {pins:List (Addr × Obj)} {σ:St} {H:Hp} {s:Shared} {a:Addr} {kvs:List (Key × V)} {A:Around} {E:Value→Shared→Prop}
end
section
variable {X:Cx} {pins:List (Addr × Obj)} {σ:St} {H:Hp} {s:Shared} {a:Addr} {y:V} {u:Value} {A:Around} {E:Value→Shared→Prop}
end
end L2
end
section
namespace Att
open PySem PySem.W PySem.Calls PyProof.Rows
theorem Lq {P:Params} {h:Heap}:∀ (ns:List Int) (vs:List Value),WellAll P h vs (ns.map WData.int)→IntsAre vs ns:=by
  intro ns
  induction ns with
  | nil =>
    intro vs w
    rw [List.map_nil] at w
    cases w
    exact .nil
  | cons n ns ih =>
    intro vs w
    rw [List.map_cons] at w
    cases w with
    | cons a b =>
      cases a
      exact .cons _ _ (ih _ b)
theorem a2k {l:OpenLaw} {n:Nat} (hn:l.most=some n) {P:Params} {h:Heap} {args:List WData} {vals:List Value}
    (hpre:l.row.toRowW.claim.pre args=true) (hwl:WellAll P h vals args) :
    ∃ a vs ns,vals=[Value.ref a]∧args=[WData.list (ns.map WData.int)]∧h.get? a=some { cls:=.type "list",data:=.seq vs.toArray }∧IntsAre vs ns∧ns.length≤n:=by
  have hsh:WShape.hasAll [] args [.list .int]=true:=(pre_splitW hpre).1
  have hc:l.pre.holds [] { args:=args } = true:=(pre_splitW hpre).2
  obtain ⟨d,r,rfl,h1,h2⟩:=hasAllW_cons hsh
  obtain rfl:=hasAllW_nil h2
  obtain ⟨xs,rfl,h3⟩:=hasW_list h1
  obtain ⟨ns,rfl⟩:=items_int h3
  have hlen:ns.length≤n:=by
    unfold OpenLaw.pre at hc
    have h4:(WTm.not (.lt (.lit (.int (n:Int))) (.len (.arg 0)))).holds [] { args:=[.list (ns.map .int)] } = true:=by
      have h4:=(holds_andW hc).1
      rw [hn] at h4
      exact h4
    have h5:=condW_of h4 (w_not (w_lt w_lit (w_len_list (w_arg rfl))))
    rw [List.length_map] at h5
    refine Nat.le_of_not_lt fun q=>?_
    have q':(n:Int)<((ns.length:Nat):Int):=by omega
    first
      | (rw [decide_eq_true q'] at h5; exact absurd h5 (by decide))
      | (simp at h5; omega)
  cases hwl with
  | cons w1 w2 =>
    cases w2
    cases w1 with
    | list ho hall=>exact ⟨_,_,ns,rfl,rfl,ho,Lq ns _ hall,hlen⟩
theorem a0z (l:OpenLaw) (args:List WData):l.row.toRowW.claim.post args (.bool true) args=true :=
  postW_of (r:=l.row.toRowW) (X:=(true==true))
    (show WShape.has [] (.bool true) .bool=true by first | rfl | decide | simp [WShape.has,WShape.arms,WShape.armsAll])
    (show (WTm.eq .res (.lit (.bool true))).value [] { args:=args,res:=some (.bool true),after:=args } = some (.bool (true==true)) from w_eq_bool (w_res rfl) w_lit) rfl
theorem Ua {l:OpenLaw} {n:Nat} {q:Program} {loose:List Str} {XP:(Str→Option Value)→Heap→Prop} {YP:World→Heap→Prop} {d:DefRec}
    (hn:l.most=some n) (hdf:d.params.defaults=[])
    (call:∀ (w:World) (s₀ s₁:Shared) (mg mb:Str→Option Value) (fa:Addr) (o:Obj) (pm cd doc:Value) (a:Addr) (vs:List Value) (ns:List Int),
      Ground q loose [] XP w s₀ mg mb s₁.heap→YP w s₁.heap →
      s₁.heap.get? fa=some o→o.data=.func (docDef d.name d.params d.body d.scope pm cd doc)→s₁.heap.CodeRec cd d.name→mg d.name=some (.ref fa) →
      s₁.heap.get? a=some { cls:=.type "list",data:=.seq vs.toArray }→IntsAre vs ns→ns.length≤n→s₁.gens = #[] →
      codeAny (model l.prog w) callerA (.call (.ref fa) ⟨[.ref a],[]⟩) (fun r s'=>r=.ok (.ret (.bool true))∧OldK s₁.heap s'.heap∧s'.os=s₁.os∧AllBare s'.gens) s₁) :
    WalkO q loose XP YP l.row.toRowW d [] (fun f vs=>PySem.call f vs):=by
  intro w s₀ s₁ mg mb G Y fa o pm cd doc dV kV ho hd hcd hD hmg hg args vals as hpre hlay hrd hwl hlo
  obtain rfl:dV=.none:=Dflts.none hD hdf
  obtain rfl:kV=.none:=Dflts.noKw hD
  obtain ⟨a,vs,ns,rfl,rfl,hobj,hints,hlen⟩:=a2k hn hpre hwl
  refine enter_call (codeAny_mono (call w s₀ s₁ mg mb fa o pm cd doc a vs ns G Y ho (fd_plain hd) hcd hmg hobj hints hlen hg) fun r s' hq=>?_)
  obtain ⟨rfl,h2,h3,h4⟩:=hq
  exact ⟨.inl ⟨.bool true,.bool true,[],rfl,fun _=>rfl,.bool true,a0z l _,fun _=>⟨List.Pairwise.nil,fun _ hm=>(nomatch hm)⟩⟩,h2,h3,h4⟩
section
variable {prog:Program} {w:World} {A:Around} {E:Value→Shared→Prop} {s:Shared} {K:Frag}
end
end Att
namespace L2
open PySem PySem.Spec PyProof.Rows
theorem Q7:∀ {vs:List Value} {ns:List Int},IntsAre vs ns→Vals (ns.map V.int) vs
  | _,_,.nil=>.nil
  | _,_,.cons n t h=>.cons ⟨t,rfl⟩ (Q7 h)
def Only (H:Hp):Prop:=∀ b,H b=none∨∃ o xs,H b=some (.frz o (.lst xs))
theorem a4h {P:Program} {w:World} {K:PySem.W.Frag} {mg mb:Str→Option Value} {CX:CXT} {k:Nat} {fa a:Addr} {fd:FuncData} {x:Str} {sp:Sp} {s₁:Shared} {vs:List Value} {ns:List Int}
    (KX:K.In s₁.heap) (hns:s₁.heap.Ns mainGlobals mg) (hb:s₁.heap.Ns builtinsNs mb) (hbb:∀ x:Str,x ≠ "__name__" → mb x=bootBuiltins x) (hlim:s₁.heap.NoLimit) (hg:s₁.gens = #[])
    (ha:s₁.heap.get? a=some { cls:=.type "list",data:=.seq vs.toArray }) (hi:IntsAre vs ns) (hl:ns.length≤sizeLine) (hr:Kv k callerA)
    (F:∀ base:Heap,K.In base→base.Ns mainGlobals mg→Bf P w K mg base CX k fa fd [x] sp) (hbind:∀ (s:Shared) (u:Value),BindsTo s fd ⟨[u],[]⟩ [(x,u)])
    (hsp:∀ H:Hp,Only H→SqL K H a (ns.map V.int)→sp [.ref a] H (fun v _=>v=.bl true) fun _ _ _=>False)
    (hCX:∀ H e s',CX [] H s₁ (fun _ _ _=>False) e s'→False) :
    codeAny (model P w) callerA (.call (.ref fa) ⟨[.ref a],[]⟩) (fun r s'=>r=.ok (.ret (.bool true))∧OldK s₁.heap s'.heap∧s'.os=s₁.os∧AllBare s'.gens) s₁:=by
  have rv:=Q7 hi
  have lenV:=hi.length
  have core:∀ H:Hp,Only H→SqL K H a (ns.map V.int)→HOk P w H s₁.heap→(∀ b,H b≠none→b=a)→(H a≠none→K.lookup a=none) →
      codeAny (model P w) callerA (.call (.ref fa) ⟨[.ref a],[]⟩) (fun r s'=>r=.ok (.ret (.bool true))∧OldK s₁.heap s'.heap∧s'.os=s₁.os∧AllBare s'.gens) s₁:=by
    intro H hO hS hok hA hK
    have base_of:∀ {b:Addr} {o:Obj},s₁.heap.get? b=some o→H b=none→(a4b s₁.heap H).get? b=some o:=fun e n=>a4a e n
    have noA:∀ {b:Addr} {o:Obj} {es:Array DictEntry} {ep:Nat},s₁.heap.get? b=some o→o.data=.dict es ep→H b=none:=fun {b o es ep} e d=>by
      cases q:H b with
      | none=>rfl
      | some u =>
        have e':b=a:=hA b (by rw [q]; simp)
        subst e'
        rw [ha] at e; cases e
        have d':Data.seq vs.toArray _=Data.dict es ep:=d
        cases d'
    have nsK:∀ {b:Addr} {m:Str→Option Value},s₁.heap.Ns b m→(a4b s₁.heap H).Ns b m:=fun {b m} ⟨o,es,ep,e,d,r⟩=>⟨o,es,ep,base_of e (noA e d),d,r⟩
    have hKb:K.In (a4b s₁.heap H):=fun b o e=>base_of (KX b o e) (by
      cases q:H b with
      | none=>rfl
      | some u =>
        have e':b=a:=hA b (by rw [q]; simp)
        subst e'
        rw [hK (by rw [q]; simp)] at e; cases e)
    have hM:Mod K mg (a4b s₁.heap H):=⟨hKb,nsK hns,⟨mb,nsK hb,hbb⟩,let ⟨mc,h1,h2⟩:=hlim; ⟨mc,nsK h1,h2⟩⟩
    have e0:aay P w K mg (a4b s₁.heap H) callerA [] s₁ H:=⟨rfl,hM,fun b o e=>a8f e,Nat.le_of_eq (Yz _ _),trivial,fun b hb=>absurd (show b∈([]:List Addr) from hb) (by simp),hok,.of_eq hg⟩
    refine codeAny_mono ((F _ hKb (nsK hns)).run callerA [] s₁ H ⟨[.ref a],[]⟩ [.ref a] [.ref a] _ _ hr e0 (hbind s₁ (.ref a)) (.cons rfl .nil) (hsp H hO hS)) fun r s' h=>?_
    cases r with
    | error e=>exact (hCX H e s' h).elim
    | ok fl =>
      cases fl with
      | next=>exact False.elim h
      | brk=>exact False.elim h
      | cont=>exact False.elim h
      | ret u =>
        obtain ⟨v,H',os,bare,un,hok',r',q⟩:=h
        have q':v=.bl true:=q
        subst q'
        obtain rfl:u=Value.bool true:=r'
        refine ⟨rfl,OldK.of_keep fun b o e=>?_,os,bare⟩
        cases q:H b with
        | none=>exact un.keep b o e q (by intro z; exact absurd (show b∈([]:List Addr) from z) (by simp)) (by simp)
        | some u =>
          rcases hO b with z | ⟨ob,xs,z⟩
          · rw [q] at z; cases z
          · have z2:=un.frzs b ob _ z
            obtain ⟨e1,_⟩:=hok b _ z
            obtain ⟨e2,_⟩:=hok' b _ z2
            rw [e] at e1; cases e1
            exact e2
  cases hk:K.lookup a with
  | some o =>
    have e:=KX a o hk
    rw [ha] at e
    cases e
    refine core (fun _=>none) (fun _=>.inl rfl) (.inr ⟨_,vs.toArray,_,hk,rfl,rfl,rfl,by rw [List.size_toArray,lenV]; exact hl,by simpa using rv⟩) (fun b u z=>by have z':(none:Option HO)=some u:=z; cases z') (fun b z=>absurd rfl z) fun z=>absurd rfl z
  | none =>
    refine core (fun b=>if b=a then some (.frz { cls:=.type "list",data:=.seq vs.toArray } (.lst (ns.map V.int))) else none) (fun b=>?_) (.inl (.inr ⟨{ cls:=.type "list",data:=.seq vs.toArray },if_pos rfl⟩)) (fun b u z=>?_) (fun b z=>?_) fun _=>hk
    · by_cases hb:b=a
      · exact .inr ⟨_,_,if_pos hb⟩
      · exact .inl (if_neg hb)
    · by_cases hb:b=a
      · have z':=(if_pos hb).symm.trans z
        cases z'
        subst hb
        exact ⟨ha,by rw [List.length_map]; exact hl,vs,_,rv,ha⟩
      · have z':=(if_neg hb).symm.trans z
        cases z'
    · by_cases hb:b=a
      · exact hb
      · exact absurd (if_neg hb) z
end L2
namespace L2
open PySem PySem.Spec PyProof.Rows
theorem a84 {l:PySem.W.OpenLaw} {n k:Nat} {q:Program} {loose:List Str} {XP:(Str→Option Value)→Heap→Prop} {YP:World→Heap→Prop} {d:DefRec} {K:Params→PySem.W.Frag} {CX:World→CXT} {sp:World→Sp} {x:Str}
    (hn:l.most=some n) (hn2:n≤sizeLine) (hdf:d.params.defaults=[]) (hr:Kv k callerA)
    (hY:∀ (w:World) (h:Heap),YP w h→(K w.params).In h)
    (F:∀ (w:World) (mg:Str→Option Value) (fa:Addr) (h:Heap),(K w.params).In h→h.Ns mainGlobals mg→mg d.name=some (.ref fa) →
      ∃ fd:FuncData,(∀ (s:Shared) (u:Value),BindsTo s fd ⟨[u],[]⟩ [(x,u)]) ∧
        ∀ base:Heap,(K w.params).In base→base.Ns mainGlobals mg→Bf l.prog w (K w.params) mg base (CX w) k fa fd [x] (sp w))
    (hsp:∀ (w:World) (H:Hp) (a:Addr) (ns:List Int),ns.length≤n→Only H→SqL (K w.params) H a (ns.map V.int)→sp w [.ref a] H (fun v _=>v=.bl true) fun _ _ _=>False)
    (hCX:∀ (w:World) (H:Hp) (s:Shared) (e:Value) (s':Shared),CX w [] H s (fun _ _ _=>False) e s'→False) :
    PySem.W.WalkO q loose XP YP l.row.toRowW d [] (fun f vs=>PySem.call f vs):=by
  refine Att.Ua hn hdf fun w s₀ s₁ mg mb fa o pm cd doc a vs ns G Y ho hd hcd hmg hobj hints hlen hg=>?_
  have KX:=hY w _ Y
  obtain ⟨fd,hb,hF⟩:=F w mg fa _ KX G.T.g hmg
  exact a4h KX G.T.g G.T.b G.T.builtins G.T.nolimit hg hobj hints (Nat.le_trans hlen hn2) hr hF hb (fun H hO hS=>hsp w H a ns hlen hO hS) fun H e s'=>hCX w H s₁ e s'
end L2
namespace L2
open PySem PySem.Spec PyProof.Rows
def Eh (s:Stmt):Arguments:=match s with
  | .FunctionDef _ a _ _ _ _ _ _ _ _=>a
  | _=>{ posonlyargs:=[],args:=[],vararg:=none,kwonlyargs:=[],kw_defaults:=[],kwarg:=none,defaults:=[] }
def Bp (s:Stmt):List Stmt:=match s with
  | .FunctionDef _ _ b _ _ _ _ _ _ _=>b
  | _=>[]
def dh (s:Stmt):Scope:=match s with
  | .FunctionDef _ _ _ _ _ _ sc _ _ _=>sc
  | _=>{ kind:=.function,names:=[],isGenerator:=false,isCoroutine:=false }
abbrev CX0:CXT:=fun _ _ _ _ _ _=>False
abbrev E0:XK:=fun _ _ _=>False
theorem a9r {X:Cx}:Passes CX0 X E0:=fun _ _ _ _ _ _ _ h=>h.elim
structure Fun (K:PySem.W.Frag) (x qual:Str) (st:Stmt) (f:Addr) (fd:FuncData):Prop where
  ex:∃ (oc:Value) (od:Option Addr) (kV doc pm:Value) (an:Option Addr) (cdv ct:Value) (osl:Array (Option Value)),
    fd=PySem.W.fnOf x qual (Eh st) (Bp st) (dh st) .none kV doc pm an cdv ct∧K.lookup f=some ⟨oc,od,.func fd,osl⟩∧PySem.W.codeIn K cdv qual=true
  kp:PySem.W.keepIn K (.ref f)=true
section
variable {P:Program} {w:World} {K:PySem.W.Frag} {mg:Str→Option Value} {base:Heap}
theorem Fun.ok {x qual:Str} {st:Stmt} {f:Addr} {fd:FuncData} {N ps:List Str} {k:Nat} {sp:Sp} (F:Fun K x qual st f fd) (S:jg N ps (dh st)) (len:∀ vs H Q E,sp vs H Q E→vs.length=ps.length)
    (hbody:∀ (cdv:Value) (A:Around) (outer:List Env) (s:Shared) (H:Hp) (vs:List V) (Q:VK) (E:XK),Kv k (A.deeper (envOfC qual (dh st) s.heap.objs.size f cdv))→sp vs H Q E →
      ∃ t,PSs (a5z CX0 P w K mg base N qual (dh st) f cdv A outer s H E).nox (Bp st) t∧t { nx:=fun _ H'=>Q .non H',rt:=Q } (start N vs) H):Bf P w K mg base CX0 (k+1) f fd ps sp:=by
  obtain ⟨oc,od,kV,doc,pm,an,cdv,ct,osl,rfl,lk,hcd⟩:=F.ex
  refine ab3 lk hcd S len fun A outer s H vs Q E hr hsp=>?_
  obtain ⟨t,h,q⟩:=hbody cdv A outer s H vs Q E hr hsp
  exact ⟨t,h.nox,q⟩
theorem Fun.binds {x qual:Str} {st:Stmt} {f:Addr} {fd:FuncData} {ps:List Str} (F:Fun K x qual st f fd)
    (h:∀ (kV doc pm:Value) (an:Option Addr) (cdv ct:Value) (us:List Value),us.length=ps.length→bindArgs (PySem.W.fnOf x qual (Eh st) (Bp st) (dh st) .none kV doc pm an cdv ct) ⟨us,[]⟩=pure (ps.zip us)):Binds K fd ps []:=by
  obtain ⟨oc,od,kV,doc,pm,an,cdv,ct,osl,rfl,lk,hcd⟩:=F.ex
  exact .all (h kV doc pm an cdv ct)
theorem bd1 {fd:FuncData} {ps:List Str} (h:∀ a,bindArgs fd ⟨[a],[]⟩=pure (ps.zip [a])) (us:List Value) (hl:us.length=1):bindArgs fd ⟨us,[]⟩=pure (ps.zip us):=by
  cases us with
  | nil=>exact nomatch hl
  | cons a us =>
  cases us with
  | cons _ _=>simp at hl
  | nil=>exact h a
theorem bd2 {fd:FuncData} {ps:List Str} (h:∀ a b,bindArgs fd ⟨[a,b],[]⟩=pure (ps.zip [a,b])) (us:List Value) (hl:us.length=2):bindArgs fd ⟨us,[]⟩=pure (ps.zip us):=by
  cases us with
  | nil=>exact nomatch hl
  | cons a us =>
  cases us with
  | nil=>exact nomatch hl
  | cons b us =>
  cases us with
  | cons _ _=>simp at hl
  | nil=>exact h a b
theorem bd3 {fd:FuncData} {ps:List Str} (h:∀ a b c,bindArgs fd ⟨[a,b,c],[]⟩=pure (ps.zip [a,b,c])) (us:List Value) (hl:us.length=3):bindArgs fd ⟨us,[]⟩=pure (ps.zip us):=by
  cases us with
  | nil=>exact nomatch hl
  | cons a us =>
  cases us with
  | nil=>exact nomatch hl
  | cons b us =>
  cases us with
  | nil=>exact nomatch hl
  | cons c us =>
  cases us with
  | cons _ _=>simp at hl
  | nil=>exact h a b c
theorem bd4 {fd:FuncData} {ps:List Str} (h:∀ a b c d,bindArgs fd ⟨[a,b,c,d],[]⟩=pure (ps.zip [a,b,c,d])) (us:List Value) (hl:us.length=4):bindArgs fd ⟨us,[]⟩=pure (ps.zip us):=by
  cases us with
  | nil=>exact nomatch hl
  | cons a us =>
  cases us with
  | nil=>exact nomatch hl
  | cons b us =>
  cases us with
  | nil=>exact nomatch hl
  | cons c us =>
  cases us with
  | nil=>exact nomatch hl
  | cons d us =>
  cases us with
  | cons _ _=>simp at hl
  | nil=>exact h a b c d
theorem bd5 {fd:FuncData} {ps:List Str} (h:∀ a b c d e,bindArgs fd ⟨[a,b,c,d,e],[]⟩=pure (ps.zip [a,b,c,d,e])) (us:List Value) (hl:us.length=5):bindArgs fd ⟨us,[]⟩=pure (ps.zip us):=by
  cases us with
  | nil=>exact nomatch hl
  | cons a us =>
  cases us with
  | nil=>exact nomatch hl
  | cons b us =>
  cases us with
  | nil=>exact nomatch hl
  | cons c us =>
  cases us with
  | nil=>exact nomatch hl
  | cons d us =>
  cases us with
  | nil=>exact nomatch hl
  | cons e us =>
  cases us with
  | cons _ _=>simp at hl
  | nil=>exact h a b c d e
theorem a6b {x qual:Str} {st:Stmt} {f:Addr} {oc:Value} {od an:Option Addr} {osl:Array (Option Value)} {kV doc pm cdv ct:Value} (l:K.lookup f=some ⟨oc,od,.func (PySem.W.fnOf x qual (Eh st) (Bp st) (dh st) .none kV doc pm an cdv ct),osl⟩)
    (c:PySem.W.codeIn K cdv qual=true) (k:PySem.W.keepIn K (.ref f)=true):Fun K x qual st f (PySem.W.fnOf x qual (Eh st) (Bp st) (dh st) .none kV doc pm an cdv ct):=⟨⟨oc,od,kV,doc,pm,an,cdv,ct,osl,rfl,l,c⟩,k⟩
end
theorem yu {A:Around} {k:Nat} (hr:Kv k A):A.units+1<cLine:=Nat.lt_of_le_of_lt (Nat.add_le_add_left (by decide:1≤64) _) hr.units
theorem Hr {n:Nat} (h:n≤1000):n<sizeLine:=Nat.lt_of_le_of_lt h (by decide)
section
variable {X:Cx}
theorem pv (i:Nat) {x:Str} {pos:Pos} (hN:X.N[i]? = some x:=by rfl) (hv:Vis X.env.scope x:=by first | exact Or.inl rfl | exact Or.inr (Or.inl rfl) | exact Or.inr (Or.inr rfl)) (hd:(x==("__debug__" : Str))=false:=by decide)
    (hcd:(x==("__classdict__" : Str))=false:=by decide):PE X (.Name x pos) (Mq i):=a9e hN hv hd hcd
end
theorem a5t {A B:Prop} (h:B):if false=true then A else B:=by
  rw [if_neg Bool.false_ne_true]
  exact h
theorem a68 {A B:Prop} (h:A):if true=true then A else B:=by
  rw [if_pos rfl]
  exact h
def Same (H H':Hp):Prop:=∀ b o,H b=some o→H' b=some o
theorem Same.refl (H:Hp):Same H H:=fun _ _ h=>h
theorem Same.trans {H H1 H2:Hp} (a:Same H H1) (b:Same H1 H2):Same H H2:=fun c o h=>b c o (a c o h)
theorem Same.free {H H':Hp} (e:Same H H') {l:Addr} (h:H' l=Option.none):H l=Option.none:=by
  cases q:H l with
  | none=>rfl
  | some o =>
    rw [e l o q] at h
    cases h
theorem Same.seq {K:PySem.W.Frag} {H H':Hp} {a:Addr} {xs:List V} (e:Same H H') (h:SqL K H a xs):SqL K H' a xs:=by
  rcases h with (h | ⟨o,h⟩) | h
  · exact .inl (.inl (e _ _ h))
  · exact .inl (.inr ⟨o,e _ _ h⟩)
  · exact .inr h
end L2
end
section
namespace L2
open PySem PySem.Spec PyProof.Rows
section
variable {X:Cx}
end
section
variable {κ:Type} [DecidableEq κ]
end
end L2
end
section
namespace C
open PySem
theorem jt {α:Type} {w:α} {P:Prop} (h:none=some w):P:=nomatch h
theorem vp {α:Type} {c:Prop} [Decidable c] {o:Option α} {w:α} (h:(if c then o else none)=some w):c∧o=some w:=by
  by_cases z:c
  · rw [if_pos z] at h; exact ⟨z,h⟩
  · rw [if_neg z] at h; exact jt h
abbrev Key:=Sum Int Str
inductive T where
  | non | bl (b:Bool) | int (i:Int) | str (x:Str)
  | tup (xs:List T) | lst (xs:List T) | dic (kvs:List (Key × T)) | obj (n:Nat)
instance:Inhabited T:=⟨.non⟩
inductive SO where
  | dic (kvs:List (Key × T)) | lst (xs:List T) | dit (kvs:List (List Key × T))
  /-- an exception of the class at C,what its field f holds -/
  | exc (C:Nat) (f:Str) (t:T)
  /-- a dict that is being walked -/
  | fdc (kvs:List (Key × T))
abbrev Slot:=Option (T × Bool)
structure Sta where
  env:List Slot
  sto:List SO
abbrev M (α:Type):=Sta→Option (α × Sta)
def Hz (k:Key):List (Key × T)→Option T
  | []=>none
  | (q,t)::r=>if q=k then some t else Hz k r
def a0d (k:Key) (t:T) (kvs:List (Key × T)):List (Key × T) :=
  if kvs.any fun p=>decide (p.1=k) then kvs.map fun p=>if p.1=k then (p.1,t) else p else kvs++[(k,t)]
def keyOf:T→Option Key
  | .int i=>some (.inl i)
  | .str x=>some (.inr x)
  | _=>none
def Iw:Key→T
  | .inl i=>.int i
  | .inr x=>.str x
mutual
def dat:T→Option PyData
  | .non=>some .none
  | .bl b=>some (.bool b)
  | .int i=>some (.int i)
  | .str x=>if PyData.canLay0 (.str x) then some (.str x) else none
  | .tup xs=>(Dw xs).map .tuple
  | .lst xs=>(Dw xs).map .list
  | .dic _=>none
  | .obj _=>none
def Dw:List T→Option (List PyData)
  | []=>some []
  | x::r=>match dat x with
    | some a=>(Dw r).map (a :: ·)
    | none=>none
end
def eqD (a b:T):Option Bool:=match dat a with
  | some x=>match dat b with
    | some y=>if x.depth≤40 then some (PyData.eqv x y) else none
    | none=>none
  | none=>none
def a8k:List (Key × T)→List (Key × T)→Option Bool
  | [],_=>some true
  | (k,x)::r,ys=>match Hz k ys with
    | none=>some false
    | some y=>match eqD x y with
      | some e=>(a8k r ys).map (e && ·)
      | none=>none
def eqT:T→T→Option Bool
  | .dic a,.dic b=>if a.length=b.length then a8k a b else some false
  | x,y=>eqD x y
def aq (t:T):M T:=fun s=>some (t,s)
def bw (i:Nat):M T:=fun s=>match s.env[i]? with
  | some (some (t,false))=>some (t,s)
  | some (some (t,true))=>some (t,{ s with env:=s.env.set i (some (t,false)) })
  | _=>none
def g8:M (List T):=fun s=>some ([],s)
def ao (a:M T) (r:M (List T)):M (List T):=fun s=>match a s with
  | some (t,s1)=>match r s1 with
    | some (ts,s2)=>some (t::ts,s2)
    | none=>none
  | none=>none
def a2t:List Str→M (List T)
  | []=>g8
  | x::r=>ao (aq (.str x)) (a2t r)
def nu (f:List T→Option T) (a:M (List T)):M T:=fun s=>match a s with
  | some (ts,s1)=>match f ts with
    | some t=>some (t,s1)
    | none=>none
  | none=>none
def mUn (f:T→Option T) (a:M T):M T:=fun s=>match a s with
  | some (t,s1)=>match f t with
    | some u=>some (u,s1)
    | none=>none
  | none=>none
def mOp (f:T→T→Option T) (a b:M T):M T:=fun s=>match a s with
  | some (t,s1)=>match b s1 with
    | some (u,s2)=>match f t u with
      | some v=>some (v,s2)
      | none=>none
    | none=>none
  | none=>none
abbrev Fn:=List T→List SO→Option (T × List SO)
def fu (F:Fn) (a:M (List T)):M T:=fun s=>match a s with
  | some (ts,s1)=>match F ts s1.sto with
    | some (t,sto)=>some (t,{ s1 with sto:=sto })
    | none=>none
  | none=>none
def gb (a:M T):M Bool:=fun s=>match a s with
  | some (.bl b,s1)=>some (b,s1)
  | _=>none
def V4 (a:M Bool):M Bool:=fun s=>match a s with
  | some (b,s1)=>some (!b,s1)
  | none=>none
def Yu (a b:M Bool):M Bool:=fun s=>match a s with
  | some (true,s1)=>b s1
  | some (false,s1)=>some (false,s1)
  | none=>none
def mOr (a b:M Bool):M Bool:=fun s=>match a s with
  | some (true,s1)=>some (true,s1)
  | some (false,s1)=>b s1
  | none=>none
def Fl (a:M Bool):M T:=fun s=>match a s with
  | some (b,s1)=>some (.bl b,s1)
  | none=>none
def mIf (c:M Bool) (a b:M T):M T:=fun s=>match c s with
  | some (true,s1)=>a s1
  | some (false,s1)=>b s1
  | none=>none
abbrev lim:Nat:=1000000
def Qn (i:Int):Bool:=decide (-(2 ^ 64)<i∧i<2 ^ 64)
def Gk:T→T→Option T
  | .int i,.int j=>some (.int (i+j))
  | .str x,.str y=>if x.length+y.length<lim then some (.str (x++y)) else none
  | .tup x,.tup y=>if x.length+y.length<lim then some (.tup (x++y)) else none
  | .lst x,.lst y=>if x.length+y.length<lim then some (.lst (x++y)) else none
  | _,_=>none
def Jv:T→T→Option T
  | .int i,.int j=>some (.int (i - j))
  | _,_=>none
def Nz:T→T→Option T
  | .int i,.int j=>if Qn i||Qn j then some (.int (i * j)) else none
  | .str x,.int j=>if 0≤j∧j≤1000∧x.length≤100 then some (.str ⟨((List.replicate j.toNat x.cps.toList).flatten).toArray⟩) else none
  | _,_=>none
def T5:T→T→Option T
  | .int i,.int j=>if 0<j then some (.int (i%j)) else none
  | _,_=>none
def fdl:Nat:=2 ^ 200
def Ox:T→T→Option T
  | .int i,.int j=>if 0<j∧(j<1073741824∨j.natAbs<fdl) then some (.int (i / j)) else none
  | _,_=>none
def Y4:T→T→Option T
  | .int i,.int j=>if 0≤j∧j≤1000∧i.natAbs<1000 then some (.int (i ^ j.toNat)) else none
  | _,_=>none
def a9c:T→Option T
  | .int i=>some (.int (-i))
  | _=>none
def ltT:T→T→Option T
  | .int i,.int j=>some (.bl (decide (i<j)))
  | _,_=>none
def leT:T→T→Option T
  | .int i,.int j=>some (.bl (decide (i≤j)))
  | _,_=>none
def gtT:T→T→Option T
  | .int i,.int j=>some (.bl (decide (j<i)))
  | _,_=>none
def eqO (x y:T):Option T:=match eqT x y with
  | some b=>some (.bl b)
  | none=>none
def neO (x y:T):Option T:=match eqT x y with
  | some b=>some (.bl (!b))
  | none=>none
def ixI (n:Nat) (i:Int):Option Nat:=if 0≤i then (if i<n then some i.toNat else none) else if -(n:Int)≤i then some (i+n).toNat else none
def d9:T→T→Option T
  | .tup xs,.int i=>(ixI xs.length i).bind (xs[·]?)
  | .lst xs,.int i=>(ixI xs.length i).bind (xs[·]?)
  | .str x,.int i=>if x.length<lim then (ixI x.cps.toList.length i).bind fun j=>(x.cps.toList[j]?).map fun c=>.str ⟨#[c]⟩ else none
  | .dic kvs,k=>(keyOf k).bind (Hz · kvs)
  | _,_=>none
def Xp:List T→Option T
  | [.tup xs]=>some (.int xs.length)
  | [.lst xs]=>some (.int xs.length)
  | [.str x]=>if x.length<lim then some (.int x.length) else none
  | [.dic kvs]=>some (.int kvs.length)
  | _=>none
def inL (x:T):List T→Option Bool
  | []=>some false
  | y::r=>match eqD y x with
    | some e=>(inL x r).map (e || ·)
    | none=>none
def inT (x y:T):Option T:=match y with
  | .dic kvs=>(keyOf x).map fun q=>.bl (Hz q kvs).isSome
  | _=>if (dat x).isSome then (match y with
    | .tup ys=>(inL x ys).map .bl
    | .lst ys=>(inL x ys).map .bl
    | _=>none) else none
def K1 (x y:T):Option T:=match inT x y with
  | some (.bl b)=>some (.bl (!b))
  | _=>none
def Dq:List T→Option T
  | [.lst xs]=>some (.tup xs)
  | [.tup xs]=>some (.tup xs)
  | _=>none
def Hv:List T→Option T
  | [.lst xs]=>some (.lst xs)
  | [.tup xs]=>some (.lst xs)
  | _=>none
def Yd:List T→Option (List Int)
  | []=>some []
  | .int i::r=>(Yd r).map (i :: ·)
  | _=>none
def Hq:List T→Option (List Bool)
  | []=>some []
  | .bl b::r=>(Hq r).map (b :: ·)
  | _=>none
def abu:List T→Option T
  | [.lst xs]=>(Hq xs).map fun l=>.bl (l.all id)
  | _=>none
def acd:List T→Option T
  | [.lst xs]=>(Hq xs).map fun l=>.bl (l.any id)
  | _=>none
def Jl:List T→Option (List Str)
  | []=>some []
  | .str x::r=>(Jl r).map (x :: ·)
  | _=>none
def M6 (x:Str):List Str→List Str
  | []=>[x]
  | y::r=>if decide (x.cps.toList<y.cps.toList) then x::y::r else y::M6 x r
def xu (l:List Str):List Str:=l.foldl (fun acc x=>M6 x acc) []
def dedup:List Str→List Str
  | []=>[]
  | x::r=>if x∈r then dedup r else x::dedup r
def Ld:List T→Option T
  | [.lst xs]=>if xs.length<64 then (Jl xs).map fun l=>.lst ((xu l).map .str) else none
  | [.dic kvs]=>if kvs.length<64 then (Jl (kvs.map fun p=>Iw p.1)).map fun l=>.lst ((xu l).map .str) else none
  | _=>none
def Af:List T→Option T
  | [.lst xs]=>(Jl xs).bind fun l=>if l.length<lim∧(dedup l).length<64 then some (.lst ((xu (dedup l)).map .str)) else none
  | _=>none
def Sy:List T→Option T
  | [.lst _]=>some (.bl true)
  | [.obj _]=>none
  | [_]=>some (.bl false)
  | _=>none
def a8m:T→Option T
  | .lst xs=>some (.lst xs.reverse)
  | .tup xs=>some (.tup xs.reverse)
  | _=>none
def adp:List T→Option T
  | [.int i]=>some (.int (if i<0 then -i else i))
  | _=>none
def vh (i:Nat):M T:=fun s=>match s.env[i]? with
  | some (some (.lst xs,_))=>some (.int xs.length,s)
  | some (some (.dic xs,_))=>some (.int xs.length,s)
  | _=>none
def Qo (i:Nat) (s:Sta):Bool:=match s.env[i]? with
  | some (some (.dic _,_))=>true
  | _=>false
def Cw (i:Nat) (s:Sta):Bool:=match s.env[i]? with
  | some (some (.lst _,_))=>true
  | _=>false
def vq (i:Nat) (k:M T):M T:=fun s=>if Qo i s then (match k s with
  | some (kt,s1)=>match s1.env[i]? with
    | some (some (.dic kvs,_))=>match (keyOf kt).bind (Hz · kvs) with
      | some t=>some (t,s1)
      | none=>none
    | _=>none
  | none=>none) else none
def vd (o k:M T):M T:=fun s=>match o s with
  | some (.obj n,s1)=>match k s1 with
    | some (.int i,s2)=>match s2.sto[n]? with
      | some (.lst xs)=>match (ixI xs.length i).bind (xs[·]?) with
        | some t=>some (t,s2)
        | none=>none
      | _=>none
    | _=>none
  | _=>none
def zq (o:M T):M T:=fun s=>match o s with
  | some (.obj n,s1)=>match s1.sto[n]? with
    | some (.lst xs)=>some (.int xs.length,s1)
    | _=>none
  | _=>none
def Ep (a:M (List T)):M T:=fun s=>match a s with
  | some (ts,s1)=>some (.obj s1.sto.length,{ s1 with sto:=s1.sto++[.lst ts] })
  | none=>none
inductive Flow where
  | next | ret (t:T) | brk | cont
abbrev S:=Sta→Option (Flow × Sta)
def Dl:S:=fun s=>some (.next,s)
def jl (a b:S):S:=fun s=>match a s with
  | some (.next,s1)=>b s1
  | r=>r
def Ah (e:M T):S:=fun s=>match e s with
  | some (t,s1)=>some (.ret t,s1)
  | none=>none
def sIf (c:M Bool) (a b:S):S:=fun s=>match c s with
  | some (true,s1)=>a s1
  | some (false,s1)=>b s1
  | none=>none
def iu (i:Nat) (t:T) (own:Bool) (s:Sta):Sta:={ s with env:=s.env.set i (some (t,own)) }
def zp (i:Nat) (e:M T):S:=fun s=>match e s with
  | some (t,s1)=>some (.next,iu i t false s1)
  | none=>none
def sNew (i:Nat) (e:M T):S:=fun s=>match e s with
  | some (t,s1)=>some (.next,iu i t true s1)
  | none=>none
def xg (i:Nat) (e:M T):S:=fun s=>if Cw i s then (match e s with
  | some (t,s1)=>match s1.env[i]? with
    | some (some (.lst xs,true))=>if xs.length<lim then some (.next,iu i (.lst (xs++[t])) true s1) else none
    | _=>none
  | none=>none) else none
def a6y:T→Option (List T)
  | .lst xs=>some xs
  | .tup xs=>some xs
  | _=>none
def Ai (i:Nat) (e:M T):S:=fun s=>if Cw i s then (match e s with
  | some (t,s1)=>match a6y t,s1.env[i]? with
    | some ys,some (some (.lst xs,true))=>if xs.length+ys.length<lim then some (.next,iu i (.lst (xs++ys)) true s1) else none
    | _,_=>none
  | none=>none) else none
def Lh (i:Nat) (k v:M T):S:=fun s=>match v s with
  | some (t,s1)=>if Qo i s1 then (match k s1 with
    | some (kt,s2)=>match s2.env[i]?,keyOf kt with
      | some (some (.dic kvs,true)),some q=>if kvs.length<lim then some (.next,iu i (.dic (a0d q t kvs)) true s2) else none
      | _,_=>none
    | none=>none) else none
  | none=>none
def a3t (i:Nat):S:=fun s=>match s.env[i]? with
  | some (some (.lst xs,true))=>some (.next,iu i (.lst xs.reverse) true s)
  | _=>none
def sNx (u:S):S:=fun s=>match u s with
  | some (.next,s1)=>some (.next,s1)
  | _=>none
def Ge (i:Nat):S:=fun s=>match s.env[i]? with
  | some (some (t,true))=>some (.ret t,s)
  | _=>none
def Ft (o k v:M T):S:=fun s=>match v s with
  | some (t,s1)=>match o s1 with
    | some (.obj n,s2)=>match k s2 with
      | some (.int i,s3)=>match s3.sto[n]? with
        | some (.lst xs)=>match ixI xs.length i with
          | some j=>some (.next,{ s3 with sto:=s3.sto.set n (.lst (xs.set j t)) })
          | none=>none
        | _=>none
      | _=>none
    | _=>none
  | none=>none
def Ln (i:Nat) (v:M T):S:=fun s=>match s.env[i]? with
  | some (some (.obj n,false))=>match s.sto[n]? with
    | some (.lst _)=>match v s with
      | some (t,s1)=>match s1.sto[n]? with
        | some (.lst xs)=>if xs.length<lim then some (.next,{ s1 with sto:=s1.sto.set n (.lst (xs++[t])) }) else none
        | _=>none
      | none=>none
    | _=>none
  | _=>none
abbrev G:=T→Sta→Option Sta
def hName (i:Nat):G:=fun t s=>some (iu i t false s)
def M5 (is:List Nat):G:=fun t s=>match t with
  | .tup xs=>if xs.length=is.length then some ((is.zip xs).foldl (fun s p=>iu p.1 p.2 false s) s) else none
  | _=>none
def sGo (g:G) (m:M T):S:=fun s=>match m s with
  | some (t,s1)=>match g t s1 with
    | some s2=>some (.next,s2)
    | none=>none
  | none=>none
def forL (g:G) (b:S):List T→S
  | []=>fun s=>some (.next,s)
  | t::r=>fun s=>match g t s with
    | some s1=>match b s1 with
      | some (.next,s2)=>forL g b r s2
      | some (.cont,s2)=>forL g b r s2
      | some (.brk,s2)=>some (.next,s2)
      | some (.ret v,s2)=>some (.ret v,s2)
      | none=>none
    | none=>none
def G6 (g:G) (it:M (List T)) (b:S):S:=fun s=>match it s with
  | some (ts,s1)=>forL g b ts s1
  | none=>none
def rangeT (n:Nat):List T:=(List.range n).map fun (k:Nat)=>.int (k:Int)
def Bs (a:M T):M (List T):=fun s=>match a s with
  | some (.int n,s1)=>if n.natAbs<lim then some (rangeT n.toNat,s1) else none
  | _=>none
def Ab (a:M T):M (List T):=fun s=>match a s with
  | some (.lst xs,s1)=>if xs.length<lim then some (xs,s1) else none
  | some (.tup xs,s1)=>if xs.length<lim then some (xs,s1) else none
  | _=>none
def Rn (a:M T):M (List T):=fun s=>match a s with
  | some (.dic kvs,s1)=>if kvs.length<lim then some (kvs.map fun p=>Iw p.1,s1) else none
  | _=>none
def lend (is:List Nat) (env:List Slot):List Slot:=env.mapIdx fun j x=>match x with
  | some (t,f)=>if f then (if j∈is then some (t,false) else none) else some (t,false)
  | none=>none
def Gu (s:Slot):Slot:=match s with
  | some (t,_)=>some (t,false)
  | none=>none
def qm (s:Sta):Sta:={ s with env:=s.env.map Gu }
def Dh (g:G) (c:M Bool) (e:M T):List T→Sta→List T→Option (List T × Sta)
  | [],s,acc=>some (acc,s)
  | t::r,s,acc=>match g t s with
    | some s1=>match c s1 with
      | some (true,s2)=>match e s2 with
        | some (u,s3)=>if acc.length<lim then Dh g c e r (qm s3) (acc++[u]) else none
        | none=>none
      | some (false,s2)=>Dh g c e r (qm s2) acc
      | none=>none
    | none=>none
def yw:M Bool:=fun s=>some (true,s)
def jo (is:List Nat) (env:List Slot):List Slot:=is.foldl (fun e i=>match e[i]? with
  | some (some (t,_))=>e.set i (some (t,false))
  | _=>e) env
def ou (nv:Nat) (cap:List Nat) (g:G) (it:M (List T)) (c:M Bool) (e:M T):M T:=fun s=>match it s with
  | some (ts,s1) =>
    let env:=jo cap s1.env
    match Dh g c e ts ⟨List.replicate nv none++cap.map (fun i=>(env[i]?).getD none),s1.sto⟩ [] with
    | some (us,s2)=>some (.lst us,⟨env,s2.sto⟩)
    | none=>none
  | none=>none
def su (n:Nat) (b:S):Fn:=fun ts sto=>match b ⟨ts.map (fun t=>some (t,false))++List.replicate (n - ts.length) none,sto⟩ with
  | some (.ret t,s)=>some (t,s.sto)
  | some (.next,s)=>some (.non,s.sto)
  | _=>none
section
variable {s s':Sta} {t v:T} {a b:M T}
theorem V8 {f:T→T→Option T} (h:mOp f a b s=some (v,s')):∃ t s1 u,a s=some (t,s1)∧b s1=some (u,s')∧f t u=some v:=by
  unfold mOp at h
  cases ha:a s with
  | none=>rw [ha] at h; cases h
  | some p =>
    obtain ⟨t,s1⟩:=p; rw [ha] at h; dsimp only at h
    cases hb:b s1 with
    | none=>rw [hb] at h; cases h -- here
    | some p =>
      obtain ⟨u,s2⟩:=p; rw [hb] at h; dsimp only at h
      cases hf:f t u with
      | none=>rw [hf] at h; cases h
      | some w=>rw [hf] at h; cases h; exact ⟨t,s1,u,rfl,hb,hf⟩
theorem a0e {f:T→Option T} (h:mUn f a s=some (v,s')):∃ t,a s=some (t,s')∧f t=some v:=by
  unfold mUn at h
  cases ha:a s with
  | none=>rw [ha] at h; cases h
  | some p =>
    obtain ⟨t,s1⟩:=p; rw [ha] at h; dsimp only at h
    cases hf:f t with
    | none=>rw [hf] at h; cases h
    | some w=>rw [hf] at h; cases h; exact ⟨t,rfl,hf⟩
theorem Di {f:List T→Option T} {a:M (List T)} (h:nu f a s=some (v,s')):∃ ts,a s=some (ts,s')∧f ts=some v:=by
  unfold nu at h
  cases ha:a s with
  | none=>rw [ha] at h; cases h
  | some p =>
    obtain ⟨t,s1⟩:=p; rw [ha] at h; dsimp only at h
    cases hf:f t with
    | none=>rw [hf] at h; cases h
    | some w=>rw [hf] at h; cases h; exact ⟨t,rfl,hf⟩
theorem Cz {r:M (List T)} {ts:List T} (h:ao a r s=some (ts,s')):∃ t s1 us,a s=some (t,s1)∧r s1=some (us,s')∧ts=t::us:=by
  unfold ao at h
  cases ha:a s with
  | none=>rw [ha] at h; cases h
  | some p =>
    obtain ⟨t,s1⟩:=p; rw [ha] at h; dsimp only at h
    cases hb:r s1 with
    | none=>rw [hb] at h; cases h -- here
    | some p=>obtain ⟨u,s2⟩:=p; rw [hb] at h; cases h; exact ⟨t,s1,u,rfl,hb,rfl⟩
theorem Rt {F:Fn} {a:M (List T)} (h:fu F a s=some (v,s')):∃ ts s1 sto,a s=some (ts,s1)∧F ts s1.sto=some (v,sto)∧s' = { s1 with sto:=sto }:=by
  unfold fu at h
  cases ha:a s with
  | none=>rw [ha] at h; cases h
  | some p =>
    obtain ⟨t,s1⟩:=p; rw [ha] at h; dsimp only at h
    cases hf:F t s1.sto with
    | none=>rw [hf] at h; cases h
    | some w=>obtain ⟨w,sto⟩:=w; rw [hf] at h; cases h; exact ⟨t,s1,sto,rfl,hf,rfl⟩
theorem Av {b:Bool} (h:gb a s=some (b,s')):a s=some (.bl b,s'):=by
  unfold gb at h
  cases ha:a s with
  | none=>rw [ha] at h; cases h
  | some p =>
    obtain ⟨t,s1⟩:=p; rw [ha] at h
    cases t <;> first | (cases h; rfl) | (cases h)
theorem K3 {c:M Bool} (h:Fl c s=some (v,s')):∃ b,c s=some (b,s')∧v=.bl b:=by
  unfold Fl at h
  cases ha:c s with
  | none=>rw [ha] at h; cases h
  | some p=>obtain ⟨t,s1⟩:=p; rw [ha] at h; cases h; exact ⟨t,rfl,rfl⟩
theorem Vf {c:M Bool} {b:Bool} (h:V4 c s=some (b,s')):∃ k,c s=some (k,s')∧b=!k:=by
  unfold V4 at h
  cases ha:c s with
  | none=>rw [ha] at h; cases h
  | some p=>obtain ⟨t,s1⟩:=p; rw [ha] at h; cases h; exact ⟨t,rfl,rfl⟩
theorem Wm {c d:M Bool} {b:Bool} (h:Yu c d s=some (b,s')):(∃ s1,c s=some (true,s1)∧d s1=some (b,s'))∨(c s=some (false,s')∧b=false):=by
  unfold Yu at h
  cases ha:c s with
  | none=>rw [ha] at h; cases h
  | some p =>
    obtain ⟨k,s1⟩:=p; rw [ha] at h
    cases k with
    | true=>exact .inl ⟨s1,rfl,h⟩
    | false=>cases h; exact .inr ⟨rfl,rfl⟩
theorem a0g {c d:M Bool} {b:Bool} (h:mOr c d s=some (b,s')):(∃ s1,c s=some (false,s1)∧d s1=some (b,s'))∨(c s=some (true,s')∧b=true):=by
  unfold mOr at h
  cases ha:c s with
  | none=>rw [ha] at h; cases h
  | some p =>
    obtain ⟨k,s1⟩:=p; rw [ha] at h
    cases k with
    | false=>exact .inl ⟨s1,rfl,h⟩
    | true=>cases h; exact .inr ⟨rfl,rfl⟩
theorem a7u {c:M Bool} (h:mIf c a b s=some (v,s')):(∃ s1,c s=some (true,s1)∧a s1=some (v,s'))∨(∃ s1,c s=some (false,s1)∧b s1=some (v,s')):=by
  unfold mIf at h
  cases ha:c s with
  | none=>rw [ha] at h; cases h
  | some p =>
    obtain ⟨k,s1⟩:=p; rw [ha] at h
    cases k with
    | true=>exact .inl ⟨s1,rfl,h⟩
    | false=>exact .inr ⟨s1,rfl,h⟩
theorem Vn {i:Nat} (h:bw i s=some (v,s')):(s.env[i]? = some (some (v,false))∧s'=s)∨(s.env[i]? = some (some (v,true))∧s' = { s with env:=s.env.set i (some (v,false)) }):=by
  unfold bw at h
  split at h
  · rename_i t e; cases h; exact .inl ⟨e,rfl⟩
  · rename_i t e; cases h; exact .inr ⟨e,rfl⟩
  · cases h
end
end C
end
section
namespace L2
open PySem PySem.Spec PyProof.Rows
section
variable {pr:Program} {wd:World} {Ar:Around} {Rs:Result→Shared→Prop} {s:Shared}
theorem T4 {el tgt itr:Expr} {cs:List Expr} {scp:Scope} {ps:Pos} {itv accv:Value} {en:Env} (J:Nat→Shared→Prop)
    (turn:∀ n z,J n z→wpAny (model pr wd) Ar (pyNext itv) (fun nx z1=>match nx with
      | none=>Rs (.ok .next) z1
      | some v=>wpAny (model pr wd) Ar (letOwnedTupleGo tgt itv v) (fun _ z2=>wpAny (model pr wd) Ar (assign tgt en v) (fun _ z3 =>
          wpAny (model pr wd) Ar (forIn cs true fun c go=>if go=true then do let ok ← isTrue c en (eval c en); pure (ForInStep.yield ok) else pure (ForInStep.yield go)) (fun ok z4 =>
            if ok=true then wpAny (model pr wd) Ar (eval el en) (fun x z5 =>
              wpAny (model pr wd) Ar (call (.builtin "list.append") [accv,x]) (fun _ z6=>∃ m,m<n∧J m z6) (fun _ _=>False) z5) (fun _ _=>False) z4
            else ∃ m,m<n∧J m z4) (fun _ _=>False) z3) (fun _ _=>False) z2) (fun _ _=>False) z1) (fun _ _=>False) z)
    (n:Nat) (h:J n s) :
    codeAny (model pr wd) Ar (.compLoop (.ListComp el [⟨tgt,itr,cs,0⟩] scp ps) 0 itv accv en) Rs s:=by
  refine codeAny_loop rfl J (fun k z hz=>?_) n h
  show wpAny _ Ar ((compTurn (.ListComp el [⟨tgt,itr,cs,0⟩] scp ps) 0 itv accv en).onRaise (fun ex=>do noteFrame ex en; theTreesLotGoes ex)) _ _ z
  refine wpAny_noted ?_
  rw [compTurn_list]
  refine wpAny_bind (wpAny_standAt (wpAny_bind (wpAny_mono (turn k z hz) (fun nx z1 g1=>?_) fun _ _ no=>no.elim)))
  cases nx with
  | none=>exact wpAny_pure g1
  | some v =>
    refine wpAny_bind (wpAny_mono g1 (fun _ z2 g2=>?_) fun _ _ no=>no.elim)
    refine wpAny_bind (wpAny_mono g2 (fun _ z3 g3=>wpAny_bind (wpAny_mono g3 (fun ok z4 g4=>?_) fun _ _ no=>no.elim)) fun _ _ no=>no.elim)
    cases ok with
    | false=>exact wpAny_pure (And.intro rfl g4)
    | true =>
      exact wpAny_bind (wpAny_bind (wpAny_mono g4 (fun x z5 g5=>wpAny_bind (wpAny_mono g5 (fun _ z6 g6=>wpAny_pure (wpAny_pure (And.intro rfl g6))) fun _ _ no=>no.elim)) fun _ _ no=>no.elim))
end
def Xy (env:Env):List (Str × NameKind)→List (Str × Addr)→List (Str × Addr)
  | [],cs=>cs
  | (n,k)::r,cs=>Xy env r (if (k==NameKind.free)=true then (match env.cells.lookup n with | some c=>(n,c)::cs | none=>cs) else cs)
def Eu (env:Env) (names:List (Str × NameKind)):Bool:=names.all fun y=>!(y.2==NameKind.free)||(env.cells.lookup y.1).isSome
theorem Gp {scope:Scope} {env:Env} (h:Eu env scope.names=true):closureFor scope env=pure (Xy env scope.names []):=by
  have key:∀ (l:List (Str × NameKind)) (cs:List (Str × Addr)),Eu env l=true →
      (forIn (m:=Sem) l cs fun x r=>(do
        if (x.2==NameKind.free)=true then
          let c ← cellOf env x.1
          pure (ForInStep.yield ((x.1,c)::r))
        else pure (ForInStep.yield r)))=pure (Xy env l cs):=by
    intro l
    induction l with
    | nil=>intro cs _; rfl
    | cons x r ih =>
      intro cs h
      obtain ⟨n,k⟩:=x
      unfold Eu at h
      rw [List.all_cons,Bool.and_eq_true] at h -- here
      obtain ⟨h1,h2⟩:=h
      rw [List.forIn_cons]
      by_cases hk:(k==NameKind.free)=true
      · have h1':(env.cells.lookup n).isSome=true:=by simpa [hk] using h1
        obtain ⟨c,hc⟩:=Option.isSome_iff_exists.mp h1'
        have e:cellOf env n=pure c:=by unfold cellOf; rw [hc]
        simp only [hk,if_true,e,pure_bind]
        rw [ih _ h2]
        simp only [Xy,hk,if_true,hc]
      · simp only [hk,if_false,pure_bind,Bool.false_eq_true]
        rw [ih _ h2]
        simp only [Xy,hk,if_false,Bool.false_eq_true]
  have:=key scope.names [] h
  unfold closureFor
  simpa using this
def ur (X:Cx) (scope:Scope) (N:List Str) (C:Addr) (s₀:Shared) (H₀:Hp) (ex:List Addr) (pn:List (Addr × Obj)):Cx :=
  { X with N:=N,s₀:=s₀,H₀:=H₀,env:=compEnvC scope (Xy X.env scope.names []) C X.env,outer:=X.stack,ex:=ex,fn:=fun _=>false,pn:=pn,xe:=fun _ _=>False }
structure J6 (X:Cx) (scope:Scope) (N:List Str):Prop where
  has:Eu X.env scope.names=true
  kind:scope.kind=.function
  nocell:∀ y∈scope.names,y.2≠.cell
  names:∀ y∈scope.names,y.2=.local→scope.names.lookup y.1=some .local
def aav (X:Cx) (scope:Scope) (x:Str):Prop :=
  (X.env.kindOf x=some .cell∨X.env.kindOf x=some .free)∧Vis X.env.scope x∧((relabel scope X.env).names.lookup x=some .cell∨(relabel scope X.env).names.lookup x=some .free)
theorem Lr {env:Env}:∀ (l:List (Str × NameKind)) (cs:List (Str × Addr)),(∀ x c,cs.lookup x=some c→env.cells.lookup x=some c) →
    ∀ x c,(Xy env l cs).lookup x=some c→env.cells.lookup x=some c
  | [],cs,h,x,c,e=>h x c e
  | (n,k)::r,cs,h,x,c,e=>by
    rw [Xy] at e
    refine Lr r _ (fun y d q=>?_) x c e
    split at q
    · split at q
      · rename_i c' hc'
        rw [List.lookup_cons] at q
        split at q
        · rename_i hb
          cases q
          have hyn:=eq_of_beq hb
          rw [hyn]; exact hc'
        · exact h y d q
      · exact h y d q
    · exact h y d q
theorem Z7 {env:Env}:∀ (l:List (Str × NameKind)) (cs:List (Str × Addr)) (x:Str),(∃ c,cs.lookup x=some c)→∃ c,(Xy env l cs).lookup x=some c
  | [],cs,x,h=>h
  | (n,k)::r,cs,x,h=>by
    rw [Xy]
    refine Z7 r _ x ?_
    split
    · split
      · rename_i c' hc'
        rw [List.lookup_cons]
        split
        · exact ⟨_,rfl⟩
        · exact h
      · exact h
    · exact h
theorem a1c {env:Env}:∀ (l:List (Str × NameKind)) (cs:List (Str × Addr)) (x:Str),Eu env l=true→(x,NameKind.free)∈l→∃ c,(Xy env l cs).lookup x=some c
  | [],cs,x,_,h=>by simp at h
  | (n,k)::r,cs,x,hh,h=>by
    unfold Eu at hh
    rw [List.all_cons,Bool.and_eq_true] at hh
    rw [Xy]
    rcases List.mem_cons.mp h with e | h'
    · injection e with e1 e2
      subst e1; subst e2
      have h1:(env.cells.lookup x).isSome=true:=by simpa using hh.1
      obtain ⟨c,hc⟩:=Option.isSome_iff_exists.mp h1
      refine Z7 r _ x ?_
      simp [hc]
    · exact a1c r _ x hh.2 h'
theorem mem_of_lookup {α:Type}:∀ {l:List (Str × α)} {x:Str} {k:α},l.lookup x=some k→(x,k)∈l
  | [],_,_,h=>by simp at h
  | (n,k')::r,x,k,h=>by
    rw [List.lookup_cons] at h
    split at h
    · rename_i hb
      cases h
      have hyn:=eq_of_beq hb
      rw [hyn]; exact List.mem_cons_self
    · exact List.mem_cons_of_mem _ (mem_of_lookup h)
theorem Wx {scope:Scope} {env:Env} (nc:∀ y∈scope.names,y.2≠.cell) {x:Str} (h:(relabel scope env).names.lookup x=some .cell∨(relabel scope env).names.lookup x=some .free):(x,NameKind.free)∈scope.names:=by
  have:∃ k,(x,k)∈(relabel scope env).names∧(k=.cell∨k=.free):=by
    rcases h with h | h
    · exact ⟨_,mem_of_lookup h,.inl rfl⟩
    · exact ⟨_,mem_of_lookup h,.inr rfl⟩
  obtain ⟨k,hm,hk⟩:=this
  obtain ⟨⟨n,k'⟩,hm',e⟩:=List.mem_map.mp hm
  dsimp only at e
  split at e
  · rename_i hc
    cases e
    simp only [Bool.and_eq_true,beq_iff_eq] at hc
    obtain ⟨⟨h1,_⟩,_⟩:=hc
    subst h1; exact hm'
  · cases e
    rcases hk with rfl | rfl
    · exact absurd rfl (nc _ hm')
    · exact hm'
def PTs (X:Cx) (ifs:List Expr) (t:TT):Prop:=∀ (pins:List (Addr × Obj)) (s:Shared) (σ:St) (H:Hp) (Q:Bool→Hp→Prop),Inv X pins σ H s→t σ H Q →
  wpAny (model X.prog X.w) X.A (forIn ifs true fun c r=>if r=true then do let ok ← isTrue c X.env (eval c X.env); pure (ForInStep.yield ok) else pure (ForInStep.yield r)) (TP X pins σ Q) X.xe s
theorem a70 {X:Cx}:PTs X [] (fun _ H Q=>Q true H):=fun pins s σ H Q I h=>wpAny_tests_nil ⟨H,I,h⟩
theorem a6q {X:Cx} {c:Expr} {t:TT} (h:PT X c t):PTs X [c] t:=fun pins s σ H Q I q=>wpAny_tests_one (h pins s σ H Q I q)
def Te (X:Cx) (scope:Scope) (N:List Str) (g:TG) (tc:TT) (te:TE) (σ:St) (J:It) (H1:Hp) (Q:VK):Prop:=∀ D,H1 D=none→∃ σ0:St,σ0.length=N.length ∧
  (∀ (i:Nat) (v:V) (x:Str),σ0[i]? = some (some v)→N[i]? = some x→Vis (relabel scope X.env) x→∃ k:Nat,X.N[k]? = some x∧σ[k]? = some (some v)∧aav X scope x) ∧
  ∃ W:Nat→Nat→St→Hp→Prop,(∃ m,W 0 m σ0 (upd H1 D (.lst [])))∧∀ i m σ' H',W i m σ' H' →
    (J.stop i H'∧Q (.ref D) H')∨(J.go i H'∧∀ x H2,J.yld i H' x H2→g x σ' H2 fun σ2 H3=>tc σ2 H3 fun b H4=>if b=true then te σ2 H4 fun y H5=>∃ l,H5 D=some (.lst l)∧l.length<sizeLine∧∃ m',m'<m∧W (i+1) m' σ2 (upd H5 D (.lst (l++[y]))) else ∃ m',m'<m∧W (i+1) m' σ2 H4)
def a2n (X:Cx) (scope:Scope) (N:List Str) (wi:TI) (g:TG) (tc:TT) (te:TE):TE:=fun σ H Q=>wi σ H fun J H1=>Te X scope N g tc te σ J H1 Q
section
variable {X:Cx} {scope:Scope} {N:List Str}
theorem a1f (sc:J6 X scope N) {pins:List (Addr × Obj)} {σ:St} {H:Hp} {s:Shared} {fp:List Addr} (I:Inv X pins σ H s) (hf:∀ b∈fp,T7 X pins H b) (hfl:∀ b∈fp,b<s.heap.objs.size) :
    (ur X scope N s.heap.objs.size s H fp (X.pn++pins)).Ok where
  mod:=I.ok.mod
  kind:=sc.kind
  glob:=I.ok.glob
  blt:=I.ok.blt
  above:=Nat.le_refl _
  inj:=fun x y c h1 h2=>I.ok.inj x y c (Lr _ [] (fun _ _ z=>by simp at z) x c h1) (Lr _ [] (fun _ _ z=>by simp at z) y c h2)
  has:=fun x h=>a1c _ [] x sc.has (Wx sc.nocell h)
  cab:=fun x c h=>by cases h
  hd:=I.ok.hd
  frames:=I.ok.frames
  stk:=.inl rfl
  exf:=fun b hb=>⟨Nat.ne_of_lt (hfl b hb),fun x c h=>(hf b hb).2.2.2.2.1 x c (Lr _ [] (fun _ _ z=>by simp at z) x c h)⟩
  bs:=I.bs
  bsz:=Nat.le_trans I.ok.bsz I.sz
  noex:=fun b o e hb=>by
    rcases (hf b hb).2.2.2.1 with z | z
    · exact I.ok.noex b o e z
    · exact absurd (Nat.lt_of_lt_of_le (Heap.lt_size e) (Nat.le_trans I.ok.bsz z)) (Nat.lt_irrefl _)
  exfs:=fun b hb z=>by
    rcases List.mem_cons.mp (I.X3 b z) with e | e
    · exact (hf b hb).2.1 e
    · exact (hf b hb).2.2.1 e
  Yw:=I.stack
  frf:=I.Z2
theorem Yq (sc:J6 X scope N) {pins:List (Addr × Obj)} {σ σ0:St} {H:Hp} {s:Shared} {fp:List Addr} {h':Heap} {m:Str→Option Value} {tk:Nat} (I:Inv X pins σ H s) (hf:∀ b∈fp,T7 X pins H b) (hfl:∀ b∈fp,b<s.heap.objs.size)
    (hl:σ0.length=N.length) (h0:∀ (i:Nat) (v:V) (x:Str),σ0[i]? = some (some v)→N[i]? = some x→Vis (relabel scope X.env) x→∃ k:Nat,X.N[k]? = some x∧σ[k]? = some (some v)∧aav X scope x)
    (hn:h'.Ns s.heap.objs.size m) (hk:∀ b o,s.heap.get? b=some o→h'.get? b=some o) :
    Inv (ur X scope N s.heap.objs.size s H fp (X.pn++pins)) [] σ0 H { s with heap:=h',toks:=tk } where
  ok:=a1f sc I hf hfl
  os:=rfl
  bare:=I.bare
  base:=Un.kept hk
  loc:=⟨m,hn,fun i x v e1 e2 e3=>by
    obtain ⟨k,n2,n3,ck,cv,cr⟩:=h0 i v x e2 e1 e3
    obtain ⟨m0,_,hl0⟩:=I.loc
    obtain ⟨u,r,l⟩:=hl0 k x v n2 n3 cv
    refine ⟨u,r,.inr ⟨cr,?_⟩⟩
    rcases l with ⟨l1,_⟩ | ⟨_,c,hc,z⟩
    · rcases ck with q | q <;> (rw [l1] at q; cases q)
    · obtain ⟨c',hc'⟩:=a1c (env:=X.env) scope.names [] x sc.has (Wx sc.nocell cr)
      have q:=Lr scope.names [] (fun _ _ z=>by simp at z) x c' hc'
      rw [hc] at q; cases q
      obtain ⟨o,ho,hd⟩:=z
      exact ⟨c,hc',o,hk _ _ ho,hd⟩⟩
  cell:=fun x c e=>by
    obtain ⟨v,o,ho,hd⟩:=I.cell x c (Lr scope.names [] (fun _ _ z=>by simp at z) x c e)
    exact ⟨v,o,hk _ _ ho,hd⟩
  free:=I.hok.fresh (Nat.le_refl _)
  freeC:=fun x c e=>I.freeC x c (Lr scope.names [] (fun _ _ z=>by simp at z) x c e)
  pin:=fun p hp=>by
    have hp':p∈X.pn++pins:=by simpa [ur] using hp
    obtain ⟨a,b,c,d,e⟩:=I.pin p hp'
    refine ⟨hk _ _ a,b,Nat.ne_of_lt (Heap.lt_size a),fun z=>?_,e⟩
    rcases List.mem_cons.mp (I.X3 p.1 z) with q | q
    · exact c q
    · exact d q
  hok:=I.hok.kept hk
  len:=hl
theorem Vl {pins:List (Addr × Obj)} {σ σ':St} {H H':Hp} {s s':Shared} {fp:List Addr} {h':Heap} (I:Inv X pins σ H s) (hf:∀ b∈fp,T7 X pins H b)
    (J:Inv (ur X scope N s.heap.objs.size s H fp (X.pn++pins)) [] σ' H' s') (hs:Heap.SameBut s.heap.objs.size s'.heap h'):Inv X pins σ H' { s' with heap:=h' }:=by
  have kb:∀ b o,b≠s.heap.objs.size→s'.heap.get? b=some o→h'.get? b=some o:=fun b o n e=>hs.extBut b o n e
  have ne:∀ b o,s.heap.get? b=some o→b≠s.heap.objs.size:=fun b o e=>Nat.ne_of_lt (Heap.lt_size e)
  have fr:H' s.heap.objs.size=none:=J.free
  have u0:Un (frs X.stack) fp H H' s.heap s'.heap:=J.base
  have u:Un (frs X.stack) fp H H' s.heap h':=⟨fun b o e n h1 h2=>kb b o (ne b o e) (u0.keep b o e n h1 h2),fun b o e n h1 h2=>by
      obtain ⟨sl,q⟩:=u0.slot b o e n h1 h2
      exact ⟨sl,kb b _ (ne b o e) q⟩,u0.free,fun b o e h=>by
      obtain ⟨o',q⟩:=u0.there b o e h
      exact ⟨o',kb b _ (ne b o e) q⟩,u0.tups,u0.frzs,u0.tbls⟩
  have hok:HOk X.prog X.w H' h':=fun b o e=>by
    refine (J.hok b o e).stay (fun c v hc q=>kb c v ?_ q) (fun _ q=>q) fun _ _ q=>q
    rcases hc with z | z
    · rw [z]; intro y; rw [y] at e; rw [fr] at e; cases e
    · intro y; rw [y] at z; rw [fr] at z; cases z
  have hos:s'.os=s.os:=J.os
  obtain ⟨hh,g,d,t,os'⟩:=s'
  obtain rfl:os'=s.os:=hos
  exact Inv.call (X:=X) (s:=s) (H:=H) (h':=h') (g':=g) (d':=d) (t':=t) (ch:=fp) I u hok J.bare fun b hb=>⟨(hf b hb).2.2.2.1,(hf b hb).2.1,(hf b hb).2.2.2.2.1,(hf b hb).2.2.2.2.2⟩
variable {tg iter elt:Expr} {ifs:List Expr} {pos:Pos} {g:TG} {tc:TT} {te:TE}
theorem N7 (sc:J6 X scope N) (calm:X.calm=true)
    (hg:∀ C s₀ H₀ ex pn,PG (ur X scope N C s₀ H₀ ex pn) tg g) (hc:∀ C s₀ H₀ ex pn,PTs (ur X scope N C s₀ H₀ ex pn) ifs tc) (he:∀ C s₀ H₀ ex pn,PE (ur X scope N C s₀ H₀ ex pn) elt te)
    {pins:List (Addr × Obj)} {σ:St} {H1:Hp} {s₂:Shared} {it:Addr} {fp:List Addr} {tn:Nat→Heap→Prop} {J:It} {Q:VK} {E:Value→Shared→Prop} {RR:Value→Addr→Result→Shared→Prop}
    (I:Inv X pins σ H1 s₂) (T:Turn X.prog X.w X.K tg J fp it tn) (st2:tn 0 s₂.heap) (f2:∀ b∈fp,T7 X pins H1 b) (q:Te X scope N g tc te σ J H1 Q)
    (hRR:∀ D s₃ H3 σ' H' s',Inv X pins σ H3 s₃→(∀ b∈fp,T7 X pins H3 b)→Inv (ur X scope N s₃.heap.objs.size s₃ H3 fp (X.pn++pins)) [] σ' H' s'→Q (.ref D) H'→RR (.ref D) s₃.heap.objs.size (.ok .next) s') :
    wpAny (model X.prog X.w) X.A (newList []) (fun acc s₃=>wpAny (model X.prog X.w) X.A (newFunctionEnv scope X.env.globals (Xy X.env scope.names []) [] X.env.qual none .none (some X.env)) (fun cenv s₄ =>
      codeAny (model X.prog X.w) X.A (.compStart (.ListComp elt [⟨tg,iter,ifs,0⟩] scope pos) 0 (.ref it) acc { cenv with scope:=relabel scope X.env }) (RR acc cenv.locals) s₄) E s₃) E s₂:=by
  refine wpAny_newObj_type (wpAny_newFunctionEnv sc.nocell (by intro y hy; simp at hy) (fun h₁ hns₁ hsb₁=>?_) sc.kind)
  dsimp only at hns₁ hsb₁ ⊢
  have I3:Inv X pins σ (upd H1 s₂.heap.objs.size (.lst [])) { s₂ with heap:=s₂.heap.push { cls:=.type "list",dict:=none,data:=.seq ([]:List Value).toArray } } :=
    I.laid (t':=s₂.toks) (fun b ob q=>Heap.get?_push_of_some _ q) (Nat.le_refl _) ⟨Nat.zero_le _,[],_,.nil,Heap.get?_push_size _ rfl⟩
  generalize hs3:({ s₂ with heap:=s₂.heap.push { cls:=.type "list",dict:=none,data:=.seq ([]:List Value).toArray } }:Shared)=s₃ at I3
  have hheap:s₂.heap.push { cls:=.type "list",dict:=none,data:=.seq ([]:List Value).toArray } = s₃.heap:=by rw [← hs3]
  have hstate:∀ (h:Heap) (t:Nat),({ s₂ with heap:=h,toks:=t }:Shared) = { s₃ with heap:=h,toks:=t }:=fun h t=>by rw [← hs3]
  rw [hheap] at hns₁ hsb₁ ⊢
  have lt2:∀ b∈fp,b<s₂.heap.objs.size:=fun b hb=>by
    obtain ⟨o,ho,_⟩:=T.obj _ _ st2 b hb
    exact Heap.lt_size ho
  have sz3:s₃.heap.objs.size=s₂.heap.objs.size+1:=by rw [← hheap,Heap.size_push]
  have k23:∀ b o,s₂.heap.get? b=some o→s₃.heap.get? b=some o:=fun b o e=>by rw [← hheap]; exact Heap.get?_push_of_some _ e
  have f3:∀ b∈fp,T7 X pins (upd H1 s₂.heap.objs.size (.lst [])) b:=fun b hb=>⟨by rw [dj (Nat.ne_of_lt (lt2 b hb))]; exact (f2 b hb).1,(f2 b hb).2⟩
  have lt3:∀ b∈fp,b<s₃.heap.objs.size:=fun b hb=>by rw [sz3]; exact Nat.lt_succ_of_lt (lt2 b hb)
  obtain ⟨σ0,hl,h0,W,⟨m0,w0⟩,turn⟩:=q s₂.heap.objs.size (I.hok.fresh (Nat.le_refl _))
  have k34:∀ b o,s₃.heap.get? b=some o→h₁.get? b=some o:=fun b o e=>hsb₁.extBut b o (Nat.ne_of_lt (Heap.lt_size e)) (Heap.get?_push_of_some _ e)
  rw [hstate]
  have J0:=Yq (tk:=s₂.toks+([]:List (Str × Value)).length) sc I3 f3 lt3 hl h0 hns₁ k34
  have st4:tn 0 h₁:=T.keep _ _ _ st2 fun b _ o e=>k34 b o (k23 b o e)
  have key:∀ s₄:Shared,s₄ = { s₃ with heap:=h₁,toks:=s₂.toks+([]:List (Str × Value)).length }→codeAny (model X.prog X.w) X.A (.compLoop (.ListComp elt [⟨tg,iter,ifs,0⟩] scope pos) 0 (.ref it) (.ref s₂.heap.objs.size)
      (ur X scope N s₃.heap.objs.size s₃ (upd H1 s₂.heap.objs.size (.lst [])) fp (X.pn++pins)).env) (RR (.ref s₂.heap.objs.size) s₃.heap.objs.size) s₄:=by
    rintro s₄ rfl
    generalize hX:ur X scope N s₃.heap.objs.size s₃ (upd H1 s₂.heap.objs.size (.lst [])) fp (X.pn++pins)=X' at J0
    have hP:X'.prog=X.prog:=by rw [← hX]; rfl
    have hW:X'.w=X.w:=by rw [← hX]; rfl
    have hA:X'.A=X.A:=by rw [← hX]; rfl
    have hxe:X'.xe=fun _ _=>False:=by rw [← hX]; rfl
    have hK:X'.K=X.K:=by rw [← hX]; rfl
    have hcal:X'.calm=true:=by rw [← hX]; exact calm
    have stat:∀ {H':Hp},(∀ b∈fp,H' b=none)→∀ b∈fp,T7 X' [] H' b:=fun hn b hb=>by
      have z:=a1f sc I3 f3 lt3
      rw [hX] at z
      refine ⟨hn b hb,(z.exf b (by rw [← hX]; exact hb)).1,z.exfs b (by rw [← hX]; exact hb),.inl (by rw [← hX]; exact hb),(z.exf b (by rw [← hX]; exact hb)).2,fun p hp=>?_⟩
      have hp':p∈X.pn++pins:=by rw [← hX] at hp; simpa [ur] using hp
      exact (f3 b hb).2.2.2.2.2 p hp'
    have hg':PG X' tg g:=by rw [← hX]; exact hg _ _ _ _ _
    have hc':PTs X' ifs tc:=by rw [← hX]; exact hc _ _ _ _ _
    have he':PE X' elt te:=by rw [← hX]; exact he _ _ _ _ _
    have fin:∀ σ' H' s',Inv X' [] σ' H' s'→Q (.ref s₂.heap.objs.size) H'→RR (.ref s₂.heap.objs.size) s₃.heap.objs.size (.ok .next) s':=fun σ' H' s' I' q'=>hRR _ s₃ _ σ' H' s' I3 f3 (by rw [hX]; exact I') q'
    have T':Turn X'.prog X'.w X'.K tg J fp it tn:=by rw [hP,hW,hK]; exact T
    rw [← hP,← hW,← hA]
    refine T4 (J:=fun n s'=>∃ i σ' H',Inv X' [] σ' H' s'∧tn i s'.heap∧(∀ b∈fp,H' b=none)∧W i n σ' H') ?_ m0 ⟨0,σ0,_,J0,st4,fun b hb=>(f3 b hb).1,w0⟩
    rintro n s5 ⟨i,σ5,H5,I5,st5,fr5,w5⟩
    rcases turn i n σ5 H5 w5 with ⟨stop,qn⟩ | ⟨go,step⟩
    · refine thn (T'.done X' rfl rfl rfl hcal i [] s5 σ5 H5 _ I5 (stat fr5) st5 stop) fun r s6 z0=>?_
      obtain ⟨hr,I6⟩:=z0
      subst hr
      exact fin _ _ _ I6 qn
    · refine thn (T'.item X' rfl rfl rfl hcal i [] s5 σ5 H5 _ I5 (stat fr5) st5 go) fun r s6 z0=>?_
      obtain ⟨u,hr,h6⟩:=z0
      subst hr
      refine thn h6 fun _ s7 z0=>?_
      obtain ⟨x,H7,I7,r7,y7,st7,fr7⟩:=z0
      have I7':=I7.pinned (stat fr7) (T'.obj _ _ st7)
      have a1:=hg' _ s7 σ5 H7 x u _ I7' r7 (step x H7 y7)
      rw [hxe] at a1
      refine thn a1 fun _ s8 z0=>?_
      obtain ⟨σ8,H8,I8,q8⟩:=z0
      have a2:=hc' _ s8 σ8 H8 _ I8 q8
      rw [hxe] at a2
      refine thn a2 fun ok s9 z0=>?_
      obtain ⟨H9,I9,q9⟩:=z0
      have again:∀ {σ7:St} {H7:Hp} {s':Shared} {m':Nat},Inv X' ([]++Rx fp s7.heap) σ7 H7 s'→m'<n→W (i+1) m' σ7 H7→∃ m,m<n∧∃ i σ' H',Inv X' [] σ' H' s'∧tn i s'.heap∧(∀ b∈fp,H' b=none)∧W i m σ' H':=fun {σ7 H7 s' m'} I7 hm w7=>by
        refine ⟨m',hm,i+1,σ7,H7,I7.Ho,T'.keep _ _ _ st7 fun b hb o e=>(I7.pin (b,o) (List.mem_append_right _ (List.mem_append_right _ (Dc hb e)))).1,fun b hb=>?_,w7⟩
        obtain ⟨o,e,d⟩:=T'.obj _ _ st7 b hb
        exact (I7.pin (b,o) (List.mem_append_right _ (List.mem_append_right _ (Dc hb e)))).2.1
      cases ok with
      | false =>
        rw [if_neg Bool.false_ne_true] at q9 ⊢
        obtain ⟨m',hm,w9⟩:=q9
        exact again I9 hm w9
      | true =>
        rw [if_pos rfl] at q9 ⊢
        have a3:=he' _ s9 σ8 H9 _ I9 q9
        rw [hxe] at a3
        refine thn a3 fun xv s10 z0=>?_
        obtain ⟨y,H10,I10,r10,l,hl10,hz10,m',hm,w10⟩:=z0
        have a4:=ux (X:=X') _ s10 σ8 H10 (.ref s₂.heap.objs.size) [y] (.ref s₂.heap.objs.size) [xv] (fun _ H'=>H'=upd H10 s₂.heap.objs.size (.lst (l++[y]))) I10 rfl (.cons r10 .nil) ⟨_,l,y,rfl,rfl,hl10,hz10,rfl⟩
        rw [hxe] at a4
        refine thn a4 fun _ s11 z0=>?_
        obtain ⟨v,H11,I11,_,e11⟩:=z0
        subst e11
        exact again I11 hm w10
  exact codeAny_compStart_list (key _ rfl) (T.self _ 0 _ _ _ st4 (key _ rfl))
theorem a0k {wi:TI} (sc:J6 X scope N) (calm:X.calm=true) (hi:PI X tg iter wi)
    (hg:∀ C s₀ H₀ ex pn,PG (ur X scope N C s₀ H₀ ex pn) tg g) (hc:∀ C s₀ H₀ ex pn,PTs (ur X scope N C s₀ H₀ ex pn) ifs tc) (he:∀ C s₀ H₀ ex pn,PE (ur X scope N C s₀ H₀ ex pn) elt te)
    (hs:∀ x,foldedSetIterable iter X.env x=pure x:=by intro _; rfl):PE X (.ListComp elt [⟨tg,iter,ifs,0⟩] scope pos) (a2n X scope N wi g tc te):=by
  intro pins s σ H Q I h
  rw [eval_ListComp]
  refine wpAny_comprehension_free (use:=none) rfl hs (Gp sc.has) sc.kind sc.names ?_
  refine wpAny_mono (hi pins s σ H _ I h) (fun x s₁ h₁=>wpAny_mono h₁ (fun itv s₂ h₂=>?_) fun _ _ e=>e) fun _ _ e=>e
  obtain ⟨it,fp,tn,J,H1,rfl,I2,T,st2,f2,q⟩:=h₂
  refine N7 (RR:=fun acc C=>compPost (model X.prog X.w) X.A X.xe none (EP X pins σ Q) acc C) sc calm hg hc he I2 T st2 f2 q ?_
  intro D s₃ H3 σ' H' s' I3 f3 I' qn
  obtain ⟨m,hn,_⟩:=I'.loc
  exact ⟨m,hn,fun h' hs'=>⟨.ref D,H',Vl I3 f3 I' hs',rfl,qn⟩⟩
theorem Zq {wi:TI} {y:Str} {py spos:Pos} {i:Nat} (sc:J6 X scope N) (calm:X.calm=true) (hi:PI X tg iter wi)
    (hg:∀ C s₀ H₀ ex pn,PG (ur X scope N C s₀ H₀ ex pn) tg g) (hc:∀ C s₀ H₀ ex pn,PTs (ur X scope N C s₀ H₀ ex pn) ifs tc) (he:∀ C s₀ H₀ ex pn,PE (ur X scope N C s₀ H₀ ex pn) elt te)
    (hgN:PG X (.Name y py) (O5 i)) (hsw:swapsWith (.ListComp elt [⟨tg,iter,ifs,0⟩] scope pos) (some (.Name y py)) spos.line X.env=pure true)
    (hs:∀ x,foldedSetIterable iter X.env x=pure x:=by intro _; rfl):PS X (.Assign [.Name y py] (.ListComp elt [⟨tg,iter,ifs,0⟩] scope pos) spos) (a5r (a2n X scope N wi g tc te) (O5 i)):=by
  intro pins s σ H D I h
  rw [exec_Assign_Name_used _ _ _ _ hsw] -- here
  refine wpAny_bind (wpAny_standAt (wpAny_bind ?_)) -- here
  show wpAny _ X.A (do let _ ← comprehension (.ListComp elt [⟨tg,iter,ifs,0⟩] scope pos) scope X.env _ (newList []) false (eval iter X.env) (some (assign (.Name y py) X.env))) _ _ s
  refine wpAny_bind (wpAny_mono (wpAny_comprehension_free (use:=some (assign (.Name y py) X.env)) (Q:=fun _ s'=>SP X pins D .next s') rfl hs (Gp sc.has) sc.kind sc.names ?_) (fun _ s' hq=>wpAny_pure (wpAny_pure hq)) fun _ _ e=>e)
  refine wpAny_mono (hi pins s σ H _ I h) (fun x s₁ h₁=>wpAny_mono h₁ (fun itv s₂ h₂=>?_) fun _ _ e=>e) fun _ _ e=>e
  obtain ⟨it,fp,tn,J,H1,rfl,I2,T,st2,f2,q⟩:=h₂
  refine N7 (RR:=fun acc C=>compPost (model X.prog X.w) X.A X.xe (some (assign (.Name y py) X.env)) (fun _ s'=>SP X pins D .next s') acc C) sc calm hg hc he I2 T st2 f2 q ?_
  intro D' s₃ H3 σ' H' s' I3 f3 I' qn
  obtain ⟨m,hn,_⟩:=I'.loc
  obtain ⟨oC,es,ep,hoC,hdC,hrest⟩:=id hn
  have IX:Inv X pins σ H' s':=Vl I3 f3 I' (.refl ..)
  have fC:T7 X pins H' s₃.heap.objs.size:=I3.a8h (Nat.le_refl _) I'.free
  have IXp:=IX.pinned (fp:=[s₃.heap.objs.size]) (fun b hb=>by rw [List.mem_singleton.mp hb]; exact fC) (fun b hb=>by
    rw [List.mem_singleton.mp hb]
    exact ⟨oC,hoC,fun v z=>by rw [hdC] at z; cases z⟩)
  show wpAny _ X.A (assign (.Name y py) X.env (.ref D')) _ _ _
  refine thn (hgN _ s' σ H' (.ref D') (.ref D') _ IXp rfl qn) fun _ s'' z0=>?_
  obtain ⟨σ'',H'',I'',q''⟩:=z0
  have pC:=I''.pin (s₃.heap.objs.size,oC) (List.mem_append_right _ (List.mem_append_right _ (Dc (by simp) hoC)))
  refine ⟨m,⟨oC,es,ep,pC.1,hdC,hrest⟩,fun h' hs'=>⟨σ'',H'',?_,q''⟩⟩
  exact I''.Ho.turned (h':=h') (t':=s''.toks) (it:=s₃.heap.objs.size) (fun b o ne e=>hs'.extBut b o ne e) pC.2.1 fC.2.1 fC.2.2.2.1 fC.2.2.2.2.1 fC.2.2.2.2.2
end
end L2
end
section
namespace C
open PySem PySem.Spec PyProof.Rows L2
mutual
inductive Rep (K:PySem.W.Frag) (S:Hp) (as:List Addr):V→T→Prop where
  | non:Rep K S as .non .non
  | bl (b:Bool):Rep K S as (.bl b) (.bl b)
  | int (i:Int):Rep K S as (.int i) (.int i)
  | str (x:Str):Rep K S as (.str x) (.str x)
  | tup {a:Addr} {vs:List V} {ts:List T}:SqT K S a vs→qu K S as vs ts→Rep K S as (.ref a) (.tup ts)
  | lst {a:Addr} {vs:List V} {ts:List T}:SqL K S a vs→qu K S as vs ts→Rep K S as (.ref a) (.lst ts)
  | dic {a:Addr} {kvs:List (L2.Key × V)} {ts:List (L2.Key × T)}:Rd S a (.dK kvs)→zy K S as kvs ts→Rep K S as (.ref a) (.dic ts)
  | obj {n:Nat} {a:Addr}:as[n]? = some a→Rep K S as (.ref a) (.obj n)
inductive qu (K:PySem.W.Frag) (S:Hp) (as:List Addr):List V→List T→Prop where
  | nil:qu K S as [] []
  | cons {v:V} {t:T} {vs:List V} {ts:List T}:Rep K S as v t→qu K S as vs ts→qu K S as (v::vs) (t::ts)
inductive zy (K:PySem.W.Frag) (S:Hp) (as:List Addr):List (L2.Key × V)→List (L2.Key × T)→Prop where
  | nil:zy K S as [] []
  | cons {k:L2.Key} {v:V} {t:T} {vs:List (L2.Key × V)} {ts:List (L2.Key × T)}:Rep K S as v t→zy K S as vs ts→zy K S as ((k,v)::vs) ((k,t)::ts)
end
theorem Ac {S S':Hp} {a:Addr} {u:HO} (e:Same S S') (h:Rd S a u):Rd S' a u:=by
  rcases h with h | ⟨o,h⟩
  · exact .inl (e _ _ h)
  · exact .inr ⟨o,e _ _ h⟩
theorem mz {K:PySem.W.Frag} {S S':Hp} {a:Addr} {xs:List V} (e:Same S S') (h:SqT K S a xs):SqT K S' a xs:=by
  rcases h with h | h
  · exact .inl (Ac e h)
  · exact .inr h
theorem j5 {K:PySem.W.Frag} {S S':Hp} {a:Addr} {xs:List V} (e:Same S S') (h:SqL K S a xs):SqL K S' a xs:=by
  rcases h with h | h
  · exact .inl (Ac e h)
  · exact .inr h
section
variable {K:PySem.W.Frag} {S S':Hp} {as as':List Addr}
theorem a0x {α:Type} {l r:List α} {n:Nat} {a:α} (h:l[n]? = some a):(l++r)[n]? = some a:=by
  have:=(List.getElem?_eq_some_iff.mp h).1
  rw [List.getElem?_append_left this]; exact h
theorem Ur {n:Nat} {a:Addr} (x:∃ l,as'=as++l) (h:as[n]? = some a):as'[n]? = some a:=by obtain ⟨l,rfl⟩:=x; exact a0x h
theorem Rep.mono (e:Same S S') (x:∃ l,as'=as++l) {v:V} {t:T} (h:Rep K S as v t):Rep K S' as' v t :=
  Rep.rec (motive_1:=fun v t _=>Rep K S' as' v t) (motive_2:=fun v t _=>qu K S' as' v t) (motive_3:=fun v t _=>zy K S' as' v t) .non .bl .int .str (fun h _ i=>.tup (mz e h) i) (fun h _ i=>.lst (j5 e h) i) (fun h _ i=>.dic (Ac e h) i) (fun h=>.obj (Ur x h)) .nil (fun _ _ a b=>.cons a b) .nil (fun _ _ a b=>.cons a b) h
theorem qu.mono (e:Same S S') (x:∃ l,as'=as++l) {v:List V} {t:List T} (h:qu K S as v t):qu K S' as' v t :=
  qu.rec (motive_1:=fun v t _=>Rep K S' as' v t) (motive_2:=fun v t _=>qu K S' as' v t) (motive_3:=fun v t _=>zy K S' as' v t) .non .bl .int .str (fun h _ i=>.tup (mz e h) i) (fun h _ i=>.lst (j5 e h) i) (fun h _ i=>.dic (Ac e h) i) (fun h=>.obj (Ur x h)) .nil (fun _ _ a b=>.cons a b) .nil (fun _ _ a b=>.cons a b) h
theorem zy.mono (e:Same S S') (x:∃ l,as'=as++l) {v:List (L2.Key × V)} {t:List (L2.Key × T)} (h:zy K S as v t):zy K S' as' v t :=
  zy.rec (motive_1:=fun v t _=>Rep K S' as' v t) (motive_2:=fun v t _=>qu K S' as' v t) (motive_3:=fun v t _=>zy K S' as' v t) .non .bl .int .str (fun h _ i=>.tup (mz e h) i) (fun h _ i=>.lst (j5 e h) i) (fun h _ i=>.dic (Ac e h) i) (fun h=>.obj (Ur x h)) .nil (fun _ _ a b=>.cons a b) .nil (fun _ _ a b=>.cons a b) h
inductive T6 (K:PySem.W.Frag) (S:Hp) (as:List Addr):List (List L2.Key × V)→List (List L2.Key × T)→Prop where
  | nil:T6 K S as [] []
  | cons {k:List L2.Key} {v:V} {t:T} {vs:List (List L2.Key × V)} {ts:List (List L2.Key × T)}:Rep K S as v t→T6 K S as vs ts→T6 K S as ((k,v)::vs) ((k,t)::ts)
theorem T6.mono (e:Same S S') (x:∃ l,as'=as++l) {v:List (List L2.Key × V)} {t:List (List L2.Key × T)} (h:T6 K S as v t):T6 K S' as' v t:=by
  induction h with
  | nil=>exact .nil
  | cons h _ ih=>exact .cons (h.mono e x) ih
theorem T6.length {vs:List (List L2.Key × V)} {ts:List (List L2.Key × T)} (h:T6 K S as vs ts):vs.length=ts.length:=by
  induction h with
  | nil=>rfl
  | cons _ _ ih=>exact congrArg (· + 1) ih
theorem qu.length {vs:List V} {ts:List T} (h:qu K S as vs ts):vs.length=ts.length :=
  qu.rec (motive_1:=fun _ _ _=>True) (motive_2:=fun v t _=>v.length=t.length) (motive_3:=fun _ _ _=>True) trivial (fun _=>trivial) (fun _=>trivial) (fun _=>trivial) (fun _ _ _=>trivial) (fun _ _ _=>trivial) (fun _ _ _=>trivial) (fun _=>trivial) rfl (fun _ _ _ i=>congrArg (· + 1) i) trivial (fun _ _ _ _=>trivial) h
theorem zy.length {vs:List (L2.Key × V)} {ts:List (L2.Key × T)} (h:zy K S as vs ts):vs.length=ts.length :=
  zy.rec (motive_1:=fun _ _ _=>True) (motive_2:=fun _ _ _=>True) (motive_3:=fun v t _=>v.length=t.length) trivial (fun _=>trivial) (fun _=>trivial) (fun _=>trivial) (fun _ _ _=>trivial) (fun _ _ _=>trivial) (fun _ _ _=>trivial) (fun _=>trivial) trivial (fun _ _ _ _=>trivial) rfl (fun _ _ _ i=>congrArg (· + 1) i) h
theorem qu.get:∀ {vs:List V} {ts:List T} {i:Nat} {t:T},qu K S as vs ts→ts[i]? = some t→∃ v,vs[i]? = some v∧Rep K S as v t
  | _,_,_,_,.nil,e=>by simp at e
  | _,_,0,_,.cons r _,e=>by simp at e; subst e; exact ⟨_,rfl,r⟩
  | _,_,i+1,t,.cons _ r,e=>by
    obtain ⟨v,h1,h2⟩:=qu.get (i:=i) (t:=t) r (by simpa using e)
    exact ⟨v,by simpa using h1,h2⟩
theorem qu.append {vs:List V} {ts:List T} {ws:List V} {us:List T} (h:qu K S as vs ts) (q:qu K S as ws us):qu K S as (vs++ws) (ts++us) :=
  qu.rec (motive_1:=fun _ _ _=>True) (motive_2:=fun v t _=>qu K S as (v++ws) (t++us)) (motive_3:=fun _ _ _=>True) trivial (fun _=>trivial) (fun _=>trivial) (fun _=>trivial) (fun _ _ _=>trivial) (fun _ _ _=>trivial) (fun _ _ _=>trivial) (fun _=>trivial) q (fun h _ _ i=>.cons h i) trivial (fun _ _ _ _=>trivial) h
theorem qu.reverse:∀ {vs:List V} {ts:List T},qu K S as vs ts→qu K S as vs.reverse ts.reverse
  | _,_,.nil=>.nil
  | _,_,.cons h r=>by rw [List.reverse_cons,List.reverse_cons]; exact qu.append (qu.reverse r) (.cons h .nil)
theorem qu.drop:∀ (n:Nat) {vs:List V} {ts:List T},qu K S as vs ts→qu K S as (vs.drop n) (ts.drop n)
  | 0,_,_,r=>r
  | _+1,_,_,.nil=>.nil
  | n+1,_,_,.cons _ r=>qu.drop n r
theorem zy.get (k:L2.Key):∀ {vs:List (L2.Key × V)} {ts:List (L2.Key × T)},zy K S as vs ts→(∃ v t,Kz vs k=some v∧Hz k ts=some t∧Rep K S as v t)∨(Kz vs k=none∧Hz k ts=none)
  | _,_,.nil=>.inr ⟨rfl,rfl⟩
  | _,_,.cons (k:=q) (v:=v) (t:=t) (vs:=vs) (ts:=ts) h r=>by
    by_cases e:q=k
    · exact .inl ⟨v,t,Jx (p:=(q,v)) e,by rw [Hz,if_pos e],h⟩
    · rw [Jt (p:=(q,v)) e,Hz,if_neg e]
      exact zy.get k r
end
structure Bas where
  S:Hp
  as:List Addr
  H:Hp
structure Yv (B:Bas) (S:Hp) (as:List Addr) (H:Hp):Prop where
  same:Same B.S S
  more:∃ l,as=B.as++l
  keep:∀ p o,B.H p=some o→B.S p=none→p∉B.as→H p=some o∧S p=none∧p∉as
structure Ext (S H S' H':Hp):Prop where
  s:Same S S'
  h:Same H H'
  sub:Same S' H'
  new:∀ p,S' p≠none→S p≠none∨H p=none
theorem Ext.refl {S H:Hp} (h:Same S H):Ext S H S H:=⟨Same.refl _,Same.refl _,h,fun _ q=>.inl q⟩
theorem Same.upd {H:Hp} {p:Addr} (h:H p=none) (o:HO):Same H (upd H p o):=fun b u q=>by rw [dj (ug q h)]; exact q
theorem Ext.laid {S H:Hp} (h:Same S H) {p:Addr} (n:H p=none) (o:HO):Ext S H (upd S p o) (upd H p o) where
  s:=Same.upd (h.free n) o
  h:=Same.upd n o
  sub:=fun b u q=>by
    by_cases e:b=p
    · subst e; rw [d7] at q ⊢; exact q
    · rw [dj e] at q ⊢; exact h _ _ q
  new:=fun b q=>by
    by_cases e:b=p
    · subst e; exact .inr n
    · rw [dj e] at q; exact .inl q
theorem Ext.trans {S H S1 H1 S2 H2:Hp} (a:Ext S H S1 H1) (b:Ext S1 H1 S2 H2):Ext S H S2 H2 where
  s:=a.s.trans b.s
  h:=a.h.trans b.h
  sub:=b.sub
  new:=fun p q=>by
    rcases b.new p q with z | z
    · exact a.new p z
    · exact .inr (a.h.free z)
def Own (K:PySem.W.Frag) (S:Hp) (as:List Addr) (H:Hp) (p:Addr):T→Prop
  | .lst ts=>∃ vs,H p=some (.lst vs)∧qu K S as vs ts
  | .dic ts=>∃ kvs,H p=some (.dK kvs)∧zy K S as kvs ts
  | _=>False
structure Ik (K:PySem.W.Frag) (B:Bas) (S:Hp) (as:List Addr) (H:Hp) (p:Addr) (t:T):Prop where
  own:Own K S as H p t
  out:S p=none
  nas:p∉as
  new:B.H p=none
def Wd (K:PySem.W.Frag) (S:Hp) (as:List Addr) (H:Hp) (a:Addr):SO→Prop
  | .dic ts=>∃ kvs,H a=some (.dK kvs)∧zy K S as kvs ts
  | .lst ts=>∃ vs,H a=some (.lst vs)∧qu K S as vs ts
  | .dit ts=>∃ kvs,H a=some (.dT kvs)∧T6 K S as kvs ts
  | .fdc ts=>∃ kvs,(∃ o,H a=some (.frz o (.dK kvs)))∧zy K S as kvs ts
  | .exc C f t=>∃ dx v,H a=some (.ext fun h=>∃ vs,h.get? a=some { cls:=.ref C,dict:=some dx,data:=.fields vs })∧S dx=some (.ext fun h=>∃ hs tk u,RelV v u∧h.get? dx=some (PySem.W.dictOf [⟨hs,.str f tk,u⟩] 1))∧Rep K S as v t
structure Jf (K:PySem.W.Frag) (S:Hp) (as:List Addr) (H:Hp) (sto:List SO):Prop where
  len:as.length=sto.length
  nd:as.Nodup
  at':∀ (n:Nat) so,sto[n]? = some so→∃ a,as[n]? = some a∧S a=none∧Wd K S as H a so
structure Rel (K:PySem.W.Frag) (B:Bas) (st:Sta) (σ:L2.St) (H:Hp) (ps:List (V × T)) (S:Hp) (as:List Addr):Prop where
  sub:Same S H
  grow:Yv B S as H
  slots:∀ (i:Nat) t f,st.env[i]? = some (some (t,f))→∃ v,σ[i]? = some (some v)∧(f=false→Rep K S as v t)∧(f=true→∃ p,v=.ref p∧Ik K B S as H p t)
  apart:∀ (i j:Nat) t u p,st.env[i]? = some (some (t,true))→st.env[j]? = some (some (u,true))→σ[i]? = some (some (.ref p))→σ[j]? = some (some (.ref p))→i=j
  sto:Jf K S as H st.sto
  pend:∀ p∈ps,Rep K S as p.1 p.2
  len:σ.length=st.env.length
section
variable {K:PySem.W.Frag} {B:Bas} {st:Sta} {σ:L2.St} {H H' S S':Hp} {ps:List (V × T)} {as:List Addr}
theorem nol {as:List Addr}:∃ l:List Addr,as=as++l:=⟨[],(List.append_nil _).symm⟩
theorem Own.mono {p:Addr} {t:T} (hs:Same S S') (hh:H p=H' p) (o:Own K S as H p t):Own K S' as H' p t:=by
  cases t with
  | lst ts=>obtain ⟨vs,h,r⟩:=o; exact ⟨vs,hh ▸ h,r.mono hs nol⟩
  | dic ts=>obtain ⟨vs,h,r⟩:=o; exact ⟨vs,hh ▸ h,r.mono hs nol⟩
  | _=>exact o.elim
theorem Own.there {p:Addr} {t:T} (o:Own K S as H p t):∃ ob,H p=some ob:=by
  cases t with
  | lst ts=>obtain ⟨vs,h,r⟩:=o; exact ⟨_,h⟩
  | dic ts=>obtain ⟨vs,h,r⟩:=o; exact ⟨_,h⟩
  | _=>exact o.elim
theorem Wd.mono {a:Addr} {so:SO} (hs:Same S S') (hh:H a=H' a) (o:Wd K S as H a so):Wd K S' as H' a so:=by
  cases so with
  | dic ts=>obtain ⟨vs,h,r⟩:=o; exact ⟨vs,hh ▸ h,r.mono hs nol⟩
  | lst ts=>obtain ⟨vs,h,r⟩:=o; exact ⟨vs,hh ▸ h,r.mono hs nol⟩
  | dit ts=>obtain ⟨vs,h,r⟩:=o; exact ⟨vs,hh ▸ h,r.mono hs nol⟩
  | exc C f t=>obtain ⟨dx,v,h,g,r⟩:=o; exact ⟨dx,v,hh ▸ h,hs _ _ g,r.mono hs nol⟩
  | fdc ts=>obtain ⟨vs,h,r⟩:=o; exact ⟨vs,hh ▸ h,r.mono hs nol⟩
theorem Wd.there {a:Addr} {so:SO} (o:Wd K S as H a so):∃ ob,H a=some ob:=by
  cases so with
  | dic ts=>obtain ⟨vs,h,r⟩:=o; exact ⟨_,h⟩
  | lst ts=>obtain ⟨vs,h,r⟩:=o; exact ⟨_,h⟩
  | dit ts=>obtain ⟨vs,h,r⟩:=o; exact ⟨_,h⟩
  | exc C f t=>obtain ⟨dx,v,h,g,r⟩:=o; exact ⟨_,h⟩
  | fdc ts=>obtain ⟨vs,⟨o,h⟩,r⟩:=o; exact ⟨_,h⟩
theorem Ext.outs (x:Ext S H S' H') {p:Addr} {o:HO} (h:H p=some o) (n:S p=none):S' p=none:=by
  cases q:S' p with
  | none=>rfl
  | some u =>
    rcases x.new p (by rw [q]; exact Option.some_ne_none _) with z | z
    · exact absurd n z
    · rw [h] at z; cases z
theorem Jf.ext {sto:List SO} (r:Jf K S as H sto) (x:Ext S H S' H'):Jf K S' as H' sto where
  len:=r.len
  nd:=r.nd
  at':=fun n so e=>by
    obtain ⟨a,h1,h2,h3⟩:=r.at' n so e
    obtain ⟨ob,ho⟩:=h3.there
    exact ⟨a,h1,x.outs ho h2,h3.mono x.s (by rw [ho,x.h _ _ ho])⟩
theorem Rel.ext (r:Rel K B st σ H ps S as) (x:Ext S H S' H'):Rel K B st σ H' ps S' as where
  sub:=x.sub
  grow:=⟨r.grow.same.trans x.s,r.grow.more,fun p o h1 h2 h3=>by
    obtain ⟨a,b,c⟩:=r.grow.keep p o h1 h2 h3
    exact ⟨x.h _ _ a,x.outs a b,c⟩⟩
  slots:=fun i t f e=>by
    obtain ⟨v,h1,h2,h3⟩:=r.slots i t f e
    refine ⟨v,h1,fun q=>(h2 q).mono x.s nol,fun q=>?_⟩
    obtain ⟨p,e,o⟩:=h3 q
    obtain ⟨ob,ho⟩:=o.own.there
    exact ⟨p,e,o.own.mono x.s (by rw [ho,x.h _ _ ho]),x.outs ho o.out,o.nas,o.new⟩
  apart:=r.apart
  sto:=r.sto.ext x
  pend:=fun p hp=>(r.pend p hp).mono x.s nol
  len:=r.len
theorem Rel.push (r:Rel K B st σ H ps S as) {v:V} {t:T} (h:Rep K S as v t):Rel K B st σ H ((v,t)::ps) S as :=
  ⟨r.sub,r.grow,r.slots,r.apart,r.sto,fun p hp=>by
    rcases List.mem_cons.mp hp with rfl | z
    · exact h
    · exact r.pend p z,r.len⟩
theorem Rel.drop {p:V × T} (r:Rel K B st σ H (p::ps) S as):Rel K B st σ H ps S as :=
  ⟨r.sub,r.grow,r.slots,r.apart,r.sto,fun q hq=>r.pend q (List.mem_cons_of_mem _ hq),r.len⟩
theorem Rel.top {v:V} {t:T} (r:Rel K B st σ H ((v,t)::ps) S as):Rep K S as v t:=r.pend (v,t) List.mem_cons_self
theorem Rel.top2 {v:V} {t:T} {q:V × T} (r:Rel K B st σ H (q::(v,t)::ps) S as):Rep K S as v t:=r.pend (v,t) (List.mem_cons_of_mem _ List.mem_cons_self)
end
inductive tOf (K:PySem.W.Frag) (B:Bas) (m:M T) (σ:L2.St) (H:Hp) (Q:VK):Prop
  | mk (st:Sta) (ps:List (V × T)) (S:Hp) (as:List Addr) (R:Rel K B st σ H ps S as) (t:T) (st':Sta) (e:m st=some (t,st')) (q:∀ v H' S' as',Rel K B st' σ H' ((v,t)::ps) S' as'→Q v H')
inductive cOf (K:PySem.W.Frag) (B:Bas) (m:M Bool) (σ:L2.St) (H:Hp) (Q:Bool→Hp→Prop):Prop
  | mk (st:Sta) (ps:List (V × T)) (S:Hp) (as:List Addr) (R:Rel K B st σ H ps S as) (b:Bool) (st':Sta) (e:m st=some (b,st')) (q:∀ H' S' as',Rel K B st' σ H' ps S' as'→Q b H')
inductive aOf (K:PySem.W.Frag) (B:Bas) (m:M (List T)) (σ:L2.St) (H:Hp) (Q:List V→Hp→Prop):Prop
  | mk (st:Sta) (ps:List (V × T)) (S:Hp) (as:List Addr) (R:Rel K B st σ H ps S as) (ts:List T) (st':Sta) (e:m st=some (ts,st')) (q:∀ vs H' S' as',Rel K B st' σ H' ps S' as'→qu K S' as' vs ts→Q vs H')
theorem _root_.L2.PE.imp {X:Cx} {e:Expr} {t t':TE} (h:PE X e t) (i:∀ σ H Q,t' σ H Q→t σ H Q):PE X e t':=fun pins s σ H Q I q=>h pins s σ H Q I (i σ H Q q)
theorem _root_.L2.PT.imp {X:Cx} {e:Expr} {t t':TT} (h:PT X e t) (i:∀ σ H Q,t' σ H Q→t σ H Q):PT X e t':=fun pins s σ H Q I q=>h pins s σ H Q I (i σ H Q q)
theorem _root_.L2.PA.imp {X:Cx} {e:List Expr} {t t':TA} (h:PA X e t) (i:∀ σ H Q,t' σ H Q→t σ H Q):PA X e t':=fun pos pins s σ H Q I q=>h pos pins s σ H Q I (i σ H Q q)
theorem _root_.L2.PS.imp {X:Cx} {e:Stmt} {t t':TS} (h:PS X e t) (i:∀ D σ H,t' D σ H→t D σ H):PS X e t':=fun pins s σ H D I q=>h pins s σ H D I (i D σ H q)
theorem _root_.L2.PSs.imp {X:Cx} {e:List Stmt} {t t':TS} (h:PSs X e t) (i:∀ D σ H,t' D σ H→t D σ H):PSs X e t':=fun pins s σ H D I q=>h pins s σ H D I (i D σ H q)
def r2 (K:PySem.W.Frag) (f:T→T→Option T):R2:=fun x y H Q=>∃ S as t u w,Same S H∧Rep K S as x t∧Rep K S as y u∧f t u=some w∧∀ v H' S',Ext S H S' H'→Rep K S' as v w→Q v H'
def r1 (K:PySem.W.Frag) (f:T→Option T):V→Hp→VK→Prop:=fun x H Q=>∃ S as t w,Same S H∧Rep K S as x t∧f t=some w∧∀ v H' S',Ext S H S' H'→Rep K S' as v w→Q v H'
def rL (K:PySem.W.Frag) (f:List T→Option T):List V→Hp→VK→Prop:=fun xs H Q=>∃ S as ts w,Same S H∧qu K S as xs ts∧f ts=some w∧∀ v H' S',Ext S H S' H'→Rep K S' as v w→Q v H'
abbrev OpT (X:Cx) (f:Value→Value→Sem Value) (g:T→T→Option T):Prop:=OpR X f (r2 X.K g)
abbrev UnT (X:Cx) (f:Value→Sem Value) (g:T→Option T):Prop:=UnR X f (r1 X.K g)
abbrev V9 (X:Cx) (f:Value) (g:List T→Option T):Prop:=Du X f (rL X.K g)
section
variable {X:Cx} {B:Bas} {a b c:Expr} {m m1 m2:M T} {pos:Pos}
theorem Ol {v:V} {t:T} {e:Expr} (h:PE X e (tC v)) (r:∀ S as,Rep X.K S as v t):PE X e (tOf X.K B (aq t)):=h.imp fun σ H Q z9=>by
  obtain ⟨st,ps,S,as,R,t',st',e,q⟩:=z9
  cases e
  exact q v H S as (R.push (r S as))
theorem bf {i:Int} {j:Nat}:PE X (.Constant (.int i) j pos) (tOf X.K B (aq (.int i))):=Ol a6g fun _ _=>.int i
theorem a9v {i:Bool} {j:Nat}:PE X (.Constant (.bool i) j pos) (tOf X.K B (aq (.bl i))):=Ol ac0 fun _ _=>.bl i
theorem m7 {i:Str} {j:Nat}:PE X (.Constant (.str i) j pos) (tOf X.K B (aq (.str i))):=Ol a9l fun _ _=>.str i
theorem jm {op:Operator} {f:T→T→Option T} (ho:OpT X (binaryOp op) f) (ha:PE X a (tOf X.K B m1)) (hb:PE X b (tOf X.K B m2)):PE X (.BinOp a op b pos) (tOf X.K B (mOp f m1 m2)) :=
  (ab2 ho ha hb).imp fun σ H Q z9=>by
    obtain ⟨st,ps,S,as,R,t,st',e,q⟩:=z9
    obtain ⟨t1,s1,t2,e1,e2,e3⟩:=V8 e
    refine ⟨st,ps,S,as,R,t1,s1,e1,fun v H1 S1 as1 R1=>⟨s1,_,S1,as1,R1,t2,st',e2,fun u H2 S2 as2 R2=>?_⟩⟩
    exact ⟨S2,as2,t1,t2,t,R2.sub,R2.top2,R2.top,e3,fun w H3 S3 x r=>q w H3 S3 as2 ((R2.drop.drop.ext x).push r)⟩
end
end C
end
section
namespace C
open PySem PySem.Spec PyProof.Rows L2
section
variable {K:PySem.W.Frag} {B:Bas} {st:Sta} {σ:L2.St} {H H' S S':Hp} {ps:List (V × T)} {as:List Addr}
theorem Rel.freeze (r:Rel K B st σ H ps S as) {i:Nat} {t:T} (e:st.env[i]? = some (some (t,true))) :
    ∃ v S',σ[i]? = some (some v)∧Rel K B { st with env:=st.env.set i (some (t,false)) } σ H ((v,t)::ps) S' as:=by
  obtain ⟨v,h1,_,h3⟩:=r.slots i t true e
  obtain ⟨p,rfl,o⟩:=h3 rfl
  obtain ⟨ob,ho⟩:=o.own.there
  have hi:i<st.env.length:=(List.getElem?_eq_some_iff.mp e).1
  have sS:Same S (upd S p ob):=Same.upd o.out ob
  have rep:Rep K (upd S p ob) as (.ref p) t:=by
    have w:=o.own
    cases t with
    | lst ts=>obtain ⟨vs,h,q⟩:=w; rw [ho] at h; cases h; exact .lst (SqL.of d7) (q.mono sS nol)
    | dic ts=>obtain ⟨vs,h,q⟩:=w; rw [ho] at h; cases h; exact .dic (.inl d7) (q.mono sS nol)
    | _=>exact w.elim
  have outs:∀ q,S q=none→q≠p→upd S p ob q=none:=fun q h n=>by rw [dj n]; exact h
  refine ⟨.ref p,upd S p ob,h1,?_⟩
  refine Rel.push (v:=.ref p) (t:=t) ⟨?_,?_,?_,?_,?_,?_,?_⟩ rep
  · intro b u q
    by_cases z:b=p
    · subst z; rw [d7] at q; cases q; exact ho
    · rw [dj z] at q; exact r.sub _ _ q
  · refine ⟨r.grow.same.trans sS,r.grow.more,fun q w a b c=>?_⟩
    obtain ⟨x,y,z⟩:=r.grow.keep q w a b c
    refine ⟨x,outs q y fun n=>?_,z⟩
    subst n; rw [o.new] at a; cases a
  · intro j u f ej
    by_cases hij:i=j
    · subst hij
      rw [List.getElem?_set_self hi] at ej
      cases ej
      exact ⟨.ref p,h1,fun _=>rep,fun z=>by cases z⟩
    · rw [List.getElem?_set_ne hij] at ej
      obtain ⟨v',a1,a2,a3⟩:=r.slots j u f ej
      refine ⟨v',a1,fun z=>(a2 z).mono sS nol,fun z=>?_⟩
      subst z
      obtain ⟨p',rfl,o'⟩:=a3 rfl
      refine ⟨p',rfl,o'.own.mono sS rfl,outs p' o'.out fun n=>?_,o'.nas,o'.new⟩
      subst n
      exact hij (r.apart i j t u p' e ej h1 a1)
  · intro j k u w q ej ek
    have hj:st.env[j]? = some (some (u,true)):=by
      by_cases hij:i=j
      · subst hij; rw [List.getElem?_set_self hi] at ej; cases ej
      · rwa [List.getElem?_set_ne hij] at ej
    have hk:st.env[k]? = some (some (w,true)):=by
      by_cases hij:i=k
      · subst hij; rw [List.getElem?_set_self hi] at ek; cases ek
      · rwa [List.getElem?_set_ne hij] at ek
    exact r.apart j k u w q hj hk
  · refine ⟨r.sto.len,r.sto.nd,fun n so en=>?_⟩
    obtain ⟨a,a1,a2,a3⟩:=r.sto.at' n so en
    refine ⟨a,a1,outs a a2 fun z=>?_,a3.mono sS rfl⟩
    subst z
    exact o.nas (List.mem_of_getElem? a1)
  · exact fun q hq=>(r.pend q hq).mono sS nol
  · show σ.length=(st.env.set i _).length
    rw [List.length_set]; exact r.len
end
section
variable {X:Cx} {B:Bas} {a b c:Expr} {m m1 m2:M T} {pos:Pos}
theorem ak (i:Nat) {e:Expr} (h:PE X e (Mq i)):PE X e (tOf X.K B (bw i)):=h.imp fun σ H Q z9=>by
  obtain ⟨st,ps,S,as,R,t,st',e,q⟩:=z9
  rcases Vn e with ⟨e1,rfl⟩ | ⟨e1,rfl⟩
  · obtain ⟨v,h1,h2,_⟩:=R.slots i t false e1
    exact ⟨v,h1,q v H S as (R.push (h2 rfl))⟩
  · obtain ⟨v,S',h1,R'⟩:=R.freeze e1
    exact ⟨v,h1,q v H S' as R'⟩
theorem c7:PA X [] (aOf X.K B g8):=qz.imp fun σ H Q z9=>by
  obtain ⟨st,ps,S,as,R,ts,st',e,q⟩:=z9
  cases e
  exact q [] H S as R .nil
theorem aj {es:List Expr} {ms:M (List T)} (ha:PE X a (tOf X.K B m)) (hr:PA X es (aOf X.K B ms)) (hs:starEach (a::es) X.env=(false,eval a X.env)::starEach es X.env:=by rfl):PA X (a::es) (aOf X.K B (ao m ms)) :=
  (jr ha hr hs).imp fun σ H Q z9=>by
    obtain ⟨st,ps,S,as,R,ts,st',e,q⟩:=z9
    obtain ⟨t,s1,us,e1,e2,rfl⟩:=Cz e
    refine ⟨st,ps,S,as,R,t,s1,e1,fun v H1 S1 as1 R1=>⟨s1,_,S1,as1,R1,us,st',e2,fun vs H2 S2 as2 R2 rs=>?_⟩⟩
    exact q (v::vs) H2 S2 as2 R2.drop (.cons R2.top rs)
theorem p8 {es:List Expr} {ms:M (List T)} {k:Nat} (h:PA X es (aOf X.K B ms)) (hm:∀ st ts st',ms st=some (ts,st')→ts.length≤1000):PE X (.Tuple es k pos) (tOf X.K B (nu (fun l=>some (.tup l)) ms)) :=
  (a8z h).imp fun σ H Q z9=>by
    obtain ⟨st,ps,S,as,R,t,st',e,q⟩:=z9
    obtain ⟨ts,e1,e2⟩:=Di e
    cases e2
    refine ⟨st,ps,S,as,R,ts,st',e1,fun vs H1 S1 as1 R1 rs=>⟨?_,fun p hp=>?_⟩⟩
    · rw [rs.length]; exact Nat.le_of_lt (Hr (hm _ _ _ e1))
    · have x:=Ext.laid R1.sub hp (.tup vs)
      exact q _ _ _ _ ((R1.ext x).push (.tup (SqT.of d7) (rs.mono x.s nol)))
theorem Az {es:List Expr} {ms:M (List T)} (h:PA X es (aOf X.K B ms)) (hm:∀ st ts st',ms st=some (ts,st')→ts.length≤1000):PE X (.List es pos) (tOf X.K B (nu (fun l=>some (.lst l)) ms)) :=
  (Ww h).imp fun σ H Q z9=>by
    obtain ⟨st,ps,S,as,R,t,st',e,q⟩:=z9
    obtain ⟨ts,e1,e2⟩:=Di e
    cases e2
    refine ⟨st,ps,S,as,R,ts,st',e1,fun vs H1 S1 as1 R1 rs=>⟨?_,fun p hp=>?_⟩⟩
    · rw [rs.length]; exact Nat.le_of_lt (Hr (hm _ _ _ e1))
    · have x:=Ext.laid R1.sub hp (.lst vs)
      exact q _ _ _ _ ((R1.ext x).push (.lst (SqL.of d7) (rs.mono x.s nol)))
theorem d8:∀ st ts st',g8 st=some (ts,st')→ts.length≤0:=fun st ts st' e=>by cases e; exact Nat.le_refl _
theorem bh {r:M (List T)} {n:Nat} (h:∀ st ts st',r st=some (ts,st')→ts.length≤n):∀ st ts st',ao m r st=some (ts,st')→ts.length≤n+1:=fun st ts st' e=>by
  obtain ⟨t,s1,us,e1,e2,rfl⟩:=Cz e
  exact Nat.succ_le_succ (h _ _ _ e2)
theorem wg {ms:M (List T)} {f:List T→Option T} {e:Expr} (h:PE X e (tCB (rL X.K f) (aOf X.K B ms))):PE X e (tOf X.K B (nu f ms)) :=
  h.imp fun σ H Q z9=>by
    obtain ⟨st,ps,S,as,R,t,st',e,q⟩:=z9
    obtain ⟨ts,e1,e2⟩:=Di e
    refine ⟨st,ps,S,as,R,ts,st',e1,fun vs H1 S1 as1 R1 rs=>⟨S1,as1,ts,t,R1.sub,rs,e2,fun v H2 S2 x r=>?_⟩⟩
    exact q v H2 S2 as1 ((R1.ext x).push r)
theorem W4 {f:T→T→Option T} {e:Expr} (h:PE X e (tOp (r2 X.K f) (tOf X.K B m1) (tOf X.K B m2))):PE X e (tOf X.K B (mOp f m1 m2)) :=
  h.imp fun σ H Q z9=>by
    obtain ⟨st,ps,S,as,R,t,st',e,q⟩:=z9
    obtain ⟨t1,s1,t2,e1,e2,e3⟩:=V8 e
    refine ⟨st,ps,S,as,R,t1,s1,e1,fun v H1 S1 as1 R1=>⟨s1,_,S1,as1,R1,t2,st',e2,fun u H2 S2 as2 R2=>?_⟩⟩
    exact ⟨S2,as2,t1,t2,t,R2.sub,R2.top2,R2.top,e3,fun w H3 S3 x r=>q w H3 S3 as2 ((R2.drop.drop.ext x).push r)⟩
theorem a4k {f:T→Option T} {e:Expr} (h:PE X e (tUn (r1 X.K f) (tOf X.K B m))):PE X e (tOf X.K B (mUn f m)) :=
  h.imp fun σ H Q z9=>by
    obtain ⟨st,ps,S,as,R,t,st',e,q⟩:=z9
    obtain ⟨t1,e1,e3⟩:=a0e e
    refine ⟨st,ps,S,as,R,t1,st',e1,fun v H1 S1 as1 R1=>⟨S1,as1,t1,t,R1.sub,R1.top,e3,fun w H3 S3 x r=>q w H3 S3 as1 ((R1.drop.ext x).push r)⟩⟩
theorem Nj {op:CmpOp} {f:T→T→Option T} (ho:OpT X (compareOp op) f) (ha:PE X a (tOf X.K B m1)) (hb:PE X b (tOf X.K B m2)) (hm:behindInMarks op b=false):PE X (.Compare a [op] [b] pos) (tOf X.K B (mOp f m1 m2)):=W4 (a7s ho ha hb hm)
theorem aaq {op:UnaryOp} {f:T→Option T} (ho:UnT X (unaryOp op) f) (ha:PE X a (tOf X.K B m)):PE X (.UnaryOp op a pos) (tOf X.K B (mUn f m)):=a4k (aac ho ha)
theorem Iv {e:Expr} (h:PT X e (a9k (tOf X.K B m))):PT X e (cOf X.K B (gb m)):=h.imp fun σ H Q z9=>by
  obtain ⟨st,ps,S,as,R,t,st',e,q⟩:=z9
  refine ⟨st,ps,S,as,R,.bl t,st',Av e,fun v H1 S1 as1 R1=>?_⟩
  cases R1.top
  exact ⟨t,rfl,q H1 S1 as1 R1.drop⟩
theorem ji {op:CmpOp} {f:T→T→Option T} (ho:OpT X (compareOp op) f) (ha:PE X a (tOf X.K B m1)) (hb:PE X b (tOf X.K B m2)) (hm:behindInMarks op b=false):PT X (.Compare a [op] [b] pos) (cOf X.K B (gb (mOp f m1 m2))) :=
  Iv ((a07 ho ha hb hm).imp fun σ H Q z9=>by
    obtain ⟨st,ps,S,as,R,t,st',e,q⟩:=z9
    obtain ⟨t1,s1,t2,e1,e2,e3⟩:=V8 e
    refine ⟨st,ps,S,as,R,t1,s1,e1,fun v H1 S1 as1 R1=>⟨s1,_,S1,as1,R1,t2,st',e2,fun u H2 S2 as2 R2=>?_⟩⟩
    exact ⟨S2,as2,t1,t2,t,R2.sub,R2.top2,R2.top,e3,fun w H3 S3 x r=>q w H3 S3 as2 ((R2.drop.drop.ext x).push r)⟩)
theorem Wq {e:Expr} (h:PE X e (tOf X.K B m)) (he:∀ whole,isTrue e X.env whole=(do let v ← whole; standAt e.pos; holding [v] (truthy v)):=by intro _; rfl):PT X e (cOf X.K B (gb m)) :=
  Iv ((aa8 h he).imp fun σ H Q h=>h)
theorem a1y {c1:M Bool} (ha:PT X a (cOf X.K B c1)):PT X (.UnaryOp .Not a pos) (cOf X.K B (V4 c1)):=(a91 ha).imp fun σ H Q z9=>by
  obtain ⟨st,ps,S,as,R,t,st',e,q⟩:=z9
  obtain ⟨k,e1,rfl⟩:=Vf e
  exact ⟨st,ps,S,as,R,k,st',e1,q⟩
theorem Tj {c1:M Bool} (ha:PT X a (cOf X.K B c1)):PW X (.BoolOp .And [a] pos) (cOf X.K B c1):=pw_and1 ha
theorem Qw {c1:M Bool} (ha:PT X a (cOf X.K B c1)):PW X (.BoolOp .Or [a] pos) (cOf X.K B c1):=pw_or1 ha
theorem a9s {e:Expr} {t t':TT} (h:PW X e t) (i:∀ σ H Q,t' σ H Q→t σ H Q):PW X e t':=fun whole pins s σ H Q I q=>h whole pins s σ H Q I (i σ H Q q)
theorem a2p {c1 c2:M Bool} {rest:List Expr} (ha:PT X a (cOf X.K B c1)) (hb:PW X (.BoolOp .And (b::rest) pos) (cOf X.K B c2)):PW X (.BoolOp .And (a::b::rest) pos) (cOf X.K B (Yu c1 c2)) :=
  a9s (pw_and ha hb) fun σ H Q z9=>by
    obtain ⟨st,ps,S,as,R,t,st',e,q⟩:=z9
    rcases Wm e with ⟨s1,e1,e2⟩ | ⟨e1,rfl⟩
    · exact ⟨st,ps,S,as,R,true,s1,e1,fun H1 S1 as1 R1=>a68 (⟨s1,ps,S1,as1,R1,t,st',e2,q⟩)⟩
    · exact ⟨st,ps,S,as,R,false,st',e1,fun H1 S1 as1 R1=>a5t (q H1 S1 as1 R1)⟩
theorem Yn {c1 c2:M Bool} {rest:List Expr} (ha:PT X a (cOf X.K B c1)) (hb:PW X (.BoolOp .Or (b::rest) pos) (cOf X.K B c2)):PW X (.BoolOp .Or (a::b::rest) pos) (cOf X.K B (mOr c1 c2)) :=
  a9s (pw_or ha hb) fun σ H Q z9=>by
    obtain ⟨st,ps,S,as,R,t,st',e,q⟩:=z9
    rcases a0g e with ⟨s1,e1,e2⟩ | ⟨e1,rfl⟩
    · exact ⟨st,ps,S,as,R,false,s1,e1,fun H1 S1 as1 R1=>a5t (⟨s1,ps,S1,as1,R1,t,st',e2,q⟩)⟩
    · exact ⟨st,ps,S,as,R,true,st',e1,fun H1 S1 as1 R1=>a68 (q H1 S1 as1 R1)⟩
theorem a3x {c1:M Bool} (hc:PT X c (cOf X.K B c1)) (ha:PE X a (tOf X.K B m1)) (hb:PE X b (tOf X.K B m2)):PE X (.IfExp c a b pos) (tOf X.K B (mIf c1 m1 m2)) :=
  (a3y hc ha hb).imp fun σ H Q z9=>by
    obtain ⟨st,ps,S,as,R,t,st',e,q⟩:=z9
    rcases a7u e with ⟨s1,e1,e2⟩ | ⟨s1,e1,e2⟩
    · exact ⟨st,ps,S,as,R,true,s1,e1,fun H1 S1 as1 R1=>a68 (⟨s1,ps,S1,as1,R1,t,st',e2,q⟩)⟩
    · exact ⟨st,ps,S,as,R,false,s1,e1,fun H1 S1 as1 R1=>a5t (⟨s1,ps,S1,as1,R1,t,st',e2,q⟩)⟩
theorem Zc (ha:PE X a (tOf X.K B m)):PE X (.UnaryOp .Not a pos) (tOf X.K B (Fl (V4 (gb m)))):=(aah ha).imp fun σ H Q z9=>by
  obtain ⟨st,ps,S,as,R,t,st',e,q⟩:=z9
  obtain ⟨b,e1,rfl⟩:=K3 e
  obtain ⟨k,e2,rfl⟩:=Vf e1
  refine ⟨st,ps,S,as,R,.bl k,st',Av e2,fun v H1 S1 as1 R1=>?_⟩
  cases R1.top
  exact ⟨k,rfl,q _ H1 S1 as1 (R1.drop.push (.bl _))⟩
theorem X4 {op:BoolOp} (ha:PE X a (tOf X.K B m)):PE X (.BoolOp op [a] pos) (tOf X.K B m):=a9a ha
theorem a5p {rest:List Expr} (ha:PE X a (tOf X.K B m1)) (hb:PE X (.BoolOp .And (b::rest) pos) (tOf X.K B m2)):PE X (.BoolOp .And (a::b::rest) pos) (tOf X.K B (Fl (Yu (gb m1) (gb m2)))) :=
  (a8p ha hb).imp fun σ H Q z9=>by
    obtain ⟨st,ps,S,as,R,t,st',e,q⟩:=z9
    obtain ⟨b,e1,rfl⟩:=K3 e
    rcases Wm e1 with ⟨s1,e2,e3⟩ | ⟨e2,rfl⟩
    · refine ⟨st,ps,S,as,R,.bl true,s1,Av e2,fun v H1 S1 as1 R1=>?_⟩
      cases R1.top
      exact ⟨true,rfl,a68 (⟨s1,ps,S1,as1,R1.drop,.bl b,st',Av e3,q⟩)⟩
    · refine ⟨st,ps,S,as,R,.bl false,st',Av e2,fun v H1 S1 as1 R1=>?_⟩
      cases R1.top
      exact ⟨false,rfl,a5t (q _ H1 S1 as1 (R1.drop.push (.bl _)))⟩
theorem a98 {rest:List Expr} (ha:PE X a (tOf X.K B m1)) (hb:PE X (.BoolOp .Or (b::rest) pos) (tOf X.K B m2)):PE X (.BoolOp .Or (a::b::rest) pos) (tOf X.K B (Fl (mOr (gb m1) (gb m2)))) :=
  (ac3 ha hb).imp fun σ H Q z9=>by
    obtain ⟨st,ps,S,as,R,t,st',e,q⟩:=z9
    obtain ⟨b,e1,rfl⟩:=K3 e
    rcases a0g e1 with ⟨s1,e2,e3⟩ | ⟨e2,rfl⟩
    · refine ⟨st,ps,S,as,R,.bl false,s1,Av e2,fun v H1 S1 as1 R1=>?_⟩
      cases R1.top
      exact ⟨false,rfl,a5t (⟨s1,ps,S1,as1,R1.drop,.bl b,st',Av e3,q⟩)⟩
    · refine ⟨st,ps,S,as,R,.bl true,st',Av e2,fun v H1 S1 as1 R1=>?_⟩
      cases R1.top
      exact ⟨true,rfl,a68 (q _ H1 S1 as1 (R1.drop.push (.bl _)))⟩
end
end C
end
section
namespace C
open PySem PySem.Spec PyProof.Rows L2
theorem a5d {a b:S} {s s':Sta} {fl:Flow} (h:jl a b s=some (fl,s')):(∃ s1,a s=some (.next,s1)∧b s1=some (fl,s'))∨(a s=some (fl,s')∧fl≠.next):=by
  unfold jl at h
  split at h
  · rename_i s1 e; exact .inl ⟨s1,e,h⟩
  · rename_i r hr; exact .inr ⟨h,fun z=>by subst z; exact hr _ h⟩
theorem Vg {e:M T} {s s':Sta} {fl:Flow} (h:Ah e s=some (fl,s')):∃ t,e s=some (t,s')∧fl=.ret t:=by
  unfold Ah at h
  split at h
  · rename_i t s1 e; cases h; exact ⟨t,e,rfl⟩
  · cases h
theorem a6t {c:M Bool} {a b:S} {s s':Sta} {fl:Flow} (h:sIf c a b s=some (fl,s')):(∃ s1,c s=some (true,s1)∧a s1=some (fl,s'))∨(∃ s1,c s=some (false,s1)∧b s1=some (fl,s')):=by
  unfold sIf at h
  split at h
  · rename_i s1 e; exact .inl ⟨s1,e,h⟩
  · rename_i s1 e; exact .inr ⟨s1,e,h⟩
  · cases h
theorem a4m {i:Nat} {e:M T} {s s':Sta} {fl:Flow} (h:zp i e s=some (fl,s')):∃ t s1,e s=some (t,s1)∧fl=.next∧s'=iu i t false s1:=by
  unfold zp at h
  split at h
  · rename_i t s1 e; cases h; exact ⟨t,s1,e,rfl,rfl⟩
  · cases h
theorem a4e {i:Nat} {e:M T} {s s':Sta} {fl:Flow} (h:sNew i e s=some (fl,s')):∃ t s1,e s=some (t,s1)∧fl=.next∧s'=iu i t true s1:=by
  unfold sNew at h
  split at h
  · rename_i t s1 e; cases h; exact ⟨t,s1,e,rfl,rfl⟩
  · cases h
theorem a3r {g:G} {it:M (List T)} {b:S} {s s':Sta} {fl:Flow} (h:G6 g it b s=some (fl,s')):∃ ts s1,it s=some (ts,s1)∧forL g b ts s1=some (fl,s'):=by
  unfold G6 at h
  split at h
  · rename_i ts s1 e; exact ⟨ts,s1,e,h⟩
  · cases h
theorem Uh {i:Nat} {e:M T} {s s':Sta} {fl:Flow} (h:xg i e s=some (fl,s')) :
    Cw i s=true∧∃ t s1 xs,e s=some (t,s1)∧s1.env[i]? = some (some (.lst xs,true))∧xs.length<lim∧fl=.next∧s'=iu i (.lst (xs++[t])) true s1:=by
  unfold xg at h
  split at h
  · rename_i hd
    refine ⟨hd,?_⟩
    split at h
    · rename_i t s1 e
      split at h
      · rename_i xs ex
        split at h
        · rename_i hl; cases h; exact ⟨t,s1,xs,e,ex,hl,rfl,rfl⟩
        · cases h
      · cases h
    · cases h
  · cases h
theorem Uw {i:Nat} {e:M T} {s s':Sta} {fl:Flow} (h:Ai i e s=some (fl,s')) :
    Cw i s=true∧∃ t s1 xs ys,e s=some (t,s1)∧a6y t=some ys∧s1.env[i]? = some (some (.lst xs,true))∧xs.length+ys.length<lim∧fl=.next∧s'=iu i (.lst (xs++ys)) true s1:=by
  unfold Ai at h
  split at h
  · rename_i hd
    refine ⟨hd,?_⟩
    split at h
    · rename_i t s1 e
      split at h
      · rename_i ys xs ey ex
        split at h
        · rename_i hl; cases h; exact ⟨t,s1,_,_,e,ey,ex,hl,rfl,rfl⟩
        · cases h
      · cases h
    · cases h
  · cases h
theorem Ux {i:Nat} {k v:M T} {s s':Sta} {fl:Flow} (h:Lh i k v s=some (fl,s')) :
    ∃ t s1 kt s2 kvs q,v s=some (t,s1)∧Qo i s1=true∧k s1=some (kt,s2)∧s2.env[i]? = some (some (.dic kvs,true))∧keyOf kt=some q∧kvs.length<lim∧fl=.next∧s'=iu i (.dic (a0d q t kvs)) true s2:=by
  unfold Lh at h
  split at h
  · rename_i t s1 e
    split at h
    · rename_i hd
      split at h
      · rename_i kt s2 ek
        split at h
        · rename_i kvs q ex eq
          split at h
          · rename_i hl; cases h; exact ⟨t,s1,kt,s2,_,_,e,hd,ek,ex,eq,hl,rfl,rfl⟩
          · cases h
        · cases h
      · cases h
    · cases h
  · cases h
section
variable {K:PySem.W.Frag} {B:Bas} {st:Sta} {σ:L2.St} {H H' S S':Hp} {ps ps2:List (V × T)} {as as':List Addr}
theorem Rel.pick (r:Rel K B st σ H ps S as) (h:∀ p∈ps2,p∈ps):Rel K B st σ H ps2 S as :=
  ⟨r.sub,r.grow,r.slots,r.apart,r.sto,fun p hp=>r.pend p (h p hp),r.len⟩
theorem Pk {α:Type} {l:List α} {i:Nat} {x:α} (h:l.length≤i):l.set i x=l:=List.set_eq_of_length_le h
theorem Rel.put (r:Rel K B st σ H ps S as) {i:Nat} {v:V} {t:T} (h:Rep K S as v t):Rel K B (iu i t false st) (σ.set i (some v)) H ps S as:=by
  by_cases hi:i<st.env.length
  · have hs:i<σ.length:=by rw [r.len]; exact hi
    refine ⟨r.sub,r.grow,fun j u f e=>?_,fun j k u w p ej ek sj sk=>?_,r.sto,r.pend,by show _=(st.env.set i _).length; rw [List.length_set,List.length_set]; exact r.len⟩
    · have e:(st.env.set i (some (t,false)))[j]? = some (some (u,f)):=e
      by_cases hij:i=j
      · subst hij
        rw [List.getElem?_set_self hi] at e; cases e
        exact ⟨v,List.getElem?_set_self hs,fun _=>h,fun z=>by cases z⟩
      · rw [List.getElem?_set_ne hij] at e ⊢
        exact r.slots j u f e
    · have ej:(st.env.set i (some (t,false)))[j]? = some (some (u,true)):=ej
      have ek:(st.env.set i (some (t,false)))[k]? = some (some (w,true)):=ek
      have hij:i≠j:=fun z=>by subst z; rw [List.getElem?_set_self hi] at ej; cases ej
      have hik:i≠k:=fun z=>by subst z; rw [List.getElem?_set_self hi] at ek; cases ek
      rw [List.getElem?_set_ne hij] at ej sj
      rw [List.getElem?_set_ne hik] at ek sk
      exact r.apart j k u w p ej ek sj sk
  · have e1:iu i t false st=st:=by unfold iu; rw [Pk (Nat.le_of_not_lt hi)]
    have e2:σ.set i (some v)=σ:=Pk (by rw [r.len]; exact Nat.le_of_not_lt hi)
    rw [e1,e2]; exact r
def K4 (st:Sta) (σ:L2.St) (p:Addr):Prop:=∀ (j:Nat) u,st.env[j]? = some (some (u,true))→σ[j]? = some (some (.ref p))→False
theorem Rel.aap (r:Rel K B st σ H ps S as) {i:Nat} {p:Addr} {t:T} (h:Ik K B S as H p t) (hn:K4 st σ p):Rel K B (iu i t true st) (σ.set i (some (.ref p))) H ps S as:=by
  by_cases hi:i<st.env.length
  · have hs:i<σ.length:=by rw [r.len]; exact hi
    refine ⟨r.sub,r.grow,fun j u f e=>?_,fun j k u w q ej ek sj sk=>?_,r.sto,r.pend,by show _=(st.env.set i _).length; rw [List.length_set,List.length_set]; exact r.len⟩
    · have e:(st.env.set i (some (t,true)))[j]? = some (some (u,f)):=e
      by_cases hij:i=j
      · subst hij
        rw [List.getElem?_set_self hi] at e; cases e
        exact ⟨.ref p,List.getElem?_set_self hs,(fun z=>by cases z),fun _=>⟨p,rfl,h⟩⟩
      · rw [List.getElem?_set_ne hij] at e ⊢
        exact r.slots j u f e
    · have ej:(st.env.set i (some (t,true)))[j]? = some (some (u,true)):=ej
      have ek:(st.env.set i (some (t,true)))[k]? = some (some (w,true)):=ek
      by_cases hij:i=j
      · by_cases hik:i=k
        · rw [← hij,← hik]
        · subst hij
          rw [List.getElem?_set_self hs] at sj; cases sj
          rw [List.getElem?_set_ne hik] at ek sk
          exact (hn k w ek sk).elim
      · rw [List.getElem?_set_ne hij] at ej sj
        by_cases hik:i=k
        · subst hik
          rw [List.getElem?_set_self hs] at sk; cases sk
          exact (hn j u ej sj).elim
        · rw [List.getElem?_set_ne hik] at ek sk
          exact r.apart j k u w q ej ek sj sk
  · have e1:iu i t true st=st:=by unfold iu; rw [Pk (Nat.le_of_not_lt hi)]
    have e2:σ.set i (some (.ref p))=σ:=Pk (by rw [r.len]; exact Nat.le_of_not_lt hi)
    rw [e1,e2]; exact r
theorem Rel.turn (r:Rel K B st σ H ps S as) {i:Nat} {t t':T} {p:Addr} {ob:HO} (e:st.env[i]? = some (some (t,true))) (hp:σ[i]? = some (some (.ref p))) (h:Own K S as (upd H p ob) p t') :
    Rel K B (iu i t' true st) σ (upd H p ob) ps S as:=by
  obtain ⟨v,h1,_,h3⟩:=r.slots i t true e
  rw [hp] at h1; cases h1
  obtain ⟨p',ep,o⟩:=h3 rfl
  cases ep
  have hi:i<st.env.length:=(List.getElem?_eq_some_iff.mp e).1
  have other:∀ q,q≠p→H q=upd H p ob q:=fun q n=>(dj n).symm
  refine ⟨fun b u q=>?_,⟨r.grow.same,r.grow.more,fun q w a b c=>?_⟩,fun j u f ej=>?_,fun j k u w q ej ek sj sk=>?_,⟨r.sto.len,r.sto.nd,fun n so en=>?_⟩,r.pend,by show _=(st.env.set i _).length; rw [List.length_set]; exact r.len⟩
  · have n:b≠p:=fun z=>by subst z; rw [o.out] at q; cases q
    rw [dj n]; exact r.sub _ _ q
  · obtain ⟨x,y,z⟩:=r.grow.keep q w a b c
    have n:q≠p:=fun z=>by subst z; rw [o.new] at a; cases a
    exact ⟨by rw [dj n]; exact x,y,z⟩
  · have ej:(st.env.set i (some (t',true)))[j]? = some (some (u,f)):=ej
    by_cases hij:i=j
    · subst hij
      rw [List.getElem?_set_self hi] at ej; cases ej
      exact ⟨.ref p,hp,(fun z=>by cases z),fun _=>⟨p,rfl,h,o.out,o.nas,o.new⟩⟩
    · rw [List.getElem?_set_ne hij] at ej
      obtain ⟨v',a1,a2,a3⟩:=r.slots j u f ej
      refine ⟨v',a1,a2,fun z=>?_⟩
      subst z
      obtain ⟨p',rfl,o'⟩:=a3 rfl
      have n:p'≠p:=fun z=>by subst z; exact hij (r.apart i j t u p' e ej hp a1)
      exact ⟨p',rfl,o'.own.mono (Same.refl _) (other p' n),o'.out,o'.nas,o'.new⟩
  · have back:∀ (j:Nat) u,(st.env.set i (some (t',true)))[j]? = some (some (u,true))→∃ u',st.env[j]? = some (some (u',true)):=fun j u ej=>by
      by_cases hij:i=j
      · subst hij; exact ⟨t,e⟩
      · rw [List.getElem?_set_ne hij] at ej; exact ⟨u,ej⟩
    obtain ⟨u',ej'⟩:=back j u ej
    obtain ⟨w',ek'⟩:=back k w ek
    exact r.apart j k u' w' q ej' ek' sj sk
  · obtain ⟨a,a1,a2,a3⟩:=r.sto.at' n so en
    have n:a≠p:=fun z=>by subst z; exact o.nas (List.mem_of_getElem? a1)
    exact ⟨a,a1,a2,a3.mono (Same.refl _) (other a n)⟩
theorem Rel.Vm (r:Rel K B st σ H ps S as) {n:Nat} {so so':SO} {a:Addr} {ob:HO} (e:st.sto[n]? = some so) (ha:as[n]? = some a) (h:Wd K S as (upd H a ob) a so') :
    Rel K B { st with sto:=st.sto.set n so' } σ (upd H a ob) ps S as:=by
  have ma:a∈as:=List.mem_of_getElem? ha
  have hn:n<st.sto.length:=(List.getElem?_eq_some_iff.mp e).1
  have sa:S a=none:=by
    obtain ⟨a',a1,a2,_⟩:=r.sto.at' n so e
    rw [ha] at a1; cases a1; exact a2
  have other:∀ q,q≠a→H q=upd H a ob q:=fun q n=>(dj n).symm
  refine ⟨fun b u q=>?_,⟨r.grow.same,r.grow.more,fun q w x y z=>?_⟩,fun j u f ej=>?_,r.apart,⟨by rw [List.length_set]; exact r.sto.len,r.sto.nd,fun k so2 en=>?_⟩,r.pend,r.len⟩
  · have n:b≠a:=fun z=>by subst z; rw [sa] at q; cases q
    rw [dj n]; exact r.sub _ _ q
  · obtain ⟨x1,y1,z1⟩:=r.grow.keep q w x y z
    have n:q≠a:=fun z=>by subst z; exact z1 ma
    exact ⟨by rw [dj n]; exact x1,y1,z1⟩
  · obtain ⟨v',a1,a2,a3⟩:=r.slots j u f ej
    refine ⟨v',a1,a2,fun z=>?_⟩
    obtain ⟨p',rfl,o'⟩:=a3 z
    have n:p'≠a:=fun z=>by subst z; exact o'.nas ma
    exact ⟨p',rfl,o'.own.mono (Same.refl _) (other p' n),o'.out,o'.nas,o'.new⟩
  · by_cases hk:n=k
    · subst hk
      rw [List.getElem?_set_self hn] at en; cases en
      exact ⟨a,ha,sa,h⟩
    · rw [List.getElem?_set_ne hk] at en
      obtain ⟨b,b1,b2,b3⟩:=r.sto.at' k so2 en
      have n:b≠a:=fun z=>by
        subst z
        have l1:=(List.getElem?_eq_some_iff.mp b1).1
        have l2:=(List.getElem?_eq_some_iff.mp ha).1
        exact hk ((List.getElem?_inj (i:=n) (j:=k) l2 r.sto.nd).mp (by rw [ha,b1]))
      exact ⟨b,b1,b2,b3.mono (Same.refl _) (other b n)⟩
end
def Fin (K:PySem.W.Frag) (B:Bas) (D:Ends) (ps:List (V × T)):Flow→Sta→Prop
  | .next,st'=>∀ σ' H' S' as',Rel K B st' σ' H' ps S' as'→D.nx σ' H'
  | .ret t,st'=>∀ v σ' H' S' as',Rel K B st' σ' H' ((v,t)::ps) S' as'→D.rt v H'
  | .brk,st'=>∀ σ' H' S' as',Rel K B st' σ' H' ps S' as'→D.bk σ' H'
  | .cont,st'=>∀ σ' H' S' as',Rel K B st' σ' H' ps S' as'→D.ct σ' H'
inductive sOf (K:PySem.W.Frag) (B:Bas) (s:S) (D:Ends) (σ:L2.St) (H:Hp):Prop
  | mk (st:Sta) (ps:List (V × T)) (S0:Hp) (as:List Addr) (R:Rel K B st σ H ps S0 as) (fl:Flow) (st':Sta) (e:s st=some (fl,st')) (q:Fin K B D ps fl st')
inductive gOf (K:PySem.W.Frag) (B:Bas) (g:G) (v:V) (σ:L2.St) (H:Hp) (Q:L2.St→Hp→Prop):Prop
  | mk (st:Sta) (ps:List (V × T)) (S:Hp) (as:List Addr) (t:T) (R:Rel K B st σ H ((v,t)::ps) S as) (st':Sta) (e:g t st=some st') (q:∀ σ' H' S' as',Rel K B st' σ' H' ps S' as'→Q σ' H')
inductive fOf (K:PySem.W.Frag) (B:Bas) (m:M T) (σ:L2.St) (H:Hp) (Q:VK):Prop
  | mk (st:Sta) (ps:List (V × T)) (S:Hp) (as:List Addr) (R:Rel K B st σ H ps S as) (t:T) (st':Sta) (e:m st=some (t,st')) (q:∀ p H' S' as',Rel K B st' σ H' ps S' as'→Ik K B S' as' H' p t→K4 st' σ p→Q (.ref p) H')
section
variable {X:Cx} {B:Bas} {a b c e:Expr} {m m1 m2:M T} {pos:Pos} {u v:S}
theorem qw:PSs X [] (sOf X.K B Dl):=a6w.imp fun D σ H z9=>by
  obtain ⟨st,ps,S,as,R,fl,st',e,q⟩:=z9
  cases e; exact q σ H S as R
theorem cg {st:Stmt} {rest:List Stmt} (h1:PS X st (sOf X.K B u)) (h2:PSs X rest (sOf X.K B v)):PSs X (st::rest) (sOf X.K B (jl u v)):=(Vk h1 h2).imp fun D σ H z9=>by
  obtain ⟨st,ps,S,as,R,fl,st',e,q⟩:=z9
  rcases a5d e with ⟨s1,e1,e2⟩ | ⟨e1,hn⟩
  · exact ⟨st,ps,S,as,R,.next,s1,e1,fun σ' H' S' as' R'=>⟨s1,ps,S',as',R',fl,st',e2,q⟩⟩
  · refine ⟨st,ps,S,as,R,fl,st',e1,?_⟩
    cases fl with
    | next=>exact absurd rfl hn
    | ret t=>exact q
    | brk=>exact q
    | cont=>exact q
theorem dw {st:Stmt} (h1:PS X st (sOf X.K B u)):PSs X [st] (sOf X.K B u):=U0 h1
theorem jh (he:PE X e (tOf X.K B m)):PS X (.Return (some e) pos) (sOf X.K B (Ah m)):=(Zr he).imp fun D σ H z9=>by
  obtain ⟨st,ps,S,as,R,fl,st',e,q⟩:=z9
  obtain ⟨t,e1,rfl⟩:=Vg e
  exact ⟨st,ps,S,as,R,t,st',e1,fun v H' S' as' R'=>q v σ H' S' as' R'⟩
theorem yj {c1:M Bool} {sa sb:List Stmt} (hc:PT X c (cOf X.K B c1)) (ha:PSs X sa (sOf X.K B u)) (hb:PSs X sb (sOf X.K B v)):PS X (.If c sa sb pos) (sOf X.K B (sIf c1 u v)):=(acg hc ha hb).imp fun D σ H z9=>by
  obtain ⟨st,ps,S,as,R,fl,st',e,q⟩:=z9
  rcases a6t e with ⟨s1,e1,e2⟩ | ⟨s1,e1,e2⟩
  · exact ⟨st,ps,S,as,R,true,s1,e1,fun H1 S1 as1 R1=>a68 ⟨s1,ps,S1,as1,R1,fl,st',e2,q⟩⟩
  · exact ⟨st,ps,S,as,R,false,s1,e1,fun H1 S1 as1 R1=>a5t ⟨s1,ps,S1,as1,R1,fl,st',e2,q⟩⟩
theorem rm (i:Nat) {tg:Expr} (h:PG X tg (O5 i)):PG X tg (gOf X.K B (hName i)):=fun pins s σ H x u Q I r z9=>h pins s σ H x u Q I r (by
  obtain ⟨st,ps,S,as,t,R,st',e,q⟩:=z9
  cases e
  exact q _ H S as (R.drop.put R.top))
theorem jq (i:Nat) {te:TE} {s:Stmt} (h:PS X s (a5r te (O5 i))) (hm:∀ σ H Q,tOf X.K B m σ H Q→te σ H Q):PS X s (sOf X.K B (zp i m)):=h.imp fun D σ H z9=>by
  obtain ⟨st,ps,S,as,R,fl,st',e,q⟩:=z9
  obtain ⟨t,s1,e1,rfl,rfl⟩:=a4m e
  exact hm σ H _ ⟨st,ps,S,as,R,t,s1,e1,fun v H' S' as' R'=>q _ H' S' as' (R'.drop.put R'.top)⟩
theorem Ba (i:Nat) {te:TE} {s:Stmt} (h:PS X s (a5r te (O5 i))) (hm:∀ σ H Q,fOf X.K B m σ H Q→te σ H Q):PS X s (sOf X.K B (sNew i m)):=h.imp fun D σ H z9=>by
  obtain ⟨st,ps,S,as,R,fl,st',e,q⟩:=z9
  obtain ⟨t,s1,e1,rfl,rfl⟩:=a4e e
  exact hm σ H _ ⟨st,ps,S,as,R,t,s1,e1,fun p H' S' as' R' o n=>q _ H' S' as' (R'.aap o n)⟩
end
end C
end
section
namespace C
open PySem PySem.Spec PyProof.Rows L2
section
variable {K:PySem.W.Frag} {B:Bas} {st:Sta} {σ:L2.St} {H H' S S':Hp} {ps ps2:List (V × T)} {as as':List Addr}
theorem Own.more {p:Addr} {t:T} (hs:Same S S') (x:∃ l,as'=as++l) (hh:H p=H' p) (o:Own K S as H p t):Own K S' as' H' p t:=by
  cases t with
  | lst ts=>obtain ⟨vs,h,r⟩:=o; exact ⟨vs,hh ▸ h,r.mono hs x⟩
  | dic ts=>obtain ⟨vs,h,r⟩:=o; exact ⟨vs,hh ▸ h,r.mono hs x⟩
  | _=>exact o.elim
theorem Rel.call {sto':List SO} (r:Rel K B st σ H ps S as) (g:Yv ⟨S,as,H⟩ S' as' H') (sub:Same S' H') (so:Jf K S' as' H' sto'):Rel K B { st with sto:=sto' } σ H' ps S' as' where
  sub:=sub
  grow:=by
    refine ⟨r.grow.same.trans g.same,?_,fun p o a b c=>?_⟩
    · obtain ⟨l,e⟩:=r.grow.more
      obtain ⟨l',e'⟩:=g.more
      exact ⟨l++l',by rw [e',e,List.append_assoc]⟩
    · obtain ⟨x,y,z⟩:=r.grow.keep p o a b c
      exact g.keep p o x y z
  slots:=fun i t f e=>by
    obtain ⟨v,h1,h2,h3⟩:=r.slots i t f e
    refine ⟨v,h1,fun q=>(h2 q).mono g.same g.more,fun q=>?_⟩
    obtain ⟨p,rfl,o⟩:=h3 q
    obtain ⟨ob,ho⟩:=o.own.there
    obtain ⟨x,y,z⟩:=g.keep p ob ho o.out o.nas
    exact ⟨p,rfl,o.own.more g.same g.more (by rw [ho,x]),y,z,o.new⟩
  apart:=r.apart
  sto:=so
  pend:=fun p hp=>(r.pend p hp).mono g.same g.more
  len:=r.len
end
def spF (K:PySem.W.Frag) (ar:Nat) (F:Fn):Sp:=fun vs H Q _=>∃ S as sto ts t sto',Same S H∧Jf K S as H sto∧qu K S as vs ts∧ts.length=ar∧F ts sto=some (t,sto') ∧
  ∀ v H' S' as',Yv ⟨S,as,H⟩ S' as' H'→Same S' H'→Jf K S' as' H' sto'→Rep K S' as' v t→Q v H'
section
variable {X:Cx} {B:Bas} {a b c e:Expr} {m m1 m2:M T} {pos p:Pos} {u v:S} {es:List Expr} {ms:M (List T)} {k:Nat} {f:Addr} {fd:FuncData} {pn:List Str} {F:Fn} {x:Str}
theorem a8b (G:Bf X.prog X.w X.K X.mg X.base CX0 k f fd pn (spF X.K pn.length F)) (hr:Kv k X.A) (hg:Gl X x) (hm:X.mg x=some (.ref f)) (hk:PySem.W.keepIn X.K (.ref f)=true) (hb:Binds X.K fd pn [])
    (ha:PA X (e::es) (aOf X.K B ms)) (hl:∀ st ts st',ms st=some (ts,st')→ts.length=pn.length) (hdb:(x==("__debug__" : Str))=false:=by decide)
    (he:starEach (e::es) X.env=(false,eval e X.env)::starEach es X.env:=by rfl) (hpl:(backTo pos (starEach es X.env)).any (·.1)=false:=by rfl) :
    PE X (.Call (.Name x p) (e::es) [] pos) (tOf X.K B (fu F ms)) :=
  (Zy G hr hg hm hk hb .nil a9r ha hdb he hpl).imp fun σ H Q z9=>by
    obtain ⟨st,ps,S,as,R,t,st',e,q⟩:=z9
    obtain ⟨ts,s1,sto,e1,e2,rfl⟩:=Rt e
    refine ⟨st,ps,S,as,R,ts,s1,e1,fun vs H1 S1 as1 R1 rs=>?_⟩
    show spF X.K pn.length F (vs++[]) H1 Q E0
    rw [List.append_nil]
    exact ⟨S1,as1,s1.sto,ts,t,sto,R1.sub,R1.sto,rs,hl _ _ _ e1,e2,fun v H2 S2 as2 g sub so r=>q v H2 S2 as2 ((R1.call g sub so).push r)⟩
theorem eq_nil:∀ st ts st',g8 st=some (ts,st')→ts.length=0:=fun st ts st' e=>by cases e; rfl
theorem au {r:M (List T)} {n:Nat} (h:∀ st ts st',r st=some (ts,st')→ts.length=n):∀ st ts st',ao m r st=some (ts,st')→ts.length=n+1:=fun st ts st' e=>by
  obtain ⟨t,s1,us,e1,e2,rfl⟩:=Cz e
  exact congrArg (· + 1) (h _ _ _ e2)
end
section
variable {P:Program} {w:World} {K:PySem.W.Frag} {mg:Str→Option Value} {base:Heap}
theorem a2o {N:List Str} {vs:List V} {i:Nat} {v:V} (h:vs[i]? = some v):(L2.start N vs)[i]? = some (some v):=by
  unfold L2.start
  have hi:=(List.getElem?_eq_some_iff.mp h).1
  rw [List.getElem?_append_left (by rw [List.length_map]; exact hi),List.getElem?_map,h]; rfl
theorem Ry {S H:Hp} {as:List Addr} {sto:List SO} {vs:List V} {ts:List T} {N:List Str} (h1:Same S H) (h2:Jf K S as H sto) (h3:qu K S as vs ts) (hN:ts.length≤N.length) :
    Rel K ⟨S,as,H⟩ ⟨ts.map (fun t=>some (t,false))++List.replicate (N.length - ts.length) none,sto⟩ (L2.start N vs) H [] S as:=by
  have key:∀ (i:Nat) t fl,(ts.map (fun t=>some (t,false))++List.replicate (N.length - ts.length) (none:Slot))[i]? = some (some (t,fl))→fl=false∧ts[i]? = some t:=fun i t fl e=>by
    by_cases hi:i<ts.length
    · rw [List.getElem?_append_left (by rw [List.length_map]; exact hi),List.getElem?_map] at e
      cases z:ts[i]? with
      | none=>rw [z] at e; cases e
      | some t'=>rw [z] at e; cases e; exact ⟨rfl,rfl⟩
    · rw [List.getElem?_append_right (by rw [List.length_map]; exact Nat.le_of_not_lt hi)] at e
      have:=List.eq_of_mem_replicate (List.mem_of_getElem? e)
      cases this
  refine ⟨h1,⟨Same.refl _,nol,fun p o a b c=>⟨a,b,c⟩⟩,fun i t fl e=>?_,fun i j t u p ei ej=>?_,h2,(fun p hp=>by cases hp),?_⟩
  · obtain ⟨rfl,e'⟩:=key i t fl e
    obtain ⟨v,hv,r⟩:=h3.get e'
    exact ⟨v,a2o hv,fun _=>r,fun z=>by cases z⟩
  · obtain ⟨z,_⟩:=key i t true ei; cases z
  · unfold L2.start
    rw [List.length_append,List.length_append,List.length_map,List.length_map,List.length_replicate,List.length_replicate,h3.length]
theorem mq {x qual:Str} {st:Stmt} {f:Addr} {fd:FuncData} {N ps:List Str} {k:Nat} {b:S} (F:Fun K x qual st f fd) (Sc:jg N ps (dh st)) (hN:ps.length≤N.length)
    (hb:∀ (cdv:Value) (A:Around) (outer:List Env) (s:Shared) (H:Hp) (E:XK) (B:Bas),Kv k (A.deeper (envOfC qual (dh st) s.heap.objs.size f cdv)) →
      PSs (a5z CX0 P w K mg base N qual (dh st) f cdv A outer s H E).nox (Bp st) (sOf K B b)):Bf P w K mg base CX0 (k+1) f fd ps (spF K ps.length (su N.length b)):=by
  refine F.ok Sc (fun vs H Q E h=>?_) fun cdv A outer s H vs Q E hr h=>?_
  · obtain ⟨S,as,sto,ts,t,sto',h1,h2,h3,h4,_⟩:=h
    rw [h3.length,h4]
  · obtain ⟨S,as,sto,ts,t,sto',h1,h2,h3,h4,h5,q⟩:=h
    refine ⟨_,hb cdv A outer s H E ⟨S,as,H⟩ hr,?_⟩
    have lv:vs.length=ps.length:=by rw [h3.length,h4]
    have R:Rel K ⟨S,as,H⟩ ⟨ts.map (fun t=>some (t,false))++List.replicate (N.length - ts.length) none,sto⟩ (L2.start N vs) H [] S as:=Ry h1 h2 h3 (by rw [h4]; exact hN)
    unfold su at h5
    split at h5
    · rename_i t' s' e
      cases h5
      exact ⟨_,[],S,as,R,.ret t,s',e,fun v σ' H' S' as' R'=>q v H' S' as' R'.grow R'.sub R'.sto R'.top⟩
    · rename_i s' e
      cases h5
      exact ⟨_,[],S,as,R,.next,s',e,fun σ' H' S' as' R'=>q .non H' S' as' R'.grow R'.sub R'.sto .non⟩
    · cases h5
end
end C
end
section
namespace C
open PySem PySem.Spec PyProof.Rows L2
theorem a3g {g:G} {b:S} {t:T} {r:List T} {s s':Sta} {fl:Flow} (h:forL g b (t::r) s=some (fl,s')):∃ s1 fb s2,g t s=some s1∧b s1=some (fb,s2) ∧
    (match fb with | .next=>forL g b r s2=some (fl,s') | .cont=>forL g b r s2=some (fl,s') | .brk=>fl=.next∧s'=s2 | .ret v=>fl=.ret v∧s'=s2):=by
  rw [forL] at h
  dsimp only at h
  split at h
  · rename_i s1 e1
    split at h
    · rename_i s2 e2; exact ⟨s1,.next,s2,e1,e2,h⟩
    · rename_i s2 e2; exact ⟨s1,.cont,s2,e1,e2,h⟩
    · rename_i s2 e2; cases h; exact ⟨s1,.brk,_,e1,e2,rfl,rfl⟩
    · rename_i v s2 e2; cases h; exact ⟨s1,.ret v,_,e1,e2,rfl,rfl⟩
    · cases h
  · cases h
structure Ij (K:PySem.W.Frag) (S:Hp) (as:List Addr) (H:Hp) (J:It) (ts:List T):Prop where
  go:∀ (i:Nat) t,ts[i]? = some t→J.go i H∧∀ x H',J.yld i H x H'→∃ S',Ext S H S' H'∧Rep K S' as x t
  stop:∀ i,ts.length≤i→J.stop i H
inductive iOf (K:PySem.W.Frag) (B:Bas) (m:M (List T)) (σ:L2.St) (H:Hp) (R:It→Hp→Prop):Prop
  | mk (st:Sta) (ps:List (V × T)) (S:Hp) (as:List Addr) (R0:Rel K B st σ H ps S as) (ts:List T) (st':Sta) (e:m st=some (ts,st')) (z:ts.length≤sizeLine) (q:∀ J H' S' as' ps',Rel K B st' σ H' (ps'++ps) S' as'→(∀ S as H,(∀ p∈ps',Rep K S as p.1 p.2)→Same S H→Ij K S as H J ts)→R J H')
section
variable {X:Cx} {tg l:Expr} {tl:TE}
def iSq (K:PySem.W.Frag) (tl:TE):TI:=fun σ H R=>tl σ H fun x H1=>∃ a,x=.ref a∧(((∃ xs,SqL K H1 a xs)∧R (Itl K a) H1)∨((∃ xs,SqT K H1 a xs)∧R (Itt K a) H1))
theorem abe (hl:PE X l tl):PI X tg l (iSq X.K tl):=by
  intro pins s σ H R I h
  refine thn (hl pins s σ H _ I h) fun v s1 z0=>?_
  obtain ⟨x,H1,I1,r1,q1⟩:=z0
  obtain ⟨a,e,q⟩:=q1
  subst e
  cases r1
  rcases q with ⟨⟨xs,hq⟩,q⟩ | ⟨⟨xs,hq⟩,q⟩
  · obtain ⟨its,rv,p,hz⟩:=I1.list hq
    refine wpAny_pyIter_list p.isList ?_
    refine ⟨s1.heap.objs.size,[s1.heap.objs.size],_,_,H1,rfl,I1.kept (t':=s1.toks) fun b o e=>Heap.get?_push_of_some _ e,a0u a _,⟨_,Heap.get?_push_size _ rfl,rfl,rfl⟩,fun b hb=>?_,q⟩
    have e:b=s1.heap.objs.size:=by simpa using hb
    subst e
    exact I1.a8h (Nat.le_refl _) (I1.hok.fresh (Nat.le_refl _))
  · obtain ⟨its,rv,p,hz⟩:=I1.tuple hq
    refine wpAny_pyIter_tuple (show s1.heap.IsTuple a its.toArray from p) ?_
    refine ⟨s1.heap.objs.size,[s1.heap.objs.size],_,_,H1,rfl,I1.kept (t':=s1.toks) fun b o e=>Heap.get?_push_of_some _ e,Yl a _,⟨_,Heap.get?_push_size _ rfl,rfl,rfl⟩,fun b hb=>?_,q⟩
    have e:b=s1.heap.objs.size:=by simpa using hb
    subst e
    exact I1.a8h (Nat.le_refl _) (I1.hok.fresh (Nat.le_refl _))
end
section
variable {X:Cx} {B:Bas} {a b c e tg iter:Expr} {m m1 m2:M T} {pos p:Pos} {u v:S} {g:G} {it:M (List T)} {body:List Stmt}
theorem itL {K:PySem.W.Frag} {S:Hp} {as:List Addr} {H:Hp} {p:Addr} {vs:List V} {ts:List T} (sub:Same S H) (h:SqL K H p vs) (r:qu K S as vs ts):Ij K S as H (Itl K p) ts where
  go:=fun i t e=>by
    obtain ⟨v,hv,rv⟩:=r.get e
    exact ⟨⟨vs,v,h,hv⟩,fun x H' y=>⟨S,by rw [y.1]; exact Ext.refl sub,by have:=y.2 vs h; rw [hv] at this; cases this; exact rv⟩⟩
  stop:=fun i hi=>⟨vs,h,by rw [r.length]; exact hi⟩
theorem itT {K:PySem.W.Frag} {S:Hp} {as:List Addr} {H:Hp} {p:Addr} {vs:List V} {ts:List T} (sub:Same S H) (h:SqT K H p vs) (r:qu K S as vs ts):Ij K S as H (Itt K p) ts where
  go:=fun i t e=>by
    obtain ⟨v,hv,rv⟩:=r.get e
    exact ⟨⟨vs,v,h,hv⟩,fun x H' y=>⟨S,by rw [y.1]; exact Ext.refl sub,by have:=y.2 vs h; rw [hv] at this; cases this; exact rv⟩⟩
  stop:=fun i hi=>⟨vs,h,by rw [r.length]; exact hi⟩
theorem qp:lim≤sizeLine:=by rw [sizeLine_eq]; decide
theorem vf (h:PE X iter (tOf X.K B m)):PI X tg iter (iOf X.K B (Ab m)):=by
  intro pins s σ H R I hw
  refine abe h pins s σ H R I ?_
  obtain ⟨st,ps,S,as,Rl,ts,st',e,hz,q⟩:=hw
  unfold Ab at e
  split at e
  · rename_i xs s1 e1
    split at e
    · rename_i hl
      cases e
      refine ⟨st,ps,S,as,Rl,_,_,e1,fun v H1 S1 as1 R1=>?_⟩
      have top:=R1.top
      cases top with
      | @lst a vs _ hs hr =>
        refine ⟨a,rfl,.inl ⟨⟨vs,j5 R1.sub hs⟩,q _ H1 S1 as1 [(.ref a,.lst _)] R1 fun S2 as2 H2 hp hh=>?_⟩⟩
        have:=hp _ List.mem_cons_self
        cases this with
        | @lst _ vs2 _ hs2 hr2=>exact itL hh (j5 hh hs2) hr2
    · cases e
  · rename_i xs s1 e1
    split at e
    · rename_i hl
      cases e
      refine ⟨st,ps,S,as,Rl,_,_,e1,fun v H1 S1 as1 R1=>?_⟩
      have top:=R1.top
      cases top with
      | @tup a vs _ hs hr =>
        refine ⟨a,rfl,.inr ⟨⟨vs,mz R1.sub hs⟩,q _ H1 S1 as1 [(.ref a,.tup _)] R1 fun S2 as2 H2 hp hh=>?_⟩⟩
        have:=hp _ List.mem_cons_self
        cases this with
        | @tup _ vs2 _ hs2 hr2=>exact itT hh (mz hh hs2) hr2
    · cases e
  · cases e
theorem Np {a:M T} {ts:List T} {s s':Sta} (h:Bs a s=some (ts,s')):∃ n:Int,a s=some (.int n,s')∧(-1000000<n∧n<1000000)∧ts=rangeT n.toNat:=by
  unfold Bs at h
  split at h
  · rename_i n s1 e
    split at h
    · rename_i hl; cases h; exact ⟨n,e,by have:n.natAbs<1000000:=hl; (clear e hl; omega),rfl⟩
    · cases h
  · cases h
theorem Xn {n i:Nat} {t:T} (h:(rangeT n)[i]? = some t):i<n∧t=.int (i:Int):=by
  unfold rangeT at h
  rw [List.getElem?_map] at h
  cases z:(List.range n)[i]? with
  | none=>rw [z] at h; cases h
  | some k =>
    rw [z] at h; cases h
    obtain ⟨hi,e⟩:=List.getElem?_eq_some_iff.mp z
    rw [List.getElem_range] at e; subst e
    rw [List.length_range] at hi
    exact ⟨hi,rfl⟩
theorem Jw (hg:Gl X "range") (hm:X.mg "range" = none) (h:PE X a (tOf X.K B m)) (hs:starEach [a] X.env=[(false,eval a X.env)]:=by rfl):PI X tg (.Call (.Name "range" p) [a] [] pos) (iOf X.K B (Bs m)):=by
  intro pins s σ H R I hw
  refine a2l (ta:=Ii (tOf X.K B m) Xm) hg hm (jr h qz hs) hs pins s σ H R I ?_
  obtain ⟨st,ps,S,as,Rl,ts,st',e,hz,q⟩:=hw
  obtain ⟨n,e1,hl,rfl⟩:=Np e
  refine ⟨st,ps,S,as,Rl,_,_,e1,fun v H1 S1 as1 R1=>?_⟩
  cases R1.top
  refine ⟨n,rfl,by (clear R1 q hz e e1 Rl I hs h hm hg; omega),by (clear R1 q hz e e1 Rl I hs h hm hg; omega),q _ H1 S1 as1 [] R1.drop fun S2 as2 H2 _ hh=>⟨fun i t e=>?_,fun i hi=>?_⟩⟩
  · obtain ⟨hi,rfl⟩:=Xn e
    refine ⟨hi,fun x H' y=>⟨S2,by rw [y.1]; exact Ext.refl hh,?_⟩⟩
    have:=y.2; subst this
    rw [Int.zero_add]; exact .int _
  · show n.toNat≤i
    unfold rangeT at hi
    rwa [List.length_map,List.length_range] at hi
theorem Cy (hp:PassesOwn (model X.prog X.w) X.A X.env X.xe) (hc:X.calm=true) (hi:PI X tg iter (iOf X.K B it)) (hg:PG X tg (gOf X.K B g)) (hb:PSs X body (sOf X.K B u)) (hsz:∀ st ts st',it st=some (ts,st')→ts.length≤sizeLine)
    (hs:∀ x,foldedSetIterable iter X.env x=pure x:=by intro _; rfl):PS X (.For tg iter body [] pos) (sOf X.K B (G6 g it u)):=(a9o hp hc hi hg hb hs).imp fun D σ H z9=>by
  obtain ⟨st,ps,S,as,R,fl,st',e,q⟩:=z9
  obtain ⟨ts,s1,e1,e2⟩:=a3r e
  refine ⟨st,ps,S,as,R,ts,s1,e1,hsz _ _ _ e1,fun J H1 S1 as1 ps' R1 facts=>?_⟩
  refine ⟨fun i m σ H=>m=ts.length - i∧i≤ts.length∧∃ sti Si asi,Rel X.K B sti σ H (ps'++ps) Si asi∧forL g u (ts.drop i) sti=some (fl,st'),⟨ts.length,by simp,Nat.zero_le _,s1,S1,as1,R1,by simpa using e2⟩,?_⟩
  rintro i m σ2 H2 ⟨rfl,hi,sti,Si,asi,Ri,ei⟩
  have F:=facts Si asi H2 (fun p hp=>Ri.pend p (List.mem_append_left _ hp)) Ri.sub
  have sub:∀ p∈ps,p∈ps'++ps:=fun p hp=>List.mem_append_right _ hp
  by_cases hlt:i<ts.length
  · rw [List.drop_eq_getElem_cons hlt] at ei
    obtain ⟨s2,fb,s3,eg,eb,er⟩:=a3g ei
    have ht:ts[i]? = some ts[i]:=List.getElem?_eq_getElem hlt
    refine .inr ⟨(F.go i _ ht).1,fun σ' H'=>∃ sti Si asi,Rel X.K B sti σ' H' (ps'++ps) Si asi∧forL g u (ts.drop (i+1)) sti=some (fl,st'),fun σ' H' h=>⟨ts.length - (i+1),by (clear h ht er eb eg ei sub F Ri hi facts R1 e2 e1 q e R hs hsz hb hg hc hp; omega),rfl,hlt,h⟩,fun x H' y=>?_⟩
    obtain ⟨S',ex,rx⟩:=(F.go i _ ht).2 x H' y
    refine ⟨sti,ps'++ps,S',asi,_,(Ri.ext ex).push rx,s2,eg,fun σ3 H3 S3 as3 R3=>⟨s2,ps'++ps,S3,as3,R3,fb,s3,eb,?_⟩⟩
    cases fb with
    | next=>exact fun σ' H' S' as' R'=>⟨s3,S',as',R',er⟩
    | cont=>exact fun σ' H' S' as' R'=>⟨s3,S',as',R',er⟩
    | brk =>
      obtain ⟨rfl,rfl⟩:=er
      exact fun σ' H' S' as' R'=>q σ' H' S' as' (R'.pick sub)
    | ret v =>
      obtain ⟨rfl,rfl⟩:=er
      exact fun v σ' H' S' as' R'=>q v σ' H' S' as' (R'.pick fun p hp=>by
        rcases List.mem_cons.mp hp with rfl | z
        · exact List.mem_cons_self
        · exact List.mem_cons_of_mem _ (sub p z))
  · have hie:i=ts.length:=by (clear sub F ei Ri facts R1 e2 e1 q e R hs hsz hb hg hc hp; omega)
    subst hie
    rw [List.drop_length] at ei
    cases ei
    exact .inl ⟨F.stop _ (Nat.le_refl _),q σ2 H2 Si asi (Ri.pick sub)⟩
end
end C
end
section
namespace C
open PySem PySem.Spec PyProof.Rows L2
section
variable {K:PySem.W.Frag} {B:Bas} {st:Sta} {σ:L2.St} {H H' S S':Hp} {ps ps2:List (V × T)} {as as':List Addr}
theorem Rel.Um (r:Rel K B st σ H ps S as) {i:Nat} {t:T} (e:st.env[i]? = some (some (t,true))):∃ S',Rel K B { st with env:=st.env.set i (some (t,false)) } σ H ps S' as:=by
  obtain ⟨v,S',_,R⟩:=r.freeze e
  exact ⟨S',R.drop⟩
theorem Rel.jo:∀ (cap:List Nat) {st:Sta} {S:Hp},Rel K B st σ H ps S as→∃ S',Rel K B { st with env:=jo cap st.env } σ H ps S' as
  | [],st,S,r=>⟨S,r⟩
  | i::l,st,S,r=>by
    unfold C.jo
    rw [List.foldl_cons]
    split
    · rename_i t f e
      cases f with
      | true =>
        obtain ⟨S1,R1⟩:=r.Um e
        exact Rel.jo l R1
      | false =>
        have e2:st.env.set i (some (t,false))=st.env:=by
          apply List.ext_getElem?
          intro j
          by_cases hij:i=j
          · subst hij
            rw [List.getElem?_set_self (List.getElem?_eq_some_iff.mp e).1,e]
          · rw [List.getElem?_set_ne hij]
        rw [e2]
        exact Rel.jo l r
    · exact Rel.jo l r
def Fp (env:List Slot):Nat→List Slot
  | 0=>env
  | n+1=>match (Fp env n)[n]? with
    | some (some (t,_))=>(Fp env n).set n (some (t,false))
    | _=>Fp env n
theorem La (env:List Slot):∀ n,(Fp env n).length=env.length
  | 0=>rfl
  | n+1=>by
    rw [Fp]
    split
    · rw [List.length_set]; exact La env n
    · exact La env n
theorem K5 (env:List Slot):∀ (n j:Nat),(Fp env n)[j]? = if j<n then (env[j]?).map Gu else env[j]?
  | 0,j=>by rw [if_neg (Nat.not_lt_zero _)]; rfl
  | n+1,j=>by
    have ihn:=K5 env n n
    rw [if_neg (Nat.lt_irrefl _)] at ihn
    have ihj:=K5 env n j
    rw [Fp,ihn]
    by_cases hj:j=n
    · subst hj
      rw [if_pos (Nat.lt_succ_self _)]
      cases z:env[j]? with
      | none=>simp only [z,Option.map_none]; rw [ihn,z]
      | some s =>
        have hl:j<(Fp env j).length:=by rw [La]; exact (List.getElem?_eq_some_iff.mp z).1
        cases s with
        | none=>simp only [Option.map_some]; rw [ihn,z]; rfl
        | some p=>obtain ⟨t,f⟩:=p; simp only [Option.map_some]; rw [List.getElem?_set_self hl]; rfl
    · have e1:(if j<n+1 then (env[j]?).map Gu else env[j]?)=(if j<n then (env[j]?).map Gu else env[j]?):=by
        by_cases hlt:j<n
        · rw [if_pos hlt,if_pos (Nat.lt_succ_of_lt hlt)]
        · rw [if_neg hlt,if_neg (by (clear ihj ihn; omega))]
      rw [e1,← ihj]
      split
      · rw [List.getElem?_set_ne (Ne.symm hj)]
      · rfl
theorem Zo (env:List Slot):Fp env env.length=env.map Gu:=by
  apply List.ext_getElem?
  intro j
  rw [K5,List.getElem?_map]
  by_cases hj:j<env.length
  · rw [if_pos hj]
  · rw [if_neg hj,List.getElem?_eq_none (Nat.le_of_not_lt hj)]; rfl
theorem Rel.Fp (r:Rel K B st σ H ps S as):∀ n,∃ S',Rel K B { st with env:=C.Fp st.env n } σ H ps S' as
  | 0=>⟨S,r⟩
  | n+1=>by
    obtain ⟨S1,R1⟩:=Rel.Fp r n
    rw [C.Fp]
    split
    · rename_i t f e
      cases f with
      | true=>exact R1.Um e
      | false =>
        have e2:(C.Fp st.env n).set n (some (t,false))=C.Fp st.env n:=by
          apply List.ext_getElem?
          intro j
          by_cases hij:n=j
          · subst hij
            rw [List.getElem?_set_self (List.getElem?_eq_some_iff.mp e).1,e]
          · rw [List.getElem?_set_ne hij]
        rw [e2]
        exact ⟨S1,R1⟩
    · exact ⟨S1,R1⟩
theorem Rel.qm (r:Rel K B st σ H ps S as):∃ S',Rel K B (qm st) σ H ps S' as:=by
  obtain ⟨S',R⟩:=r.Fp st.env.length
  rw [Zo] at R
  exact ⟨S',R⟩
def a5h (st:Sta):Prop:=∀ (i:Nat) t,st.env[i]?≠some (some (t,true))
theorem Ck (st:Sta):a5h (C.qm st):=fun i t e=>by
  unfold C.qm at e
  rw [List.getElem?_map] at e
  cases z:st.env[i]? with
  | none=>rw [z] at e; cases e
  | some s =>
    rw [z] at e
    cases s with
    | none=>cases e
    | some p=>obtain ⟨t,f⟩:=p; cases e
theorem Rel.rebase (r:Rel K B st σ H ps S as) (n:a5h st):Rel K ⟨S,as,H⟩ st σ H ps S as :=
  ⟨r.sub,⟨Same.refl _,nol,fun p o a b c=>⟨a,b,c⟩⟩,fun i t f e=>by
    obtain ⟨v,h1,h2,_⟩:=r.slots i t f e
    exact ⟨v,h1,h2,fun z=>by subst z; exact absurd e (n i t)⟩,r.apart,r.sto,r.pend,r.len⟩
end
theorem Zx {g:G} {c:M Bool} {e:M T} {t:T} {r acc us:List T} {s s':Sta} (h:Dh g c e (t::r) s acc=some (us,s')):∃ s1 b s2,g t s=some s1∧c s1=some (b,s2) ∧
    ((b=true∧∃ u s3,e s2=some (u,s3)∧acc.length<lim∧Dh g c e r (qm s3) (acc++[u])=some (us,s'))∨(b=false∧Dh g c e r (qm s2) acc=some (us,s'))):=by
  rw [Dh] at h
  split at h
  · rename_i s1 e1
    split at h
    · rename_i s2 e2
      split at h
      · rename_i u s3 e3
        split at h
        · rename_i hl; exact ⟨s1,true,s2,e1,e2,.inl ⟨rfl,u,s3,e3,hl,h⟩⟩
        · cases h
      · cases h
    · rename_i s2 e2; exact ⟨s1,false,s2,e1,e2,.inr ⟨rfl,h⟩⟩
    · cases h
  · cases h
theorem Qq {nv:Nat} {cap:List Nat} {g:G} {it:M (List T)} {c:M Bool} {e:M T} {s s':Sta} {v:T} (h:ou nv cap g it c e s=some (v,s')):∃ ts s1 us s2,it s=some (ts,s1) ∧
    Dh g c e ts ⟨List.replicate nv none++cap.map (fun i=>((jo cap s1.env)[i]?).getD none),s1.sto⟩ []=some (us,s2)∧v=.lst us∧s'=⟨jo cap s1.env,s2.sto⟩:=by
  unfold ou at h
  split at h
  · rename_i ts s1 e1
    dsimp only at h
    split at h
    · rename_i us s2 e2; cases h; exact ⟨ts,s1,us,s2,e1,e2,rfl,rfl⟩
    · cases h
  · cases h
section
variable {K:PySem.W.Frag} {B:Bas} {st:Sta} {σ:L2.St} {H H' S S':Hp} {ps ps2:List (V × T)} {as as':List Addr} {D:Addr} {ob:HO}
theorem Jf.mem {sto:List SO} (r:Jf K S as H sto) {a:Addr} (h:a∈as):∃ o,H a=some o:=by
  obtain ⟨n,hn⟩:=List.getElem?_of_mem h
  have hl:=(List.getElem?_eq_some_iff.mp hn).1
  rw [r.len] at hl
  obtain ⟨a',h1,h2,h3⟩:=r.at' n _ (List.getElem?_eq_getElem hl)
  rw [hn] at h1; cases h1
  exact h3.there
theorem Rel.fresh (r:Rel K B st σ H ps S as) (h:H D=none):B.H D=none∧S D=none∧D∉as∧K4 st σ D:=by
  have sD:S D=none:=r.sub.free h
  have nD:D∉as:=fun z=>by obtain ⟨o,e⟩:=r.sto.mem z; rw [h] at e; cases e
  refine ⟨?_,sD,nD,fun j u e1 e2=>?_⟩
  · cases q:B.H D with
    | none=>rfl
    | some o =>
      have b1:B.S D=none:=by
        cases z:B.S D with
        | none=>rfl
        | some u=>have:=r.grow.same _ _ z; rw [sD] at this; cases this
      have b2:D∉B.as:=fun z=>by obtain ⟨l,e⟩:=r.grow.more; exact nD (by rw [e]; exact List.mem_append_left _ z)
      have:=(r.grow.keep D o q b1 b2).1
      rw [h] at this; cases this
  · obtain ⟨v,h1,_,h3⟩:=r.slots j u true e1
    rw [e2] at h1; cases h1
    obtain ⟨p,ep,o⟩:=h3 rfl
    cases ep
    obtain ⟨ob,ho⟩:=o.own.there
    rw [h] at ho; cases ho
theorem Rel.a85 (r:Rel K B st σ H ps S as) (bD:B.H D=none) (sD:S D=none) (nD:D∉as) (no:K4 st σ D):Rel K B st σ (upd H D ob) ps S as:=by
  have ne:∀ b u,S b=some u→b≠D:=fun b u e z=>by subst z; rw [sD] at e; cases e
  refine ⟨fun b u e=>by rw [dj (ne b u e)]; exact r.sub _ _ e,⟨r.grow.same,r.grow.more,fun p o x y z=>?_⟩,fun i t f e=>?_,r.apart,⟨r.sto.len,r.sto.nd,fun n so e=>?_⟩,r.pend,r.len⟩
  · obtain ⟨a,b,c⟩:=r.grow.keep p o x y z
    exact ⟨by rw [dj (fun w=>by subst w; rw [bD] at x; cases x)]; exact a,b,c⟩
  · obtain ⟨v,h1,h2,h3⟩:=r.slots i t f e
    refine ⟨v,h1,h2,fun z=>?_⟩
    obtain ⟨p,rfl,o⟩:=h3 z
    have n:p≠D:=fun w=>by subst w; subst z; exact no i t e h1
    exact ⟨p,rfl,o.own.mono (Same.refl _) (dj n).symm,o.out,o.nas,o.new⟩
  · obtain ⟨a,h1,h2,h3⟩:=r.sto.at' n so e
    exact ⟨a,h1,h2,h3.mono (Same.refl _) (dj (fun w=>by subst w; exact nD (List.mem_of_getElem? h1))).symm⟩
theorem Rel.aae (r:Rel K B st σ H ps S as) (no:a5h st) (sD:S D=none) (nD:D∉as):Rel K ⟨S,as,upd H D ob⟩ st σ (upd H D ob) ps S as:=by
  have ne:∀ b u,S b=some u→b≠D:=fun b u e z=>by subst z; rw [sD] at e; cases e
  refine ⟨fun b u e=>by rw [dj (ne b u e)]; exact r.sub _ _ e,⟨Same.refl _,nol,fun p o x y z=>⟨x,y,z⟩⟩,fun i t f e=>?_,r.apart,⟨r.sto.len,r.sto.nd,fun n so e=>?_⟩,r.pend,r.len⟩
  · obtain ⟨v,h1,h2,_⟩:=r.slots i t f e
    exact ⟨v,h1,h2,fun z=>by subst z; exact absurd e (no i t)⟩
  · obtain ⟨a,h1,h2,h3⟩:=r.sto.at' n so e
    exact ⟨a,h1,h2,h3.mono (Same.refl _) (dj (fun w=>by subst w; exact nD (List.mem_of_getElem? h1))).symm⟩
end
theorem Gn:∀ (cap:List Nat) (env:List Slot) (k:Nat),(∀ t,env[k]?≠some (some (t,true)))→∀ t,(jo cap env)[k]?≠some (some (t,true))
  | [],env,k,h=>h
  | i::l,env,k,h=>by
    have e:jo (i::l) env=jo l (match env[i]? with | some (some (t,_))=>env.set i (some (t,false)) | _=>env):=rfl
    rw [e]
    refine Gn l _ k fun t=>?_
    split
    · rename_i t' f e'
      by_cases hk:i=k
      · subst hk
        rw [List.getElem?_set_self (List.getElem?_eq_some_iff.mp e').1]
        intro z; cases z
      · rw [List.getElem?_set_ne hk]; exact h t
    · exact h t
theorem Gf:∀ (cap:List Nat) (env:List Slot) (k:Nat),k∈cap→∀ t,(jo cap env)[k]?≠some (some (t,true))
  | [],env,k,h=>by simp at h
  | i::l,env,k,h=>by
    have e:jo (i::l) env=jo l (match env[i]? with | some (some (t,_))=>env.set i (some (t,false)) | _=>env):=rfl
    rw [e]
    rcases List.mem_cons.mp h with rfl | h' -- here
    · refine Gn l _ k fun t=>?_
      split
      · rename_i t' f e'
        rw [List.getElem?_set_self (List.getElem?_eq_some_iff.mp e').1]
        intro z; cases z
      · rename_i hx
        intro z
        exact hx _ _ z
    · exact Gf l _ k h'
def gE (K:PySem.W.Frag) (g:G):TG:=fun v σ H Q=>∃ B,gOf K B g v σ H Q
def cE (K:PySem.W.Frag) (c:M Bool):TT:=fun σ H Q=>∃ B,cOf K B c σ H Q
def eE (K:PySem.W.Frag) (e:M T):TE:=fun σ H Q=>∃ B,tOf K B e σ H Q
theorem pgE {X:Cx} {tg:Expr} {g:G} (h:∀ B,PG X tg (gOf X.K B g)):PG X tg (gE X.K g):=fun pins s σ H x u Q I r ⟨B,q⟩=>h B pins s σ H x u Q I r q
theorem ptE {X:Cx} {e:Expr} {c:M Bool} (h:∀ B,PT X e (cOf X.K B c)):PT X e (cE X.K c):=fun pins s σ H Q I ⟨B,q⟩=>h B pins s σ H Q I q
theorem peE {X:Cx} {e:Expr} {m:M T} (h:∀ B,PE X e (tOf X.K B m)):PE X e (eE X.K m):=fun pins s σ H Q I ⟨B,q⟩=>h B pins s σ H Q I q
theorem yh {X:Cx}:PTs X [] (cE X.K yw):=fun pins s σ H Q I z9=>by
  obtain ⟨B,st,ps,S,as,R,b,st',e,q⟩:=z9
  cases e
  exact a70 pins s σ H Q I (q H S as R)
theorem Gz {X:Cx} {e:Expr} {c:M Bool} (h:∀ B,PT X e (cOf X.K B c)):PTs X [e] (cE X.K c):=a6q (ptE h)
section
variable {X:Cx} {scope:Scope} {N:List Str}
inductive CI (K:PySem.W.Frag) (B:Bas) (g:G) (c:M Bool) (e:M T) (ts us:List T) (env:List Slot) (s2:Sta) (σ:L2.St) (pp:List (V × T)) (D:Addr) (i m:Nat) (σ':L2.St) (H':Hp):Prop where
  | mk (sti:Sta) (Si:Hp) (asi:List Addr) (acc:List T) (accv:List V) (hm:m=ts.length - i) (hi:i≤ts.length) (Ri:Rel K ⟨Si,asi,H'⟩ sti σ' H' [] Si asi) (no:a5h sti) (Ro:Rel K B ⟨env,sti.sto⟩ σ H' pp Si asi) (hD:H' D=some (.lst accv)) (sD:Si D=none) (nD:D∉asi) (rA:qu K Si asi accv acc) (ei:Dh g c e (ts.drop i) sti acc=some (us,s2)):CI K B g c e ts us env s2 σ pp D i m σ' H'
theorem Qd {B:Bas} {nv:Nat} {cap:List Nat} {g:G} {c:M Bool} {e:M T} {ts us:List T} {env:List Slot} {sto1:List SO} {s2:Sta} {σ:L2.St} {H1 S1:Hp} {as1:List Addr} {ps ps':List (V × T)} {J:It} {Q:VK}
    (hN:N.length=nv+cap.length) (hv:∀ i x,i<nv→N[i]? = some x→True)
    (hcap:∀ (j k:Nat),cap[j]? = some k→∃ x,N[nv+j]? = some x∧X.N[k]? = some x∧aav X scope x)
    (R1:Rel X.K B ⟨env,sto1⟩ σ H1 (ps'++ps) S1 as1) (hno:∀ k∈cap,∀ t,env[k]?≠some (some (t,true)))
    (facts:∀ S as H,Same B.S S→(∃ l,as=B.as++l)→(∀ p∈ps',Rep X.K S as p.1 p.2)→Same S H→Ij X.K S as H J ts)
    (hc:Dh g c e ts ⟨List.replicate nv none++cap.map (fun i=>(env[i]?).getD none),sto1⟩ []=some (us,s2))
    (fin:∀ D H' S' as',Rel X.K B ⟨env,s2.sto⟩ σ H' (ps'++ps) S' as'→Ik X.K B S' as' H' D (.lst us)→K4 ⟨env,s2.sto⟩ σ D→Q (.ref D) H') :
    Te X scope N (gE X.K g) (cE X.K c) (eE X.K e) σ J H1 Q:=by
  intro D hD
  obtain ⟨bD,sD1,nD1,noD⟩:=R1.fresh hD
  have capg:∀ (i:Nat) s,(List.replicate nv (none:Slot)++cap.map (fun i=>(env[i]?).getD none))[i]? = some (some s)→∃ j k,i=nv+j∧cap[j]? = some k∧env[k]? = some (some s):=fun i s h=>by
    by_cases hi:i<nv
    · rw [List.getElem?_append_left (by rw [List.length_replicate]; exact hi)] at h
      have:=List.eq_of_mem_replicate (List.mem_of_getElem? h); cases this
    · rw [List.getElem?_append_right (by rw [List.length_replicate]; exact Nat.le_of_not_lt hi),List.length_replicate,List.getElem?_map] at h
      cases z:cap[i - nv]? with
      | none=>rw [z] at h; cases h
      | some k =>
        rw [z] at h
        refine ⟨i - nv,k,by (clear z h noD nD1 sD1 bD hD fin hc facts hno R1 hcap hv hN; omega),z,?_⟩
        cases w:env[k]? with
        | none=>simp [w] at h
        | some s'=>simp [w] at h; rw [h]
  have sig:∀ (j k:Nat) v,cap[j]? = some k→σ[k]? = some (some v)→(List.replicate nv (none:Option V)++cap.map (fun i=>(σ[i]?).getD none))[nv+j]? = some (some v):=fun j k v h1 h2=>by
    rw [List.getElem?_append_right (by rw [List.length_replicate]; (clear h2 h1 capg noD nD1 sD1 bD hD fin hc facts hno R1 hcap hv hN; omega)),List.length_replicate,Nat.add_sub_cancel_left,List.getElem?_map,h1]
    simp [h2]
  refine ⟨List.replicate nv none++cap.map (fun i=>(σ[i]?).getD none),by rw [List.length_append,List.length_replicate,List.length_map,hN],fun i v x h1 h2 _=>?_,?_⟩
  · by_cases hi:i<nv
    · rw [List.getElem?_append_left (by rw [List.length_replicate]; exact hi)] at h1
      have:=List.eq_of_mem_replicate (List.mem_of_getElem? h1); cases this
    · rw [List.getElem?_append_right (by rw [List.length_replicate]; exact Nat.le_of_not_lt hi),List.length_replicate,List.getElem?_map] at h1
      cases z:cap[i - nv]? with
      | none=>rw [z] at h1; cases h1
      | some k =>
        rw [z] at h1
        obtain ⟨y,n1,n2,ck⟩:=hcap _ _ z
        have e:nv+(i - nv)=i:=by (clear ck n2 n1 z h1 h2 sig capg noD nD1 sD1 bD hD fin hc facts hno R1 hcap hv hN; omega)
        rw [e,h2] at n1; cases n1
        refine ⟨k,n2,?_,ck⟩
        cases w:σ[k]? with
        | none=>simp [w] at h1
        | some s'=>simp [w] at h1; rw [h1]
  refine ⟨fun i m σ' H'=>CI X.K B g c e ts us env s2 σ (ps'++ps) D i m σ' H',⟨ts.length,.mk _ S1 as1 [] [] (by simp) (Nat.zero_le _) ?_ ?_ ?_ d7 sD1 nD1 .nil hc⟩,?_⟩
  · refine Rel.aae (B:=B) (H:=H1) ⟨R1.sub,R1.grow,fun i t f h=>?_,fun i j t u p hi hj=>?_,R1.sto,(fun p hp=>by cases hp),?_⟩ (fun i t h=>?_) sD1 nD1
    · obtain ⟨j,k,rfl,hk,ek⟩:=capg i _ h
      obtain ⟨v,h1,h2,h3⟩:=R1.slots k t f ek
      exact ⟨v,sig j k v hk h1,h2,h3⟩
    · obtain ⟨j,k,rfl,hk,ek⟩:=capg i _ hi
      exact absurd ek (hno k (List.mem_of_getElem? hk) t)
    · show (List.replicate nv (none:Option V)++cap.map _).length=(List.replicate nv (none:Slot)++cap.map _).length
      rw [List.length_append,List.length_append,List.length_replicate,List.length_replicate,List.length_map,List.length_map]
    · obtain ⟨j,k,rfl,hk,ek⟩:=capg i _ h
      exact absurd ek (hno k (List.mem_of_getElem? hk) t)
  · intro i t h
    obtain ⟨j,k,rfl,hk,ek⟩:=capg i _ h
    exact absurd ek (hno k (List.mem_of_getElem? hk) t)
  · exact R1.a85 bD sD1 nD1 noD
  rintro i m σ' H' ⟨sti,Si,asi,acc,accv,rfl,hi,Ri,no,Ro,hD',sD,nD,rA,ei⟩
  have F:=facts Si asi H' Ro.grow.same Ro.grow.more (fun p hp=>Ro.pend p (List.mem_append_left _ hp)) Ri.sub
  by_cases hlt:i<ts.length
  · rw [List.drop_eq_getElem_cons hlt] at ei
    obtain ⟨s3,b,s4,eg,ec,er⟩:=Zx ei
    have ht:ts[i]? = some ts[i]:=List.getElem?_eq_getElem hlt
    refine .inr ⟨(F.go i _ ht).1,fun x H2 y=>?_⟩
    obtain ⟨S2,ex,rx⟩:=(F.go i _ ht).2 x H2 y
    refine ⟨⟨Si,asi,H'⟩,sti,[],S2,asi,_,(Ri.ext ex).push rx,s3,eg,fun σ3 H3 S3 as3 R3=>⟨⟨Si,asi,H'⟩,s3,[],S3,as3,R3,b,s4,ec,fun H4 S4 as4 R4=>?_⟩⟩
    rcases er with ⟨rfl,w,s5,ee,hlen,erest⟩ | ⟨rfl,erest⟩
    · refine a68 ⟨⟨Si,asi,H'⟩,s4,[],S4,as4,R4,w,s5,ee,fun y H5 S5 as5 R5=>?_⟩
      obtain ⟨S6,R6⟩:=R5.qm
      obtain ⟨k1,k2,k3⟩:=R6.grow.keep D _ hD' sD nD
      have Ro2:=Ro.call R6.grow R6.sub R6.sto
      refine ⟨accv,k1,?_,ts.length - (i+1),by (clear Ro2 k3 k2 k1 R6 R5 erest hlen ee ec R4 R3 rx ex ht eg ei F rA nD sD hD' Ro no Ri hi sig capg noD nD1 sD1 bD hD fin hc facts hno R1 hcap hv hN; omega),.mk (qm s5) S6 as5 (acc++[w]) (accv++[y]) rfl hlt (R6.drop.aae (Ck _) k2 k3) (Ck _) (Ro2.a85 bD k2 k3 noD) d7 k2 k3 ((rA.mono R6.grow.same R6.grow.more).append (.cons R6.top .nil)) erest⟩
      rw [rA.length]; exact Nat.lt_of_lt_of_le hlen qp
    · refine a5t ?_
      obtain ⟨S6,R6⟩:=R4.qm
      obtain ⟨k1,k2,k3⟩:=R6.grow.keep D _ hD' sD nD
      have Ro2:=Ro.call R6.grow R6.sub R6.sto
      exact ⟨ts.length - (i+1),by (clear Ro2 k3 k2 k1 R6 ec erest R4 R3 rx ex y ht eg ei F rA nD sD hD' Ro no Ri hi sig capg noD nD1 sD1 bD hD fin hc facts hno R1 hcap hv hN; omega),.mk (qm s4) S6 as4 acc accv rfl hlt (R6.rebase (Ck _)) (Ck _) Ro2 k1 k2 k3 (rA.mono R6.grow.same R6.grow.more) erest⟩
  · have hie:i=ts.length:=by (clear F ei rA nD sD hD' Ro no Ri sig capg noD nD1 sD1 bD hD fin hc facts hno R1 hcap hv hN; omega)
    subst hie
    rw [List.drop_length] at ei
    cases ei
    exact .inl ⟨F.stop _ (Nat.le_refl _),fin D H' Si asi Ro ⟨⟨accv,hD',rA⟩,sD,nD,bD⟩ noD⟩
theorem Rel.give {K:PySem.W.Frag} {B:Bas} {st:Sta} {σ:L2.St} {H S:Hp} {ps:List (V × T)} {as:List Addr} {p:Addr} {t:T} (r:Rel K B st σ H ps S as) (o:Ik K B S as H p t) (no:K4 st σ p):∃ S',Rel K B st σ H ((.ref p,t)::ps) S' as:=by
  obtain ⟨ob,ho⟩:=o.own.there
  have sS:Same S (upd S p ob):=Same.upd o.out ob
  have rep:Rep K (upd S p ob) as (.ref p) t:=by
    have w:=o.own
    cases t with
    | lst ts=>obtain ⟨vs,h,q⟩:=w; rw [ho] at h; cases h; exact .lst (SqL.of d7) (q.mono sS nol)
    | dic ts=>obtain ⟨vs,h,q⟩:=w; rw [ho] at h; cases h; exact .dic (.inl d7) (q.mono sS nol)
    | _=>exact w.elim
  have outs:∀ q,S q=none→q≠p→upd S p ob q=none:=fun q h n=>by rw [dj n]; exact h
  refine ⟨upd S p ob,Rel.push (v:=.ref p) (t:=t) ⟨?_,?_,?_,r.apart,?_,fun q hq=>(r.pend q hq).mono sS nol,r.len⟩ rep⟩
  · intro b u q
    by_cases z:b=p
    · subst z; rw [d7] at q; cases q; exact ho
    · rw [dj z] at q; exact r.sub _ _ q
  · refine ⟨r.grow.same.trans sS,r.grow.more,fun q w a b c=>?_⟩
    obtain ⟨x,y,z⟩:=r.grow.keep q w a b c
    refine ⟨x,outs q y fun n=>?_,z⟩
    subst n; rw [o.new] at a; cases a
  · intro j u f ej
    obtain ⟨v',a1,a2,a3⟩:=r.slots j u f ej
    refine ⟨v',a1,fun z=>(a2 z).mono sS nol,fun z=>?_⟩
    subst z
    obtain ⟨p',rfl,o'⟩:=a3 rfl
    refine ⟨p',rfl,o'.own.mono sS rfl,outs p' o'.out fun n=>?_,o'.nas,o'.new⟩
    subst n
    exact no j u ej a1
  · refine ⟨r.sto.len,r.sto.nd,fun n so en=>?_⟩
    obtain ⟨a,a1,a2,a3⟩:=r.sto.at' n so en
    refine ⟨a,a1,outs a a2 fun z=>?_,a3.mono sS rfl⟩
    subst z
    exact o.nas (List.mem_of_getElem? a1)
theorem a0o {K:PySem.W.Frag} {B:Bas} {m:M T} {σ:L2.St} {H:Hp} {Q:VK} (h:tOf K B m σ H Q):fOf K B m σ H Q:=by
  obtain ⟨st,ps,S,as,R,t,st',e,q⟩:=h
  refine ⟨st,ps,S,as,R,t,st',e,fun p H' S' as' R' o n=>?_⟩
  obtain ⟨S2,R2⟩:=R'.give o n
  exact q _ H' S2 as' R2
theorem uf {e:Expr} {B:Bas} {m:M T} (h:PE X e (fOf X.K B m)):PE X e (tOf X.K B m):=h.imp fun σ H Q=>a0o
variable {B:Bas} {nv:Nat} {cap:List Nat} {g:G} {it:M (List T)} {c:M Bool} {e:M T} {tg iter elt:Expr} {ifs:List Expr} {pos:Pos}
structure Yi (X:Cx) (scope:Scope) (N:List Str) (nv:Nat) (cap:List Nat):Prop where
  len:N.length=nv+cap.length
  at':∀ (j k:Nat),cap[j]? = some k→∃ x,N[nv+j]? = some x∧X.N[k]? = some x∧aav X scope x
theorem Zt (co:Yi X scope N nv cap) (hsz:∀ st ts st',it st=some (ts,st')→ts.length≤sizeLine) {σ:L2.St} {H:Hp} {Q:VK} (h:fOf X.K B (ou nv cap g it c e) σ H Q) :
    a2n X scope N (iOf X.K B it) (gE X.K g) (cE X.K c) (eE X.K e) σ H Q:=by
  obtain ⟨st,ps,S,as,R,t,st',e,q⟩:=h
  obtain ⟨ts,s1,us,s2,e1,e2,rfl,rfl⟩:=Qq e
  refine ⟨st,ps,S,as,R,ts,s1,e1,hsz _ _ _ e1,fun J H1 S1 as1 ps' R1 facts=>?_⟩
  obtain ⟨S2,R2⟩:=R1.jo cap
  exact Qd co.len (fun _ _ _ _=>trivial) co.at' R2 (fun k hk=>Gf cap s1.env k hk) (fun S as H _ _=>facts S as H) e2 fun D H' S' as' R' o n=>q D H' S' as' (R'.pick fun p hp=>List.mem_append_right _ hp) o n
theorem zc (co:Yi X scope N nv cap) (sc:J6 X scope N) (calm:X.calm=true) (hi:PI X tg iter (iOf X.K B it)) (hsz:∀ st ts st',it st=some (ts,st')→ts.length≤sizeLine)
    (hg:∀ C s₀ H₀ ex pn,PG (ur X scope N C s₀ H₀ ex pn) tg (gE X.K g)) (hc:∀ C s₀ H₀ ex pn,PTs (ur X scope N C s₀ H₀ ex pn) ifs (cE X.K c)) (he:∀ C s₀ H₀ ex pn,PE (ur X scope N C s₀ H₀ ex pn) elt (eE X.K e))
    (hs:∀ x,foldedSetIterable iter X.env x=pure x:=by intro _; rfl):PE X (.ListComp elt [⟨tg,iter,ifs,0⟩] scope pos) (fOf X.K B (ou nv cap g it c e)) :=
  (a0k sc calm hi hg hc he hs).imp fun σ H Q h=>Zt co hsz h
end
end C
end
section
namespace C
open PySem PySem.Spec PyProof.Rows L2
section
variable {X:Cx}
theorem Yk {f:Value→Value→Sem Value} {g:T→T→Option T} {r:R2} (h:OpR X f r)
    (k:∀ S as x y t u w,Rep X.K S as x t→Rep X.K S as y u→g t u=some w→∀ (H:Hp) (Q:VK),Same S H→(∀ v H' S',Ext S H S' H'→Rep X.K S' as v w→Q v H')→r x y H Q):OpT X f g:=by
  intro pins s σ H x y v u Q I rx ry z8
  obtain ⟨S,as,t,w,z,sub,ht,hu,hf,q⟩:=z8
  exact h pins s σ H x y v u Q I rx ry (k S as x y t w z ht hu hf H Q sub q)
structure OI (g:T→Option T):Prop where
  n:g .non=none
  b:∀ x,g (.bl x)=none
  s:∀ x,g (.str x)=none
  t:∀ x,g (.tup x)=none
  l:∀ x,g (.lst x)=none
  d:∀ x,g (.dic x)=none
  o:∀ x,g (.obj x)=none
theorem OI.int {g:T→Option T} {w t:T} (h:OI g) (e:g t=some w):∃ i,t=.int i:=by
  cases t with
  | int i=>exact ⟨i,rfl⟩
  | non=>exact jt (h.n.symm.trans e)
  | bl x=>exact jt ((h.b x).symm.trans e)
  | str x=>exact jt ((h.s x).symm.trans e)
  | tup x=>exact jt ((h.t x).symm.trans e)
  | lst x=>exact jt ((h.l x).symm.trans e)
  | dic x=>exact jt ((h.d x).symm.trans e)
  | obj x=>exact jt ((h.o x).symm.trans e)
theorem Fb {K:PySem.W.Frag} {S:Hp} {as:List Addr} {x y:V} {t u w:T} {g:T→T→Option T} {P:Prop} (ht:Rep K S as x t) (hu:Rep K S as y u) (hf:g t u=some w)
    (n1:∀ u,OI (g · u)) (n2:∀ i,OI (g (.int i))) (k:∀ i j,x=.int i→y=.int j→g (.int i) (.int j)=some w→P):P:=by
  obtain ⟨i,rfl⟩:=(n1 u).int hf
  obtain ⟨j,rfl⟩:=(n2 i).int hf
  cases ht; cases hu
  exact k i j rfl rfl hf
theorem Ae:OpT X (binaryOp .Sub) Jv:=Yk a8t fun S as x y t u w ht hu hf H Q sub q =>
  Fb (g:=Jv) ht hu hf (fun u=>⟨rfl,fun _=>rfl,fun _=>rfl,fun _=>rfl,fun _=>rfl,fun _=>rfl,fun _=>rfl⟩) (fun i=>⟨rfl,fun _=>rfl,fun _=>rfl,fun _=>rfl,fun _=>rfl,fun _=>rfl,fun _=>rfl⟩) fun i j ex ey hf=>by
  subst ex ey; cases hf
  exact ⟨_,_,rfl,rfl,q _ H S (Ext.refl sub) (.int _)⟩
theorem Aa:OpT X (binaryOp .Mod) T5:=Yk a8x fun S as x y t u w ht hu hf H Q sub q =>
  Fb (g:=T5) ht hu hf (fun u=>⟨rfl,fun _=>rfl,fun _=>rfl,fun _=>rfl,fun _=>rfl,fun _=>rfl,fun _=>rfl⟩) (fun i=>⟨rfl,fun _=>rfl,fun _=>rfl,fun _=>rfl,fun _=>rfl,fun _=>rfl,fun _=>rfl⟩) fun i j ex ey hf=>by
  subst ex ey
  obtain ⟨hc,hf⟩:=vp hf
  cases hf; exact ⟨_,_,rfl,rfl,hc,q _ H S (Ext.refl sub) (.int _)⟩
def ab5 (i j:Int):Prop:=0<j∧(j<1073741824∨j.natAbs<fdl)
theorem a4w:OpR X (binaryOp .FloorDiv) (rI ab5 fun i j=>.int (i / j)):=opI fun i j _ _ _ _ _ hc q=>by
  have h1:(0:Int)<j:=hc.1
  have h2:j.natAbs<2 ^ 200:=by
    rcases hc.2 with h | h
    · exact Nat.lt_trans (show j.natAbs<1073741824 by (clear q hc; omega)) (by decide)
    · exact h
  exact floordiv_int (by (clear h2 q hc; omega)) (by rw [Int.fdiv_eq_ediv_of_nonneg i (by (clear h2 q hc; omega))]; exact q) (.inl (PyProof.noPylong_of_log2 (Nat.lt_trans ((Nat.log2_lt (by (clear h2 q hc; omega))).mpr h2) (by decide))))
theorem Fg:OpT X (binaryOp .FloorDiv) Ox:=Yk a4w fun S as x y t u w ht hu hf H Q sub q =>
  Fb (g:=Ox) ht hu hf (fun u=>⟨rfl,fun _=>rfl,fun _=>rfl,fun _=>rfl,fun _=>rfl,fun _=>rfl,fun _=>rfl⟩) (fun i=>⟨rfl,fun _=>rfl,fun _=>rfl,fun _=>rfl,fun _=>rfl,fun _=>rfl,fun _=>rfl⟩) fun i j ex ey hf=>by
  subst ex ey
  obtain ⟨hc,hf⟩:=vp hf
  cases hf; exact ⟨_,_,rfl,rfl,hc,q _ H S (Ext.refl sub) (.int _)⟩
theorem Oo:OpT X (binaryOp .Pow) Y4:=Yk aad fun S as x y t u w ht hu hf H Q sub q =>
  Fb (g:=Y4) ht hu hf (fun u=>⟨rfl,fun _=>rfl,fun _=>rfl,fun _=>rfl,fun _=>rfl,fun _=>rfl,fun _=>rfl⟩) (fun i=>⟨rfl,fun _=>rfl,fun _=>rfl,fun _=>rfl,fun _=>rfl,fun _=>rfl,fun _=>rfl⟩) fun i j ex ey hf=>by
  subst ex ey
  obtain ⟨h,hf⟩:=vp hf
  cases hf; exact ⟨_,_,rfl,rfl,⟨h.1,by (clear q hf hu ht sub; omega),by (clear q hf hu ht sub; omega)⟩,q _ H S (Ext.refl sub) (.int _)⟩
theorem Rb:OpT X (compareOp .Lt) ltT:=Yk ace fun S as x y t u w ht hu hf H Q sub q =>
  Fb (g:=ltT) ht hu hf (fun u=>⟨rfl,fun _=>rfl,fun _=>rfl,fun _=>rfl,fun _=>rfl,fun _=>rfl,fun _=>rfl⟩) (fun i=>⟨rfl,fun _=>rfl,fun _=>rfl,fun _=>rfl,fun _=>rfl,fun _=>rfl,fun _=>rfl⟩) fun i j ex ey hf=>by
  subst ex ey; cases hf
  exact ⟨_,_,rfl,rfl,q _ H S (Ext.refl sub) (.bl _)⟩
theorem a2i:OpT X (compareOp .Gt) gtT:=Yk abr fun S as x y t u w ht hu hf H Q sub q =>
  Fb (g:=gtT) ht hu hf (fun u=>⟨rfl,fun _=>rfl,fun _=>rfl,fun _=>rfl,fun _=>rfl,fun _=>rfl,fun _=>rfl⟩) (fun i=>⟨rfl,fun _=>rfl,fun _=>rfl,fun _=>rfl,fun _=>rfl,fun _=>rfl,fun _=>rfl⟩) fun i j ex ey hf=>by
  subst ex ey; cases hf
  exact ⟨_,_,rfl,rfl,q _ H S (Ext.refl sub) (.bl _)⟩
theorem a2b:UnT X (unaryOp .USub) a9c:=by
  intro pins s σ H x v Q I rx z8
  obtain ⟨S,as,t,w,sub,ht,hf,q⟩:=z8
  cases ht <;> simp only [a9c,reduceCtorEq] at hf
  cases hf
  exact a5v pins s σ H _ v Q I rx ⟨_,rfl,q _ H S (Ext.refl sub) (.int _)⟩
def acj (K:PySem.W.Frag):R2:=fun x y H Q=>∃ l b xs zs,x=.ref l∧y=.ref b∧SqL K H l xs∧SqL K H b zs∧xs.length+zs.length≤sizeLine∧∀ p,H p=none→Q (.ref p) (upd H p (.lst (xs++zs)))
theorem a6p:OpR X (binaryOp .Add) (acj X.K):=by
  intro pins s σ H x y v u Q I rx ry h
  obtain ⟨l,b,xs,zs,rfl,rfl,hH,hB,hz,q⟩:=h
  cases rx
  cases ry
  obtain ⟨its,r,p1,hl⟩:=I.list hH
  obtain ⟨its2,r2,p2,hl2⟩:=I.list hB
  obtain ⟨⟨cls,dd,data,sl⟩,n,ho,hc,hd0,hd⟩:=id p1
  obtain ⟨⟨cls2,dd2,data2,sl2⟩,n2,ho2,hc2,hd02,hd2⟩:=id p2
  simp only at hc hd hc2 hd2
  subst hc hd hc2 hd2
  refine concat_meets ⟨_,ho,rfl⟩ ⟨_,ho2,rfl⟩ noFill_list_add seq_list_add PySem.F.slot_list_add PySem.F.entry_list_add (PySem.F.args_list_add_2 _ _)
      (list_addW l b its.toArray its2.toArray n n2 dd dd2 sl sl2 (by rw [List.size_toArray,List.size_toArray,← r.length,← r2.length]; exact hz)) ⟨ho,ho2,?_⟩
  have ea:its.toArray++its2.toArray=(its++its2).toArray:=by simp
  rw [ea]
  exact ⟨.ref _,_,I.adk (t':=s.toks) (r.append r2) (by rw [List.length_append]; exact hz),rfl,q _ I.fresh⟩
def a9q (K:PySem.W.Frag):R2:=fun x y H Q=>∃ a b ys,x=.ref a∧y=.ref b∧SqT K H a []∧SqT K H b ys∧Q (.ref b) H
theorem a4n:OpR X (binaryOp .Add) (a9q X.K):=by
  intro pins s σ H x y v u Q I rx ry h
  obtain ⟨a,b,ys,rfl,rfl,ha,hb,q⟩:=h
  cases rx
  cases ry
  obtain ⟨its,r1,p1,_⟩:=I.tuple ha
  obtain ⟨its2,r2,p2,_⟩:=I.tuple hb
  cases r1
  obtain ⟨⟨cls,dd,data,sl⟩,ho,hc,n,hd⟩:=id p1
  obtain ⟨⟨cls2,dd2,data2,sl2⟩,ho2,hc2,n2,hd2⟩:=id p2
  simp only at hc hd hc2 hd2
  subst hc hd hc2 hd2
  exact concat_meets ⟨_,ho,rfl⟩ ⟨_,ho2,rfl⟩ noFill_tuple_add seq_tuple_add PySem.F.slot_tuple_add PySem.F.entry_tuple_add (PySem.F.args_tuple_add_2 _ _)
      (tuple_addW0 a b _ its2.toArray n n2 dd dd2 sl sl2 (by rfl)) ⟨ho,ho2,⟨.ref b,H,I,rfl,q⟩⟩
theorem ud:OpT X (binaryOp .Add) Gk:=by
  intro pins s σ H x y v u Q I rx ry z8
  obtain ⟨S,as,t,t2,w,sub,ht,hu,hf,q⟩:=z8
  cases ht <;> first | exact nomatch (show none=some w from hf) | cases hu <;> first | exact nomatch (show none=some w from hf) | simp only [Gk] at hf
  · cases hf
    exact a9n pins s σ H _ _ v u Q I rx ry ⟨_,_,rfl,rfl,q _ H S (Ext.refl sub) (.int _)⟩
  · split at hf
    · rename_i hl; cases hf
      exact Xk pins s σ H _ _ v u Q I rx ry ⟨_,_,rfl,rfl,Nat.le_trans (Nat.le_of_lt hl) qp,q _ H S (Ext.refl sub) (.str _)⟩
    · cases hf
  · rename_i a vs ts hs hr b ws us hs2 hr2
    split at hf
    · rename_i hl; cases hf
      have hz:vs.length+ws.length≤sizeLine:=by rw [hr.length,hr2.length]; exact Nat.le_trans (Nat.le_of_lt hl) qp
      cases hr with
      | nil=>exact a4n pins s σ H _ _ v u Q I rx ry ⟨_,_,_,rfl,rfl,mz sub hs,mz sub hs2,q _ H S (Ext.refl sub) (.tup hs2 hr2)⟩
      | @cons v0 t0 vs0 ts0 h1 h2 =>
        refine a6x pins s σ H _ _ v u Q I rx ry ⟨_,_,_,_,rfl,rfl,mz sub hs,mz sub hs2,by simp,hz,fun z=>?_,fun z p hp=>?_⟩
        · subst z
          cases hr2
          rw [List.append_nil] at q
          exact q _ H S (Ext.refl sub) (.tup hs (.cons h1 h2))
        · have x:=Ext.laid sub hp (.tup ((v0::vs0)++ws))
          exact q _ _ _ x (.tup (SqT.of d7) (((qu.cons h1 h2).append hr2).mono x.s nol))
    · cases hf
  · rename_i a vs ts hs hr b ws us hs2 hr2
    split at hf
    · rename_i hl; cases hf
      have hz:vs.length+ws.length≤sizeLine:=by rw [hr.length,hr2.length]; exact Nat.le_trans (Nat.le_of_lt hl) qp
      refine a6p pins s σ H _ _ v u Q I rx ry ⟨_,_,_,_,rfl,rfl,j5 sub hs,j5 sub hs2,hz,fun p hp=>?_⟩
      have x:=Ext.laid sub hp (.lst (vs++ws))
      exact q _ _ _ x (.lst (SqL.of d7) ((hr.append hr2).mono x.s nol))
    · cases hf
theorem a88 (x:Str) (n:Int) (h:0≤n):Txt.mul x n=⟨((List.replicate n.toNat x.cps.toList).flatten).toArray⟩:=by
  have key:∀ (k:Nat) (acc:Array Nat),(List.replicate k x.cps).foldl (· ++ ·) acc=acc++((List.replicate k x.cps.toList).flatten).toArray:=by
    intro k
    induction k with
    | zero=>intro acc; simp
    | succ k ih =>
      intro acc
      rw [List.replicate_succ,List.foldl_cons,ih,List.replicate_succ,List.flatten_cons]
      apply Array.ext'
      simp
  unfold Txt.mul
  by_cases h1:n<1
  · have:n=0:=by omega
    subst this
    rw [if_pos h1]; rfl
  · rw [if_neg h1]
    by_cases h2:(n==1||x.length==0)=true
    · rw [if_pos h2]
      rw [Bool.or_eq_true] at h2
      rcases h2 with h2 | h2
      · have:n=1:=by simpa using h2
        subst this
        cases x; simp
      · have h3:x.cps.size=0:=by simpa [Str.length] using h2
        obtain ⟨c⟩:=x
        have h4:c = #[]:=Array.eq_empty_of_size_eq_zero h3
        subst h4
        congr 1
        apply Array.ext'
        simp
    · rw [if_neg h2,key]
      congr 1
      apply Array.ext'
      simp
theorem Gd:OpT X (binaryOp .Mult) Nz:=by
  intro pins s σ H x y v u Q I rx ry z8
  obtain ⟨S,as,t,t2,w,sub,ht,hu,hf,q⟩:=z8
  cases ht <;> first | exact nomatch (show none=some w from hf) | cases hu <;> first | exact nomatch (show none=some w from hf) | simp only [Nz] at hf
  · split at hf
    · rename_i hb; cases hf
      refine a8s pins s σ H _ _ v u Q I rx ry ⟨_,_,rfl,rfl,?_,q _ H S (Ext.refl sub) (.int _)⟩
      rw [Bool.or_eq_true] at hb
      rcases hb with h | h
      · exact .inl (of_decide_eq_true h)
      · exact .inr (of_decide_eq_true h)
    · cases hf
  · rename_i z j
    split at hf
    · rename_i hb; cases hf
      obtain ⟨t',rfl⟩:=rx
      obtain ⟨t2',rfl⟩:=ry
      refine SB.mul ⟨?_,fun _ _=>?_,fun _ _=>?_⟩ fun t3 k=>⟨.str (Txt.mul z j),H,I.tok _,⟨_,rfl⟩,?_⟩
      · have h1:¬ j < -(2 ^ 63:Int):=by (clear q sub I; omega)
        have h2:¬ j ≥ 2 ^ 63:=by (clear h1 q sub I; omega)
        rw [decide_eq_false h1,decide_eq_false h2]; rfl
      · have h1:(z.length:Int)≤100:=by (clear q sub I; omega)
        have h2:(100:Int)≤(2 ^ 63 - 1) / j:=by
          have hj:0<j:=by
            rcases Int.lt_or_le 0 j with h | h
            · exact h
            · exfalso
              have:j=0:=by (clear h1 q hb sub I; omega)
              subst this
              rename_i a _; exact a (by decide)
          exact (Int.le_ediv_iff_mul_le hj).mpr (by (clear hj h1 q sub I; omega))
        (clear q hb sub I; omega)
      · have h3:z.length * j.toNat≤100 * 1000:=Nat.mul_le_mul hb.2.2 (by (clear q sub I; omega))
        unfold Builtin.Str.tooLong
        rw [sizeLine_eq]
        exact decide_eq_false (by (clear q hb sub I; omega))
      · rw [a88 z j hb.1]; exact q _ H S (Ext.refl sub) (.str _)
    · cases hf
end
end C
end
section
namespace C
open PySem PySem.Spec PyProof.Rows L2
section
variable {X:Cx} {B:Bas} {a b c e o:Expr} {m m1 m2:M T} {pos p:Pos}
theorem Mv (n:Nat) (i:Int):ixI n i=ixN n i:=rfl
theorem Xe {K:PySem.W.Frag} {S:Hp} {as:List Addr} {y:V} {t:T} {q:L2.Key} (r:Rep K S as y t) (h:keyOf t=some q):y=kV q:=by
  cases r <;> simp only [keyOf,reduceCtorEq] at h <;> (cases h; rfl)
def abw:R2:=fun x y H Q=>∃ a v,x=.ref a∧Zv H a y (some v)∧Q v H
theorem a7o (hu:X.A.units+1<cLine):IxR X abw:=by
  intro value slice pins s σ H x y v u Q I rx ry z8 hs
  obtain ⟨a,w,ex,g,q⟩:=z8
  subst ex
  cases rx
  refine tail_any (Ku I g) slot_dict_getitem.lookup (R8 hu I g ry fun w' s' I' r'=>⟨w,H,I',r',q⟩) hs
theorem a2x (hu:X.A.units+1<cLine):IxR X (r2 X.K d9):=by
  intro value slice pins s σ H x y v u Q I rx ry z8 hs
  obtain ⟨S,as,t,t2,w,sub,ht,hu2,hf,q⟩:=z8
  cases ht with
  | @tup a vs ts h1 h2 =>
    cases hu2 <;> first | exact jt hf | skip
    rename_i i
    obtain ⟨j,e1,e2⟩:=Option.bind_eq_some_iff.mp hf
    obtain ⟨z,hz,rz⟩:=h2.get e2
    refine a9t value slice pins s σ H _ _ v u Q I rx ry ⟨a,vs,i,z,rfl,rfl,mz sub h1,?_,q z H S (Ext.refl sub) rz⟩ hs
    rw [Mv,← h2.length] at e1
    unfold atI; rw [e1]; exact hz
  | @lst a vs ts h1 h2 =>
    cases hu2 <;> first | exact jt hf | skip
    rename_i i
    obtain ⟨j,e1,e2⟩:=Option.bind_eq_some_iff.mp hf
    obtain ⟨z,hz,rz⟩:=h2.get e2
    refine Ug value slice pins s σ H _ _ v u Q I rx ry ⟨a,vs,i,z,rfl,rfl,j5 sub h1,?_,q z H S (Ext.refl sub) rz⟩ hs
    rw [Mv,← h2.length] at e1
    unfold atI; rw [e1]; exact hz
  | str z =>
    cases hu2 <;> first | exact jt hf | skip
    rename_i i
    obtain ⟨hl,hf⟩:=vp hf
    obtain ⟨j,e1,e2⟩:=Option.bind_eq_some_iff.mp hf
    obtain ⟨cc,e3,e4⟩:=Option.map_eq_some_iff.mp e2
    subst e4
    refine a9m value slice pins s σ H _ _ v u Q I rx ry ⟨z,i,cc,rfl,rfl,Nat.le_trans (Nat.le_of_lt hl) qp,?_,q _ H S (Ext.refl sub) (.str _)⟩ hs
    rw [Mv] at e1
    unfold atI; rw [e1]; exact e3
  | @dic a kvs ts h1 h2 =>
    obtain ⟨k,e1,e2⟩:=Option.bind_eq_some_iff.mp hf
    have ey:=Xe hu2 e1
    subst ey
    rcases h2.get k with ⟨z,t',a1,a2,a3⟩ | ⟨_,a2⟩
    · rw [e2] at a2; cases a2
      exact a7o hu value slice pins s σ H _ _ v u Q I rx ry ⟨a,z,rfl,.inl ⟨kvs,k,Ac sub h1,rfl,a1.symm⟩,q z H S (Ext.refl sub) a3⟩ hs
    · rw [e2] at a2; cases a2
  | _=>exact jt hf
theorem jk (hu:X.A.units+1<cLine) (ha:PE X a (tOf X.K B m1)) (hb:PE X b (tOf X.K B m2)) (hs:Ot b):PE X (.Subscript a b pos) (tOf X.K B (mOp d9 m1 m2)):=W4 (a74 (a2x hu) ha hb hs)
theorem Gq:V9 X (.builtin "len") Xp:=by
  intro pins s σ H xs us Q I rs z8
  obtain ⟨S,as,ts,w,sub,hr,hf,q⟩:=z8
  cases hr with
  | nil=>simp only [Xp,reduceCtorEq] at hf
  | @cons x t xs' ts' h1 h2 =>
    cases h2 with
    | cons h3 h4=>simp only [Xp,reduceCtorEq] at hf
    | nil =>
      cases h1 with
      | tup g1 g2=>simp only [Xp] at hf; cases hf; exact Bw pins s σ H _ us Q I rs ⟨_,_,rfl,.inr (mz sub g1),by rw [g2.length]; exact q _ H S (Ext.refl sub) (.int _)⟩
      | lst g1 g2=>simp only [Xp] at hf; cases hf; exact Bw pins s σ H _ us Q I rs ⟨_,_,rfl,.inl (j5 sub g1),by rw [g2.length]; exact q _ H S (Ext.refl sub) (.int _)⟩
      | str z =>
        simp only [Xp] at hf
        split at hf
        · rename_i hl; cases hf; exact Qv pins s σ H _ us Q I rs ⟨_,rfl,Nat.le_trans (Nat.le_of_lt hl) qp,q _ H S (Ext.refl sub) (.int _)⟩
        · cases hf
      | @dic a kvs ts g1 g2 =>
        simp only [Xp] at hf; cases hf
        obtain ⟨u,rfl,ru⟩:=rs.one
        cases ru
        exact aai I (Ac sub g1) fun t s' I'=>⟨.int kvs.length,H,I',⟨t,rfl⟩,by rw [g2.length]; exact q _ H S (Ext.refl sub) (.int _)⟩
      | _=>simp only [Xp,reduceCtorEq] at hf
theorem Gh:V9 X (.type "tuple") Dq:=by
  intro pins s σ H xs us Q I rs z8
  obtain ⟨S,as,ts,w,sub,hr,hf,q⟩:=z8
  cases hr with
  | nil=>simp only [Dq,reduceCtorEq] at hf
  | @cons x t xs' ts' h1 h2 =>
    cases h2 with
    | cons h3 h4=>simp only [Dq,reduceCtorEq] at hf
    | nil =>
      cases h1 with
      | @tup a vs ts g1 g2=>simp only [Dq] at hf; cases hf; exact Hu pins s σ H _ us Q I rs ⟨_,_,rfl,.inr ⟨mz sub g1,q _ H S (Ext.refl sub) (.tup g1 g2)⟩⟩
      | @lst a vs ts g1 g2 =>
        simp only [Dq] at hf; cases hf
        refine Hu pins s σ H _ us Q I rs ⟨_,_,rfl,.inl ⟨j5 sub g1,fun p hp=>?_⟩⟩
        have x:=Ext.laid sub hp (.tup vs)
        exact q _ _ _ x (.tup (SqT.of d7) (g2.mono x.s nol))
      | _=>simp only [Dq,reduceCtorEq] at hf
theorem Xr:V9 X (.type "list") Hv:=by
  intro pins s σ H xs us Q I rs z8
  obtain ⟨S,as,ts,w,sub,hr,hf,q⟩:=z8
  cases hr with
  | nil=>simp only [Hv,reduceCtorEq] at hf
  | @cons x t xs' ts' h1 h2 =>
    cases h2 with
    | cons h3 h4=>simp only [Hv,reduceCtorEq] at hf
    | nil =>
      cases h1 with
      | @tup a vs ts g1 g2 =>
        simp only [Hv] at hf; cases hf
        refine Eo pins s σ H _ us Q I rs ⟨_,_,rfl,.inr (mz sub g1),fun p hp=>?_⟩
        have x:=Ext.laid sub hp (.lst vs)
        exact q _ _ _ x (.lst (SqL.of d7) (g2.mono x.s nol))
      | @lst a vs ts g1 g2 =>
        simp only [Hv] at hf; cases hf
        refine Eo pins s σ H _ us Q I rs ⟨_,_,rfl,.inl (j5 sub g1),fun p hp=>?_⟩
        have x:=Ext.laid sub hp (.lst vs)
        exact q _ _ _ x (.lst (SqL.of d7) (g2.mono x.s nol))
      | _=>simp only [Hv,reduceCtorEq] at hf
theorem zy.put {K:PySem.W.Frag} {S:Hp} {as:List Addr} {k:L2.Key} {v:V} {t:T} (r:Rep K S as v t):∀ {vs:List (L2.Key × V)} {ts:List (L2.Key × T)},zy K S as vs ts→zy K S as (putK vs k v) (a0d k t ts):=by
  intro vs ts h
  have any:∀ {vs:List (L2.Key × V)} {ts:List (L2.Key × T)},zy K S as vs ts→(vs.any fun kv=>decide (kv.1=k))=(ts.any fun p=>decide (p.1=k)):=by
    intro vs ts h
    induction vs generalizing ts with
    | nil=>cases h; rfl
    | cons p r ih=>cases h with | cons h1 h2=>rw [List.any_cons,List.any_cons,ih h2]
  have mp:∀ {vs:List (L2.Key × V)} {ts:List (L2.Key × T)},zy K S as vs ts→zy K S as (vs.map fun kv=>if kv.1=k then (kv.1,v) else kv) (ts.map fun p=>if p.1=k then (p.1,t) else p):=by
    intro vs ts h
    induction vs generalizing ts with
    | nil=>cases h; exact .nil
    | cons p rr ih =>
      cases h with
      | @cons q v0 t0 _ _ h1 h2 =>
        rw [List.map_cons,List.map_cons]
        by_cases e:q=k
        · rw [if_pos e,if_pos e]; exact .cons r (ih h2)
        · rw [if_neg e,if_neg e]; exact .cons h1 (ih h2)
  have ap:∀ {vs:List (L2.Key × V)} {ts:List (L2.Key × T)},zy K S as vs ts→zy K S as (vs++[(k,v)]) (ts++[(k,t)]):=by
    intro vs ts h
    induction vs generalizing ts with
    | nil=>cases h; exact .cons r .nil
    | cons p rr ih=>cases h with | cons h1 h2=>exact .cons h1 (ih h2)
  unfold putK a0d
  rw [any h]
  split
  · exact mp h
  · exact ap h
end
end C
end
section
namespace C
open PySem PySem.Spec PyProof.Rows L2
theorem Qp {i:Nat} {k:M T} {s s':Sta} {t:T} (h:vq i k s=some (t,s')):Qo i s=true∧∃ kt kvs f q,k s=some (kt,s')∧s'.env[i]? = some (some (.dic kvs,f))∧keyOf kt=some q∧Hz q kvs=some t:=by
  unfold vq at h
  split at h
  · rename_i hd
    refine ⟨hd,?_⟩
    split at h
    · rename_i kt s2 e2
      split at h
      · rename_i kvs f e3
        split at h
        · rename_i t' e4
          cases h
          obtain ⟨q,e5,e6⟩:=Option.bind_eq_some_iff.mp e4
          exact ⟨kt,kvs,f,q,e2,e3,e5,e6⟩
        · cases h
      · cases h
    · cases h
  · cases h
theorem Ud {i:Nat} {s s':Sta} {t:T} (h:vh i s=some (t,s')):s'=s∧((∃ xs f,s.env[i]? = some (some (.lst xs,f))∧t=.int xs.length)∨(∃ xs f,s.env[i]? = some (some (.dic xs,f))∧t=.int xs.length)):=by
  unfold vh at h
  split at h
  · rename_i xs f e; cases h; exact ⟨rfl,.inl ⟨xs,f,e,rfl⟩⟩
  · rename_i xs f e; cases h; exact ⟨rfl,.inr ⟨xs,f,e,rfl⟩⟩
  · cases h
section
variable {K:PySem.W.Frag} {B:Bas} {st:Sta} {σ:L2.St} {H S:Hp} {ps:List (V × T)} {as:List Addr}
theorem Rel.dictAt (r:Rel K B st σ H ps S as) {i:Nat} {kvs:List (L2.Key × T)} {f:Bool} (e:st.env[i]? = some (some (.dic kvs,f))):∃ p vs,σ[i]? = some (some (.ref p))∧Rd H p (.dK vs)∧zy K S as vs kvs:=by
  obtain ⟨v,h1,h2,h3⟩:=r.slots i _ f e
  cases f with
  | false =>
    have h:=h2 rfl
    cases h with
    | dic a b=>exact ⟨_,_,h1,Ac r.sub a,b⟩
  | true =>
    obtain ⟨p,rfl,o⟩:=h3 rfl
    obtain ⟨vs,h,q⟩:=o.own
    exact ⟨p,vs,h1,.inl h,q⟩
end
section
variable {X:Cx} {B:Bas} {a b c e o k d:Expr} {m mo mk md mv:M T} {pos p:Pos}
theorem Qj {i:Nat} {s:Sta} (h:Qo i s=true):∃ kvs f,s.env[i]? = some (some (.dic kvs,f)):=by
  unfold Qo at h
  split at h
  · rename_i kvs f e; exact ⟨kvs,f,e⟩
  · cases h
theorem Bq {i:Nat} {s:Sta} (h:Cw i s=true):∃ kvs f,s.env[i]? = some (some (.lst kvs,f)):=by
  unfold Cw at h
  split at h
  · rename_i kvs f e; exact ⟨kvs,f,e⟩
  · cases h
theorem Nm (i:Nat) (hu:X.A.units+1<cLine) (ho:PE X o (Mq i)) (hk:PE X k (tOf X.K B mk)) (hs:aby k):PE X (.Subscript o k pos) (tOf X.K B (vq i mk)):=(a6l hu ho hk hs).imp fun σ H Q z9=>by
  obtain ⟨st,ps,S,as,R,t,st',e,q⟩:=z9
  obtain ⟨hd,kt,kvs,f,qk,e2,e3,e4,e5⟩:=Qp e
  obtain ⟨kvs0,f0,e0⟩:=Qj hd
  obtain ⟨p0,vs0,s0,_⟩:=R.dictAt e0
  refine ⟨_,s0,st,ps,S,as,R,kt,st',e2,fun u H2 S2 as2 R2=>?_⟩
  obtain ⟨p1,vs1,s1,rd1,h4⟩:=R2.dictAt e3
  rw [s0] at s1; cases s1
  have ey:=Xe R2.top e4
  subst ey
  rcases h4.get qk with ⟨z,t',a1,a2,a3⟩ | ⟨_,a2⟩
  · rw [e5] at a2; cases a2
    exact ⟨p0,z,rfl,.inl ⟨vs1,qk,rd1,rfl,a1.symm⟩,q z H2 S2 as2 (R2.drop.push a3)⟩
  · rw [e5] at a2; cases a2
theorem a1k (i:Nat) {pos':Pos} (hu:X.A.units+1<cLine) (ho:PE X o (Mq i)) (hk:PE X k (tOf X.K B mk)) (hv:PE X e (tOf X.K B mv)) (hs:swapsWith e (some (.Subscript o k pos')) pos.line X.env=pure false) :
    PS X (.Assign [.Subscript o k pos'] e pos) (sOf X.K B (Lh i mk mv)):=(a6v hu ho hk hv hs).imp fun D σ H z9=>by
  obtain ⟨st,ps,S,as,R,fl,st',e,q⟩:=z9
  obtain ⟨t,s1,kt,s2,kvs,qk,e1,hd,e3,e4,e5,hl,rfl,rfl⟩:=Ux e
  obtain ⟨kvs0,f0,e0⟩:=Qj hd
  refine ⟨st,ps,S,as,R,t,s1,e1,fun v H1 S1 as1 R1=>?_⟩
  obtain ⟨p0,vs0,s0,rd0,_⟩:=R1.dictAt e0
  refine ⟨_,s0,s1,_,S1,as1,R1,kt,s2,e3,fun y H3 S3 as3 R3=>?_⟩
  obtain ⟨w,h1,_,h3⟩:=R3.slots i _ true e4
  rw [s0] at h1; cases h1
  obtain ⟨p',ep,ow⟩:=h3 rfl
  cases ep
  obtain ⟨vs,hH,h4⟩:=ow.own
  have ey:=Xe R3.top e5
  subst ey
  exact ⟨p0,_,rfl,a8e.k hH (by rw [h4.length]; exact Nat.lt_of_lt_of_le hl qp),q _ _ S3 as3 (R3.drop.drop.turn e4 s0 ⟨_,d7,h4.put R3.top2⟩)⟩
end
end C
end
section
namespace C
open PySem PySem.Spec PyProof.Rows L2
theorem gk {ms:M (List T)} {n:Nat} (h:∀ st ts st',ms st=some (ts,st')→ts.length≤n) (hn:n≤1000):∀ st ts st',ms st=some (ts,st')→ts.length≤1000:=fun st ts st' e=>Nat.le_trans (h st ts st' e) hn
theorem v8 {m:M T}:∀ st ts st',Ab m st=some (ts,st')→ts.length≤sizeLine:=fun st ts st' e=>by
  unfold Ab at e
  split at e
  · split at e
    · rename_i h; cases e; exact Nat.le_trans (Nat.le_of_lt h) qp
    · cases e
  · split at e
    · rename_i h; cases e; exact Nat.le_trans (Nat.le_of_lt h) qp
    · cases e
  · cases e
theorem Jp {m:M T}:∀ st ts st',Bs m st=some (ts,st')→ts.length≤sizeLine:=fun st ts st' e=>by
  obtain ⟨n,_,h,rfl⟩:=Np e
  unfold rangeT
  rw [List.length_map,List.length_range]
  refine Nat.le_trans ?_ qp
  show n.toNat≤1000000
  omega
def dz (P:Program) (w:World) (K:PySem.W.Frag) (mg:Str→Option Value) (base:Heap) (x:Str) (k:Nat) (ps:List Str) (F:Fn):Prop :=
  ∃ f fd,Bf P w K mg base CX0 k f fd ps (spF K ps.length F)∧Binds K fd ps []∧PySem.W.keepIn K (.ref f)=true∧mg x=some (.ref f)
theorem dz.mono {P:Program} {w:World} {K:PySem.W.Frag} {mg:Str→Option Value} {base:Heap} {x:Str} {j k:Nat} {ps:List Str} {F:Fn} (d:dz P w K mg base x j ps F) (h:j≤k):dz P w K mg base x k ps F:=by
  obtain ⟨f,fd,h1,h2⟩:=d
  exact ⟨f,fd,h1.mono h,h2⟩
section
variable {X:Cx} {B:Bas} {a b c e o k:Expr} {m m1 m2:M T} {pos p:Pos} {es:List Expr} {ms:M (List T)} {F:Fn} {x:Str} {n:Nat} {pn:List Str}
theorem cu (D:dz X.prog X.w X.K X.mg X.base x n pn F) (hr:Kv n X.A) (hg:Gl X x)
    (ha:PA X (e::es) (aOf X.K B ms)) (hl:∀ st ts st',ms st=some (ts,st')→ts.length=pn.length) (hdb:(x==("__debug__" : Str))=false:=by decide)
    (he:starEach (e::es) X.env=(false,eval e X.env)::starEach es X.env:=by rfl) (hpl:(backTo pos (starEach es X.env)).any (·.1)=false:=by rfl) :
    PE X (.Call (.Name x p) (e::es) [] pos) (tOf X.K B (fu F ms)):=by
  obtain ⟨f,fd,h1,h2,h3,h4⟩:=D
  exact a8b h1 hr hg h4 h3 h2 ha hl hdb he hpl
theorem Ds (h:PA X es (aOf X.K B ms)) (hm:∀ st ts st',ms st=some (ts,st')→ts.length≤1000):PE X (.List es pos) (fOf X.K B (nu (fun l=>some (.lst l)) ms)) :=
  (Ww h).imp fun σ H Q z9=>by
    obtain ⟨st,ps,S,as,R,t,st',e,q⟩:=z9
    obtain ⟨ts,e1,e2⟩:=Di e
    cases e2
    refine ⟨st,ps,S,as,R,ts,st',e1,fun vs H1 S1 as1 R1 rs=>⟨?_,fun p hp=>?_⟩⟩
    · rw [rs.length]; exact Nat.le_of_lt (Hr (hm _ _ _ e1))
    · obtain ⟨bD,sD,nD,no⟩:=R1.fresh hp
      exact q p _ S1 as1 (R1.a85 bD sD nD no) ⟨⟨vs,d7,rs⟩,sD,nD,bD⟩ no
theorem Zb:PE X (.Dict [] [] pos) (fOf X.K B (aq (.dic []))):=a3k.imp fun σ H Q z9=>by
  obtain ⟨st,ps,S,as,R,t,st',e,q⟩:=z9
  cases e
  intro p hp
  obtain ⟨bD,sD,nD,no⟩:=R.fresh hp
  exact q p _ S as (R.a85 bD sD nD no) ⟨⟨[],d7,.nil⟩,sD,nD,bD⟩ no
theorem Rel.listAt {K:PySem.W.Frag} {B:Bas} {st:Sta} {σ:L2.St} {H S:Hp} {ps:List (V × T)} {as:List Addr} (r:Rel K B st σ H ps S as) {i:Nat} {xs:List T} {f:Bool} (e:st.env[i]? = some (some (.lst xs,f))):∃ p vs,σ[i]? = some (some (.ref p))∧SqL K H p vs∧qu K S as vs xs:=by
  obtain ⟨v,h1,h2,h3⟩:=r.slots i _ f e
  cases f with
  | false =>
    have h:=h2 rfl
    cases h with
    | lst a b=>exact ⟨_,_,h1,j5 r.sub a,b⟩
  | true =>
    obtain ⟨p,rfl,o⟩:=h3 rfl
    obtain ⟨vs,h,q⟩:=o.own
    exact ⟨p,vs,h1,SqL.of h,q⟩
theorem Aq (i:Nat) {st:Stmt} (h:PS X st (Rc (tBM X.K "list" Io (Mq i) (Ii (tOf X.K B m) Xm)))):PS X st (sOf X.K B (xg i m)):=h.imp fun D σ H z9=>by
  obtain ⟨st,ps,S,as,R,fl,st',e,q⟩:=z9
  obtain ⟨hd,t,s1,xs,e1,e2,hl,rfl,rfl⟩:=Uh e
  obtain ⟨xs0,f0,e0⟩:=Bq hd
  obtain ⟨p0,vs0,s0,q0,_⟩:=R.listAt e0
  refine ⟨_,s0,.inl ⟨rfl,_,q0⟩,st,ps,S,as,R,t,s1,e1,fun v H1 S1 as1 R1=>?_⟩
  obtain ⟨w,h1,_,h3⟩:=R1.slots i _ true e2
  rw [s0] at h1; cases h1
  obtain ⟨p',ep,ow⟩:=h3 rfl
  cases ep
  obtain ⟨vs,hH,h4⟩:=ow.own
  exact ⟨p0,vs,v,rfl,rfl,hH,by rw [h4.length]; exact Nat.lt_of_lt_of_le hl qp,q _ _ S1 as1 (R1.drop.turn e2 s0 ⟨_,d7,h4.append (.cons R1.top .nil)⟩)⟩
end
end C
end
section
namespace C
open PySem PySem.Spec PyProof.Rows L2
section
variable {X:Cx} {B:Bas} {a b c e o k:Expr} {m m1 m2:M T} {pos p:Pos}
theorem Rv {K:PySem.W.Frag} {S:Hp} {as:List Addr}:∀ {vs:List V} {ts:List T} {l:List Int},qu K S as vs ts→Yd ts=some l→vs=l.map V.int
  | _,[],l,h0,h=>by cases h0; cases h; rfl
  | _,_::_,l,h0,h=>by
    cases h0 with | cons h1 h2=>?_
    cases h1 <;> first | exact jt h | skip
    obtain ⟨l',e1,e2⟩:=Option.map_eq_some_iff.mp h
    subst e2
    rw [Rv h2 e1]; rfl
theorem Ie {K:PySem.W.Frag} {S:Hp} {as:List Addr}:∀ {vs:List V} {ts:List T} {l:List Bool},qu K S as vs ts→Hq ts=some l→vs=l.map V.bl
  | _,_,l,.nil,h=>by cases h; rfl
  | _,_,l,.cons (t:=t) h1 h2,h=>by
    cases h1 <;> first | exact jt h | skip
    obtain ⟨l',e1,e2⟩:=Option.map_eq_some_iff.mp h
    subst e2
    rw [Ie h2 e1]; rfl
theorem Lg {K:PySem.W.Frag} {S:Hp} {as:List Addr}:∀ {vs:List V} {ts:List T} {l:List Str},qu K S as vs ts→Jl ts=some l→vs=l.map V.str
  | _,_,l,.nil,h=>by cases h; rfl
  | _,_,l,.cons (t:=t) h1 h2,h=>by
    cases h1 <;> first | exact jt h | skip
    obtain ⟨l',e1,e2⟩:=Option.map_eq_some_iff.mp h
    subst e2
    rw [Lg h2 e1]; rfl
theorem Rq {l:List Bool} {us:List Value} (r:Vals (l.map V.bl) us) {i:Nat} {v:Value} (h:us.toArray[i]? = some v):v=.bool (l.getD i true):=by
  rw [List.getElem?_toArray] at h
  have hi:i<(l.map V.bl).length:=by rw [r.length]; exact (List.getElem?_eq_some_iff.mp h).1
  rw [List.length_map] at hi
  have e:(l.map V.bl)[i]? = some (.bl l[i]):=by rw [List.getElem?_map,List.getElem?_eq_getElem hi]; rfl
  obtain ⟨u,h1,h2⟩:=r.get e
  rw [h] at h1; cases h1
  rw [h2,List.getD_eq_getElem?_getD,List.getElem?_eq_getElem hi]; rfl
theorem Inv.Cw {pins:List (Addr × Obj)} {σ:L2.St} {H:Hp} {s:Shared} {a:Addr} {xs:List V} (I:L2.Inv X pins σ H s) (h:SqL X.K H a xs):a<s.heap.objs.size:=by
  obtain ⟨its,_,⟨o,n,h1,_⟩,_⟩:=I.list h
  exact Heap.lt_size h1
theorem all_range (l:List Bool) (d:Bool):((List.range l.length).all fun i=>l.getD i d)=l.all id:=by
  induction l with
  | nil=>rfl
  | cons x r ih =>
    rw [List.length_cons,List.range_succ_eq_map,List.all_cons,List.all_map,List.all_cons,← ih]
    rfl
theorem any_range (l:List Bool) (d:Bool):((List.range l.length).any fun i=>l.getD i d)=l.any id:=by
  induction l with
  | nil=>rfl
  | cons x r ih =>
    rw [List.length_cons,List.range_succ_eq_map,List.any_cons,List.any_map,List.any_cons,← ih]
    rfl
theorem a01 (hc:X.calm=true):V9 X (.builtin "all") abu:=by
  intro pins s σ H xs us Q I rs z8
  obtain ⟨S,as,ts,w,sub,hr,hf,q⟩:=z8
  cases hr with
  | nil=>exact jt hf
  | @cons x t xs' ts' h1 h2 =>
    cases h2 with
    | cons h3 h4=>cases h1 <;> exact jt hf
    | nil =>
      cases h1 with
      | @lst a vs ts g1 g2 =>
        obtain ⟨l,e1,e2⟩:=Option.map_eq_some_iff.mp hf
        subst e2
        have ev:=Ie g2 e1
        subst ev
        obtain ⟨u,rfl,ru⟩:=rs.one
        cases ru
        obtain ⟨its,r,p,hz⟩:=I.list (j5 sub g1)
        have hlt:=Inv.Cw I (j5 sub g1)
        refine call_all_walk (wpAny_pyIter_list p.isList ?_)
        refine ⟨_,_,_,_,_,_,fun i=>l.getD i true,rfl,Walks.list (A:=X.A.in1) (show X.A.in1.handled=none from I.ok.hd hc) s.heap.objs.size a (Nat.ne_of_lt hlt) its.toArray,And.intro ⟨_,Heap.get?_push_size _ rfl,rfl,rfl⟩ (PlainL.keeps p fun b o e=>Heap.get?_push_of_some _ e).isList,fun i v s Q E hv hq=>?_,fun h' tk hk=>?_⟩
        · have e:=Rq r hv
          subst e
          exact wpAny_truthy_bool hq
        · have hl:its.toArray.size=l.length:=by rw [List.size_toArray,← r.length,List.length_map]
          rw [hl,all_range]
          exact ⟨.bl (l.all id),H,I.kept (h':=h') (t':=tk) fun b u e=>hk b u (by simp; exact Nat.ne_of_lt (Heap.lt_size e)) (Heap.get?_push_of_some _ e),rfl,q _ H S (Ext.refl sub) (.bl _)⟩
      | _=>exact jt hf
theorem a1v (hc:X.calm=true):V9 X (.builtin "any") acd:=by
  intro pins s σ H xs us Q I rs z8
  obtain ⟨S,as,ts,w,sub,hr,hf,q⟩:=z8
  cases hr with
  | nil=>exact jt hf
  | @cons x t xs' ts' h1 h2 =>
    cases h2 with
    | cons h3 h4=>cases h1 <;> exact jt hf
    | nil =>
      cases h1 with
      | @lst a vs ts g1 g2 =>
        obtain ⟨l,e1,e2⟩:=Option.map_eq_some_iff.mp hf
        subst e2
        have ev:=Ie g2 e1
        subst ev
        obtain ⟨u,rfl,ru⟩:=rs.one
        cases ru
        obtain ⟨its,r,p,hz⟩:=I.list (j5 sub g1)
        have hlt:=Inv.Cw I (j5 sub g1)
        refine call_any_walk (wpAny_pyIter_list p.isList ?_)
        refine ⟨_,_,_,_,_,_,fun i=>l.getD i true,rfl,Walks.list (A:=X.A.in1) (show X.A.in1.handled=none from I.ok.hd hc) s.heap.objs.size a (Nat.ne_of_lt hlt) its.toArray,And.intro ⟨_,Heap.get?_push_size _ rfl,rfl,rfl⟩ (PlainL.keeps p fun b o e=>Heap.get?_push_of_some _ e).isList,fun i v s Q E hv hq=>?_,fun h' tk hk=>?_⟩
        · have e:=Rq r hv
          subst e
          exact wpAny_truthy_bool hq
        · have hl:its.toArray.size=l.length:=by rw [List.size_toArray,← r.length,List.length_map]
          rw [hl,any_range]
          exact ⟨.bl (l.any id),H,I.kept (h':=h') (t':=tk) fun b u e=>hk b u (by simp; exact Nat.ne_of_lt (Heap.lt_size e)) (Heap.get?_push_of_some _ e),rfl,q _ H S (Ext.refl sub) (.bl _)⟩
      | _=>exact jt hf
theorem Ih:∀ {l:List Str} {us:List Value},Vals (l.map V.str) us→StrsAre us l
  | [],_,r=>by cases r; exact .nil
  | x::l,_,r=>by
    rw [List.map_cons] at r
    cases r with
    | cons r1 r2=>obtain ⟨t,rfl⟩:=r1; exact .cons x t (Ih r2)
theorem K6 {l:List Str} {us:List Value} (h:StrsAre us l):Vals (l.map V.str) us:=by
  induction h with
  | nil=>exact .nil
  | cons x t _ ih=>exact .cons ⟨t,rfl⟩ ih
abbrev Fo (a b:Str):Prop:=¬ b.cps.toList<a.cps.toList
theorem Ly {a b c:Str} (h1:Fo a b) (h2:Fo b c):Fo a c:=fun h=>by
  have h3:a.cps.toList≤b.cps.toList:=List.not_lt.mp h1
  have h4:b.cps.toList≤c.cps.toList:=List.not_lt.mp h2
  exact List.not_lt.mpr (List.le_trans h3 h4) h
theorem Y6 {a b:Str} (h1:Fo a b) (h2:Fo b a):a=b:=by
  have h3:a.cps.toList≤b.cps.toList:=List.not_lt.mp h1
  have h4:b.cps.toList≤a.cps.toList:=List.not_lt.mp h2
  have h5:=List.le_antisymm h3 h4
  cases a; cases b
  simp at h5; subst h5; rfl
theorem Kg:∀ (p:Str) (l:List Str),risingS p l=true→(p::l).Pairwise Fo
  | p,[],_=>by simp
  | p,x::r,h=>by
    rw [risingS,Bool.and_eq_true] at h
    have ih:=Kg x r h.2
    have hx:Fo p x:=fun z=>by
      have:=h.1
      rw [ltCps_eq,decide_eq_true z] at this
      cases this
    refine List.pairwise_cons.mpr ⟨fun y hy=>?_,ih⟩
    rcases List.mem_cons.mp hy with rfl | hy -- here
    · exact hx
    · exact Ly hx (List.rel_of_pairwise_cons ih hy)
theorem Tz (l:List Str) (h:sortedS l=true):l.Pairwise Fo:=by
  cases l with
  | nil=>exact .nil
  | cons x r=>exact Kg x r h
theorem Kr (x:Str):∀ l,(M6 x l).Perm (x::l)
  | []=>.refl _
  | y::r=>by
    rw [M6]
    split
    · exact .refl _
    · exact ((Kr x r).cons y).trans (.swap x y r)
theorem Rm (x:Str):∀ l:List Str,l.Pairwise Fo→(M6 x l).Pairwise Fo
  | [],_=>by simp [M6]
  | y::r,h=>by
    rw [M6]
    split
    · rename_i hx
      have hx:=of_decide_eq_true hx
      have hxy:Fo x y:=fun z=>List.lt_irrefl _ (List.lt_trans hx z)
      refine List.pairwise_cons.mpr ⟨fun z hz=>?_,h⟩
      rcases List.mem_cons.mp hz with rfl | hz -- here
      · exact hxy
      · exact Ly hxy (List.rel_of_pairwise_cons h hz)
    · rename_i hx
      have hx:Fo y x:=fun z=>hx (decide_eq_true z)
      refine List.pairwise_cons.mpr ⟨fun z hz=>?_,Rm x r (List.pairwise_cons.mp h).2⟩
      rcases List.mem_cons.mp ((Kr x r).mem_iff.mp hz) with rfl | hz
      · exact hx
      · exact List.rel_of_pairwise_cons h hz
theorem Bl:∀ (l acc:List Str),acc.Pairwise Fo→(l.foldl (fun acc x=>M6 x acc) acc).Pairwise Fo∧(l.foldl (fun acc x=>M6 x acc) acc).Perm (l++acc)
  | [],acc,h=>⟨h,.refl _⟩
  | x::l,acc,h=>by
    obtain ⟨h1,h2⟩:=Bl l (M6 x acc) (Rm x acc h)
    exact ⟨h1,h2.trans (((Kr x acc).append_left l).trans (List.perm_middle))⟩
theorem Ye (l:List Str):(xu l).Pairwise Fo:=(Bl l [] .nil).1
theorem Er (l:List Str):(xu l).Perm l:=by
  have:=(Bl l [] .nil).2
  rwa [List.append_nil] at this
theorem Oc {l l':List Str} (h1:sortedS l'=true) (h2:l'.Perm l):l'=xu l :=
  List.Perm.eq_of_pairwise (le:=Fo) (fun _ _ _ _=>Y6) (Tz l' h1) (Ye l) (h2.trans (Er l).symm)
theorem Gw {K:PySem.W.Frag} {S:Hp} {as:List Addr}:∀ l:List Str,qu K S as (l.map V.str) (l.map T.str)
  | []=>.nil
  | x::l=>.cons (.str x) (Gw l)
theorem Xb {pins:List (Addr × Obj)} {σ:L2.St} {H S:Hp} {s:Shared} {as:List Addr} {a:Addr} {l:List Str} {Q:VK} (I:L2.Inv X pins σ H s) (sub:Same S H) (g1:SqL X.K H a (l.map V.str)) (h64:l.length<64)
    (q:∀ v H' S',Ext S H S' H'→Rep X.K S' as v (.lst ((xu l).map .str))→Q v H'):wpAny (model X.prog X.w) X.A (call (.builtin "sorted") [.ref a]) (EP X pins σ Q) X.xe s:=by
  obtain ⟨its,r,p,hz⟩:=I.list g1
  refine sorted_strs p.isList (Ih r) (by rw [← r.length,List.length_map]; exact h64) fun out ss' a1 a2 a3=>?_
  have es:=Oc a3 a2
  subst es
  obtain ⟨e,he⟩:=sortedAll_at s.heap its out
  have hl:(List.map V.str (xu l)).length≤sizeLine:=by
    rw [List.length_map,(Er l).length_eq]
    exact Nat.le_trans (Nat.le_of_lt h64) (by rw [sizeLine_eq]; decide)
  have hn:H (s.heap.objs.size+1)=none:=I.hok.fresh (Nat.le_succ _)
  have x:=Ext.laid sub hn (.lst ((xu l).map V.str))
  refine ⟨.ref (s.heap.objs.size+1),_,I.laid (a:=s.heap.objs.size+1) (o:=.lst ((xu l).map V.str)) (h':=sortedAll s.heap its out) (t':=s.toks) (fun _ _=>sortedAll_old) (Nat.le_succ _) ⟨hl,out.toList,e,K6 a1,he⟩,rfl,q _ _ _ x (.lst (SqL.of d7) (Gw _))⟩
theorem Oj:Du X (.builtin "sorted") (fun xs H Q=>∃ S as ts l,Same S H∧qu X.K S as xs [.lst ts]∧ts.length<64∧Jl ts=some l∧∀ v H' S',Ext S H S' H'→Rep X.K S' as v (.lst ((xu l).map .str))→Q v H'):=by
  intro pins s σ H xs us Q I rs z8
  obtain ⟨S,as,ts,l,sub,hr,h64,e1,q⟩:=z8
  cases hr with
  | cons h1 h2 =>
    cases h2
    cases h1 with
    | @lst a vs _ g1 g2 =>
      have ev:=Lg g2 e1
      subst ev
      obtain ⟨u,rfl,ru⟩:=rs.one
      cases ru
      have hl:=g2.length
      rw [List.length_map] at hl
      exact Xb I sub (j5 sub g1) (by (clear rs g2 g1 q e1 sub I; omega)) q
def tyOf:T→Option Value
  | .non=>some (.type "NoneType")
  | .bl _=>some (.type "bool")
  | .int _=>some (.type "int")
  | .str _=>some (.type "str")
  | .tup _=>some (.type "tuple")
  | .lst _=>some (.type "list")
  | .dic _=>some (.type "dict")
  | .obj _=>none
theorem a97 {pins:List (Addr × Obj)} {σ:L2.St} {H S:Hp} {s:Shared} {as:List Addr} {x:V} {u c:Value} {t:T} {ty:Value} {b:Bool} {Q:Value→Shared→Prop} {E:Value→Shared→Prop} (I:L2.Inv X pins σ H s) (sub:Same S H) (rx:RelV x u) (r:Rep X.K S as x t) (hty:tyOf t=some ty)
    (e:PySem.W.kitOne X.K ty c=some b) (h:∀ tk,Q (.bool b) { s with toks:=tk }):wpAny (model X.prog X.w) X.A (call (.builtin "isinstance") [u,c]) Q E s:=by
  cases r with
  | non=>cases hty; exact Hg I rx .non e h
  | bl y=>cases hty; exact Hg I rx (.bl y) e h
  | int y=>cases hty; exact Hg I rx (.int y) e h
  | str y=>cases hty; exact Hg I rx (.str y) e h
  | @tup a vs ts g1 g2 =>
    cases hty
    cases (show u=Value.ref a from rx)
    obtain ⟨its,_,⟨o,h1,h2,_⟩,_⟩:=I.tuple (mz sub g1)
    exact PySem.W.kia_one PySem.W.kitx_tuple I.kIn ⟨o,h1,h2⟩ e (fun z=>nomatch z) h
  | @lst a vs ts g1 g2 =>
    cases hty
    cases (show u=Value.ref a from rx)
    obtain ⟨its,_,⟨o,n,h1,h2,_⟩,_⟩:=I.list (j5 sub g1)
    exact PySem.W.kia_one PySem.W.kitx_list I.kIn ⟨o,h1,h2⟩ e (fun z=>nomatch z) h
  | @dic a kvs ts g1 g2 =>
    cases hty
    cases (show u=Value.ref a from rx)
    obtain ⟨_,_,vs,_,o,es,ep,h1,h2,_⟩:=Jm I.hok (Ac sub g1)
    exact PySem.W.kia_one PySem.W.kitx_dict I.kIn ⟨o,h1,h2.1⟩ e (fun z=>nomatch z) h
  | obj h=>cases hty
def a9d (f:Value→Bool):List T→Option T
  | [t]=>(tyOf t).map fun ty=>.bl (f ty)
  | _=>none
theorem a8y {cn:String} {f:Value→Bool} {pc:Pos} (hg:Gl X "isinstance") (hm:X.mg "isinstance" = none) (hg2:Gl X (Str.ofString cn)) (hm2:X.mg (Str.ofString cn)=none) (hv:bootBuiltins (Str.ofString cn)=some (.type cn))
    (hf:∀ t ty,tyOf t=some ty→PySem.W.kitOne X.K ty (.type cn)=some (f ty)) (ha:PE X a (tOf X.K B m)) (hd:((Str.ofString cn)==("__debug__" : Str))=false) (hn:(Str.ofString cn) ≠ "__name__")
    (he:starEach [a,.Name (Str.ofString cn) pc] X.env=(false,eval a X.env)::starEach [.Name (Str.ofString cn) pc] X.env:=by rfl) (he2:starEach [.Name (Str.ofString cn) pc] X.env=(false,eval (.Name (Str.ofString cn) pc) X.env)::starEach [] X.env:=by rfl)
    (hpl:(backTo pos (starEach [.Name (Str.ofString cn) pc] X.env)).any (·.1)=false:=by rfl) :
    PE X (.Call (.Name "isinstance" p) [a,.Name (Str.ofString cn) pc] [] pos) (tOf X.K B (nu (a9d f) (ao m g8))):=by
  have hc:Du X (.builtin "isinstance") (fun xs H Q=>∃ S as x t ty,xs=[x,.ty cn]∧Same S H∧Rep X.K S as x t∧tyOf t=some ty∧Q (.bl (f ty)) H):=by
    intro pins s σ H xs us Q I rs z8
    obtain ⟨S,as,x,t,ty,ex,sub,r,hty,q⟩:=z8
    subst ex
    obtain ⟨u,w,rfl,r1,r2⟩:=rs.two
    cases r2
    exact a97 I sub r1 r hty (hf t ty hty) fun tk=>⟨.bl (f ty),H,I.tok _,rfl,q⟩
  have hnm:PE X (.Name (Str.ofString cn) pc) (tC (.ty cn)):=a75 hg2 hm2 hv rfl hn hd
  refine (wz hc hg hm PyProof.Rows.boot_isinstance (jr ha (jr hnm qz he2) he) (by decide) (by decide) he hpl).imp fun σ H Q z0=>?_
  obtain ⟨st,ps,S,as,R,t,st',e,q⟩:=z0
  obtain ⟨ts,e1,e2⟩:=Di e
  obtain ⟨t1,s1,us,ea,en,rfl⟩:=Cz e1
  cases en
  simp only [a9d] at e2
  obtain ⟨ty,e3,e4⟩:=Option.map_eq_some_iff.mp e2
  subst e4
  exact ⟨st,ps,S,as,R,t1,_,ea,fun v H1 S1 as1 R1=>⟨S1,as1,v,t1,ty,rfl,R1.sub,R1.top,e3,q _ H1 S1 as1 (R1.drop.push (.bl _))⟩⟩
example (K:PySem.W.Frag):PySem.W.kitOne K (.type "bool") (.type "int")=some true:=by rfl
example (K:PySem.W.Frag):PySem.W.kitOne K (.type "str") (.type "int")=some false:=by rfl
end
end C
end
section
namespace C
open PySem PySem.Spec PyProof.Rows L2
theorem T3 (l b:Addr) (xs0 ys0:Array Value) (n n2:Nat) (dd2:Option Addr) (sl2:Array (Option Value)) (hs0:¬(!xs0.isEmpty&&Builtin.List.listTooLong (xs0.size+ys0.size))=true) (hs1:xs0.size≤sizeLine) (hs2:xs0.size+ys0.size≤sizeLine+1) :
    Meets (Builtin.«list.extend» ⟨[.ref l,.ref b],[]⟩) (fun _ R s=>s.heap.get? l=some { cls:=.type "list",dict:=none,data:=.seq xs0 n,slots:=#[] }∧s.heap.get? b=some { cls:=.type "list",dict:=dd2,data:=.seq ys0 n2,slots:=sl2 }∧R (.ok (.ret Value.none)) { s with heap:=s.heap.update l (Obj.mapSeq fun x=>x++ys0),toks:=s.toks }) :=
  .of_wp fun pr wd Ar R z h=>by
    obtain ⟨hp,gs,dr,tk,os⟩:=z; obtain ⟨hl,hb,h⟩:=h; have f1:=AutoSeq1.idx_int; have f2:=AutoSeq1.sub_tuple_tuple; have f3:=AutoSeq1.sub_list_list; have f4:=AutoSeq1.sub_tuple_list; have f5:=AutoSeq1.sub_list_tuple
    have hz':(xs0++ys0).size≤sizeLine+1:=by rw [Array.size_append]; exact hs2
    wp_walk using (wpAny_updateSeq hl rfl (hz:=hs1) (_hz':=hz')),AutoSeq1.wpAny_loadPart' hl,AutoSeq1.wpAny_loadPart' hb; exact ⟨_,rfl,h⟩
theorem Q0 (l b:Addr) (xs0 ys0:Array Value) (n n2:Nat) (dd2:Option Addr) (sl2:Array (Option Value)) (hs0:¬(!xs0.isEmpty&&Builtin.List.listTooLong (xs0.size+ys0.size))=true) (hs1:xs0.size≤sizeLine) (hs2:xs0.size+ys0.size≤sizeLine+1) :
    Meets (Builtin.«list.extend» ⟨[.ref l,.ref b],[]⟩) (fun _ R s=>s.heap.get? l=some { cls:=.type "list",dict:=none,data:=.seq xs0 n,slots:=#[] }∧s.heap.get? b=some { cls:=.type "tuple",dict:=dd2,data:=.seq ys0 n2,slots:=sl2 }∧R (.ok (.ret Value.none)) { s with heap:=s.heap.update l (Obj.mapSeq fun x=>x++ys0),toks:=s.toks }) :=
  .of_wp fun pr wd Ar R z h=>by
    obtain ⟨hp,gs,dr,tk,os⟩:=z; obtain ⟨hl,hb,h⟩:=h; have f1:=AutoSeq1.idx_int; have f2:=AutoSeq1.sub_tuple_tuple; have f3:=AutoSeq1.sub_list_list; have f4:=AutoSeq1.sub_tuple_list; have f5:=AutoSeq1.sub_list_tuple
    have hz':(xs0++ys0).size≤sizeLine+1:=by rw [Array.size_append]; exact hs2
    wp_walk using (wpAny_updateSeq hl rfl (hz:=hs1) (_hz':=hz')),AutoSeq1.wpAny_loadPart' hl,AutoSeq1.wpAny_loadPart' hb; exact ⟨_,rfl,h⟩
section
variable {X:Cx} {B:Bas} {m:M T}
def Vu (K:PySem.W.Frag):V→List V→Hp→VK→Prop:=fun x vs H Q=>∃ l b xs zs,x=.ref l∧vs=[.ref b]∧H l=some (.lst xs)∧(SqL K H b zs∨SqT K H b zs)∧xs.length+zs.length≤sizeLine∧Q .non (upd H l (.lst (xs++zs)))
theorem Cv:MtM X "list.extend" (Vu X.K):=by
  intro pins s σ H x vs v us Q I rx rv h
  obtain ⟨l,b,xs,zs,rfl,rfl,hH,hB,hz,q⟩:=h
  cases rx
  obtain ⟨u,rfl,ru⟩:=rv.one
  cases ru
  obtain ⟨z,its,n,r,hl,e⟩:=I.aaw hH
  have fin:∀ its2:List Value,Vals zs its2→L2.Inv X pins σ (upd H l (.lst (xs++zs))) { s with heap:=s.heap.update l (Obj.mapSeq fun x=>x++its2.toArray),toks:=s.toks }:=fun its2 r2 =>
    I.aaz (its':=its++its2) hH e (by simp) (r.append r2) (by rw [List.length_append]; exact hz)
  have hlong:∀ its2:List Value,Vals zs its2→¬ (!its.toArray.isEmpty&&Builtin.List.listTooLong (its.toArray.size+its2.toArray.size))=true:=fun its2 r2=>by
    have hsz:its.toArray.size+its2.toArray.size≤sizeLine:=by rw [List.size_toArray,List.size_toArray,← hl,← r2.length]; exact hz
    rw [a4x hsz,Bool.and_false]
    exact Bool.false_ne_true
  rcases hB with hB | hB
  · obtain ⟨its2,r2,⟨⟨cls2,dd2,data2,sl2⟩,n2,ho2,hc2,hd02,hd2⟩,_⟩:=I.list hB
    simp only at hc2 hd2
    subst hc2 hd2
    refine call_meets F.slot_list_extend ⟨_,e,rfl⟩ F.entry_list_extend (F.args_list_extend_2 _ _)
      (T3 l b its.toArray its2.toArray n n2 dd2 sl2 (hlong its2 r2) (by rw [List.size_toArray,← hl]; (clear hd02 ho2 r2 hB hlong fin e hl r rv q hz hH I; omega)) (by rw [List.size_toArray,List.size_toArray,← hl,← r2.length]; (clear hd02 ho2 r2 hB hlong fin e hl r z rv q hH I; omega))) ⟨e,ho2,?_⟩
    exact ⟨.non,_,fin its2 r2,rfl,q⟩
  · obtain ⟨its2,r2,⟨⟨cls2,dd2,data2,sl2⟩,ho2,hc2,n2,hd2⟩,_⟩:=I.tuple hB
    simp only at hc2 hd2
    subst hc2 hd2
    refine call_meets F.slot_list_extend ⟨_,e,rfl⟩ F.entry_list_extend (F.args_list_extend_2 _ _)
      (Q0 l b its.toArray its2.toArray n n2 dd2 sl2 (hlong its2 r2) (by rw [List.size_toArray,← hl]; (clear ho2 r2 hB hlong fin e hl r rv q hz hH I; omega)) (by rw [List.size_toArray,List.size_toArray,← hl,← r2.length]; (clear ho2 r2 hB hlong fin e hl r z rv q hH I; omega))) ⟨e,ho2,?_⟩
    exact ⟨.non,_,fin its2 r2,rfl,q⟩
theorem Ei (i:Nat) {st:Stmt} (h:PS X st (Rc (tBM X.K "list" (Vu X.K) (Mq i) (Ii (tOf X.K B m) Xm)))):PS X st (sOf X.K B (Ai i m)):=h.imp fun D σ H z9=>by
  obtain ⟨st,ps,S,as,R,fl,st',e,q⟩:=z9
  obtain ⟨hd,t,s1,xs,ys,e1,ey,e2,hl,rfl,rfl⟩:=Uw e
  obtain ⟨xs0,f0,e0⟩:=Bq hd
  obtain ⟨p0,vs0,s0,q0,_⟩:=R.listAt e0
  refine ⟨_,s0,.inl ⟨rfl,_,q0⟩,st,ps,S,as,R,t,s1,e1,fun v H1 S1 as1 R1=>?_⟩
  obtain ⟨w,h1,_,h3⟩:=R1.slots i _ true e2
  rw [s0] at h1; cases h1
  obtain ⟨p',ep,ow⟩:=h3 rfl
  cases ep
  obtain ⟨vs,hH,h4⟩:=ow.own
  have top:=R1.top
  cases top with
  | @tup b zs _ g1 g2 =>
    cases ey
    exact ⟨p0,b,vs,zs,rfl,rfl,hH,.inr (mz R1.sub g1),by rw [h4.length,g2.length]; exact Nat.le_trans (Nat.le_of_lt hl) qp,q _ _ S1 as1 (R1.drop.turn e2 s0 ⟨_,d7,h4.append g2⟩)⟩
  | @lst b zs _ g1 g2 =>
    cases ey
    exact ⟨p0,b,vs,zs,rfl,rfl,hH,.inl (j5 R1.sub g1),by rw [h4.length,g2.length]; exact Nat.le_trans (Nat.le_of_lt hl) qp,q _ _ S1 as1 (R1.drop.turn e2 s0 ⟨_,d7,h4.append g2⟩)⟩
  | _=>exact jt ey
end
end C
end
section
namespace C
open PySem PySem.Spec PyProof.Rows L2
theorem Rel.newObj {K:PySem.W.Frag} {B:Bas} {st:Sta} {σ:L2.St} {H S:Hp} {ps:List (V × T)} {as:List Addr} {p:Addr} {ob:HO} {so:SO} (r:Rel K B st σ H ps S as) (hp:H p=none) (h:Wd K S (as++[p]) (upd H p ob) p so) :
    Rel K B { st with sto:=st.sto++[so] } σ (upd H p ob) ((.ref p,.obj st.sto.length)::ps) S (as++[p]):=by
  obtain ⟨bD,sD,nD,no⟩:=r.fresh hp
  have mo:∃ l,as++[p]=as++l:=⟨[p],rfl⟩
  have other:∀ q,q≠p→H q=upd H p ob q:=fun q n=>(dj n).symm
  refine Rel.push (st:={ st with sto:=st.sto++[so] }) (H:=upd H p ob) (v:=.ref p) (t:=.obj st.sto.length) ⟨fun b u e=>?_,⟨r.grow.same,?_,fun q o a b c=>?_⟩,fun i t f e=>?_,r.apart,⟨?_,?_,fun n so2 e=>?_⟩,fun q hq=>(r.pend q hq).mono (Same.refl _) mo,r.len⟩ (.obj ?_)
  · rw [dj (fun z=>by subst z; rw [sD] at e; cases e)]; exact r.sub _ _ e
  · obtain ⟨l,e⟩:=r.grow.more
    exact ⟨l++[p],by rw [e,List.append_assoc]⟩
  · obtain ⟨x,y,z⟩:=r.grow.keep q o a b c
    have n:q≠p:=fun w=>by subst w; rw [bD] at a; cases a
    refine ⟨by rw [dj n]; exact x,y,fun m=>?_⟩
    rcases List.mem_append.mp m with m | m
    · exact z m
    · exact n (List.mem_singleton.mp m)
  · obtain ⟨v,h1,h2,h3⟩:=r.slots i t f e
    refine ⟨v,h1,fun z=>(h2 z).mono (Same.refl _) mo,fun z=>?_⟩
    obtain ⟨q,rfl,o⟩:=h3 z
    have n:q≠p:=fun w=>by subst w; subst z; exact no i t e h1
    refine ⟨q,rfl,o.own.more (Same.refl _) mo (other q n),o.out,fun m=>?_,o.new⟩
    rcases List.mem_append.mp m with m | m
    · exact o.nas m
    · exact n (List.mem_singleton.mp m)
  · show (as++[p]).length=(st.sto++[so]).length
    rw [List.length_append,List.length_append,r.sto.len]; rfl
  · refine List.nodup_append.mpr ⟨r.sto.nd,by simp,fun a ha b hb=>?_⟩
    rw [List.mem_singleton.mp hb]
    intro z; subst z; exact nD ha
  · have e:(st.sto++[so])[n]? = some so2:=e
    by_cases hn:n<st.sto.length
    · rw [List.getElem?_append_left hn] at e
      obtain ⟨a,h1,h2,h3⟩:=r.sto.at' n so2 e
      have na:a≠p:=fun z=>by subst z; exact nD (List.mem_of_getElem? h1)
      refine ⟨a,a0x h1,h2,?_⟩
      cases so2 with
      | dic ts=>obtain ⟨vs,x,y⟩:=h3; exact ⟨vs,by rw [dj na]; exact x,y.mono (Same.refl _) mo⟩
      | lst ts=>obtain ⟨vs,x,y⟩:=h3; exact ⟨vs,by rw [dj na]; exact x,y.mono (Same.refl _) mo⟩
      | dit ts=>obtain ⟨vs,x,y⟩:=h3; exact ⟨vs,by rw [dj na]; exact x,y.mono (Same.refl _) mo⟩
      | exc C f t=>obtain ⟨dx,v,x,g,y⟩:=h3; exact ⟨dx,v,by rw [dj na]; exact x,g,y.mono (Same.refl _) mo⟩
      | fdc ts=>obtain ⟨vs,x,y⟩:=h3; exact ⟨vs,by rw [dj na]; exact x,y.mono (Same.refl _) mo⟩
    · rw [List.getElem?_append_right (Nat.le_of_not_lt hn)] at e
      have hn0:n - st.sto.length=0:=by
        have:=(List.getElem?_eq_some_iff.mp e).1
        simp at this; omega
      rw [hn0] at e; cases e
      have hne:n=as.length:=by rw [r.sto.len]; omega
      subst hne
      exact ⟨p,by rw [List.getElem?_append_right (Nat.le_refl _),Nat.sub_self]; rfl,sD,h⟩
  · rw [← r.sto.len,List.getElem?_append_right (Nat.le_refl _),Nat.sub_self]; rfl
def PN (X:Cx) (e:Expr) (N:L2.St→V→Prop):Prop:=PE X e (fun σ H Q=>∃ v,N σ v∧Q v H)
def MN (K:PySem.W.Frag) (m:M T) (N:L2.St→V→Prop):Prop:=∀ (B:Bas) (st:Sta) (σ:L2.St) (H:Hp) (ps:List (V × T)) (S:Hp) (as:List Addr) (t:T) (st':Sta),Rel K B st σ H ps S as→m st=some (t,st')→st'=st∧∃ v,N σ v∧Rep K S as v t
structure PM (X:Cx) (e:Expr) (m:M T) (N:L2.St→V→Prop):Prop where
  p:PN X e N
  m:MN X.K m N
section
variable {X:Cx} {B:Bas} {a b e e1 e2:Expr} {m m1 m2:M T} {N N1 N2:L2.St→V→Prop} {pos p:Pos}
end
end C
end
section
namespace C
open PySem PySem.Spec PyProof.Rows L2
inductive a3n:List Expr→List Str→Prop where
  | nil:a3n [] []
  | cons {x:Str} {k:Nat} {q:Pos} {es:List Expr} {xs:List Str}:a3n es xs→a3n (.Constant (.str x) k q::es) (x::xs)
theorem a0p {X:Cx} {B:Bas}:∀ {es:List Expr} {xs:List Str},a3n es xs→PA X es (aOf X.K B (a2t xs))
  | _,_,.nil=>c7
  | _,_,.cons h=>aj m7 (a0p h)
theorem len_strs:∀ (xs:List Str) (st:Sta) (ts:List T) (st':Sta),a2t xs st=some (ts,st')→ts.length≤xs.length
  | [],st,ts,st',e=>d8 st ts st' e
  | _::xs,st,ts,st',e=>bh (len_strs xs) st ts st' e
section
variable {X:Cx} {B:Bas} {a b c e o k:Expr} {m m1 m2:M T} {pos p p2:Pos}
theorem a3h (l:List T):Sy l=a9d (fun ty=>ty == .type "list") l :=
  match l with
  | []=>rfl
  | [t]=>T.casesOn (motive_1:=fun t=>Sy [t]=a9d (fun ty=>ty == .type "list") [t]) t rfl (fun _=>rfl) (fun _=>rfl) (fun _=>rfl) (fun _=>rfl) (fun _=>rfl) (fun _=>rfl) fun _=>rfl
  | x::y::r=>T.casesOn (motive_1:=fun t=>Sy (t::y::r)=a9d (fun ty=>ty == .type "list") (t::y::r)) x rfl (fun _=>rfl) (fun _=>rfl) (fun _=>rfl) (fun _=>rfl) (fun _=>rfl) (fun _=>rfl) fun _=>rfl
theorem Tp {pc:Pos} (hg:Gl X "isinstance") (hm:X.mg "isinstance" = none) (hg2:Gl X "list") (hm2:X.mg "list" = none) (ha:PE X a (tOf X.K B m)) (he:starEach [a,.Name "list" pc] X.env=(false,eval a X.env)::starEach [.Name "list" pc] X.env:=by rfl) :
    PE X (.Call (.Name "isinstance" p) [a,.Name "list" pc] [] pos) (tOf X.K B (nu Sy (ao m g8))):=by
  rw [show Sy=_ from funext a3h]
  exact a8y (cn := "list") hg hm hg2 hm2 boot_list (fun t ty h=>by cases t <;> cases h <;> rfl) ha (by decide) (by decide) he
theorem Lb (i:Nat) (hm:X.mg "len" = none) {es:Expr} (hg:Gl X "len") (h:PE X es (Mq i)) (he:starEach [es] X.env=(false,eval es X.env)::starEach [] X.env:=by rfl) (hpl:(backTo pos (starEach [] X.env)).any (·.1)=false:=by rfl) :
    PE X (.Call (.Name "len" p) [es] [] pos) (tOf X.K B (vh i)):=by
  have hc:Du X (.builtin "len") (fun xs H Q=>∃ q,xs=[.ref q]∧((∃ ys,SqL X.K H q ys∧Q (.int ys.length) H)∨(∃ kvs,Rd H q (.dK kvs)∧Q (.int kvs.length) H))):=by
    intro pins s σ H xs us Q I rs z8
    obtain ⟨q,ex,h⟩:=z8
    rcases h with ⟨ys,h1,h2⟩ | ⟨kvs,h1,h2⟩
    · exact Bw pins s σ H xs us Q I rs ⟨q,ys,ex,.inl h1,h2⟩
    · subst ex
      obtain ⟨u,rfl,ru⟩:=rs.one
      cases ru
      exact aai I h1 fun t s' I'=>⟨.int kvs.length,H,I',⟨t,rfl⟩,h2⟩
  refine (wz hc hg hm PySem.boot_len (jr h qz he) (by decide) (by decide) he hpl).imp fun σ H Q z0=>?_
  obtain ⟨st,ps,S,as,R,t,st',e,q⟩:=z0
  obtain ⟨rfl,h⟩:=Ud e
  rcases h with ⟨xs,f,e1,rfl⟩ | ⟨xs,f,e1,rfl⟩
  · obtain ⟨p0,vs,s0,h1,h2⟩:=R.listAt e1
    exact ⟨_,s0,p0,rfl,.inl ⟨vs,h1,by rw [h2.length]; exact q _ H S as (R.push (.int _))⟩⟩
  · obtain ⟨p0,vs,s0,h1,h2⟩:=R.dictAt e1
    exact ⟨_,s0,p0,rfl,.inr ⟨vs,h1,by rw [h2.length]; exact q _ H S as (R.push (.int _))⟩⟩
end
end C
end
section
namespace C
open PySem
mutual
theorem Em:∀ (t:T) {d:PyData},dat t=some d→d.canLay0=true
  | .non,_,h=>by simp only [dat] at h; cases h; simp only [PyData.canLay0]
  | .bl b,_,h=>by simp only [dat] at h; cases h; simp only [PyData.canLay0]
  | .int i,_,h=>by simp only [dat] at h; cases h; simp only [PyData.canLay0]
  | .str x,_,h=>by
    simp only [dat] at h
    split at h
    · rename_i hx; cases h; exact hx
    · cases h
  | .tup xs,_,h=>by
    simp only [dat] at h
    obtain ⟨l,e1,e2⟩:=Option.map_eq_some_iff.mp h
    subst e2
    simp only [PyData.canLay0]
    exact O9 xs e1
  | .lst xs,_,h=>by
    simp only [dat] at h
    obtain ⟨l,e1,e2⟩:=Option.map_eq_some_iff.mp h
    subst e2
    simp only [PyData.canLay0]
    exact O9 xs e1
  | .dic _,_,h=>by simp only [dat] at h; cases h
  | .obj _,_,h=>by simp only [dat] at h; cases h
theorem O9:∀ (ts:List T) {l:List PyData},Dw ts=some l→PyData.canLayAll0 l=true
  | [],_,h=>by simp only [Dw] at h; cases h; simp only [PyData.canLayAll0]
  | x::r,_,h=>by
    simp only [Dw] at h
    split at h
    · rename_i a ea
      obtain ⟨l,e1,e2⟩:=Option.map_eq_some_iff.mp h
      subst e2
      simp only [PyData.canLayAll0]
      rw [Em x ea,O9 r e1]; rfl
    · cases h
end
theorem a2s {x:T} {r:List T} {l:List PyData} (h:Dw (x::r)=some l):∃ a l',dat x=some a∧Dw r=some l'∧l=a::l':=by
  simp only [Dw] at h
  split at h
  · rename_i a ea
    obtain ⟨l,e1,e2⟩:=Option.map_eq_some_iff.mp h
    exact ⟨a,l,ea,e1,e2.symm⟩
  · cases h
theorem Tq {t u:T} {b:Bool} (h:eqD t u=some b):∃ x y,dat t=some x∧dat u=some y∧x.depth≤40∧b=PyData.eqv x y:=by
  unfold eqD at h
  split at h
  · rename_i x ex
    split at h
    · rename_i y ey
      split at h
      · rename_i hd; cases h; exact ⟨x,y,ex,ey,hd,rfl⟩
      · cases h
    · cases h
  · cases h
theorem a7k {t u:T} {b:Bool} (h:eqT t u=some b):(∃ x y,t=.dic x∧u=.dic y∧((x.length=y.length∧a8k x y=some b)∨(x.length≠y.length∧b=false)))∨eqD t u=some b:=by
  unfold eqT at h
  split at h
  · split at h
    · rename_i hl; exact .inl ⟨_,_,rfl,rfl,.inl ⟨hl,h⟩⟩
    · rename_i hl; cases h; exact .inl ⟨_,_,rfl,rfl,.inr ⟨hl,rfl⟩⟩
  · exact .inr h
end C
end
section
namespace C
open PySem PySem.Spec PyProof.Rows L2
section
variable {X:Cx} {pins:List (Addr × Obj)} {σ:L2.St} {H S:Hp} {s:Shared} {as:List Addr}
theorem a1b (I:L2.Inv X pins σ H s) (sub:Same S H):(∀ {v:V} {t:T},Rep X.K S as v t→∀ {d:PyData} {u:Value},dat t=some d→RelV v u→∃ bs,Reads s.heap u d bs)∧∀ {vs:List V} {ts:List T},qu X.K S as vs ts→∀ {ds:List PyData} {us:List Value},Dw ts=some ds→Vals vs us→∃ bs,ReadsAll s.heap us ds bs:=by
  have tp:∀ {a:Addr} {vs:List V} {ts:List T},SqT X.K S a vs→qu X.K S as vs ts→(∀ {ds:List PyData} {us:List Value},Dw ts=some ds→Vals vs us→∃ bs,ReadsAll s.heap us ds bs)→∀ {d:PyData} {u:Value},dat (.tup ts)=some d→RelV (.ref a) u→∃ bs,Reads s.heap u d bs:=by
    intro a vs ts h _ q d u e r
    simp only [dat] at e
    obtain ⟨l,e1,e2⟩:=Option.map_eq_some_iff.mp e
    subst e2
    cases r
    obtain ⟨its,rv,⟨o,h1,h2,n,h3⟩,_⟩:=I.tuple (mz sub h)
    obtain ⟨bs,rb⟩:=q e1 rv
    exact ⟨_,.tuple h1 h2 h3 rb⟩
  have ls:∀ {a:Addr} {vs:List V} {ts:List T},SqL X.K S a vs→qu X.K S as vs ts→(∀ {ds:List PyData} {us:List Value},Dw ts=some ds→Vals vs us→∃ bs,ReadsAll s.heap us ds bs)→∀ {d:PyData} {u:Value},dat (.lst ts)=some d→RelV (.ref a) u→∃ bs,Reads s.heap u d bs:=by
    intro a vs ts h _ q d u e r
    simp only [dat] at e
    obtain ⟨l,e1,e2⟩:=Option.map_eq_some_iff.mp e
    subst e2
    cases r
    obtain ⟨its,rv,⟨o,n,h1,h2,_,h3⟩,_⟩:=I.list (j5 sub h)
    obtain ⟨bs,rb⟩:=q e1 rv
    exact ⟨_,.list h1 h2 h3 rb⟩
  have st:∀ (x:Str) {d:PyData} {u:Value},dat (.str x)=some d→RelV (.str x) u→∃ bs,Reads s.heap u d bs:=by
    intro x d u e r
    simp only [dat] at e
    split at e
    · cases e; obtain ⟨t,rfl⟩:=r; exact ⟨_,.str x t⟩
    · cases e
  have cn:∀ {v:V} {t:T} {vs:List V} {ts:List T},Rep X.K S as v t→qu X.K S as vs ts→(∀ {d:PyData} {u:Value},dat t=some d→RelV v u→∃ bs,Reads s.heap u d bs)→(∀ {ds:List PyData} {us:List Value},Dw ts=some ds→Vals vs us→∃ bs,ReadsAll s.heap us ds bs)→∀ {ds:List PyData} {us:List Value},Dw (t::ts)=some ds→Vals (v::vs) us→∃ bs,ReadsAll s.heap us ds bs:=by
    intro v t vs ts _ _ h q ds us e r
    obtain ⟨a,l,e1,e2,e3⟩:=a2s e
    subst e3
    cases r with
    | cons r1 r2 =>
      obtain ⟨b1,x1⟩:=h e1 r1
      obtain ⟨b2,x2⟩:=q e2 r2
      exact ⟨_,.cons x1 x2⟩
  have nl:∀ {ds:List PyData} {us:List Value},Dw []=some ds→Vals [] us→∃ bs,ReadsAll s.heap us ds bs:=by
    intro ds us e r; simp only [Dw] at e; cases e; cases r; exact ⟨_,.nil⟩
  have no:∀ {d:PyData} {u:Value},dat .non=some d→RelV .non u→∃ bs,Reads s.heap u d bs:=by
    intro d u e r; simp only [dat] at e; cases e; cases r; exact ⟨_,.none⟩
  have bo:∀ (b:Bool) {d:PyData} {u:Value},dat (.bl b)=some d→RelV (.bl b) u→∃ bs,Reads s.heap u d bs:=by
    intro b d u e r; simp only [dat] at e; cases e; cases r; exact ⟨_,.bool b⟩
  have it:∀ (i:Int) {d:PyData} {u:Value},dat (.int i)=some d→RelV (.int i) u→∃ bs,Reads s.heap u d bs:=by
    intro i d u e r; simp only [dat] at e; cases e; obtain ⟨t,rfl⟩:=r; exact ⟨_,.int i t⟩
  have di:∀ {a:Addr} {ts:List (L2.Key × T)} {d:PyData} {u:Value},dat (.dic ts)=some d→RelV (.ref a) u→∃ bs,Reads s.heap u d bs:=by
    intro a ts d u e; simp only [dat] at e; cases e
  have ob:∀ {a:Addr} {n:Nat} {d:PyData} {u:Value},dat (.obj n)=some d→RelV (.ref a) u→∃ bs,Reads s.heap u d bs:=by
    intro a n d u e; simp only [dat] at e; cases e
  exact ⟨fun h=>Rep.rec (motive_1:=fun v t _=>∀ {d:PyData} {u:Value},dat t=some d→RelV v u→∃ bs,Reads s.heap u d bs) (motive_2:=fun vs ts _=>∀ {ds:List PyData} {us:List Value},Dw ts=some ds→Vals vs us→∃ bs,ReadsAll s.heap us ds bs) (motive_3:=fun _ _ _=>True) no bo it st tp ls (fun _ _ _=>di) (fun _=>ob) nl cn trivial (fun _ _ _ _=>trivial) h,
    fun h=>qu.rec (motive_1:=fun v t _=>∀ {d:PyData} {u:Value},dat t=some d→RelV v u→∃ bs,Reads s.heap u d bs) (motive_2:=fun vs ts _=>∀ {ds:List PyData} {us:List Value},Dw ts=some ds→Vals vs us→∃ bs,ReadsAll s.heap us ds bs) (motive_3:=fun _ _ _=>True) no bo it st tp ls (fun _ _ _=>di) (fun _=>ob) nl cn trivial (fun _ _ _ _=>trivial) h⟩
theorem Rep.reads (I:L2.Inv X pins σ H s) (sub:Same S H) {v:V} {t:T} (h:Rep X.K S as v t) {d:PyData} {u:Value} (e:dat t=some d) (r:RelV v u):∃ bs,Reads s.heap u d bs:=(a1b I sub).1 h e r
theorem a65 (I:L2.Inv X pins σ H s) (sub:Same S H) {x y:V} {t u:T} {v w:Value} {b:Bool} {A:Around} (hx:Rep X.K S as x t) (hy:Rep X.K S as y u) (rx:RelV x v) (ry:RelV y w) (e:eqD t u=some b) (hu:A.units+40<cLine):SeqAt.EqAt A s v w b:=by
  obtain ⟨dx,dy,e1,e2,hd,rfl⟩:=Tq e
  obtain ⟨b1,x1⟩:=hx.reads I sub e1 rx
  obtain ⟨b2,x2⟩:=hy.reads I sub e2 ry
  exact SeqAt.eqAt_reads dx dy A s v w b1 b2 x1 x2 (Em _ e1) (Em _ e2) (by have:=Nat.min_le_left dx.depth dy.depth; (clear this x2 x1 e e2 e1 ry rx hy hx sub I; omega))
theorem a1t (I:L2.Inv X pins σ H s) (sub:Same S H) {A:Around} (hu:A.units+40<cLine) {kb:List (L2.Key × V)} {ub:List (L2.Key × T)} {wb:List (L2.Key × Value)} (rb:zy X.K S as kb ub) (vb:KV kb wb) :
    ∀ {ka:List (L2.Key × V)} {ua:List (L2.Key × T)} {wa:List (L2.Key × Value)} {r:Bool},zy X.K S as ka ua→KV ka wa→a8k ua ub=some r→PySem.W.KeqHits A s wb wa r
  | _,[],_,_,h0,va,e=>by
    cases h0
    simp only [a8k] at e; cases e
    cases va
    exact .nil
  | _,(k,_)::_,_,_,h0,va,e=>by
    cases h0 with | cons h q=>?_
    simp only [a8k] at e
    cases va with
    | @cons _ p2 _ _ hp hr =>
      obtain ⟨pk,pv⟩:=p2
      obtain ⟨ek,rv⟩:=hp
      dsimp only at ek rv
      subst ek
      rcases rb.get k with ⟨z,t',a1,a2,a3⟩ | ⟨a1,a2⟩
      · rw [a2] at e
        dsimp only at e
        have rel:=KV.val vb k
        rw [a1] at rel
        obtain ⟨w',hw,rw'⟩:=Mr.some_of rel
        split at e
        · rename_i eb he
          obtain ⟨b',e1,e2⟩:=Option.map_eq_some_iff.mp e
          subst e2
          exact .hit hw (a65 I sub h a3 rv rw' he hu) (a1t I sub hu rb vb q hr e1)
        · cases e
      · rw [a2] at e
        cases e
        have rel:=KV.val vb k
        rw [a1] at rel
        exact .miss (Mr.none_of rel)
end
section
variable {X:Cx}
theorem Qm {op:CmpOp} {neg:Bool} (hop:(op=.Eq∧neg=false)∨(op=.NotEq∧neg=true)) {g:T→T→Option T} (hg:∀ t u w,g t u=some w→∃ b,eqT t u=some b∧w=.bl (xor neg b)) (hu:X.A.units+64<cLine):OpT X (compareOp op) g:=by
  intro pins s σ H x y v u Q I rx ry z8
  obtain ⟨S,as,t,t2,w,sub,ht,hu2,hf,q⟩:=z8
  obtain ⟨b,e,rfl⟩:=hg _ _ _ hf
  have fin:EP X pins σ Q (.bool (xor neg b)) s:=⟨.bl (xor neg b),H,I,rfl,q _ H S (Ext.refl sub) (.bl _)⟩
  rcases a7k e with ⟨xs,ys,rfl,rfl,hd⟩ | he
  · cases ht with
    | @dic a kvs _ g1 g2 =>
      cases hu2 with
      | @dic a' kvs' _ k1 k2 =>
        cases rx
        cases ry
        obtain ⟨z,hs,vs,rel,dd⟩:=Jm I.hok (Ac sub g1)
        obtain ⟨z',hs',vs',rel',dd'⟩:=Jm I.hok (Ac sub k1)
        have l1:vs.length=xs.length:=by rw [← rel.length]; exact g2.length
        have l2:vs'.length=ys.length:=by rw [← rel'.length]; exact k2.length
        have hu1:X.A.in1.units+40<cLine:=by show X.A.units+1+40<cLine; (clear l2 l1 dd' rel' hs' z' dd rel hs z k2 k1 g2 g1 hf e hd fin q sub I hg hop; omega)
        rcases hd with ⟨hl,eb⟩ | ⟨hl,rfl⟩
        · have hits:vs.length=vs'.length→PySem.W.KeqHits X.A.in1 s vs' vs b:=fun _=>a1t I sub hu1 k2 rel' g2 rel eb
          have el:(vs.length==vs'.length)=true:=by rw [l1,l2,hl]; exact beq_self_eq_true _
          rcases hop with ⟨rfl,rfl⟩ | ⟨rfl,rfl⟩
          · refine PySem.W.keq_eq hs hs' dd dd' (by (clear hf fin q hg el hits eb hl hu1 l2 l1 dd' rel' hs' z' dd rel hs z k2 k1 g2 g1 e sub I; omega)) hits ?_
            rw [el]; simpa using fin
          · refine PySem.W.keq_ne hs hs' dd dd' (by (clear hf fin q hg el hits eb hl hu1 l2 l1 dd' rel' hs' z' dd rel hs z k2 k1 g2 g1 e sub I; omega)) hits ?_
            rw [el]; simpa using fin
        · have hits:vs.length=vs'.length→PySem.W.KeqHits X.A.in1 s vs' vs true:=fun h=>absurd (by rw [← l1,← l2]; exact h) hl
          have el:(vs.length==vs'.length)=false:=by rw [l1,l2]; exact beq_eq_false_iff_ne.mpr hl
          rcases hop with ⟨rfl,rfl⟩ | ⟨rfl,rfl⟩
          · refine PySem.W.keq_eq hs hs' dd dd' (by (clear hf fin q hg el hits e hl hu1 l2 l1 dd' rel' hs' z' dd rel hs z k2 k1 g2 g1 sub I; omega)) hits ?_
            rw [el]; simpa using fin
          · refine PySem.W.keq_ne hs hs' dd dd' (by (clear hf fin q hg el hits e hl hu1 l2 l1 dd' rel' hs' z' dd rel hs z k2 k1 g2 g1 sub I; omega)) hits ?_
            rw [el]; simpa using fin
  · obtain ⟨dx,dy,e1,e2,hd,rfl⟩:=Tq he
    obtain ⟨b1,x1⟩:=ht.reads I sub e1 rx
    obtain ⟨b2,x2⟩:=hu2.reads I sub e2 ry
    have hm:X.A.units+min dx.depth dy.depth<cLine:=by have:=Nat.min_le_left dx.depth dy.depth; (clear this x2 x1 he fin q hf e e2 e1 hu2 ht sub ry rx I hg hop; omega)
    rcases hop with ⟨rfl,rfl⟩ | ⟨rfl,rfl⟩
    · exact SeqAt.compareEq_reads x1 x2 (Em _ e1) (Em _ e2) hm (by simpa using fin)
    · exact SeqAt.compareNe_reads x1 x2 (Em _ e1) (Em _ e2) hm (by simpa using fin)
theorem uc (hu:X.A.units+64<cLine):OpT X (compareOp .Eq) eqO:=Qm (.inl ⟨rfl,rfl⟩) (fun t u w h=>by
  unfold eqO at h
  split at h
  · rename_i b e; cases h; exact ⟨b,e,by simp⟩
  · cases h) hu
theorem K7 (hu:X.A.units+64<cLine):OpT X (compareOp .NotEq) neO:=Qm (.inr ⟨rfl,rfl⟩) (fun t u w h=>by
  unfold neO at h
  split at h
  · rename_i b e; cases h; exact ⟨b,e,by simp⟩
  · cases h) hu
open Classical in
noncomputable def a6i (h:Heap) (dx:PyData) (y:Value):Bool:=if e:∃ d bs,Reads h y d bs∧d.canLay0=true then PyData.eqv (Classical.choose e) dx else false
theorem a6n {h:Heap} {dx d:PyData} {y:Value} {bs:List Addr} (r:Reads h y d bs) (l:d.canLay0=true):a6i h dx y=PyData.eqv d dx:=by
  have e:∃ d bs,Reads h y d bs∧d.canLay0=true:=⟨d,bs,r,l⟩
  unfold a6i
  rw [dif_pos e]
  obtain ⟨bs',r',l'⟩:=Classical.choose_spec e
  rw [SeqAt.Reads.unique _ _ _ _ _ l' r' r]
theorem a08 {pins:List (Addr × Obj)} {σ:L2.St} {H S:Hp} {s:Shared} {as:List Addr} {A:Around} (I:L2.Inv X pins σ H s) (sub:Same S H) (hu:A.units+40<cLine) {x:V} {t:T} {v:Value} {dx:PyData} (hx:Rep X.K S as x t) (rx:RelV x v) (ex:dat t=some dx) :
    ∀ {vs:List V} {ts:List T} {us:List Value} {b:Bool},qu X.K S as vs ts→Vals vs us→inL t ts=some b→(∀ y∈us,SeqAt.EqAt A s y v (a6i s.heap dx y))∧us.any (a6i s.heap dx)=b
  | _,[],_,_,h0,r,e=>by cases h0; simp only [inL] at e; cases e; cases r; exact ⟨fun y h=>(nomatch h),rfl⟩
  | _,_::_,_,_,h0,r,e=>by
    cases h0 with | cons h q=>?_
    simp only [inL] at e
    cases r with
    | @cons _ u1 _ us1 r1 r2 =>
      split at e
      · rename_i eb he
        obtain ⟨b',e1,e2⟩:=Option.map_eq_some_iff.mp e
        subst e2
        obtain ⟨i1,i2⟩:=a08 I sub hu hx rx ex q r2 e1
        obtain ⟨dy,dx',f1,f2,hd,rfl⟩:=Tq he
        rw [ex] at f2; cases f2
        obtain ⟨b1,x1⟩:=h.reads I sub f1 r1
        have hb:=a6n (dx:=dx) x1 (Em _ f1)
        refine ⟨fun y hy=>?_,by rw [List.any_cons,i2,hb]⟩
        rcases List.mem_cons.mp hy with rfl | hy -- here
        · rw [hb]; exact a65 I sub h hx r1 rx he hu
        · exact i1 y hy
      · cases e
theorem a06 {t u w:T} (h:inT t u=some w):(∃ ys b,(u=.tup ys∨u=.lst ys)∧inL t ys=some b∧(dat t).isSome=true∧w=.bl b)∨(∃ kvs q,u=.dic kvs∧keyOf t=some q∧w=.bl (Hz q kvs).isSome):=by
  unfold inT at h
  split at h
  · obtain ⟨q,e1,e2⟩:=Option.map_eq_some_iff.mp h
    exact .inr ⟨_,q,rfl,e1,e2.symm⟩
  · split at h
    · rename_i hd
      split at h
      · obtain ⟨b,e1,e2⟩:=Option.map_eq_some_iff.mp h; exact .inl ⟨_,b,.inl rfl,e1,hd,e2.symm⟩
      · obtain ⟨b,e1,e2⟩:=Option.map_eq_some_iff.mp h; exact .inl ⟨_,b,.inr rfl,e1,hd,e2.symm⟩
      · cases h
    · cases h
theorem Qi {op:CmpOp} {neg:Bool} (hop:(op=.In∧neg=false)∨(op=.NotIn∧neg=true)) {g:T→T→Option T} (hg:∀ t u w,g t u=some w→∃ w',inT t u=some w'∧∃ b,w'=.bl b∧w=.bl (xor neg b)) (hu:X.A.units+64<cLine):OpT X (compareOp op) g:=by
  intro pins s σ H x y v u Q I rx ry z8
  obtain ⟨S,as,t,t2,w,sub,ht,hu2,hf,q⟩:=z8
  obtain ⟨w',ei,b0,rfl,rfl⟩:=hg _ _ _ hf
  rcases a06 ei with ⟨ys,b,hy,e,hdt,eb⟩ | ⟨kvs,qk,rfl,ek,eb⟩
  · cases eb
    obtain ⟨dx,ex⟩:=Option.isSome_iff_exists.mp hdt
    have fin:EP X pins σ Q (.bool (xor neg b0)) s:=⟨.bl (xor neg b0),H,I,rfl,q _ H S (Ext.refl sub) (.bl _)⟩
    have hu1:X.A.in1.units+40<cLine:=by show X.A.units+1+40<cLine; (clear fin ex e hdt hy q hf ei hu2 ht sub ry rx I hg hop; omega)
    rcases hy with rfl | rfl
    · cases hu2 with
      | @tup a vs _ g1 g2 =>
        cases ry
        obtain ⟨its,r,p,hz⟩:=I.tuple (mz sub g1)
        obtain ⟨i1,i2⟩:=a08 I sub hu1 ht rx ex g2 r e
        have he:∀ y,y∈its.toArray→SeqAt.EqAt X.A.in1 s y v (a6i s.heap dx y):=fun y hy=>i1 y (by simpa using hy)
        have ha:its.toArray.any (a6i s.heap dx)=b0:=by rw [← i2]; simp
        rcases hop with ⟨rfl,rfl⟩ | ⟨rfl,rfl⟩
        · exact SeqAt.in_tupleAt _ (show s.heap.IsTuple a its.toArray from p) he (by rw [ha]; simpa using fin)
        · exact SeqAt.notIn_tupleAt _ (show s.heap.IsTuple a its.toArray from p) he (by rw [ha]; simpa using fin)
    · cases hu2 with
      | @lst a vs _ g1 g2 =>
        cases ry
        obtain ⟨its,r,p,hz⟩:=I.list (j5 sub g1)
        obtain ⟨i1,i2⟩:=a08 I sub hu1 ht rx ex g2 r e
        have he:∀ y,y∈its.toArray→SeqAt.EqAt X.A.in1 s y v (a6i s.heap dx y):=fun y hy=>i1 y (by simpa using hy)
        have ha:its.toArray.any (a6i s.heap dx)=b0:=by rw [← i2]; simp
        rcases hop with ⟨rfl,rfl⟩ | ⟨rfl,rfl⟩
        · exact SeqAt.in_listAt _ p.isList he (by rw [ha]; simpa using fin)
        · exact SeqAt.notIn_listAt _ p.isList he (by rw [ha]; simpa using fin)
  · cases eb
    cases hu2 with
    | @dic a kv _ g1 g2 =>
      cases ry
      have ey:=Xe ht ek
      subst ey
      have hs:(Hz qk kvs).isSome=(Kz kv qk).isSome:=by
        rcases g2.get qk with ⟨z,t',a1,a2,_⟩ | ⟨a1,a2⟩
        · simp [a1,a2]
        · simp [a1,a2]
      rw [hs] at q
      have gd:Zv H a (kV qk) (Kz kv qk):=.inl ⟨kv,qk,Ac sub g1,rfl,rfl⟩
      rcases hop with ⟨rfl,rfl⟩ | ⟨rfl,rfl⟩
      · exact ae1 (by (clear q hf hg gd hs ht rx g2 g1 ei ek sub I; omega)) I gd rx fun s' I'=>⟨.bl _,H,I',rfl,by simpa using q _ H S (Ext.refl sub) (.bl _)⟩
      · exact a7t (by (clear q hf hg gd hs ht rx g2 g1 ei ek sub I; omega)) I gd rx fun s' I'=>⟨.bl _,H,I',rfl,by simpa using q _ H S (Ext.refl sub) (.bl _)⟩
theorem Mx (hu:X.A.units+64<cLine):OpT X (compareOp .In) inT:=Qi (.inl ⟨rfl,rfl⟩) (fun t u w h=>by
  rcases a06 h with ⟨ys,b,h1,h2,h3,rfl⟩ | ⟨kvs,q,rfl,h2,rfl⟩
  · exact ⟨_,h,b,rfl,by simp⟩
  · exact ⟨_,h,_,rfl,by simp⟩) hu
theorem a05 (hu:X.A.units+64<cLine):OpT X (compareOp .NotIn) K1:=Qi (.inr ⟨rfl,rfl⟩) (fun t u w h=>by
  unfold K1 at h
  split at h
  · rename_i b e
    cases h
    exact ⟨_,e,b,rfl,by simp⟩
  · cases h) hu
end
end C
end
section
namespace C
open PySem PySem.Spec PyProof.Rows L2
def aa3 (K:PySem.W.Frag) (ar:Nat) (F:Fn):Sp:=fun vs H Q _=>∃ S as sto ts t sto',Same S H∧Jf K S as H sto∧qu K S as vs ts∧ts.length=ar∧F ts sto=some (t,sto') ∧
  ∀ p H' S' as',Yv ⟨S,as,H⟩ S' as' H'→Same S' H'→Jf K S' as' H' sto'→Ik K ⟨S,as,H⟩ S' as' H' p t→Q (.ref p) H'
inductive a8u (K:PySem.W.Frag) (B:Bas) (s:S) (D:Ends) (σ:L2.St) (H:Hp):Prop
  | mk (st:Sta) (ps:List (V × T)) (S0:Hp) (as:List Addr) (R:Rel K B st σ H ps S0 as) (t:T) (st':Sta) (e:s st=some (.ret t,st')) (q:∀ p σ' H' S' as',Rel K B st' σ' H' ps S' as'→Ik K B S' as' H' p t→D.rt (.ref p) H')
theorem a7i {u v:S} {s s':Sta} {t:T} (h:jl (sNx u) v s=some (.ret t,s')):∃ s1,u s=some (.next,s1)∧v s1=some (.ret t,s'):=by
  unfold jl sNx at h
  cases e:u s with
  | none=>rw [e] at h; cases h
  | some p =>
    obtain ⟨fl,s1⟩:=p
    rw [e] at h
    cases fl <;> first | exact ⟨s1,rfl,h⟩ | cases h
theorem Ub {i:Nat} {s s':Sta} {t:T} (h:Ge i s=some (.ret t,s')):s.env[i]? = some (some (t,true))∧s'=s:=by
  unfold Ge at h
  split at h
  · rename_i t' e; cases h; exact ⟨e,rfl⟩
  · cases h
theorem a89 {g:G} {m:M T} {s s':Sta} {fl:Flow} (h:sGo g m s=some (fl,s')):∃ t s1,m s=some (t,s1)∧g t s1=some s'∧fl=.next:=by
  unfold sGo at h
  split at h
  · rename_i t s1 e
    split at h
    · rename_i s2 e2; cases h; exact ⟨t,s1,e,e2,rfl⟩
    · cases h
  · cases h
def Z4 (v:S):Prop:=∀ s s',v s≠some (.next,s')
theorem a0j (m:M T):Z4 (Ah m):=fun s s' h=>by
  unfold Ah at h
  split at h <;> cases h
theorem a4f (i:Nat):Z4 (Ge i):=fun s s' h=>by
  unfold Ge at h
  split at h <;> cases h
theorem Vy {u v:S} (h:Z4 v):Z4 (jl u v):=fun s s' e=>by
  unfold jl at e
  split at e
  · exact h _ _ e
  · rename_i hn; exact hn _ e
section
variable {X:Cx} {B:Bas} {a b c e:Expr} {m m1 m2:M T} {pos p:Pos} {u v:S} {es:List Expr} {ms:M (List T)} {k n:Nat} {f:Addr} {fd:FuncData} {pn:List Str} {F:Fn} {x:Str}
theorem Vx {st:Stmt} {rest:List Stmt} (h1:PS X st (sOf X.K B u)) (h2:PSs X rest (a8u X.K B v)):PSs X (st::rest) (a8u X.K B (jl (sNx u) v)):=(Vk h1 h2).imp fun D σ H z9=>by
  obtain ⟨st,ps,S,as,R,t,st',e,q⟩:=z9
  obtain ⟨s1,e1,e2⟩:=a7i e
  exact ⟨st,ps,S,as,R,.next,s1,e1,fun σ' H' S' as' R'=>⟨s1,ps,S',as',R',t,st',e2,q⟩⟩
theorem a6u (i:Nat) (he:PE X e (Mq i)):PSs X [.Return (some e) pos] (a8u X.K B (Ge i)):=(U0 (Zr he)).imp fun D σ H z9=>by
  obtain ⟨st,ps,S,as,R,t,st',e,q⟩:=z9
  obtain ⟨e1,rfl⟩:=Ub e
  obtain ⟨v,h1,_,h3⟩:=R.slots i t true e1
  obtain ⟨p,rfl,o⟩:=h3 rfl
  exact ⟨_,h1,q p σ H S as R o⟩
theorem a5a (he:PE X e (fOf X.K B m)):PSs X [.Return (some e) pos] (a8u X.K B (Ah m)):=(U0 (Zr he)).imp fun D σ H z9=>by
  obtain ⟨st,ps,S,as,R,t,st',e,q⟩:=z9
  obtain ⟨t',e1,ef⟩:=Vg e
  cases ef
  exact ⟨st,ps,S,as,R,t,st',e1,fun p H' S' as' R' o _=>q p σ H' S' as' R' o⟩
theorem aag {g:G} {s:Stmt} (h:PS X s (a5r (tOf X.K B m) (gOf X.K B g))):PS X s (sOf X.K B (sGo g m)):=h.imp fun D σ H z9=>by
  obtain ⟨st,ps,S,as,R,fl,st',e,q⟩:=z9
  obtain ⟨t,s1,e1,e2,rfl⟩:=a89 e
  exact ⟨st,ps,S,as,R,t,s1,e1,fun v H' S' as' R'=>⟨s1,ps,S',as',t,R',st',e2,fun σ' H'' S'' as'' R''=>q σ' H'' S'' as'' R''⟩⟩
theorem Jo {is:List Nat} {env:List Slot} {j:Nat} {t:T} {f:Bool} (h:(lend is env)[j]? = some (some (t,f))):f=false∧∃ g,env[j]? = some (some (t,g))∧(g=true→j∈is):=by
  unfold lend at h
  rw [List.getElem?_mapIdx] at h
  obtain ⟨x,e1,e2⟩:=Option.map_eq_some_iff.mp h
  cases x with
  | none=>cases e2
  | some p =>
    obtain ⟨t',g⟩:=p
    dsimp only at e2
    cases g with
    | false=>simp at e2; obtain ⟨rfl,rfl⟩:=e2; exact ⟨rfl,false,e1,fun z=>by cases z⟩
    | true =>
      by_cases hj:j∈is
      · simp [hj] at e2; obtain ⟨rfl,rfl⟩:=e2; exact ⟨rfl,true,e1,fun _=>hj⟩
      · simp [hj] at e2
end
def Fz (P:Program) (w:World) (K:PySem.W.Frag) (mg:Str→Option Value) (base:Heap) (x:Str) (k:Nat) (ps:List Str) (F:Fn):Prop :=
  ∃ f fd,Bf P w K mg base CX0 k f fd ps (aa3 K ps.length F)∧Binds K fd ps []∧PySem.W.keepIn K (.ref f)=true∧mg x=some (.ref f)
theorem Fz.mono {P:Program} {w:World} {K:PySem.W.Frag} {mg:Str→Option Value} {base:Heap} {x:Str} {j k:Nat} {ps:List Str} {F:Fn} (d:Fz P w K mg base x j ps F) (h:j≤k):Fz P w K mg base x k ps F:=by
  obtain ⟨f,fd,h1,h2⟩:=d
  exact ⟨f,fd,h1.mono h,h2⟩
section
variable {X:Cx} {B:Bas} {a b c e:Expr} {m m1 m2:M T} {pos p:Pos} {es:List Expr} {ms:M (List T)} {n:Nat} {pn:List Str} {F:Fn} {x:Str}
theorem Wz (D:Fz X.prog X.w X.K X.mg X.base x n pn F) (hr:Kv n X.A) (hg:Gl X x)
    (ha:PA X (e::es) (aOf X.K B ms)) (hl:∀ st ts st',ms st=some (ts,st')→ts.length=pn.length) (hdb:(x==("__debug__" : Str))=false:=by decide)
    (he:starEach (e::es) X.env=(false,eval e X.env)::starEach es X.env:=by rfl) (hpl:(backTo pos (starEach es X.env)).any (·.1)=false:=by rfl) :
    PE X (.Call (.Name x p) (e::es) [] pos) (fOf X.K B (fu F ms)):=by
  obtain ⟨f,fd,G,hb,hk,hm⟩:=D
  refine (Zy G hr hg hm hk hb .nil a9r ha hdb he hpl).imp fun σ H Q z0=>?_
  obtain ⟨st,ps,S,as,R,t,st',e,q⟩:=z0
  obtain ⟨ts,s1,sto,e1,e2,rfl⟩:=Rt e
  refine ⟨st,ps,S,as,R,ts,s1,e1,fun vs H1 S1 as1 R1 rs=>?_⟩
  show aa3 X.K pn.length F (vs++[]) H1 Q E0
  rw [List.append_nil]
  exact ⟨S1,as1,s1.sto,ts,t,sto,R1.sub,R1.sto,rs,hl _ _ _ e1,e2,fun p H2 S2 as2 g sub so o=>by
    obtain ⟨b1,b2,b3,b4⟩:=R1.fresh o.new
    exact q p H2 S2 as2 (R1.call g sub so) ⟨o.own,o.out,o.nas,b1⟩ b4⟩
end
section
variable {P:Program} {w:World} {K:PySem.W.Frag} {mg:Str→Option Value} {base:Heap}
theorem Wi {x qual:Str} {st:Stmt} {f:Addr} {fd:FuncData} {N ps:List Str} {k:Nat} {b:S} (F:Fun K x qual st f fd) (Sc:jg N ps (dh st)) (hN:ps.length≤N.length) (he:Z4 b)
    (hb:∀ (cdv:Value) (A:Around) (outer:List Env) (s:Shared) (H:Hp) (E:XK) (B:Bas),Kv k (A.deeper (envOfC qual (dh st) s.heap.objs.size f cdv)) →
      PSs (a5z CX0 P w K mg base N qual (dh st) f cdv A outer s H E).nox (Bp st) (a8u K B b)):Bf P w K mg base CX0 (k+1) f fd ps (aa3 K ps.length (su N.length b)):=by
  refine F.ok Sc (fun vs H Q E h=>?_) fun cdv A outer s H vs Q E hr h=>?_
  · obtain ⟨S,as,sto,ts,t,sto',h1,h2,h3,h4,_⟩:=h
    rw [h3.length,h4]
  · obtain ⟨S,as,sto,ts,t,sto',h1,h2,h3,h4,h5,q⟩:=h
    refine ⟨_,hb cdv A outer s H E ⟨S,as,H⟩ hr,?_⟩
    have lv:vs.length=ps.length:=by rw [h3.length,h4]
    have R:Rel K ⟨S,as,H⟩ ⟨ts.map (fun t=>some (t,false))++List.replicate (N.length - ts.length) none,sto⟩ (L2.start N vs) H [] S as:=Ry h1 h2 h3 (by rw [h4]; exact hN)
    unfold su at h5
    split at h5
    · rename_i t' s' e
      cases h5
      exact ⟨_,[],S,as,R,t,s',e,fun p σ' H' S' as' R' o=>q p H' S' as' R'.grow R'.sub R'.sto o⟩
    · rename_i s' e
      exact absurd e (he _ _)
    · cases h5
end
end C
end
section
namespace C
open PySem PySem.Spec PyProof.Rows L2
section
variable {X:Cx} {B:Bas} {a b c e:Expr} {m m1 m2:M T} {pos p p2 pos2:Pos}
theorem Ext.junk {S H:Hp} (h:Same S H) {p:Addr} (n:H p=none) (o:HO):Ext S H S (upd H p o) :=
  ⟨Same.refl _,Same.upd n o,fun b u q=>(Same.upd n o) _ _ (h _ _ q),fun _ q=>.inl q⟩
def Yy:List Nat→TGs
  | []=>acs
  | i::is=>a9p (O5 i) (Yy is)
theorem X6 {K:PySem.W.Frag} {H S:Hp} {as:List Addr} {ps:List (V × T)}:∀ (is:List Nat) {vs:List V} {xs:List T} {st:Sta} {σ:L2.St} {Q:L2.St→Hp→Prop},Rel K B st σ H ps S as→qu K S as vs xs→xs.length=is.length →
    (∀ σ',Rel K B ((is.zip xs).foldl (fun s p=>iu p.1 p.2 false s) st) σ' H ps S as→Q σ' H)→Yy is vs σ H Q
  | [],_,_,_,_,_,R,.nil,_,q=>⟨rfl,q _ R⟩
  | i::is,_,_,_,_,_,R,.cons r rs,hl,q=>⟨_,_,rfl,X6 is (R.put (i:=i) r) rs (by simpa using hl) q⟩
  | [],_,_,_,_,_,_,.cons _ _,hl,_=>by simp at hl
  | _::_,_,_,_,_,_,_,.nil,hl,_=>by simp at hl
theorem Fw {is:List Nat} {tg:Expr} (h:PG X tg (ad0 X.K is.length (Yy is))):PG X tg (gOf X.K B (M5 is)):=fun pins s σ H x u Q I r z9=>h pins s σ H x u Q I r (by
  obtain ⟨st,ps,S,as,t,R,st',e,q⟩:=z9
  have top:=R.top
  cases t with
  | tup xs =>
    cases top with
    | @tup a vs _ g1 g2 =>
      obtain ⟨hl,e⟩:=vp e
      cases e
      exact ⟨a,vs,rfl,mz R.sub g1,by rw [g2.length]; exact hl,X6 is R.drop g2 hl fun σ' R'=>q σ' H S as R'⟩
  | _=>exact jt e)
end
end C
namespace C
open PySem PySem.Spec PyProof.Rows L2
end C
end
section
namespace C
open PySem PySem.Spec PyProof.Rows L2
section
variable {X:Cx} {B:Bas} {a b c e lo hi:Expr} {m m1 m2 ml mh:M T} {pos p p2:Pos}
theorem qu.take {K:PySem.W.Frag} {S:Hp} {as:List Addr}:∀ (n:Nat) {vs:List V} {ts:List T},qu K S as vs ts→qu K S as (vs.take n) (ts.take n)
  | 0,_,_,_=>.nil
  | _+1,_,_,.nil=>.nil
  | n+1,_,_,.cons h r=>.cons h (qu.take n r)
end
end C
end
section
namespace C
open PySem PySem.Spec PyProof.Rows L2
theorem Yg {o k:M T} {s s':Sta} {t:T} (h:vd o k s=some (t,s')):∃ n s1 i xs j,o s=some (.obj n,s1)∧k s1=some (.int i,s')∧s'.sto[n]? = some (.lst xs)∧ixI xs.length i=some j∧xs[j]? = some t:=by
  unfold vd at h
  split at h
  · rename_i n s1 e1
    split at h
    · rename_i i s2 e2
      split at h
      · rename_i xs e3
        split at h
        · rename_i t' e4
          cases h
          obtain ⟨j,e5,e6⟩:=Option.bind_eq_some_iff.mp e4
          exact ⟨n,s1,i,xs,j,e1,e2,e3,e5,e6⟩
        · cases h
      · cases h
    · cases h
  · cases h
theorem V1 {o:M T} {s s':Sta} {t:T} (h:zq o s=some (t,s')):∃ n xs,o s=some (.obj n,s')∧s'.sto[n]? = some (.lst xs)∧t=.int xs.length:=by
  unfold zq at h
  split at h
  · rename_i n s1 e1
    split at h
    · rename_i xs e3; cases h; exact ⟨n,xs,e1,e3,rfl⟩
    · cases h
  · cases h
theorem V7 {a:M (List T)} {s s':Sta} {t:T} (h:Ep a s=some (t,s')):∃ ts s1,a s=some (ts,s1)∧t=.obj s1.sto.length∧s' = { s1 with sto:=s1.sto++[.lst ts] }:=by
  unfold Ep at h
  split at h
  · rename_i ts s1 e1; cases h; exact ⟨ts,s1,e1,rfl,rfl⟩
  · cases h
theorem Yb {o k v:M T} {s s':Sta} {fl:Flow} (h:Ft o k v s=some (fl,s')) :
    ∃ t s1 n s2 i s3 xs j,v s=some (t,s1)∧o s1=some (.obj n,s2)∧k s2=some (.int i,s3)∧s3.sto[n]? = some (.lst xs)∧ixI xs.length i=some j∧fl=.next∧s' = { s3 with sto:=s3.sto.set n (.lst (xs.set j t)) }:=by
  unfold Ft at h
  split at h
  · rename_i t s1 e
    split at h
    · rename_i n s2 eo
      split at h
      · rename_i i s3 ek
        split at h
        · rename_i xs ex
          split at h
          · rename_i j ej; cases h; exact ⟨t,s1,n,s2,i,s3,xs,j,e,eo,ek,ex,ej,rfl,rfl⟩
          · cases h
        · cases h
      · cases h
    · cases h
  · cases h
theorem Uo {i:Nat} {v:M T} {s s':Sta} {fl:Flow} (h:Ln i v s=some (fl,s')) :
    ∃ n ys t s1 xs,s.env[i]? = some (some (.obj n,false))∧s.sto[n]? = some (.lst ys)∧v s=some (t,s1)∧s1.sto[n]? = some (.lst xs)∧xs.length<lim∧fl=.next∧s' = { s1 with sto:=s1.sto.set n (.lst (xs++[t])) }:=by
  unfold Ln at h
  split at h
  · rename_i n e
    split at h
    · rename_i ys ey
      split at h
      · rename_i t s1 ev'
        split at h
        · rename_i xs ex
          split at h
          · rename_i hl; cases h; exact ⟨n,ys,t,s1,xs,e,ey,ev',ex,hl,rfl,rfl⟩
          · cases h
        · cases h
      · cases h
    · cases h
  · cases h
theorem qu.set {K:PySem.W.Frag} {S:Hp} {as:List Addr} {v:V} {t:T} (h:Rep K S as v t):∀ {vs:List V} {ts:List T} (j:Nat),qu K S as vs ts→qu K S as (vs.set j v) (ts.set j t)
  | _,_,_,.nil=>.nil
  | _,_,0,.cons _ r=>.cons h r
  | _,_,j+1,.cons q r=>.cons q (qu.set h j r)
section
variable {X:Cx} {B:Bas} {a b c e o k:Expr} {m mo mk mv:M T} {pos p:Pos}
theorem yx (ho:PE X o (tOf X.K B mo)) (hk:PE X k (tOf X.K B mk)) (hs:Ot k):PE X (.Subscript o k pos) (tOf X.K B (vd mo mk)):=(a74 Ug ho hk hs).imp fun σ H Q z9=>by
  obtain ⟨st,ps,S,as,R,t,st',e,q⟩:=z9
  obtain ⟨n,s1,i,xs,j,e1,e2,e3,e4,e5⟩:=Yg e
  refine ⟨st,ps,S,as,R,_,s1,e1,fun v H1 S1 as1 R1=>⟨s1,_,S1,as1,R1,_,st',e2,fun u H2 S2 as2 R2=>?_⟩⟩
  have t2:=R2.top2
  cases R2.top
  cases t2 with
  | @obj _ a ha =>
    obtain ⟨a',h1,h2,vs,h3,h4⟩:=R2.sto.at' n _ e3
    rw [ha] at h1; cases h1
    obtain ⟨z,hz,rz⟩:=h4.get e5
    refine ⟨a,vs,i,z,rfl,rfl,SqL.of h3,?_,q z H2 S2 as2 (R2.drop.drop.push rz)⟩
    rw [Mv,← h4.length] at e4
    unfold atI; rw [e4]; exact hz
theorem Rh (hg:Gl X "len") (hm:X.mg "len" = none) (ho:PE X o (tOf X.K B mo)) (he:starEach [o] X.env=(false,eval o X.env)::starEach [] X.env:=by rfl) (hpl:(backTo pos (starEach [] X.env)).any (·.1)=false:=by rfl) :
    PE X (.Call (.Name "len" p) [o] [] pos) (tOf X.K B (zq mo)):=(wz Bw hg hm PySem.boot_len (jr ho qz he) (by decide) (by decide) he hpl).imp fun σ H Q z9=>by
  obtain ⟨st,ps,S,as,R,t,st',e,q⟩:=z9
  obtain ⟨n,xs,e1,e2,rfl⟩:=V1 e
  refine ⟨st,ps,S,as,R,_,st',e1,fun v H1 S1 as1 R1=>?_⟩
  have t1:=R1.top
  cases t1 with
  | @obj _ a ha =>
    obtain ⟨a',h1,h2,vs,h3,h4⟩:=R1.sto.at' n _ e2
    rw [ha] at h1; cases h1
    exact ⟨a,vs,rfl,.inl (SqL.of h3),by rw [h4.length]; exact q _ H1 S1 as1 (R1.drop.push (.int _))⟩
theorem Qy {es:List Expr} {ms:M (List T)} (h:PA X es (aOf X.K B ms)) (hm:∀ st ts st',ms st=some (ts,st')→ts.length≤1000):PE X (.List es pos) (tOf X.K B (Ep ms)) :=
  (Ww h).imp fun σ H Q z9=>by
    obtain ⟨st,ps,S,as,R,t,st',e,q⟩:=z9
    obtain ⟨ts,s1,e1,rfl,rfl⟩:=V7 e
    refine ⟨st,ps,S,as,R,ts,s1,e1,fun vs H1 S1 as1 R1 rs=>⟨?_,fun p hp=>?_⟩⟩
    · rw [rs.length]; exact Nat.le_of_lt (Hr (hm _ _ _ e1))
    · exact q _ _ _ _ (R1.newObj hp ⟨vs,d7,rs.mono (Same.refl _) ⟨[p],rfl⟩⟩)
theorem Jq {st:Stmt} (h:PS X st (a5r (tOf X.K B mv) (ad2 (tOf X.K B mo) (tOf X.K B mk) a8w))):PS X st (sOf X.K B (Ft mo mk mv)):=h.imp fun D σ H z9=>by
  obtain ⟨st,ps,S,as,R,fl,st',e,q⟩:=z9
  obtain ⟨t,s1,n,s2,i,s3,xs,j,e1,e2,e3,e4,e5,rfl,rfl⟩:=Yb e
  refine ⟨st,ps,S,as,R,t,s1,e1,fun v H1 S1 as1 R1=>⟨s1,_,S1,as1,R1,_,s2,e2,fun x H2 S2 as2 R2=>⟨s2,_,S2,as2,R2,_,s3,e3,fun y H3 S3 as3 R3=>?_⟩⟩⟩
  have t2:=R3.top2
  cases R3.top
  cases t2 with
  | @obj _ a ha =>
    obtain ⟨a',h1,h2,vs,h3,h4⟩:=R3.sto.at' n _ e4
    rw [ha] at h1; cases h1
    have tv:Rep X.K S3 as3 v t:=R3.pend _ (List.mem_cons_of_mem _ (List.mem_cons_of_mem _ List.mem_cons_self))
    rw [Mv,← h4.length] at e5
    exact ⟨a,vs,i,j,rfl,rfl,h3,e5,q _ _ S3 as3 (R3.drop.drop.drop.Vm e4 ha ⟨_,d7,qu.set tv j h4⟩)⟩
theorem a2r (i:Nat) {st:Stmt} (h:PS X st (Rc (tBM X.K "list" Io (Mq i) (Ii (tOf X.K B mv) Xm)))):PS X st (sOf X.K B (Ln i mv)):=h.imp fun D σ H z9=>by
  obtain ⟨st,ps,S,as,R,fl,st',e,q⟩:=z9
  obtain ⟨n,ys,t,s1,xs,e0,ey,e1,e2,hl,rfl,rfl⟩:=Uo e
  obtain ⟨w,h1,h2,_⟩:=R.slots i _ false e0
  have r0:=h2 rfl
  cases r0 with
  | @obj _ a ha =>
    obtain ⟨a0,l0,_,vs0,l1,_⟩:=R.sto.at' n _ ey
    rw [ha] at l0; cases l0
    refine ⟨_,h1,.inl ⟨rfl,_,SqL.of l1⟩,st,(.ref a,.obj n)::ps,S,as,R.push (h2 rfl),t,s1,e1,fun v H1 S1 as1 R1=>?_⟩
    have t2:=R1.top2
    cases t2 with
    | @obj _ a2 ha2 =>
      obtain ⟨a',k1,k2,vs,k3,k4⟩:=R1.sto.at' n _ e2
      rw [ha2] at k1; cases k1
      exact ⟨a,vs,v,rfl,rfl,k3,by rw [k4.length]; exact Nat.lt_of_lt_of_le hl qp,q _ _ S1 as1 (R1.drop.drop.Vm e2 ha2 ⟨_,d7,k4.append (.cons R1.top .nil)⟩)⟩
end
end C
end
section
namespace C
open PySem PySem.Spec PyProof.Rows L2
section
variable {X:Cx} {B:Bas} {pins:List (Addr × Obj)} {σ:L2.St} {H S:Hp} {s:Shared} {as:List Addr} {Q:VK}
theorem gather {R:List Value→Shared→Prop} {A:Around} {E:Value→Shared→Prop} {T:String} {r d:Addr} {n:Nat} {P:Nat→Value→Prop} {OK:Heap→Prop} (KS:PySem.W.KdlSrc X.prog X.w T r d n P OK) (nh:A.handled=none) (ok0:OK s.heap) (sz:n≤sizeLine)
    (k:∀ (h1:Heap) (tk:Nat) (got:Array Value),s.heap.objs.size<h1.objs.size→(∀ b o,s.heap.get? b=some o→h1.get? b=some o)→ItemsOf P got n→R got.toList { s with heap:=h1,toks:=tk }) :
    wpAny (model X.prog X.w) A (collect (.ref r)) R E s:=by
  have lt0:=KS.there _ ok0
  unfold collect
  refine wpAny_bind (wpAny_runValue
    (codeAny_builtin entry_proto_collect' ?_))
  rw [Around.under_plainId
    PySem.F.plain_proto_collect _]
  show wpAny _ A.in1 (newList [] >>= fun z=>again (.builtin "list.__iadd__" ⟨[z,.ref r],[]⟩)) _ _ s
  refine wpAny_bind (wpAny_newObj_type (wpAny_pure ⟨plainId_quiet PySem.F.plain_list_iadd _,codeAny_builtin entry_list_iadd' ?_⟩))
  rw [Around.under_plainId
    PySem.F.plain_list_iadd _]
  change wpAny _ A.in1 (Builtin.List.listExtendWith (.ref s.heap.objs.size) (.ref r) (.ref s.heap.objs.size)) _ _ _
  have new0:(s.heap.push { cls:=.type "list",data:=.seq ([]:List Value).toArray }).get? s.heap.objs.size=some { cls:=.type "list",data:=.seq #[] }:=Heap.get?_push_size _ rfl
  have walk:=PySem.W.kdl_extend (A:=A) (s:={ s with heap:=s.heap.push { cls:=.type "list",data:=.seq ([]:List Value).toArray } })
    (R:=fun (f:Result) (s1:Shared)=>∃ (h1:Heap) (tk:Nat) (got:Array Value) (c1:Nat),f=.ok (.ret (.ref s.heap.objs.size))∧s1 = { s with heap:=h1,toks:=tk }∧(∀ b o,s.heap.get? b=some o→h1.get? b=some o) ∧
      h1.get? s.heap.objs.size=some { cls:=.type "list",dict:=none,data:=.seq got c1,slots:=#[] }∧ItemsOf P got n)
    KS nh (KS.keep _ _ ok0 fun b _ o e=>Heap.get?_push_of_some _ e) s.heap.objs.size (Nat.ne_of_gt lt0.1) (Nat.ne_of_gt lt0.2) (.ref s.heap.objs.size) 0 new0
    (fun h1 tk got c1 old at1 its=>⟨h1,tk,got,c1,rfl,rfl,fun b o e=>old b o (Nat.ne_of_lt (Heap.lt_size e)) (Heap.get?_push_of_some _ e),at1,its⟩) sz
  have last:∀ (h1:Heap) (tk:Nat) (got:Array Value) (c1:Nat),(∀ b o,s.heap.get? b=some o→h1.get? b=some o)→h1.get? s.heap.objs.size=some { cls:=.type "list",dict:=none,data:=.seq got c1,slots:=#[] }→ItemsOf P got n →
      wpAny (model X.prog X.w) A (load s.heap.objs.size >>= fun o=>match o.data with | .seq xs _=>pure xs.toList | _=>unsupported "internal:collect") R E { s with heap:=h1,toks:=tk } :=
    fun h1 tk got c1 old at1 its=>wpAny_bind (wpAny_load at1 (wpAny_pure (k h1 tk got (Heap.lt_size at1) old its)))
  refine wpAny_mono walk (fun fin s1 x=>?_) fun e s1 x=>?_
  · cases fin with
    | done f =>
      obtain ⟨h1,tk,got,c1,ef,rfl,old,at1,its⟩:=x
      cases ef
      exact last h1 tk got c1 old at1 its
    | again c =>
      refine ⟨x.1,codeAny_mono x.2 fun f s2 y=>?_⟩
      obtain ⟨h1,tk,got,c1,rfl,rfl,old,at1,its⟩:=y
      exact last h1 tk got c1 old at1 its
  · obtain ⟨_,_,_,_,ef,_⟩:=x
    cases ef
theorem a0a {T:String} {r d:Addr} {n:Nat} {P:Nat→Value→Prop} {OK:Heap→Prop} {l:List Str} (KS:PySem.W.KdlSrc X.prog X.w T r d n P OK) (hc:X.calm=true) (I:L2.Inv X pins σ H s) (sub:Same S H) (hok:OK s.heap) (h64:n<64)
    (hi:∀ vs:List Value,vs.length=n→(∀ (j:Nat) (v:Value),vs[j]? = some v→P j v)→∃ l',StrsAre vs l'∧l'.Perm l)
    (q:∀ v H' S',Ext S H S' H'→Rep X.K S' as v (.lst ((xu l).map .str))→Q v H'):wpAny (model X.prog X.w) X.A (call (.builtin "sorted") [.ref r]) (EP X pins σ Q) X.xe s:=by
  have hn:n≤sizeLine:=Nat.le_trans (Nat.le_of_lt h64) (by rw [sizeLine_eq]; decide)
  refine Calls.call_function_entry kind_sorted plain_sorted
    entry_sorted (args_sorted1 _) ?_
  unfold Builtin.«sorted»
  refine wpAny_bind (m:=checkCount "sorted" 1 1 _) (wpAny_pure (wpAny_bind ?_))
  refine (gather (A:=X.A.in1) KS (show X.A.in1.handled=none from I.ok.hd hc) hok hn fun h' tk acc hlt hk hacc=>?_)
  have hl:acc.toList.length=n:=Array.length_toList.trans hacc.1
  obtain ⟨l',hS,hp⟩:=hi acc.toList hl fun j v e=>hacc.2 j v (by rw [← Array.getElem?_toList]; exact e)
  refine wpAny_bind (wpAny_newList ?_ (hl ▸ hn))
  have hoL:(h'.push (seqObj "list" acc.toList.toArray 0)).get? h'.objs.size=some (seqObj "list" acc.toList.toArray 0):=Heap.get?_push_size _ rfl
  refine wpAny_bind (wpAny_holding (wpAny_call_entry slot_list_sort ⟨_,hoL,rfl⟩ entry_list_sort (list_sort_treeK strKind_oneLt hoL hS.keysOf (fun v₁ v₂ rest e=>keyKind_strs (by rw [← e]; exact hS)) (by rw [hl]; exact h64) fun st' a1 a2=>⟨_,rfl,?_⟩) (args_list_sort _)))
  refine wpAny_pure ⟨_,rfl,(?_:EP X pins σ Q _ _)⟩
  obtain ⟨ss',b1,b2,b3⟩:=sorted_out_str hS a1 a2
  have es:=Oc b3 (b2.trans hp)
  subst es
  have hle:=Nat.le_of_lt hlt
  obtain ⟨e,he⟩:=sortedHeap_at (out:=(arrOf st').map (·.2)) hoL
  have hsz:(List.map V.str (xu l)).length≤sizeLine:=by
    rw [List.length_map,(Er l).length_eq,← hp.length_eq,← hS.length,hl]
    exact hn
  have hnn:H h'.objs.size=none:=I.hok.fresh hle
  have x:=Ext.laid sub hnn (.lst ((xu l).map V.str))
  refine ⟨.ref h'.objs.size,_,I.laid (a:=h'.objs.size) (o:=.lst ((xu l).map V.str)) (t':=tk) (fun b u eb=>?_) hle ⟨hsz,_,e,K6 b1,he⟩,rfl,q _ _ _ x (.lst (SqL.of d7) (Gw _))⟩
  have hb:=Heap.lt_size (hk _ _ eb)
  rw [sortedHeap_old (Nat.ne_of_lt hb) (by rw [Heap.size_push]; exact Nat.lt_succ_of_lt hb)]
  exact Heap.get?_push_of_some _ (hk _ _ eb)
theorem Q6:∀ {kvs:List (L2.Key × V)} {ts:List (L2.Key × T)} {l:List Str},kvs.map (·.1)=ts.map (·.1)→Jl (ts.map fun p=>Iw p.1)=some l→kvs.map (·.1)=l.map Sum.inr
  | [],[],l,_,h=>by simp only [List.map_nil,Jl] at h; cases h; rfl
  | (k,v)::kvs,(k2,t)::ts,l,e,h=>by
    simp only [List.map_cons,List.cons.injEq] at e
    obtain ⟨e1,e2⟩:=e
    subst e1
    cases k with
    | inl i=>simp only [List.map_cons,Iw,Jl,reduceCtorEq] at h
    | inr x =>
      simp only [List.map_cons,Iw,Jl] at h
      obtain ⟨l',h1,h2⟩:=Option.map_eq_some_iff.mp h
      subst h2
      rw [List.map_cons,List.map_cons,Q6 e2 h1]
theorem zy.keys {K:PySem.W.Frag} {S:Hp} {as:List Addr}:∀ {kvs:List (L2.Key × V)} {ts:List (L2.Key × T)},zy K S as kvs ts→kvs.map (·.1)=ts.map (·.1)
  | _,_,.nil=>rfl
  | _,_,.cons h q=>by rw [List.map_cons,List.map_cons,zy.keys q]
theorem J4 {prog:Program} {w:World}:∀ {vs:List (L2.Key × Value)} {us:List Value} {l:List Str},vs.map (·.1)=l.map Sum.inr→us.length=vs.length→(∀ (j:Nat) (v:Value),us[j]? = some v→∃ k x,vs[j]? = some (k,x)∧(u5 prog w).is k v=true)→StrsAre us l
  | [],us,l,e,hl,h=>by
    cases us with
    | cons _ _=>simp at hl
    | nil=>cases l with
      | nil=>exact .nil
      | cons _ _=>simp at e
  | (k,x)::vs,us,l,e,hl,h=>by
    cases us with
    | nil=>simp at hl
    | cons u us =>
      cases l with
      | nil=>simp at e
      | cons y l =>
        simp only [List.map_cons,List.cons.injEq] at e
        obtain ⟨e1,e2⟩:=e
        subst e1
        obtain ⟨k',x',h1,h2⟩:=h 0 u rfl
        simp only [List.getElem?_cons_zero,Option.some.injEq,Prod.mk.injEq] at h1
        obtain ⟨rfl,rfl⟩:=h1
        rw [Xa] at h2
        have hu:∃ t,u=.str y t:=by
          rcases qy h2 with ⟨i,t,e',_⟩ | ⟨z,t,e',hz⟩
          · cases e'
          · cases e'; exact ⟨t,hz⟩
        obtain ⟨t,rfl⟩:=hu
        exact .cons y t (J4 e2 (by simpa using hl) fun j v ev=>by simpa using h (j+1) v (by simpa using ev))
theorem J9 (hc:X.calm=true):V9 X (.builtin "sorted") Ld:=by
  intro pins s σ H xs us Q I rs z8
  obtain ⟨S,as,ts,w,sub,hr,hf,q⟩:=z8
  cases hr with
  | nil=>exact jt hf
  | @cons x t xs' ts' h1 h2 =>
    cases h2 with
    | cons h3 h4=>cases h1 <;> exact jt hf
    | nil =>
      cases h1 with
      | @lst a vs ts g1 g2 =>
        obtain ⟨h64,hf⟩:=vp hf
        obtain ⟨l,e1,e2⟩:=Option.map_eq_some_iff.mp hf
        subst e2
        exact Oj pins s σ H _ us Q I rs ⟨S,as,ts,l,sub,.cons (.lst g1 g2) .nil,h64,e1,q⟩
      | @dic a kvs ts g1 g2 =>
        obtain ⟨h64,hf⟩:=vp hf
        obtain ⟨l,e1,e2⟩:=Option.map_eq_some_iff.mp hf
        subst e2
        obtain ⟨u,rfl,ru⟩:=rs.one
        cases ru
        obtain ⟨z,hd,vs,rel,dd⟩:=Jm I.hok (Ac sub g1)
        obtain ⟨ep,hat⟩:=dd.dictAt
        have hlen:vs.length=ts.length:=by rw [← rel.length]; exact g2.length
        have hk:=Q6 g2.keys e1
        rw [KV.keys rel] at hk
        exact a0a (PySem.W.kdl_dict (knd:=u5 X.prog X.w) (kvs:=vs) (ep:=ep) hd) hc I sub hat (by rw [hlen]; exact h64) (fun us hl hp=>⟨l,J4 hk hl hp,.refl _⟩) q
      | _=>exact jt hf
end
end C
end
section
namespace C
open PySem PySem.Spec PyProof.Rows L2
section
variable {prog:Program} {w:World} {A:Around} {E:Value→Shared→Prop} {s:Shared}
end
end C
end
section
namespace C
open PySem PySem.Spec PyProof.Rows L2
section
variable {prog:Program} {w:World} {A:Around} {R:Result→Shared→Prop} {I:Addr} {fp wr:List Addr} {G:Array GenState→Array GenState→Prop} {n:Nat} {P:Nat→Value→Prop} {St:Nat→Shared→Prop} {κ:Type} [DecidableEq κ] {knd:PySem.KeyKind prog w κ}
end
end C
end
section
namespace C
open PySem PySem.Spec PyProof.Rows L2
section
variable {prog:Program} {w:World} {A:Around} {E:Value→Shared→Prop} {s:Shared} {κ:Type} [DecidableEq κ] {knd:PySem.KeyKind prog w κ}
def told (key:Nat→κ) (val:Nat→Value):Nat→List (κ × Value)
  | 0=>[]
  | i+1=>stored (told key val i) (key i) (val i)
end
end C
end
section
namespace C
open PySem PySem.Spec PyProof.Rows L2
section
variable {X:Cx} {pins:List (Addr × Obj)} {σ:L2.St} {H S:Hp} {s:Shared} {as:List Addr}
inductive M4 (h:Heap) (prog:Program) (w:World):List Value→List L2.Key→List Value→Prop where
  | nil:M4 h prog w [] [] []
  | cons {t:Addr} {kx wv:Value} {o:Obj} {n:Nat} {q:L2.Key} {us:List Value} {qs:List L2.Key} {ws:List Value}:h.get? t=some o→o.cls=.type "tuple" → o.data=.seq #[kx,wv] n→(u5 prog w).is q kx=true →
      M4 h prog w us qs ws→M4 h prog w (.ref t::us) (q::qs) (wv::ws)
theorem M4.len {h:Heap} {prog:Program} {w:World}:∀ {us:List Value} {qs:List L2.Key} {ws:List Value},M4 h prog w us qs ws→us.length=qs.length∧us.length=ws.length:=by
  intro us qs ws h
  induction h with
  | nil=>exact ⟨rfl,rfl⟩
  | cons _ _ _ _ _ ih=>exact ⟨congrArg (· + 1) ih.1,congrArg (· + 1) ih.2⟩
end
section
variable {X:Cx} {B:Bas} {a:Expr} {m:M T} {pos p:Pos}
end
end C
end
section
namespace C
open PySem PySem.Spec PyProof.Rows L2
theorem dz.zero {P:Program} {w:World} {K:PySem.W.Frag} {mg:Str→Option Value} {base:Heap} {x qual:Str} {st:Stmt} {f:Addr} {fd:FuncData} {ps:List Str} {k:Nat} (F:Fun K x qual st f fd) (h:mg x=some (.ref f)) (b:Binds K fd ps []):dz P w K mg base x k ps (fun _ _=>none):=by
  have no:∀ vs H Q E,¬ spF K ps.length (fun _ _=>none) vs H Q E:=fun vs H Q E z=>by
    obtain ⟨S,as,sto,ts,t,sto',_,_,_,_,e,_⟩:=z
    cases e
  exact ⟨f,fd,⟨fun vs H Q E z=>absurd z (no vs H Q E),fun A outer s H args us vs Q E _ _ _ _ z=>absurd z (no vs H Q E)⟩,b,F.kp,h⟩
end C
end
section
namespace C
open PySem
def yc:Nat→M Bool→S→S
  | 0,_,_=>fun _=>none
  | n+1,c,b=>fun s=>match c s with
    | some (false,s1)=>some (.next,s1)
    | some (true,s1)=>match b s1 with
      | some (.next,s2)=>yc n c b s2
      | some (.cont,s2)=>yc n c b s2
      | some (.brk,s2)=>some (.next,s2)
      | some (.ret v,s2)=>some (.ret v,s2)
      | none=>none
    | none=>none
def a8i (i j:Nat):S:=fun s=>match s.env[i]? with
  | some (some (.lst xs,true))=>match xs[xs.length - 1]? with
    | some t=>some (.next,iu j t false (iu i (.lst xs.dropLast) true s))
    | none=>none
  | _=>none
end C
end
section
namespace C
open PySem PySem.Spec PyProof.Rows L2
theorem Ys {n:Nat} {c:M Bool} {b:S} {s s':Sta} {fl:Flow} (h:yc (n+1) c b s=some (fl,s')):(∃ s1,c s=some (false,s1)∧fl=.next∧s'=s1) ∨
    ∃ s1 fb s2,c s=some (true,s1)∧b s1=some (fb,s2)∧(match fb with | .next=>yc n c b s2=some (fl,s') | .cont=>yc n c b s2=some (fl,s') | .brk=>fl=.next∧s'=s2 | .ret v=>fl=.ret v∧s'=s2):=by
  rw [yc] at h
  dsimp only at h
  split at h
  · rename_i s1 e1; cases h; exact .inl ⟨_,e1,rfl,rfl⟩
  · rename_i s1 e1
    split at h
    · rename_i s2 e2; exact .inr ⟨s1,.next,s2,e1,e2,h⟩
    · rename_i s2 e2; exact .inr ⟨s1,.cont,s2,e1,e2,h⟩
    · rename_i s2 e2; cases h; exact .inr ⟨s1,.brk,_,e1,e2,rfl,rfl⟩
    · rename_i v s2 e2; cases h; exact .inr ⟨s1,.ret v,_,e1,e2,rfl,rfl⟩
    · cases h
  · cases h
theorem a4p {i j:Nat} {s s':Sta} {fl:Flow} (h:a8i i j s=some (fl,s')):∃ xs t,s.env[i]? = some (some (.lst xs,true))∧xs[xs.length - 1]? = some t∧fl=.next∧s'=iu j t false (iu i (.lst xs.dropLast) true s):=by
  unfold a8i at h
  split at h
  · rename_i xs e
    split at h
    · rename_i t e2; cases h; exact ⟨xs,t,e,e2,rfl,rfl⟩
    · cases h
  · cases h
theorem qu.dropLast {K:PySem.W.Frag} {S:Hp} {as:List Addr}:∀ {vs:List V} {ts:List T},qu K S as vs ts→qu K S as vs.dropLast ts.dropLast
  | _,_,.nil=>.nil
  | _,_,.cons h .nil=>.nil
  | _,_,.cons h (.cons h2 r)=>.cons h (qu.dropLast (.cons h2 r))
section
variable {X:Cx} {B:Bas} {c e:Expr} {m:M T} {pos p:Pos} {u:S} {body:List Stmt}
theorem Pg (n:Nat) {mc:M Bool} (hp:PassesOwn (model X.prog X.w) X.A X.env X.xe) (hc:PT X c (cOf X.K B mc)) (hb:PSs X body (sOf X.K B u)):PS X (.While c body [] pos) (sOf X.K B (yc n mc u)):=(a5e hp hc hb).imp fun D σ H z9=>by
  obtain ⟨st,ps,S,as,R,fl,st',e,q⟩:=z9
  refine ⟨fun k σ H=>∃ sti Si asi,Rel X.K B sti σ H ps Si asi∧yc k mc u sti=some (fl,st'),⟨n,st,S,as,R,e⟩,?_⟩
  rintro k σ2 H2 ⟨sti,Si,asi,Ri,ei⟩
  cases k with
  | zero=>rw [yc] at ei; cases ei
  | succ k =>
    rcases Ys ei with ⟨s1,e1,rfl,rfl⟩ | ⟨s1,fb,s2,e1,e2,er⟩
    · exact ⟨sti,ps,Si,asi,Ri,false,_,e1,fun H3 S3 as3 R3=>a5t (q σ2 H3 S3 as3 R3)⟩
    · refine ⟨sti,ps,Si,asi,Ri,true,s1,e1,fun H3 S3 as3 R3=>a68 ⟨fun σ' H'=>∃ sti Si asi,Rel X.K B sti σ' H' ps Si asi∧yc k mc u sti=some (fl,st'),fun σ' H' h=>⟨k,Nat.lt_succ_self _,h⟩,s1,ps,S3,as3,R3,fb,s2,e2,?_⟩⟩
      cases fb with
      | next=>exact fun σ' H' S' as' R'=>⟨s2,S',as',R',er⟩
      | cont=>exact fun σ' H' S' as' R'=>⟨s2,S',as',R',er⟩
      | brk =>
        obtain ⟨rfl,rfl⟩:=er
        exact fun σ' H' S' as' R'=>q σ' H' S' as' R'
      | ret v =>
        obtain ⟨rfl,rfl⟩:=er
        exact fun v σ' H' S' as' R'=>q v σ' H' S' as' R'
theorem aa1 (i j:Nat) {st:Stmt} (h:PS X st (a5r (ad1 X.K "list" acw (Mq i)) (O5 j))):PS X st (sOf X.K B (a8i i j)):=h.imp fun D σ H z9=>by
  obtain ⟨st,ps,S,as,R,fl,st',e,q⟩:=z9
  obtain ⟨xs,t,e2,e3,rfl,rfl⟩:=a4p e
  obtain ⟨w,h1,_,h3⟩:=R.slots i _ true e2
  obtain ⟨p0,rfl,ow⟩:=h3 rfl
  obtain ⟨vs,hH,h4⟩:=ow.own
  obtain ⟨y,hy,ry⟩:=h4.get e3
  have hy':vs[vs.length - 1]? = some y:=by rw [h4.length]; exact hy
  have R2:=R.turn (ob:=.lst vs.dropLast) (t':=.lst xs.dropLast) e2 h1 ⟨_,d7,h4.dropLast⟩
  exact ⟨_,h1,.inl ⟨rfl,_,SqL.of hH⟩,p0,vs,y,rfl,rfl,hH,hy',q _ _ S as (R2.put (i:=j) ry)⟩
end
end C
end
section
namespace C
open PySem PySem.Spec PyProof.Rows L2
section
variable {X:Cx} {B:Bas} {e st:Expr} {te:TE} {m:M T} {pos p2 p3 p4:Pos} {j:Nat}
theorem a8d (hg:Gl X "list") (hm:X.mg "list" = none) (ha:PE X e (tOf X.K B m)) (he:starEach [e] X.env=(false,eval e X.env)::starEach [] X.env:=by rfl) (hpl:(backTo pos (starEach [] X.env)).any (·.1)=false:=by rfl) :
    PE X (.Call (.Name "list" p3) [e] [] pos) (fOf X.K B (nu Hv (ao m g8))):=by
  refine (Dd Eo hg hm PyProof.Rows.boot_list (jr ha qz he) (by decide) (by decide) he hpl).imp fun σ H Q z0=>?_
  obtain ⟨st,ps,S,as,R,t,st',e,q⟩:=z0
  obtain ⟨ts,e1,e2⟩:=Di e
  obtain ⟨t1,s1,us,ea,en,rfl⟩:=Cz e1
  cases en
  refine ⟨st,ps,S,as,R,t1,_,ea,fun v H1 S1 as1 R1=>?_⟩
  have top:=R1.top
  cases top with
  | @lst a vs ts g1 g2 =>
    simp only [Hv] at e2; cases e2
    refine ⟨a,vs,rfl,.inl (j5 R1.sub g1),fun p hp=>?_⟩
    obtain ⟨bD,sD,nD,no⟩:=R1.fresh hp
    exact q p _ S1 as1 (R1.drop.a85 bD sD nD (fun j w e1 e2=>no j w e1 e2)) ⟨⟨vs,d7,g2⟩,sD,nD,bD⟩ (fun j w e1 e2=>no j w e1 e2)
  | @tup a vs ts g1 g2 =>
    simp only [Hv] at e2; cases e2
    refine ⟨a,vs,rfl,.inr (mz R1.sub g1),fun p hp=>?_⟩
    obtain ⟨bD,sD,nD,no⟩:=R1.fresh hp
    exact q p _ S1 as1 (R1.drop.a85 bD sD nD (fun j w e1 e2=>no j w e1 e2)) ⟨⟨vs,d7,g2⟩,sD,nD,bD⟩ (fun j w e1 e2=>no j w e1 e2)
  | _=>simp only [Hv,reduceCtorEq] at e2
end
end C
end
section
namespace C
open PySem PySem.Spec PyProof.Rows L2
section
variable {X:Cx} {B:Bas} {a:Expr} {m:M T} {pos p:Pos}
end
end C
end
section
namespace C
open PySem
def sIx (n d:Nat):Option Int→Nat
  | none=>d
  | some v=>if v<0 then (v+(n:Int)).toNat else min v.toNat n
def a2v (xs:List T) (lo hi:Option Int):List T:=(xs.drop (sIx xs.length 0 lo)).take (sIx xs.length xs.length hi - sIx xs.length 0 lo)
def a5o (lo hi:Option Int):T→Option T
  | .lst xs=>some (.lst (a2v xs lo hi))
  | .tup xs=>if sIx xs.length 0 lo=0∧sIx xs.length xs.length hi=xs.length then none else some (.tup (a2v xs lo hi))
  | _=>none
def Xd:M (Option Int):=fun s=>some (none,s)
def En (e:M T):M (Option Int):=fun s=>match e s with
  | some (.int i,s1)=>some (some i,s1)
  | _=>none
def Hj (m:M T) (lo hi:M (Option Int)):M T:=fun s=>match m s with
  | some (t,s1)=>match lo s1 with
    | some (l,s2)=>match hi s2 with
      | some (h,s3)=>match a5o l h t with
        | some u=>some (u,s3)
        | none=>none
      | none=>none
    | none=>none
  | none=>none
def Dz (i:Nat) (k:M T):M T:=fun s=>if Cw i s then (match k s with
  | some (.int j,s1)=>match s1.env[i]? with
    | some (some (.lst xs,_))=>match (ixI xs.length j).bind (xs[·]?) with
      | some t=>some (t,s1)
      | none=>none
    | _=>none
  | _=>none) else none
end C
end
section
namespace C
open PySem PySem.Sem
def acr:Bool→Heap→Addr→Addr→Nat→Prop
  | true,h,it,a,i=>h.IsListIter it a i
  | false,h,it,a,i=>h.IsTupleIter it a i
theorem acr.obj {k:Bool} {h:Heap} {it a:Addr} {i:Nat} (x:acr k h it a i):∃ o,h.get? it=some o∧∀ v,o.data≠.cell v:=by
  cases k <;> obtain ⟨o,ho,_,d⟩:=x <;> exact ⟨o,ho,fun v z=>by rw [d] at z; cases z⟩
section
variable {prog:Program} {w:World} {A:Around} {E:Value→Shared→Prop} {s:Shared}
end
structure ada (h:Heap) (z ti to' i1 i2:Addr) (f:Value):Prop where
  zip:IsZip h z ti to' f
  its:IsPair h ti (.ref i1) (.ref i2)
  kept:∃ a b,IsPair h to' a b
structure Far (z ti to' i1 i2:Addr):Prop where
  nd:[z,ti,to',i1,i2].Nodup
theorem Far.all {z ti to' i1 i2:Addr} (f:Far z ti to' i1 i2):ti≠z∧to'≠z∧i1≠z∧i2≠z∧ti≠to'∧ti≠i1∧ti≠i2∧to'≠i1∧to'≠i2∧i1≠i2:=by
  have:=f.nd
  simp only [List.nodup_cons,List.mem_cons,List.not_mem_nil,or_false,not_or] at this
  obtain ⟨⟨a,b,c,d⟩,⟨e,f,g⟩,⟨h,i⟩,j,_⟩:=this
  exact ⟨Ne.symm a,Ne.symm b,Ne.symm c,Ne.symm d,e,f,g,h,i,j⟩
section
variable {prog:Program} {w:World} {A:Around} {E:Value→Shared→Prop} {s:Shared}
end
section
variable {prog:Program} {w:World} {A:Around} {E:Value→Shared→Prop} {s:Shared}
end
end C
end
section
namespace C
open PySem PySem.Spec PyProof.Rows L2
theorem Inv.a7f {X:Cx} {pins:List (Addr × Obj)} {σ:L2.St} {H:Hp} {s:Shared} {h':Heap} {t':Nat} {ch:List Addr} {n:Addr} {o:HO} (I:L2.Inv X pins σ H s) (hch:∀ b∈ch,T7 X pins H b)
    (k:∀ b u,b∉ch→s.heap.get? b=some u→h'.get? b=some u) (hp:s.heap.objs.size≤n) (new:vg X.prog X.w (upd H n o) h' n o):L2.Inv X pins σ (upd H n o) { s with heap:=h',toks:=t' }:=by
  have fr:=I.hok.fresh hp
  have nn:∀ b u,s.heap.get? b=some u→b≠n:=fun b u e=>Nat.ne_of_lt (Nat.lt_of_lt_of_le (Heap.lt_size e) hp)
  have nch:∀ b u,H b=some u→b∉ch:=fun b u e z=>by rw [(hch b z).1] at e; cases e
  refine I.step (g':=s.gens) (d':=s.drawn) (ch:=ch) (fun b hb=>?_) (fun b u _ _ hc e _=>k b u hc e) (fun b u _ _ hc e _=>⟨u.slots,k b u hc e⟩) (fun b u _ e z=>by rw [dj (nn b u e)]; exact z)
    (fun b u hc e=>⟨u,k b u hc e⟩) (fun b xs e=>by rw [dj (ug e fr)]; exact e) (fun b u xs e=>by rw [dj (ug e fr)]; exact e) (fun b ps e=>⟨#[],by rw [dj (ug e fr),e]; simp⟩) (fun m hm=>?_) (fun b u e=>?_) I.bare
  · obtain ⟨f0,f1,f2,f3,f4,f5⟩:=hch b hb
    exact ⟨f3,f1,f4,f5⟩
  · obtain ⟨ob,es,ep,ho,r⟩:=hm
    exact ⟨ob,es,ep,k _ ob (fun z=>(hch _ z).2.1 rfl) ho,r⟩
  · by_cases hb:b=n
    · subst hb; rw [d7] at e; cases e; exact new
    · rw [dj hb] at e
      refine (I.hok b u e).stay (fun c v hc q=>k c v ?_ q) (fun c q=>by rw [dj (ug q fr)]; exact q) fun c xs q=>by rw [dj (ug q fr)]; exact q
      rcases hc with rfl | hc
      · exact nch _ _ e
      · exact nch _ _ hc
theorem Inv.a76 {X:Cx} {pins:List (Addr × Obj)} {σ:L2.St} {H:Hp} {s:Shared} {h':Heap} {t':Nat} {ch:List Addr} (I:L2.Inv X pins σ H s) (hch:∀ b∈ch,T7 X pins H b)
    (k:∀ b u,b∉ch→s.heap.get? b=some u→h'.get? b=some u):L2.Inv X pins σ H { s with heap:=h',toks:=t' }:=by
  have nch:∀ b u,H b=some u→b∉ch:=fun b u e z=>by rw [(hch b z).1] at e; cases e
  refine I.step (g':=s.gens) (d':=s.drawn) (ch:=ch) (fun b hb=>?_) (fun b u _ _ hc e _=>k b u hc e) (fun b u _ _ hc e _=>⟨u.slots,k b u hc e⟩) (fun b u _ e z=>z)
    (fun b u hc e=>⟨u,k b u hc e⟩) (fun b xs e=>e) (fun b u xs e=>e) (fun b ps e=>⟨#[],by rw [e]; simp⟩) (fun m hm=>?_) (fun b u e=>?_) I.bare
  · obtain ⟨f0,f1,f2,f3,f4,f5⟩:=hch b hb
    exact ⟨f3,f1,f4,f5⟩
  · obtain ⟨ob,es,ep,ho,r⟩:=hm
    exact ⟨ob,es,ep,k _ ob (fun z=>(hch _ z).2.1 rfl) ho,r⟩
  · refine (I.hok b u e).stay (fun c v hc q=>k c v ?_ q) (fun c q=>q) fun c xs q=>q
    rcases hc with rfl | hc
    · exact nch _ _ e
    · exact nch _ _ hc
def Sq:Bool→PySem.W.Frag→Hp→Addr→List V→Prop
  | true,K,H,a,xs=>SqL K H a xs
  | false,K,H,a,xs=>SqT K H a xs
section
variable {X:Cx} {pins:List (Addr × Obj)} {σ:L2.St} {H:Hp} {s:Shared} {a:Addr} {xs ys:List V} {k:Bool}
end
section
variable {X:Cx} {B:Bas} {a b:Expr} {m m1 m2:M T} {pos p:Pos} {elts:List Expr} {x1:Nat} {tpos:Pos}
theorem Sq.mono {k:Bool} {K:PySem.W.Frag} {S H:Hp} {a:Addr} {vs:List V} (e:Same S H) (h:Sq k K S a vs):Sq k K H a vs:=by
  cases k with
  | true=>exact j5 e h
  | false=>exact mz e h
end
end C
end
section
namespace C
open PySem PySem.Spec PyProof.Rows L2
section
variable {X:Cx}
variable {B:Bas} {o e:Expr} {m1 m2:M T} {apos cpos:Pos}
end
end C
end
section
namespace C
open PySem PySem.Spec PyProof.Rows L2
theorem Vh (n d:Nat) (o:Option Int):sIx n d o=HT.sIx n d o:=by cases o <;> rfl
inductive oOf (K:PySem.W.Frag) (B:Bas) (m:M (Option Int)) (σ:L2.St) (H:Hp) (Q:Option Int→Hp→Prop):Prop
  | mk (st:Sta) (ps:List (V × T)) (S:Hp) (as:List Addr) (R:Rel K B st σ H ps S as) (o:Option Int) (st':Sta) (e:m st=some (o,st')) (q:∀ H' S' as',Rel K B st' σ H' ps S' as'→Q o H')
section
variable {X:Cx} {B:Bas} {a e:Expr} {m:M T} {ml mh:M (Option Int)} {lo hi:Option Expr} {pos p2:Pos}
theorem a7m:PO X none (oOf X.K B Xd):=fun pins s σ H Q I ⟨st,ps,S,as,R,o,st',e,q⟩=>a72 pins s σ H Q I (by cases e; exact q H S as R)
theorem Jz (h:PE X e (tOf X.K B m)):PO X (some e) (oOf X.K B (En m)):=fun pins s σ H Q I z9=>a7g h pins s σ H Q I (by
  obtain ⟨st,ps,S,as,R,o,st',eo,q⟩:=z9
  unfold En at eo
  split at eo
  · rename_i i s1 e1
    cases eo
    refine ⟨st,ps,S,as,R,.int i,_,e1,fun v H1 S1 as1 R1=>?_⟩
    cases R1.top
    exact ⟨i,rfl,q H1 S1 as1 R1.drop⟩
  · cases eo)
theorem Yp {s s':Sta} {v:T} (h:Hj m ml mh s=some (v,s')):∃ t s1 l s2 u,m s=some (t,s1)∧ml s1=some (l,s2)∧mh s2=some (u,s')∧a5o l u t=some v:=by
  unfold Hj at h
  split at h
  · rename_i t s1 e1
    split at h
    · rename_i l s2 e2
      split at h
      · rename_i u s3 e3
        split at h
        · rename_i w e4; cases h; exact ⟨t,s1,l,s2,u,e1,e2,e3,e4⟩
        · cases h
      · cases h
    · cases h
  · cases h
theorem qu.takes {K:PySem.W.Frag} {S:Hp} {as:List Addr}:∀ (n:Nat) {vs:List V} {ts:List T},qu K S as vs ts→qu K S as (vs.take n) (ts.take n)
  | 0,_,_,_=>.nil
  | _+1,_,_,.nil=>.nil
  | n+1,_,_,.cons h r=>.cons h (qu.takes n r)
theorem Od {K:PySem.W.Frag} {S:Hp} {as:List Addr} {vs:List V} {ts:List T} (r:qu K S as vs ts) (lo hi:Option Int):qu K S as (Zn vs lo hi) (a2v ts lo hi):=by
  unfold Zn a2v
  rw [Vh,Vh,r.length]
  exact qu.takes _ (r.drop _)
theorem W2 (ha:PE X a (tOf X.K B m)) (hl:PO X lo (oOf X.K B ml)) (hh:PO X hi (oOf X.K B mh)):PE X (.Subscript a (.Slice lo hi none p2) pos) (tOf X.K B (Hj m ml mh)) :=
  (Wh (Zg.or a5w) ha hl hh).imp fun σ H Q z9=>by
    obtain ⟨st,ps,S,as,R,t,st',e,q⟩:=z9
    obtain ⟨t1,s1,l,s2,u,e1,e2,e3,e4⟩:=Yp e
    refine ⟨st,ps,S,as,R,t1,s1,e1,fun v H1 S1 as1 R1=>⟨s1,_,S1,as1,R1,l,s2,e2,fun H2 S2 as2 R2=>⟨s2,_,S2,as2,R2,u,st',e3,fun H3 S3 as3 R3=>?_⟩⟩⟩
    have top:=R3.top
    cases top with
    | @lst b vs ts g1 g2 =>
      simp only [a5o] at e4; cases e4
      refine .inl ⟨b,vs,rfl,j5 R3.sub g1,fun p hp=>?_⟩
      have x:=Ext.laid R3.sub hp (.lst (Zn vs l u))
      exact q _ _ _ _ ((R3.drop.ext x).push (.lst (SqL.of d7) ((Od g2 l u).mono x.s nol)))
    | @tup b vs ts g1 g2 =>
      simp only [a5o] at e4
      split at e4
      · cases e4
      · rename_i hw
        cases e4
        refine .inr ⟨b,vs,rfl,mz R3.sub g1,?_,fun p hp=>?_⟩
        · rw [Vh,Vh,← g2.length] at hw; exact hw
        · have x:=Ext.laid R3.sub hp (.tup (Zn vs l u))
          exact q _ _ _ _ ((R3.drop.ext x).push (.tup (SqT.of d7) ((Od g2 l u).mono x.s nol)))
    | _=>exact jt e4
end
section
variable {prog:Program} {w:World} {A:Around} {E:Value→Shared→Prop} {s:Shared}
theorem Rw {sl:Addr} {t:Tok} {n:Nat} {Q:Int × Int × Nat→Shared→Prop} (hs:s.heap.IsSliceOf sl .none .none (.int (-1) t)) (h:Q ((n:Int) - 1,-1,n) s):wpAny (model prog w) A (Builtin.Slice.sliceApplied (.ref sl) (pure (n:Int))) Q E s:=by
  obtain ⟨os,g1,g2,g3⟩:=id hs
  have ea:Builtin.Slice.sliceAdjust none none (-1) (n:Int)=((n:Int) - 1,-1):=by
    unfold Builtin.Slice.sliceAdjust
    simp
  have en:Builtin.Slice.slicePlaces ((n:Int) - 1) (-1) (-1)=n:=by
    unfold Builtin.Slice.slicePlaces
    have h1:¬ ((-1:Int) > 0):=by decide -- here
    rw [if_neg h1]
    split
    · first
      | (simp; done)
      | (simp; omega)
    · (clear h1 ea g3 g2 g1 h hs; omega)
  unfold Builtin.Slice.sliceApplied Builtin.Slice.sliceFields
  refine wpAny_bind (wpAny_bind (wpAny_field g1 g3 (x:=.none) rfl (wpAny_bind (wpAny_field g1 g3 (x:=.none) rfl (wpAny_bind (wpAny_field g1 g3 (x:=.int (-1) t) rfl (wpAny_pure ?_)))))))
  refine wpAny_bind (HT.Df (.int (-1) t) ?_)
  refine (show wpAny _ _ (if ((-1:Int)==0)=true then _ else _) _ _ s from ?_)
  rw [if_neg (by decide)]
  refine wpAny_bind (HT.Df .none (wpAny_bind (HT.Df .none (wpAny_bind (wpAny_pure ?_)))))
  refine (show wpAny _ _ (match Builtin.Slice.sliceAdjust none none (-1) (n:Int) with | (lo,hi)=>pure (lo,(-1:Int),Builtin.Slice.slicePlaces lo hi (-1))) _ _ s from ?_)
  rw [ea]
  refine (show wpAny _ _ (pure ((n:Int) - 1,(-1:Int),Builtin.Slice.slicePlaces ((n:Int) - 1) (-1) (-1))) _ _ s from ?_)
  rw [en]
  exact wpAny_pure h
theorem aa2 {α β:Type} {f g:α→Option β}:∀ {l:List α},(∀ a∈l,f a=g a)→l.filterMap f=l.filterMap g
  | [],_=>rfl
  | a::l,h=>by rw [List.filterMap_cons,List.filterMap_cons,h a List.mem_cons_self,aa2 fun b hb=>h b (List.mem_cons_of_mem _ hb)]
theorem a0w (xs:Array Value):((List.range xs.size).filterMap fun (m:Nat)=>xs[(((xs.size:Nat):Int) - 1+(m:Int) * (-1)).toNat]?)=xs.toList.reverse:=by
  have e:∀ m∈List.range xs.size,xs[(((xs.size:Nat):Int) - 1+(m:Int) * (-1)).toNat]? = some (xs.toList.reverse.getD m .none):=fun m hm=>by
    have hm:=List.mem_range.mp hm
    have e1:(((xs.size:Nat):Int) - 1+(m:Int) * (-1)).toNat=xs.size - 1 - m:=by omega
    rw [e1,List.getD_eq_getElem?_getD,List.getElem?_reverse (by rw [Array.length_toList]; exact hm),Array.getElem?_toList,Array.length_toList,Array.getElem?_eq_getElem (by omega)]
    rfl
  rw [aa2 e]
  rw [show (fun (x:Nat)=>some (xs.toList.reverse.getD x Value.none))=some ∘ fun x=>xs.toList.reverse.getD x .none from rfl,List.filterMap_eq_map]
  apply List.ext_getElem
  · simp
  · intro i h1 h2
    simp [List.getD_eq_getElem?_getD,List.getElem?_eq_getElem h2]
theorem Xc {t sl:Addr} {k:Tok} {items:Array Value} {Q:Value→Shared→Prop} (ht:IsTup s.heap t items) (hs:s.heap.IsSliceOf sl .none .none (.int (-1) k))
    (h:Q (.ref s.heap.objs.size) { s with heap:=s.heap.push { cls:=.type "tuple",data:=.seq items.toList.reverse.toArray } }) (hsz:items.size≤sizeLine):wpAny (model prog w) A (getItem (.ref t) (.ref sl)) Q E s:=by
  have hz:sizeOk (.seq items.toList.reverse.toArray):=by
    show items.toList.reverse.toArray.size≤sizeLine
    rw [List.size_toArray,List.length_reverse,Array.length_toList]; exact hsz
  obtain ⟨os,g1,g2,g3⟩:=id hs
  have ty:s.TypeIs (.ref sl) "slice" := ⟨os,g1,g2⟩
  unfold getItem
  try with_reducible refine wpAny_holding ?_
  first | refine wpAny_bind (wpAny_pure ?_) | skip
  refine wpAny_bind (wpAny_sequenceKey ht.typeIs (by decide) (wpAny_bind (wpAny_callSpecial?_slot (name:=Str.ofString "__getitem__") ht.typeIs PyProof.Rows.slot_tuple_getitem
    (wpAny_call_entry PyProof.Rows.slot_tuple_getitem ht.typeIs entry_tuple_getitem ?_ (args_tuple_getitem _ _)))))
  refine (show wpAny _ _ (Builtin.Tuple.tupleItemsOf (.ref t) >>= _) _ _ s from wpAny_bind (tupleItemsOf_ ht (wpAny_bind (wpAny_typeOf ty ?_))))
  rw [if_pos (by decide)]
  refine wpAny_bind (Rw hs ?_)
  refine (show wpAny _ _ (if ((((items.size:Nat):Int) - 1)==0&&(-1:Int)==1&&items.size==items.size)=true then _ else _) _ _ s from ?_)
  rw [if_neg (by rw [show ((-1:Int)==1)=false from rfl,Bool.and_false,Bool.false_and]; exact Bool.false_ne_true),a0w]
  first
    | exact wpAny_bind (m:=Builtin.Tuple.tupleExact _) (wpAny_newObj_type (wpAny_pure ⟨_,rfl,wpAny_pure h⟩) hz)
    | exact wpAny_bind (m:=Builtin.Tuple.tupleExact _) (wpAny_newObj_type (wpAny_bind (wpAny_pure (wpAny_pure ⟨_,rfl,wpAny_pure h⟩))) hz)
    | exact wpAny_bind (wpAny_bind (m:=Builtin.Tuple.tupleExact _) (wpAny_newObj_type (wpAny_pure (wpAny_pure ⟨_,rfl,wpAny_pure h⟩)) hz))
    | exact wpAny_bind (wpAny_bind (m:=Builtin.Tuple.tupleExact _) (wpAny_newObj_type (wpAny_pure ⟨_,rfl,wpAny_pure h⟩) hz))
end
section
variable {X:Cx} {B:Bas} {e:Expr} {te:TE} {m m1 m2:M T} {pos p p2 p3 p4:Pos} {j:Nat}
def ac2 (K:PySem.W.Frag):V→Hp→VK→Prop:=fun x H Q=>∃ a xs,x=.ref a∧((SqL K H a xs∧∀ p,H p=none→Q (.ref p) (upd H p (.lst xs.reverse)))∨(SqT K H a xs∧∀ p,H p=none→Q (.ref p) (upd H p (.tup xs.reverse))))
theorem a7y:PE X (.UnaryOp .USub (.Constant (.int 1) j p4) p3) (tC (.int (-1))):=(aac a5v a6g).imp fun σ H Q q=>⟨1,rfl,q⟩
theorem a87 (he:PE X e te):PE X (.Subscript e (.Slice none none (some (.UnaryOp .USub (.Constant (.int 1) j p4) p3)) p2) pos) (fun σ H Q=>te σ H fun x H1=>ac2 X.K x H1 Q):=by
  intro pins s σ H Q I h
  refine Subscript_ (thn (he pins s σ H _ I h) fun v s1 z0=>?_)
  obtain ⟨x,H1,I1,r1,q1⟩:=z0
  refine wpAny_Slice ?_
  rw [evalPart_none]
  refine wpAny_pure (wpAny_pure ?_) -- here
  rw [evalPart_some]
  refine thn (a7y pins s1 σ H1 (fun v H2=>v=.int (-1)∧H2=H1) I1 ⟨rfl,rfl⟩) fun vk s2 z0=>?_
  obtain ⟨y,H2,I2,r2,ey,eH⟩:=z0
  subst ey eH
  obtain ⟨t,rfl⟩:=r2
  obtain ⟨a,xs,rfl,hx⟩:=q1
  cases r1
  have I4:L2.Inv X pins σ H2 { s2 with heap:=s2.heap.push { cls:=.type "slice",data:=.fields #[.none,.none,.int (-1) t] } }:=I2.kept (t':=s2.toks) fun b ob q=>Heap.get?_push_of_some _ q
  rcases hx with ⟨hx,q⟩ | ⟨hx,q⟩
  · obtain ⟨its,r,ht,hz⟩:=I4.list hx
    have hlen:=r.length
    refine tail_any (ops:=[.ref a,.ref s2.heap.objs.size]) (T := "list") ht.isList.typeIs slot_list_getitem.lookup ?_ (by with_unfolding_all rfl)
    refine wpAny_getItem_list_slice ht.isList (Heap.IsSliceOf.new ..) .none .none (.int (-1) t) (by decide) ?_ (by rw [List.size_toArray] <;> (clear ht r q hx I4 I1 I2 h I he; omega))
    rw [PySem.W.krv_pick]
    refine ⟨.ref _,_,I4.laid (t':=s2.toks) (o:=.lst xs.reverse) (fun b ob q=>Heap.get?_push_of_some _ q) (Nat.le_refl _) ?_,rfl,q _ (I4.hok.fresh (Nat.le_refl _))⟩
    exact ⟨by rw [List.length_reverse]; exact hz,_,0,by simpa using r.reverse,Heap.get?_push_size _ rfl⟩
  · obtain ⟨its,r,ht,hz⟩:=I4.tuple hx
    have hlen:=r.length
    refine tail_any (ops:=[.ref a,.ref s2.heap.objs.size]) (T := "tuple") ht.typeIs PyProof.Rows.slot_tuple_getitem.lookup ?_ (by with_unfolding_all rfl)
    refine Xc ht (Heap.IsSliceOf.new ..) ?_ (by rw [List.size_toArray] <;> (clear ht r q hx I4 I1 I2 h I he; omega))
    refine ⟨.ref _,_,I4.laid (t':=s2.toks) (o:=.tup xs.reverse) (fun b ob q=>Heap.get?_push_of_some _ q) (Nat.le_refl _) ?_,rfl,q _ (I4.hok.fresh (Nat.le_refl _))⟩
    exact ⟨by rw [List.length_reverse]; exact hz,its.reverse,r.reverse,a3c.new _ its.reverse.toArray⟩
theorem a77 (ha:PE X e (tOf X.K B m)):PE X (.Subscript e (.Slice none none (some (.UnaryOp .USub (.Constant (.int 1) j p4) p3)) p2) pos) (tOf X.K B (mUn a8m m)) :=
  (a87 ha).imp fun σ H Q z9=>by
    obtain ⟨st,ps,S,as,R,t,st',e,q⟩:=z9
    obtain ⟨t1,e1,e3⟩:=a0e e
    refine ⟨st,ps,S,as,R,t1,st',e1,fun v H1 S1 as1 R1=>?_⟩
    have top:=R1.top
    cases top with
    | @lst a vs ts g1 g2 =>
      simp only [a8m] at e3; cases e3
      refine ⟨a,vs,rfl,.inl ⟨j5 R1.sub g1,fun p hp=>?_⟩⟩
      have x:=Ext.laid R1.sub hp (.lst vs.reverse)
      exact q _ _ _ _ ((R1.drop.ext x).push (.lst (SqL.of d7) (g2.reverse.mono x.s nol)))
    | @tup a vs ts g1 g2 =>
      simp only [a8m] at e3; cases e3
      refine ⟨a,vs,rfl,.inr ⟨mz R1.sub g1,fun p hp=>?_⟩⟩
      have x:=Ext.laid R1.sub hp (.tup vs.reverse)
      exact q _ _ _ _ ((R1.drop.ext x).push (.tup (SqT.of d7) (g2.reverse.mono x.s nol)))
    | _=>exact jt e3
theorem Yh {i:Nat} {k:M T} {s s':Sta} {t:T} (h:Dz i k s=some (t,s')):Cw i s=true∧∃ j xs f n,k s=some (.int j,s')∧s'.env[i]? = some (some (.lst xs,f))∧ixI xs.length j=some n∧xs[n]? = some t:=by
  unfold Dz at h
  split at h
  · rename_i hd
    refine ⟨hd,?_⟩
    split at h
    · rename_i j s1 e1
      split at h
      · rename_i xs f e2
        split at h
        · rename_i u e3
          cases h
          obtain ⟨n,h1,h2⟩:=Option.bind_eq_some_iff.mp e3
          exact ⟨j,xs,f,n,e1,e2,h1,h2⟩
        · cases h
      · cases h
    · cases h
  · cases h
theorem Ws (i:Nat) {o k:Expr} {mk:M T} (ho:PE X o (Mq i)) (hk:PE X k (tOf X.K B mk)) (hs:Ot k):PE X (.Subscript o k pos) (tOf X.K B (Dz i mk)):=(a74 Ug ho hk hs).imp fun σ H Q z9=>by
  obtain ⟨st,ps,S,as,R,t,st',e,q⟩:=z9
  obtain ⟨hd,j,xs,f,n,e1,e2,e3,e4⟩:=Yh e
  obtain ⟨xs0,f0,e0⟩:=Bq hd
  obtain ⟨p0,vs0,s0,_⟩:=R.listAt e0
  refine ⟨_,s0,st,ps,S,as,R,.int j,st',e1,fun u H2 S2 as2 R2=>?_⟩
  cases R2.top
  obtain ⟨p1,vs1,s1,rd1,h4⟩:=R2.listAt e2
  rw [s0] at s1; cases s1
  obtain ⟨z,hz,rz⟩:=h4.get e4
  refine ⟨p0,vs1,j,z,rfl,rfl,rd1,?_,q z H2 S2 as2 (R2.drop.push rz)⟩
  rw [Mv,← h4.length] at e3
  unfold atI; rw [e3]; exact hz
end
end C
end
section
end
section
namespace C
open PySem PySem.Spec L2
def Held (K:PySem.W.Frag) (u:Value) (t:T):Prop:=∃ v,RelV v u∧∀ S as,Rep K S as v t
def Tg (K:PySem.W.Frag) (us:List Value) (ts:List T):Prop:=∃ vs,Vals vs us∧∀ S as,qu K S as vs ts
section
variable {K:PySem.W.Frag}
theorem Held.int {i:Int} {tk:Tok}:Held K (.int i tk) (.int i):=⟨.int i,⟨tk,rfl⟩,fun _ _=>.int i⟩
theorem Held.str {x:Str} {tk:Tok}:Held K (.str x tk) (.str x):=⟨.str x,⟨tk,rfl⟩,fun _ _=>.str x⟩
theorem Held.bl {b:Bool}:Held K (.bool b) (.bl b):=⟨.bl b,rfl,fun _ _=>.bl b⟩
theorem Held.non:Held K .none .non:=⟨.non,rfl,fun _ _=>.non⟩
theorem Tg.nil:Tg K [] []:=⟨[],.nil,fun _ _=>.nil⟩
theorem Tg.cons {u:Value} {t:T} {us:List Value} {ts:List T} (h:Held K u t) (hs:Tg K us ts):Tg K (u::us) (t::ts):=by
  obtain ⟨v,r,e⟩:=h
  obtain ⟨vs,rs,es⟩:=hs
  exact ⟨v::vs,.cons r rs,fun S as=>.cons (e S as) (es S as)⟩
theorem Held.tup {a:Addr} {us:List Value} {n:Nat} {sl:Array (Option Value)} {ts:List T} (h:K.lookup a=some ⟨.type "tuple",none,.seq us.toArray n,sl⟩) (hz:us.length≤1000) (hs:Tg K us ts):Held K (.ref a) (.tup ts):=by
  obtain ⟨vs,rs,es⟩:=hs
  refine ⟨.ref a,rfl,fun S as=>.tup (.inr ⟨_,us.toArray,n,h,rfl,rfl,rfl,?_,?_⟩) (es S as)⟩
  · rw [List.size_toArray,sizeLine_eq]; omega
  · exact rs
theorem Held.lst {a:Addr} {us:List Value} {n:Nat} {sl:Array (Option Value)} {ts:List T} (h:K.lookup a=some ⟨.type "list",none,.seq us.toArray n,sl⟩) (hz:us.length≤1000) (hs:Tg K us ts):Held K (.ref a) (.lst ts):=by
  obtain ⟨vs,rs,es⟩:=hs
  refine ⟨.ref a,rfl,fun S as=>.lst (.inr ⟨_,us.toArray,n,h,rfl,rfl,rfl,?_,?_⟩) (es S as)⟩
  · rw [List.size_toArray,sizeLine_eq]; omega
  · exact rs
end
section
variable {X:Cx} {B:Bas} {pos:Pos}
end
end C
end
section
namespace C
open PySem PySem.Spec PyProof.Rows
theorem aas (t:SetTable) (n:Nat):(t.orStandIn n).led=t.led∧(t.plain=false→(t.orStandIn n).plain=false):=by
  unfold SetTable.orStandIn
  cases t.fits n
  · exact ⟨rfl,fun _=>rfl⟩
  · exact ⟨rfl,id⟩
theorem a7j (t:SetTable) (es:Array (Int × Value)) (h:Int) (x:Value):(layNew t es h x).2.1.led=t.led∧(t.plain=false→(layNew t es h x).2.1.plain=false):=by
  unfold layNew
  cases t.freeSlot h with
  | none=>exact ⟨rfl,fun _=>rfl⟩
  | some p=>exact aas _ _
theorem Y5 {t t':SetTable} {hs:Array Int} {n:Nat} {ord:Array Nat} (h:t.relaid hs n=some (t',ord)):t'.led=t.led∧t'.plain=t.plain:=by
  unfold SetTable.relaid SetTable.laid at h
  cases hl:SetTable.layClean (SetTable.sizeAbove n - 1) hs with
  | none=>rw [hl] at h; cases h -- here
  | some ow=>rw [hl] at h; cases h; exact ⟨rfl,rfl⟩
theorem a1m (t:SetTable) (es:Array (Int × Value)) (n:Nat):(relayAll t es n).2.1.led=t.led∧(t.plain=false→(relayAll t es n).2.1.plain=false):=by
  unfold relayAll
  cases hr:t.relaid (es.map (·.1)) n with
  | none=>exact ⟨rfl,fun _=>rfl⟩
  | some p =>
    obtain ⟨t',ord⟩:=p
    have h:=Y5 hr
    dsimp only
    split
    · exact ⟨h.1,fun hp=>h.2.trans hp⟩
    · exact ⟨rfl,fun _=>rfl⟩
def a1w (w:World):Bool:=w.params.followText "set-order"
def Kh (P:Program) (w:World) (o:Obj) (l:List Str):Prop :=
  ∃ es ep t,o.ExactSet∧o.data=.set es ep t∧ElemsOf (strKind P w) es.toList∧l=es.toList.map (fun e=>strOf e.2)∧l.Nodup∧es.size<scanBound∧t.fits es.size=true∧t.led=!a1w w∧(l≠[]→t.plain=false)
theorem a5m {P:Program} {w:World} {es:List (Int × Value)} (h:ElemsOf (strKind P w) es) {e:Int × Value} (he:e∈es):∃ tk,e.2=.str (strOf e.2) tk:=by
  obtain ⟨⟨k,hk,_⟩,_⟩:=h e he
  obtain ⟨tk,e'⟩:=Value.isStrOf_shape hk
  exact ⟨tk,by rw [e']; rfl⟩
theorem ac4 {P:Program} {w:World} {es:List (Int × Value)} (h:ElemsOf (strKind P w) es) {x:Str}:x∈es.map (fun e=>strOf e.2)↔∃ e∈es,(strKind P w).is x e.2=true:=by
  constructor
  · intro hx
    obtain ⟨e,he,rfl⟩:=List.mem_map.mp hx
    obtain ⟨tk,e'⟩:=a5m h he
    refine ⟨e,he,?_⟩
    rw [e']
    exact strKind_is _ _ _ _
  · rintro ⟨e,he,hk⟩
    obtain ⟨tk,e'⟩:=Value.isStrOf_shape hk
    exact List.mem_map.mpr ⟨e,he,by rw [e']; rfl⟩
section
variable {prog:Program} {w:World} {A:Around} {E:Value→Shared→Prop} {s:Shared}
theorem a69 {a:Addr} {o:Obj} {es es':Array (Int × Value)} {ep:Nat} {t t':SetTable} (ho:s.heap.get? a=some o) (hd:o.data=.set es ep t) :
    (s.heap.update a (Obj.putSet es' t')).get? a=some { o with data:=.set es' (ep+1) t' }:=by
  have g:=Heap.get?_update_self (Obj.putSet es' t') ho (by rw [putSet_of es' t' hd]; rfl)
  rwa [putSet_of es' t' hd] at g
theorem a0v {g:Bool→Sem Unit} (hg:∀ (b:Bool) (s1:Shared) (Q1:Unit→Shared→Prop),Q1 () s1→wpAny (model prog w) A (g b) Q1 E s1)
    {a:Addr} {o:Obj} {es e1:Array (Int × Value)} {ep:Nat} {t t2:SetTable} (ho:s.heap.get? a=some o) (hd:o.data=.set es ep t) (hb:e1.size<scanBound) (hf:t2.fits e1.size=true) {dm:Bool} {R:Option Bool→Shared→Prop}
    (k:∀ h' e' ep' t',Heap.SameBut a s.heap h'→h'.get? a=some { o with data:=.set e' ep' t' }→e'.toList.Perm e1.toList→t'.fits e'.size=true→t'.led=t2.led→(t2.plain=false→t'.plain=false)→R (some true) { s with heap:=h' }) :
    wpAny (model prog w) A (do
        storeSet a e1 t2
        if (!dm&&t2.tooFull)=true then do
            g (relayAll t2 e1 (SetTable.grown e1.size)).2.2
            storeSet a (relayAll t2 e1 (SetTable.grown e1.size)).1 (relayAll t2 e1 (SetTable.grown e1.size)).2.1
            pure (some true)
          else pure (some true)) R E s:=by -- here
  have at1:=a69 (es':=e1) (t':=t2) ho hd
  have sb:=Heap.SameBut.update s.heap a (Obj.putSet e1 t2)
  refine wpAny_bind (wpAny_storeSet_of ho hd ?_ (fits_of_scanBound hb))
  by_cases hc:(!dm&&t2.tooFull)=true
  · rw [if_pos hc]
    have pm:=relayAll_perm t2 e1 (SetTable.grown e1.size)
    have ft:=relayAll_fits t2 e1 (SetTable.grown e1.size)
    have ld:=a1m t2 e1 (SetTable.grown e1.size)
    generalize relayAll t2 e1 (SetTable.grown e1.size)=Rl at pm ft ld ⊢
    obtain ⟨e2,t3,gv⟩:=Rl
    dsimp only at pm ft ld ⊢
    have sz:e2.size=e1.size:=by rw [← Array.length_toList,pm.length_eq,Array.length_toList]
    have hb2:e2.size<scanBound:=by (clear ld ft pm hc sb at1 k hf hd ho hg; omega)
    refine wpAny_bind (hg _ _ _ (wpAny_bind (wpAny_storeSet_of (es:=e1) (ep:=ep+1) (t:=t2) at1 rfl (wpAny_pure ?_) (fits_of_scanBound hb2))))
    exact k _ e2 (ep+1+1) t3 (sb.trans (Heap.SameBut.update _ a _)) (a69 (s:={ s with heap:=s.heap.update a (Obj.putSet e1 t2) }) (o:={ o with data:=.set e1 (ep+1) t2 }) (es:=e1) (ep:=ep+1) (t:=t2) at1 rfl) pm ft ld.1 ld.2
  · rw [if_neg hc]
    exact wpAny_pure (k _ _ _ _ sb at1 (.refl _) hf rfl id)
theorem a9g {a:Addr} {o:Obj} {l:List Str} {x:Str} {tk:Tok} {Q:Bool→Shared→Prop} (ho:s.heap.get? a=some o) (hS:Kh prog w o l) (hr:l.length+1<scanBound)
    (k:∀ b h' o' l',Heap.SameBut a s.heap h'→h'.get? a=some o'→Kh prog w o' l'→l'.Perm (if x∈l then l else l++[x])→Q b { s with heap:=h' }) :
    wpAny (model prog w) A (setAddHashed a (.str x tk) ((strKind prog w).hash x)) Q E s:=by
  obtain ⟨es,ep,t,hex,hd,hel,rfl,hnd,hb,hf,hled,hpl⟩:=hS
  have hkey:(strKind prog w).is x (.str x tk)=true:=strKind_is _ _ _ _
  have hsc:(Value.str x tk).scannable=true:=rfl
  rw [List.length_map,Array.length_toList] at hr
  have hmem:=ac4 hel (x:=x)
  unfold setAddHashed setAddHashedIn -- here
  refine wpAny_holding (wpAny_bind (wpAny_setState_of ho hd hf ?_)) -- here
  dsimp only
  rw [byScan_of hsc hb hel]
  simp only [↓reduceIte]
  unfold setAddByScan
  refine wpAny_bind (wpAny_bind (wpAny_rule (wpAny_bind (wpAny_setScan_of hkey ho hd hf hel ?_))))
  cases hfi:List.findIdx? (fun e=>(strKind prog w).is x e.2) es.toList with
  | some j =>
    dsimp only
    obtain ⟨hj,hpj,_⟩:=List.findIdx?_eq_some_iff_getElem.mp hfi
    have hx:=hmem.mpr ⟨es.toList[j],List.getElem_mem hj,hpj⟩
    refine wpAny_pure (wpAny_pure ?_) -- here
    have e:s = { s with heap:=s.heap }:=by cases s; rfl -- here
    rw [e]
    exact k _ s.heap o _ (Heap.SameBut.refl a s.heap) ho ⟨es,ep,t,hex,hd,hel,rfl,hnd,hb,hf,hled,hpl⟩ (by rw [if_pos hx])
  | none =>
    dsimp only
    have hx:x∉es.toList.map (fun e=>strOf e.2):=fun hx=>by
      obtain ⟨e,he,hp⟩:=hmem.mp hx
      have:=List.findIdx?_eq_none_iff.mp hfi e he
      rw [hp] at this; cases this
    have pm:=layNew_perm t es ((strKind prog w).hash x) (.str x tk)
    have ft:=layNew_fits t es ((strKind prog w).hash x) (.str x tk)
    have ld:=a7j t es ((strKind prog w).hash x) (.str x tk)
    generalize hL:layNew t es ((strKind prog w).hash x) (.str x tk)=L at pm ft ld ⊢
    obtain ⟨e1,t1,dm,gave⟩:=L
    dsimp only at pm ft ld ⊢
    rw [Array.toList_push] at pm
    have hb1:e1.size<scanBound:=by rw [← Array.length_toList,pm.length_eq,List.length_append,Array.length_toList]; simpa using hr
    have gw:∀ (b:Bool) (s1:Shared) (Q1:Unit→Shared→Prop),Q1 () s1→wpAny (model prog w) A (match b with | true=>rule "set.scan.the-table-gave-way" | false=>pure ()) Q1 E s1 :=
      fun b s1 Q1 q=>by cases b <;> first | exact wpAny_pure q | exact wpAny_rule q
    have fin:∀ (t2:SetTable),t2.led=t1.led→t2.plain=false→∀ h' e' ep' t',Heap.SameBut a s.heap h'→h'.get? a=some { o with data:=.set e' ep' t' }→e'.toList.Perm e1.toList→t'.fits e'.size=true→t'.led=t2.led→(t2.plain=false→t'.plain=false)→Q true { s with heap:=h' }:=by
      intro t2 l2 p2 h' e' ep' t' sb ge pe fe le pl
      have pe':(e'.toList.map fun e=>strOf e.2).Perm (es.toList.map (fun e=>strOf e.2)++[x]):=by
        have:=(pe.trans pm).map (fun e:Int × Value=>strOf e.2)
        rwa [List.map_append] at this
      have sz:e'.size=e1.size:=by rw [← Array.length_toList,pe.length_eq,Array.length_toList]
      refine k true h' _ (e'.toList.map fun e=>strOf e.2) sb ge ⟨e',ep',t',hex,rfl,((hel.push hkey hsc).perm pm).perm pe,rfl,?_,by (clear pe' pl le fe pe ge sb p2 l2 gw ld ft pm hL hx hfi hmem hsc hkey hpl hled hf hb hnd k hr hel hd hex ho; omega),fe,by rw [le,l2,ld.1,hled],fun _=>pl p2⟩ (by rw [if_neg hx]; exact pe')
      refine (pe'.nodup_iff).mpr ?_
      rw [List.nodup_append]
      refine ⟨hnd,by simp,fun a ha b hb e=>?_⟩
      rw [List.mem_singleton] at hb
      subst hb e
      exact hx ha
    refine wpAny_bind (gw _ _ _ ?_)
    by_cases hp:t1.plain=true
    · rw [if_pos hp]
      refine wpAny_bind ?_
      rw [hashByValue_scannable 8 hsc] -- here
      refine wpAny_pure ?_
      refine a0v gw ho hd hb1 (t2:={ t1 with plain:=false }) (SetTable.fits_plain_off ft) fun h' e' ep' t' c1 c2 c3 c4 c5 c6=>?_
      exact wpAny_pure (fin { t1 with plain:=false } rfl rfl h' e' ep' t' c1 c2 c3 c4 c5 c6)
    · rw [if_neg hp]
      refine wpAny_bind (wpAny_pure ?_)
      simp only [↓reduceIte]
      refine a0v gw ho hd hb1 ft fun h' e' ep' t' c1 c2 c3 c4 c5 c6=>?_
      exact wpAny_pure (fin _ rfl (by simpa using hp) h' e' ep' t' c1 c2 c3 c4 c5 c6)
end
end C
end
section
namespace C
open PySem PySem.Spec PyProof.Rows
section
variable {prog:Program} {w:World} {A:Around} {R:Result→Shared→Prop} {I:Addr} {fp wr:List Addr} {G:Array GenState→Array GenState→Prop} {n:Nat} {P:Nat→Value→Prop} {St:Nat→Shared→Prop} -- here
theorem a7x (W:WalksS prog w A.in1 I fp wr G n P St) (S:Addr) (hSf:S∉fp) (val:Nat→Str) (hval:∀ i v,P i v→∃ t,v=.str (val i) t)
    (room:∀ l:List Str,l.Nodup→(∀ x∈l,∃ j,j<n∧val j=x)→l.length+1<scanBound) :
    ∀ (k i:Nat) (s:Shared) (o:Obj) (l:List Str),n - i=k→i≤n→St i s→s.heap.get? S=some o→Kh prog w o l→(∀ x,x∈l↔∃ j,j<i∧val j=x) →
      (∀ s' o' l',Moved (S::wr) G s s'→s'.heap.get? S=some o'→Kh prog w o' l'→(∀ x,x∈l'↔∃ j,j<n∧val j=x)→R (.ok (.ret .none)) s') →
      codeAny (model prog w) A (.builtin "set.update.loop" ⟨[.ref S,.ref I],[]⟩) R s:=by -- here
  have notin:S∉wr:=fun h=>hSf (W.sub _ h)
  have more:∀ b∈wr,b∈S::wr:=fun b hb=>List.mem_cons_of_mem _ hb
  intro k
  induction k with
  | zero =>
    intro i s o l hk hi hst ho hS hl hR
    obtain rfl:i=n:=by omega
    refine codeAny_builtin PyProof.Rows.F.entry_set_update_loop ?_
    rw [Around.under_plainId PyProof.Rows.F.plain_set_update_loop _]
    show wpAny _ A.in1 (pyNext (.ref I) >>= _) _ _ s -- here
    refine wpAny_bind (W.done s _ _ hst fun s1 mv=>?_)
    show wpAny _ A.in1 (ret Value.none) _ _ s1
    exact wpAny_pure (hR s1 o l (mv.mono more) (mv.heap S _ notin ho) hS hl)
  | succ k ih =>
    intro i s o l hk hi hst ho hS hl hR
    have lt:i<n:=by omega
    refine codeAny_builtin PyProof.Rows.F.entry_set_update_loop ?_
    rw [Around.under_plainId PyProof.Rows.F.plain_set_update_loop _]
    show wpAny _ A.in1 (pyNext (.ref I) >>= _) _ _ s -- here
    refine wpAny_bind (W.item i s _ _ lt hst fun v s1 hP st1 mv=>?_)
    obtain ⟨t,rfl⟩:=hval i v hP -- here
    have ho1:=mv.heap S _ notin ho
    show wpAny _ A.in1 (holding [Value.str (val i) t] (setAdd S (.str (val i) t)) >>= _) _ _ s1
    refine wpAny_bind (wpAny_holding ?_) -- here
    unfold setAdd
    refine wpAny_holding (wpAny_bind ((strKind prog w).pyHash (k:=val i) (strKind_is _ _ _ _) ?_))
    have hnd:l.Nodup:=let ⟨_,_,_,_,_,_,e,n,_⟩:=hS; n
    refine a9g (s:={ s1 with toks:=s1.toks+1 }) ho1 hS (room l hnd fun x hx=>?_) fun b h' o' l' sb ge hS' pe=>?_
    · obtain ⟨j,hj,e⟩:=(hl x).mp hx
      exact ⟨j,by omega,e⟩
    · have hl':∀ x,x∈l'↔∃ j,j<i+1∧val j=x:=fun x=>by
        rw [pe.mem_iff]
        constructor
        · intro hx
          have:x∈l∨x=val i:=by
            split at hx
            · exact .inl hx
            · rcases List.mem_append.mp hx with h | h
              · exact .inl h
              · exact .inr (List.mem_singleton.mp h) -- here
          rcases this with h | h
          · obtain ⟨j,hj,e⟩:=(hl x).mp h
            exact ⟨j,by omega,e⟩
          · exact ⟨i,by omega,h.symm⟩
        · rintro ⟨j,hj,e⟩
          by_cases hji:j=i
          · subst hji
            split
            · rename_i h; rw [← e]; exact h
            · exact List.mem_append_right _ (List.mem_singleton.mpr e.symm)
          · have:=(hl x).mpr ⟨j,by omega,e⟩
            split
            · exact this
            · exact List.mem_append_left _ this
      refine wpAny_pure ⟨plainId_quiet PyProof.Rows.F.plain_set_update_loop _,ih (i+1) _ o' l' (by omega) lt (W.frame _ s1 _ _ st1 (Nat.le_succ _) fun b hb ob e=>?_) ge hS' hl' fun s2 o2 l2 mv2 g2 hS2 hl2=>?_⟩
      · rw [sb.2 b (fun h:b=S=>hSf (by rw [← h]; exact hb))]; exact e
      · refine hR s2 o2 l2 (Moved.trans W.gtrans ((mv.mono more).then_heap (Nat.le_succ _) fun b ob hb e=>?_) mv2) g2 hS2 hl2
        rw [sb.2 b (fun h:b=S=>hb (by rw [h]; exact List.mem_cons_self))]; exact e
end
section
variable {prog:Program} {w:World} {A:Around} {E:Value→Shared→Prop} {s:Shared}
abbrev newS (w:World):Obj:={ cls:=.type "set",dict:=none,data:=.set #[] 0 (.fresh 0 0 (!a1w w)) }
theorem a8q:Kh prog w (newS w) []:=⟨#[],0,.fresh 0 0 (!a1w w),⟨rfl,rfl,rfl⟩,rfl,fun e he=>by simp at he,rfl,List.nodup_nil,by decide,rfl,rfl,fun h=>absurd rfl h⟩
theorem a4j (a:Value) {Q1:Value→Shared→Prop} (h:Q1 (.ref s.heap.objs.size) { s with heap:=s.heap.push (newS w) }) :
    codeAny (model prog w) A (.call (.builtin "set.__new__") ⟨[.type "set",a],[]⟩) (wants Q1 E) s:=by
  refine codeAny_of_tree ?_
  show wpAny _ A.in1 (do checkBuiltinCall "set.__new__" ⟨[.type "set",a],[]⟩; again (.builtin "set.__new__" ⟨[.type "set",a],[]⟩)) _ _ s -- here
  refine wpAny_bind (wpAny_of_eq (PySem.F.newCall_set_1 a) (wpAny_pure ⟨plainId_quiet PySem.F.plain_set_new _,codeAny_builtin PySem.F.entry_set_new ?_⟩))
  rw [Around.under_plainId PySem.F.plain_set_new _]
  unfold Builtin.«set.__new__» Builtin.Frozenset.newClass -- here
  have sub:=sub_set_self
  obtain ⟨hp,g,d,tk,os⟩:=s -- here
  dsimp only
  wp_walk
  refine wpAny_askSetting (wpAny_pure ?_) -- here
  dsimp only
  simp only [newObj]
  refine wpAny_bind (wpAny_alloc (wpAny_pure ?_)) -- here
  exact wpAny_pure h
end
end C
end
section
namespace C
open PySem PySem.Spec PyProof.Rows
section
variable {prog:Program} {w:World} {A:Around} {E:Value→Shared→Prop} {s:Shared}
theorem Vc {l:Addr} {items:Array Value} {ss:List Str} {Q:Value→Shared→Prop} (hh:A.handled=none) (hl:s.heap.IsList l items) (hi:StrsAre items.toList ss)
    (room:∀ m:List Str,m.Nodup→(∀ x∈m,x∈ss)→m.length+1<scanBound)
    (h:∀ (h':Heap) (tk:Nat) (o:Obj) (m:List Str),h'.get? s.heap.objs.size=some o→Kh prog w o m→(∀ x,x∈m↔x∈ss)→(∀ b u,s.heap.get? b=some u→h'.get? b=some u)→Q (.ref s.heap.objs.size) { s with heap:=h',toks:=tk }) :
    wpAny (model prog w) A (call (.type "set") [.ref l]) Q E s:=by -- here
  have lens:items.size=ss.length:=by rw [← Array.length_toList]; exact hi.length
  have vals:∀ (i:Nat) (v:Value),items[i]? = some v→∃ t,v=.str (ss.getD i ⟨#[]⟩) t:=fun i v hv=>by
    have go:∀ {vs:List Value} {ss:List Str},StrsAre vs ss→∀ (i:Nat) (v:Value),vs[i]? = some v→∃ t,v=.str (ss.getD i ⟨#[]⟩) t:=by
      intro vs ss hs
      induction hs with
      | nil=>intro i v h; simp at h
      | cons x t h ih =>
        intro i v h
        cases i with
        | zero=>simp at h; exact ⟨t,by rw [← h]; rfl⟩
        | succ i=>simp only [List.getElem?_cons_succ] at h; obtain ⟨u,e⟩:=ih i v h; exact ⟨u,by rw [e]; rfl⟩
    exact go hi i v (by rw [Array.getElem?_toList]; exact hv)
  have mems:∀ x,(∃ j,j<items.size∧ss.getD j ⟨#[]⟩=x)↔x∈ss:=fun x=>by
    rw [lens]
    constructor
    · rintro ⟨j,hj,rfl⟩
      rw [List.getD_eq_getElem?_getD,List.getElem?_eq_getElem hj]
      exact List.getElem_mem hj
    · intro hx
      obtain ⟨j,hj,e⟩:=List.getElem_of_mem hx
      exact ⟨j,hj,by rw [List.getD_eq_getElem?_getD,List.getElem?_eq_getElem hj]; exact e⟩
  have nil0:∀ x:Str,x∈([]:List Str)↔∃ j,j<0∧ss.getD j ⟨#[]⟩=x:=fun x=>by
    constructor
    · intro z; cases z
    · rintro ⟨j,hj,_⟩; exact absurd hj (Nat.not_lt_zero _)
  obtain ⟨c,tl,hmro⟩:=PySem.F.called_set.mro
  have hmade:=PySem.F.called_set.made
  have hsub:=PySem.F.called_set.sub
  refine wpAny_call (codeAny_of_tree ?_) -- here
  show wpAny _ _ (callAny (.type "set") _) _ _ _ -- here
  refine wpAny_pure ⟨Code.quiet_builtin _ (by decide +kernel),codeAny_builtin PySem.F.entry_type_call ?_⟩
  rw [Around.under_plain (weight_type_call_type "set" [.ref l] []) rfl] -- here
  have h1:=PySem.F.called_set.notType
  have h2:=PySem.F.called_set.canCreate
  have hct:=PySem.F.typeCall_set_1 (.ref l)
  repeat (any_goals (first | assumption | wp_step)) -- here
  refine codeAny_mono (a4j (.ref l) (E:=E) (Q1:=fun obj s1=>obj=.ref s.heap.objs.size∧s1 = { s with heap:=s.heap.push (newS w) }) ⟨rfl,rfl⟩) fun r s1 hr=>?_
  cases r with
  | error e=>exact hr
  | ok fl =>
    cases fl with
    | ret obj =>
      obtain ⟨rfl,rfl⟩:=hr
      have hS:(s.heap.push (newS w)).get? s.heap.objs.size=some (newS w):=Heap.get?_push_size _ rfl
      have hT:Shared.TypeIs { s with heap:=s.heap.push (newS w) } (.ref s.heap.objs.size) "set" := ⟨_,hS,rfl⟩
      have hli:=PySem.F.called_set.init.lookup
      have hbi:=PySem.F.called_set.init.bind (.ref s.heap.objs.size)
      repeat (any_goals (first | assumption | wp_step)) -- here
      refine codeAny_mono (codeAny_call_builtin (R:=wants (fun r s2=>r=.none∧∃ h' tk o m,s2 = { s with heap:=h',toks:=tk }∧h'.get? s.heap.objs.size=some o∧Kh prog w o m∧(∀ x,x∈m↔x∈ss)∧(∀ b u,s.heap.get? b=some u→h'.get? b=some u)) E) PySem.F.called_set.init.plain PySem.F.entry_set_init (check_set_init_1 hT ?_)) fun r2 s2 hr2=>?_
      · obtain ⟨ol,hol,hcl,nl,hdl⟩:=hl -- here
        obtain ⟨ocls,odict,odata,oslots⟩:=ol -- here
        simp only at hcl hdl
        subst hcl hdl
        have hol':(s.heap.push (newS w)).get? l=some { cls:=.type "list",dict:=odict,data:=.seq items nl,slots:=oslots }:=Heap.get?_push_of_some _ hol
        have hsls:=PySem.F.sub_list_set
        have hslf:=PySem.F.sub_list_frozenset
        have hne:(Value.type "list" == Value.type "dict")=false:=by decide -- here
        have hl1:(s.heap.push (newS w)).IsList l items:=⟨_,hol',rfl,nl,rfl⟩
        unfold Builtin.«set.__init__» noKeywords Builtin.Frozenset.updateFrom -- here
        generalize hPI:pyIter=PI
        wp_walk
        subst hPI
        refine wpAny_pyIter_list hl1 (wpAny_bind (wpAny_runValue ?_))
        have hlS:l<s.heap.objs.size:=Heap.lt_size hol -- here
        have hh3:A.in1.in1.in1.handled=none:=by simp [hh] -- here
        have size1:(s.heap.push (newS w)).objs.size=s.heap.objs.size+1:=Heap.size_push _ _
        have hneI:l≠(s.heap.push (newS w)).objs.size:=Nat.ne_of_lt (by rw [size1]; exact Nat.lt_succ_of_lt hlS)
        have hSf:s.heap.objs.size∉[(s.heap.push (newS w)).objs.size,l]:=by
          simp only [List.mem_cons,List.mem_singleton,List.not_mem_nil,or_false,not_or]
          exact ⟨Nat.ne_of_lt (by rw [size1]; exact Nat.lt_succ_self _),Nat.ne_of_gt hlS⟩
        refine a7x ((Walks.list hh3 _ l hneI items).toS) s.heap.objs.size hSf (fun i=>ss.getD i ⟨#[]⟩) vals (fun m hm hx=>room m hm fun x hxm=>(mems x).mp (hx x hxm)) (items.size - 0) 0 _ (newS w) [] (by omega) (Nat.zero_le _)
          ⟨⟨_,Heap.get?_push_size _ rfl,rfl,rfl⟩,(hl1.push _)⟩ (Heap.get?_push_of_some _ hS) a8q nil0 ?_
        intro s' o' m mv go hm hx
        obtain ⟨h',g',d',tk',os'⟩:=s' -- here
        have eg:g'=s.gens:=mv.gens
        have ed:d'=s.drawn:=mv.drawn
        have eo:os'=s.os:=mv.os
        subst eg ed eo
        show wpAny _ _ _ _ _ _
        refine wpAny_pure ?_
        show wpAny _ _ (ret Value.none) _ _ _ -- here
        refine wpAny_pure ⟨rfl,h',tk',o',m,rfl,go,hm,fun x=>(hx x).trans (mems x),fun b u e=>?_⟩
        have hb:=Heap.lt_size e
        refine mv.heap b u (fun hmem=>?_) (Heap.get?_push_of_some _ (Heap.get?_push_of_some _ e))
        rcases List.mem_cons.mp hmem with e' | hmem -- here
        · exact Nat.ne_of_lt hb e'
        · have e':=List.mem_singleton.mp hmem
          rw [size1] at e'
          exact Nat.ne_of_lt (Nat.lt_succ_of_lt hb) e'
      · cases r2 with
        | error e=>exact hr2
        | ok fl2 =>
          cases fl2 with
          | ret r =>
            obtain ⟨rfl,h',tk,o,m,rfl,go,hm,hx,hk⟩:=hr2
            repeat (any_goals (first | assumption | wp_step)) -- here
            exact h _ _ _ _ go hm hx hk
          | _=>exact hr2.elim
    | _=>exact hr.elim
end
end C
end
section
namespace C
open PySem PySem.Spec PyProof.Rows
theorem oh:PySem.Slot "set_iterator" "__next__" "set_iterator.__next__" :=
  .of (owner := "set_iterator") (n := "__next__") (by rw [typeLookup_type,builtinLookup_eq_fast]; kernel_rfl) (by decide +kernel) (by decide +kernel) (by decide +kernel)
    (by first | exact .inl (by decide +kernel) | exact .inr (by decide +kernel)) (by rw [isSubtype_type]; kernel_rfl) -- here
theorem Bg:entryFor table "set_iterator.__next__" = some Builtin.«set_iterator.__next__»:=entryFor_of_tree (by kernel_rfl)
theorem Vs:Manifest.owners.lookup (String.ofList ['r','o','t','a','r','e','t','i','_','t','e','s'].reverse)=some Manifest.sig_set_iterator:=by kernel_rfl
theorem Cj (a:Value):argsOk "set_iterator.__next__" ⟨[a],[]⟩:=by
  unfold argsOk; rw [signature?_of (id := "set_iterator.__next__") (n:=['_','_','t','x','e','n','_','_']) (o:=['r','o','t','a','r','e','t','i','_','t','e','s']) (by kernel_rfl) Vs]; kernel_rfl
theorem Mf:entryFor table "set.__iter__" = some Builtin.«frozenset.__iter__» :=
  entryFor_alias (id' := "frozenset.__iter__") (by kernel_rfl) rfl (by decide +kernel) (by kernel_rfl)
theorem J5:PySem.Slot "set_iterator" "__iter__" "set_iterator.__iter__" :=
  .of (owner := "set_iterator") (n := "__iter__") (by rw [typeLookup_type,builtinLookup_eq_fast]; kernel_rfl) (by decide +kernel) (by decide +kernel) (by decide +kernel)
    (by first | exact .inl (by decide +kernel) | exact .inr (by decide +kernel)) (by rw [isSubtype_type]; kernel_rfl) -- here
theorem Ou:entryFor table "set_iterator.__iter__" = some Builtin.«dict_keyiterator.__iter__» :=
  entryFor_alias (id' := "dict_keyiterator.__iter__") (by kernel_rfl) rfl (by decide +kernel) (by kernel_rfl) -- here
theorem Qx (a:Value):argsOk "set_iterator.__iter__" ⟨[a],[]⟩:=by
  unfold argsOk; rw [signature?_of (id := "set_iterator.__iter__") (n:=['_','_','r','e','t','i','_','_']) (o:=['r','o','t','a','r','e','t','i','_','t','e','s']) (by kernel_rfl) Vs]; kernel_rfl
theorem J1 {α:Type}:∀ {l:List α} {i:Nat} {x:α},l[i]? = some x→(x::l.eraseIdx i).Perm l
  | [],i,x,h=>by simp at h
  | y::l,0,x,h=>by simp at h; subst h; exact .refl _
  | y::l,i+1,x,h=>by
    simp only [List.getElem?_cons_succ] at h -- here
    rw [List.eraseIdx_cons_succ]
    exact (List.Perm.swap y x _).trans ((J1 h).cons y)
theorem a09 {α:Type} (next:Nat→Nat):∀ (fuel k:Nat) (left:List α) (out:Array α),left.length=fuel→(pickOrder.go next fuel k left out).toList.Perm (out.toList++left)
  | 0,k,left,out,h=>by
    have:left=[]:=List.length_eq_zero_iff.mp h
    subst this
    simp [pickOrder.go]
  | fuel+1,k,left,out,h=>by
    have hlt:next k%left.length<left.length:=Nat.mod_lt _ (by omega)
    have hg:=List.getElem?_eq_getElem hlt
    rw [pickOrder.go,hg]
    dsimp only
    have ih:=a09 next fuel (k+1) (left.eraseIdx (next k%left.length)) (out.push left[next k%left.length]) (by rw [List.length_eraseIdx_of_lt hlt]; omega)
    refine ih.trans ?_
    rw [Array.toList_push,List.append_assoc]
    exact (J1 hg).append_left _
theorem Km {α:Type} (next:Nat→Nat) (xs:Array α):(pickOrder next xs).toList.Perm xs.toList:=by
  have:=a09 next xs.size 0 xs.toList #[] (by simp)
  simpa [pickOrder] using this
section
variable {prog:Program} {w:World} {A:Around} {E:Value→Shared→Prop} {s:Shared}
theorem Ym {M:Model} {src:Source} {n:Nat} {Q:Nat→Shared→Prop} (hn:0<n) (h:∀ i d,i<n→Q i { s with drawn:=d }):wpAny M A (choose src n) Q E s:=by
  intro Γ p hΓ
  unfold choose
  rw [Sem.wp_choose]
  exact ⟨Nat.ne_of_gt hn,h _ _ (Nat.mod_lt _ hn)⟩
theorem Vo {α:Type} {M:Model}:∀ (n:Nat) (xs:List α) (s:Shared) (Q:List α→Shared→Prop),xs.length=n→(∀ ys d,ys.Perm xs→Q ys { s with drawn:=d })→wpAny M A (drawOrder n xs) Q E s
  | 0,xs,s,Q,h,k=>by
    have:xs=[]:=List.length_eq_zero_iff.mp h
    subst this
    unfold drawOrder
    exact wpAny_pure (k [] s.drawn (.refl _))
  | n+1,[],s,Q,h,k=>by simp at h
  | n+1,x::xs,s,Q,h,k=>by
    unfold drawOrder
    refine wpAny_bind (Ym (by simp) fun i d hi=>?_)
    have hg:=List.getElem?_eq_getElem hi
    rw [hg]
    dsimp only
    refine wpAny_bind (Vo n _ _ _ (by rw [List.length_eraseIdx_of_lt hi]; omega) fun ys d2 hp=>wpAny_pure ?_)
    exact k _ _ ((hp.cons _).trans (J1 hg))
end
end C
end
section
namespace C
open PySem PySem.Spec PyProof.Rows
abbrev itS (f:Value) (i:Nat) (a:Addr) (n ep:Nat):Obj:={ cls:=.type "set_iterator",data:=.fields #[f,.int i 0,.ref a,.int n 0,.int ep 0] }
section
variable {prog:Program} {w:World} {A:Around} {E:Value→Shared→Prop} {s:Shared} {I a:Addr} {i n ep:Nat} {o:Obj} {es:Array (Int × Value)} {t:SetTable} {Q:Option Value→Shared→Prop}
theorem Br {f:Value} (hit:s.heap.get? I=some (itS f i a n ep)):s.TypeIs (.ref I) "set_iterator" := ⟨_,hit,rfl⟩
theorem Wj {slot nxt:Nat} {x:Value} (hit:s.heap.get? I=some (itS (.int slot 0) i a n ep)) (ho:s.heap.get? a=some o) (hd:o.data=.set es ep t) (hf:t.fits es.size=true) (hn:es.size=n)
    (core:∀ (A':Around) (E':Value→Shared→Prop) (Q':Option (Value × Nat)→Shared→Prop),Q' (some (x,nxt)) s→wpAny (model prog w) A' (setNext a slot i ep) Q' E' s)
    (hQ:∀ h',h'.get? I=some (itS (.int nxt 0) (i+1) a n ep)→Heap.SameBut I s.heap h'→Q (some x) { s with heap:=h' }):wpAny (model prog w) A (pyNext (.ref I)) Q E s:=by
  unfold pyNext
  refine wpAny_bind (wpAny_attempt (wpAny_callSpecial?_slot (name:=Str.ofString "__next__") (Br hit) oh
    (wpAny_call_entry oh (Br hit) Bg ?_ (Cj _))))
  unfold Builtin.«set_iterator.__next__»
  refine wpAny_bind (wpAny_pure (wpAny_bind (wpAny_fieldsOf hit rfl ?_)))
  dsimp only
  refine wpAny_bind (wpAny_setEntries_of ho hd hf ?_)
  rw [if_neg (by rw [hn]; simp)]
  simp only [Int.toNat_natCast]
  refine wpAny_bind (core _ _ _ ?_)
  dsimp only
  refine wpAny_bind (wpAny_setField_rec hit (by simp) fun h1 g1 sb1=>?_)
  refine wpAny_bind (wpAny_setField_rec (s:={ s with heap:=h1 }) g1 (by simp) fun h2 g2 sb2=>?_)
  refine wpAny_pure ⟨_,rfl,wpAny_pure (hQ h2 ?_ (sb1.trans sb2))⟩
  rw [g2]
  simp [rawInt]
theorem Zk {slot:Nat} (hh:A.handled=none) (hit:s.heap.get? I=some (itS (.int slot 0) i a n ep)) (ho:s.heap.get? a=some o) (hd:o.data=.set es ep t) (hf:t.fits es.size=true) (hn:es.size=n)
    (core:∀ (A':Around) (E':Value→Shared→Prop) (Q':Option (Value × Nat)→Shared→Prop),Q' none s→wpAny (model prog w) A' (setNext a slot i ep) Q' E' s)
    (hQ:∀ h',Heap.ExtBut I s.heap h'→Q none { s with heap:=h' }):wpAny (model prog w) A (pyNext (.ref I)) Q E s:=by
  unfold pyNext
  refine wpAny_bind (wpAny_attempt (wpAny_callSpecial?_slot (name:=Str.ofString "__next__") (Br hit) oh
    (wpAny_call_entry oh (Br hit) Bg ?_ (Cj _))))
  unfold Builtin.«set_iterator.__next__»
  refine wpAny_bind (wpAny_pure (wpAny_bind (wpAny_fieldsOf hit rfl ?_)))
  dsimp only
  refine wpAny_bind (wpAny_setEntries_of ho hd hf ?_)
  rw [if_neg (by rw [hn]; simp)]
  simp only [Int.toNat_natCast]
  refine wpAny_bind (core _ _ _ ?_)
  dsimp only
  refine wpAny_bind (wpAny_setField_rec hit (by simp) fun h1 g1 sb1=>?_)
  refine wpAny_bind ?_
  simp only [newExc,newTuple]
  refine wpAny_bind (wpAny_newObj_type ?_ (by size_fits)) -- here
  refine wpAny_bind (m:=firstArgMember _ _) (wpAny_of_eq (a:=Value.none) (by first | rfl | (simp only [firstArgMember]; rfl)) ?_) -- here
  refine wpAny_newObj_type ?_ (by size_fits) -- here
  simp only [raiseNew]
  refine wpAny_bind (wpAny_handled ?_) -- here
  rw [show A.in1.handled=none from hh] -- here
  refine wpAny_bind (wpAny_pure (wpAny_throw ?_)) -- here
  refine wpAny_bind (wpAny_isInstance (T := "StopIteration") (b:=true) ⟨_,Heap.get?_push_size _ rfl,rfl⟩ isSubtype_stop ?_) -- here
  exact wpAny_pure (hQ _ ((sb1.extBut.push _).push _))
end
end C
end
section
namespace C
open PySem PySem.Spec PyProof.Rows
abbrev tpS (ps:List Nat):Obj:={ cls:=.type "tuple",data:=.seq (ps.map fun (k:Nat)=>rawInt k).toArray }
section
variable {prog:Program} {w:World} {A:Around} {E:Value→Shared→Prop} {s:Shared} {I a q:Addr} {i n ep:Nat} {o:Obj} {es:Array (Int × Value)} {t:SetTable} {Q:Option Value→Shared→Prop} {ps:List Nat}
theorem a4d {k:Nat} {h0:Int} {x:Value} (hit:s.heap.get? I=some (itS (.ref q) i a n ep)) (hq:s.heap.get? q=some (tpS ps)) (ho:s.heap.get? a=some o) (hd:o.data=.set es ep t) (hf:t.fits es.size=true) (hn:es.size=n)
    (hk:ps[i]? = some k) (hx:es[k]? = some (h0,x))
    (hQ:∀ h',h'.get? I=some (itS (.ref q) (i+1) a n ep)→Heap.SameBut I s.heap h'→Q (some x) { s with heap:=h' }):wpAny (model prog w) A (pyNext (.ref I)) Q E s:=by
  unfold pyNext
  refine wpAny_bind (wpAny_attempt (wpAny_callSpecial?_slot (name:=Str.ofString "__next__") (Br hit) oh
    (wpAny_call_entry oh (Br hit) Bg ?_ (Cj _))))
  unfold Builtin.«set_iterator.__next__»
  refine wpAny_bind (wpAny_pure (wpAny_bind (wpAny_fieldsOf hit rfl ?_)))
  dsimp only
  refine wpAny_bind (wpAny_setEntries_of ho hd hf ?_)
  rw [if_neg (by rw [hn]; simp)]
  refine wpAny_bind (wpAny_seqItems hq rfl ?_)
  have e:(ps.map fun (k:Nat)=>rawInt k).toArray[i]? = some (rawInt k):=by
    rw [List.getElem?_toArray,List.getElem?_map,hk]; rfl
  simp only [Int.toNat_natCast]
  rw [e]
  simp only [rawInt,Int.toNat_natCast]
  refine wpAny_bind ?_
  unfold setNextDrawn
  refine wpAny_bind (wpAny_setState_of ho hd hf ?_) -- here
  simp only [bne_self_eq_false,Bool.false_eq_true,if_false,hx]
  refine wpAny_pure ?_
  refine wpAny_bind (wpAny_setField_rec hit (by simp) fun h1 g1 sb1=>?_)
  refine wpAny_pure ⟨_,rfl,wpAny_pure (hQ h1 ?_ sb1)⟩
  rw [g1]
  simp [rawInt]
theorem R9 (hh:A.handled=none) (hit:s.heap.get? I=some (itS (.ref q) i a n ep)) (hq:s.heap.get? q=some (tpS ps)) (ho:s.heap.get? a=some o) (hd:o.data=.set es ep t) (hf:t.fits es.size=true) (hn:es.size=n)
    (hk:ps[i]? = none) (hQ:∀ h',Heap.ExtBut I s.heap h'→Q none { s with heap:=h' }):wpAny (model prog w) A (pyNext (.ref I)) Q E s:=by
  unfold pyNext
  refine wpAny_bind (wpAny_attempt (wpAny_callSpecial?_slot (name:=Str.ofString "__next__") (Br hit) oh
    (wpAny_call_entry oh (Br hit) Bg ?_ (Cj _))))
  unfold Builtin.«set_iterator.__next__»
  refine wpAny_bind (wpAny_pure (wpAny_bind (wpAny_fieldsOf hit rfl ?_)))
  dsimp only
  refine wpAny_bind (wpAny_setEntries_of ho hd hf ?_)
  rw [if_neg (by rw [hn]; simp)]
  refine wpAny_bind (wpAny_seqItems hq rfl ?_)
  have e:(ps.map fun (k:Nat)=>rawInt k).toArray[i]? = none:=by
    rw [List.getElem?_toArray,List.getElem?_map,hk]; rfl
  simp only [Int.toNat_natCast,e]
  refine wpAny_bind (wpAny_setField_rec hit (by simp) fun h1 g1 sb1=>?_)
  refine wpAny_bind (wpAny_setField_rec (s:={ s with heap:=h1 }) g1 (by simp) fun h2 g2 sb2=>?_)
  refine wpAny_bind ?_
  simp only [newExc,newTuple]
  refine wpAny_bind (wpAny_newObj_type ?_ (by size_fits)) -- here
  refine wpAny_bind (m:=firstArgMember _ _) (wpAny_of_eq (a:=Value.none) (by first | rfl | (simp only [firstArgMember]; rfl)) ?_) -- here
  refine wpAny_newObj_type ?_ (by size_fits) -- here
  simp only [raiseNew]
  refine wpAny_bind (wpAny_handled ?_) -- here
  rw [show A.in1.handled=none from hh] -- here
  refine wpAny_bind (wpAny_pure (wpAny_throw ?_)) -- here
  refine wpAny_bind (wpAny_isInstance (T := "StopIteration") (b:=true) ⟨_,Heap.get?_push_size _ rfl,rfl⟩ isSubtype_stop ?_) -- here
  exact wpAny_pure (hQ _ (((sb1.trans sb2).extBut.push _).push _))
theorem Uu {f:Value} {Q:Value→Shared→Prop} (hit:s.heap.get? I=some (itS f i a n ep)) (h:Q (.ref I) s):wpAny (model prog w) A (pyIter (.ref I)) Q E s:=by
  refine wpAny_pyIter_slot (Br hit) J5 (wpAny_call_entry J5 (Br hit) Ou ?_ (Qx _))
  show wpAny _ _ (ret (.ref I)) _ _ s
  exact wpAny_pure ⟨_,rfl,"set_iterator",_,Br hit,oh.lookup,h⟩
theorem Sd {slot:Nat} {Q:Option (Value × Nat)→Shared→Prop} (hb:a1w w=true) (ho:s.heap.get? a=some o) (hd:o.data=.set es ep t) (hf:t.fits es.size=true)
    (h:Q (((pickOrder (w.params.setOrder a ep) es)[i]?).map fun e=>(e.2,slot)) s):wpAny (model prog w) A (setNext a slot i ep) Q E s:=by
  have hb':w.params.followText "set-order" = true:=hb
  unfold setNext setsByText
  refine wpAny_bind (wpAny_setState_of ho hd hf ?_) -- here
  dsimp only
  refine wpAny_bind (wpAny_bind (wpAny_askSetting (wpAny_pure ?_))) -- here
  dsimp only
  rw [show (model prog w).w.params.followText "set-order" = true from hb']
  simp only [if_true,bne_self_eq_false,Bool.false_eq_true,if_false]
  unfold setWalk setsByText
  refine wpAny_bind (wpAny_bind (wpAny_setState_of ho hd hf ?_))
  dsimp only
  refine wpAny_bind (wpAny_bind (wpAny_askSetting (wpAny_pure ?_))) -- here
  dsimp only
  rw [show (model prog w).w.params.followText "set-order" = true from hb']
  simp only [if_true]
  refine wpAny_bind (wpAny_askSetting (wpAny_pure (wpAny_pure h)))
theorem Wa {slot:Nat} {Q:Option (Value × Nat)→Shared→Prop} (hb:a1w w=false) (ho:s.heap.get? a=some o) (hd:o.data=.set es ep t) (hf:t.fits es.size=true) (hl:t.led=true) (h1:es.size≤1)
    (h:Q (match es[SetTable.below t.place slot]?,t.place[SetTable.below t.place slot]? with | some (_,x),some j=>some (x,j+1) | _,_=>none) s):wpAny (model prog w) A (setNext a slot i ep) Q E s:=by
  have hb':w.params.followText "set-order" = false:=hb
  unfold setNext setsByText
  refine wpAny_bind (wpAny_setState_of ho hd hf ?_) -- here
  dsimp only
  refine wpAny_bind (wpAny_bind (wpAny_askSetting (wpAny_pure ?_))) -- here
  dsimp only
  rw [show (model prog w).w.params.followText "set-order" = false from hb']
  simp only [Bool.false_eq_true,if_false] -- here
  refine wpAny_ite_split (fun hc=>?_) (fun _=>?_)
  · have hc':(!t.plain&&decide (es.size > 1))=true:=hc
    rw [decide_eq_false (by omega),Bool.and_false] at hc'
    cases hc'
  · refine wpAny_bind ?_
    show wpAny _ _ (if (!t.led && !es.isEmpty)=true then unsupported "set:maker-not-led" else pure ()) _ _ _
    rw [hl]
    simp only [Bool.not_true,Bool.false_and,Bool.false_eq_true,if_false]
    exact wpAny_pure (wpAny_pure h) -- here
end
end C
end
section
namespace C
open PySem PySem.Spec PyProof.Rows
section
variable {prog:Program} {w:World} {A:Around} {E:Value→Shared→Prop} {s:Shared} {I a q:Addr} {n ep:Nat} {o:Obj} {es:Array (Int × Value)} {t:SetTable} {ps:List Nat}
theorem a03 (hh:A.handled=none) (hne:a≠I) (hb:a1w w=true) (hd:o.data=.set es ep t) (hf:t.fits es.size=true) :
    Walks prog w A I [I,a] [I] es.size (fun i v=>((pickOrder (w.params.setOrder a ep) es).toList.map (·.2))[i]? = some v) (fun i h=>h.get? I=some (itS (.int (0:Nat) 0) i a es.size ep)∧h.get? a=some o) where
  sub:=fun b hb=>by simp at hb; simp [hb] -- here
  frame:=fun _ _ _ st hk=>⟨hk I (by simp) _ st.1,hk a (by simp) _ st.2⟩
  item:=fun i s Q E hi st hQ=>by -- here
    have hz:(pickOrder (w.params.setOrder a ep) es).size=es.size:=by rw [← Array.length_toList,(Km _ es).length_eq,Array.length_toList]
    have hi':i<(pickOrder (w.params.setOrder a ep) es).size:=by rw [hz]; exact hi
    refine Wj (nxt:=0) (x:=(pickOrder (w.params.setOrder a ep) es)[i].2) st.1 st.2 hd hf rfl (fun A' E' Q' h=>Sd hb st.2 hd hf (by rw [Array.getElem?_eq_getElem hi']; exact h)) fun h' g sb=>?_
    refine hQ _ h' s.toks (by simp [hi']) ⟨g,sb.extBut a o hne st.2⟩ fun b u hb e=>sb.extBut b u (fun h=>hb (by simp [h])) e
  done:=fun s Q E st hQ=>by
    have hz:(pickOrder (w.params.setOrder a ep) es).size=es.size:=by rw [← Array.length_toList,(Km _ es).length_eq,Array.length_toList]
    refine Zk hh st.1 st.2 hd hf rfl (fun A' E' Q' h=>Sd hb st.2 hd hf (by rw [Array.getElem?_eq_none (by rw [hz]; exact Nat.le_refl _)]; exact h)) fun h' he=>hQ h' s.toks fun b u hb e=>he b u (fun h=>hb (by simp [h])) e
  self:=fun _ _ _ _ st hQ=>Uu st.1 hQ
theorem aa7 {xs:Array Nat} (h:xs.size=1):SetTable.below xs 0=0:=by
  unfold SetTable.below
  rw [h]
  simp [SetTable.below.go]
theorem a8v {xs:Array Nat} {j:Nat} (h:xs.size=1) (hj:xs[0]? = some j):SetTable.below xs (j+1)=1:=by
  unfold SetTable.below
  rw [h]
  have:xs.getD 0 (j+1)=j:=by rw [Array.getD_eq_getD_getElem?,hj]; rfl
  simp [SetTable.below.go,this]
theorem a4l (hh:A.handled=none) (hne:a≠I) (hb:a1w w=false) (hd:o.data=.set es ep t) (hf:t.fits es.size=true) (hl:t.led=true) (h1:es.size≤1) :
    Walks prog w A I [I,a] [I] es.size (fun i v=>(es.toList.map (·.2))[i]? = some v) (fun i h=>h.get? I=some (itS (.int ((if i=0 then 0 else (t.place[0]?).getD 0+1:Nat)) 0) i a es.size ep)∧h.get? a=some o) where
  sub:=fun b hb=>by simp at hb; simp [hb] -- here
  frame:=fun _ _ _ st hk=>⟨hk I (by simp) _ st.1,hk a (by simp) _ st.2⟩
  item:=fun i s Q E hi st hQ=>by -- here
    obtain rfl:i=0:=by omega
    have hz:es.size=1:=by omega
    have hp:t.place.size=1:=by
      simp only [SetTable.fits,Bool.and_eq_true,beq_iff_eq] at hf
      rw [hf.1,hz]
    have hp0:t.place[0]? = some t.place[0]:=Array.getElem?_eq_getElem (by omega)
    have he0:es[0]? = some es[0]:=Array.getElem?_eq_getElem (by omega)
    rw [if_pos rfl] at st
    refine Wj (nxt:=t.place[0]+1) (x:=es[0].2) st.1 st.2 hd hf rfl (fun A' E' Q' h=>Wa hb st.2 hd hf hl h1 (by rw [aa7 hp,he0,hp0]; exact h)) fun h' g sb=>?_
    refine hQ _ h' s.toks (by simp [hi]) ⟨?_,sb.extBut a o hne st.2⟩ fun b u hb e=>sb.extBut b u (fun h=>hb (by simp [h])) e
    rw [g,if_neg (by omega),hp0]
    rfl
  done:=fun s Q E st hQ=>by
    refine Zk hh st.1 st.2 hd hf rfl (fun A' E' Q' h=>Wa hb st.2 hd hf hl h1 ?_) fun h' he=>hQ h' s.toks fun b u hb e=>he b u (fun h=>hb (by simp [h])) e
    have:es[SetTable.below t.place (if es.size=0 then 0 else (t.place[0]?).getD 0+1)]? = none:=by
      by_cases hz:es.size=0
      · exact Array.getElem?_eq_none (by omega)
      · have hz1:es.size=1:=by omega
        have hp:t.place.size=1:=by
          simp only [SetTable.fits,Bool.and_eq_true,beq_iff_eq] at hf
          rw [hf.1,hz1]
        have hp0:t.place[0]? = some t.place[0]:=Array.getElem?_eq_getElem (by omega)
        rw [if_neg hz,hp0,Option.getD_some,a8v hp hp0]
        exact Array.getElem?_eq_none (by omega)
    rw [this]
    exact h
  self:=fun _ _ _ _ st hQ=>Uu st.1 hQ
theorem Y8 (hh:A.handled=none) (hne:a≠I) (hq:q≠I) (hd:o.data=.set es ep t) (hf:t.fits es.size=true) (hp:ps.Perm (List.range es.size)) :
    Walks prog w A I [I,a,q] [I] es.size (fun i v=>(ps.filterMap fun k=>(es[k]?).map (·.2))[i]? = some v) (fun i h=>h.get? I=some (itS (.ref q) i a es.size ep)∧h.get? a=some o∧h.get? q=some (tpS ps)) where
  sub:=fun b hb=>by simp at hb; simp [hb] -- here
  frame:=fun _ _ _ st hk=>⟨hk I (by simp) _ st.1,hk a (by simp) _ st.2.1,hk q (by simp) _ st.2.2⟩
  item:=fun i s Q E hi st hQ=>by -- here
    have hl:ps.length=es.size:=by rw [hp.length_eq,List.length_range]
    have hk:=List.getElem?_eq_getElem (show i<ps.length by omega)
    have hk2:ps[i]'(by omega)<es.size:=List.mem_range.mp (hp.mem_iff.mp (List.getElem_mem _))
    have hx:=Array.getElem?_eq_getElem hk2
    have all:∀ k∈ps,k<es.size:=fun k hk=>List.mem_range.mp (hp.mem_iff.mp hk)
    have hv:(ps.filterMap fun k=>(es[k]?).map (·.2))[i]? = some (es[ps[i]'(by omega)]).2:=by
      have go:∀ (l:List Nat) (i:Nat) (h:i<l.length) (all:∀ k∈l,k<es.size),(l.filterMap fun k=>(es[k]?).map (·.2))[i]? = (es[l[i]]?).map (·.2):=by
        intro l
        induction l with
        | nil=>intro i h; simp at h
        | cons k l ih =>
          intro i h all
          have hk:=all k List.mem_cons_self
          rw [List.filterMap_cons,Array.getElem?_eq_getElem hk]
          cases i with
          | zero=>simp [Array.getElem?_eq_getElem hk]
          | succ i=>simpa using ih i (by simpa using h) fun z hz=>all z (List.mem_cons_of_mem _ hz)
      rw [go ps i (by omega) all,hx]; rfl
    refine a4d (x:=es[ps[i]].2) (h0:=es[ps[i]].1) st.1 st.2.2 st.2.1 hd hf rfl hk hx fun h' g sb=>?_
    exact hQ _ h' s.toks hv ⟨g,sb.extBut a o hne st.2.1,sb.extBut q _ hq st.2.2⟩ fun b u hb e=>sb.extBut b u (fun h=>hb (by simp [h])) e
  done:=fun s Q E st hQ=>by
    have hl:ps.length=es.size:=by rw [hp.length_eq,List.length_range]
    exact R9 hh st.1 st.2.2 st.2.1 hd hf rfl (List.getElem?_eq_none (by omega)) fun h' he=>hQ h' s.toks fun b u hb e=>he b u (fun h=>hb (by simp [h])) e
  self:=fun _ _ _ _ st hQ=>Uu st.1 hQ
end
end C
end
section
namespace C
open PySem PySem.Spec PyProof.Rows
def Gives (n:Nat) (P:Nat→Value→Prop) (l:List Str):Prop:=∀ vs:List Value,vs.length=n→(∀ (j:Nat) (v:Value),vs[j]? = some v→P j v)→∃ l',StrsAre vs l'∧l'.Perm l
theorem Wg {P:Program} {w:World} {es:Array (Int × Value)} {us:List Value} (hel:ElemsOf (strKind P w) es.toList) (hp:us.Perm (es.toList.map (·.2))):Gives es.size (fun i v=>us[i]? = some v) (es.toList.map fun e=>strOf e.2):=by
  intro vs hl hv
  have lu:us.length=es.size:=by rw [hp.length_eq,List.length_map,Array.length_toList]
  have e:vs=us:=by
    apply List.ext_getElem (by omega)
    intro i h1 h2
    have:us[i]? = some vs[i]:=hv i vs[i] (List.getElem?_eq_getElem h1)
    rw [List.getElem?_eq_getElem h2] at this
    exact (Option.some.inj this).symm -- here
  subst e
  refine ⟨vs.map strOf,strsAre_map vs fun v hm=>?_,?_⟩
  · obtain ⟨e,he,rfl⟩:=List.mem_map.mp (hp.mem_iff.mp hm)
    obtain ⟨tk,z⟩:=a5m hel he
    exact ⟨_,_,z⟩
  · have:=hp.map strOf
    rwa [List.map_map] at this
section
variable {prog:Program} {w:World} {A:Around} {E:Value→Shared→Prop} {s:Shared} {a:Addr} {o:Obj} {l:List Str}
theorem a3p {Q:Value→Shared→Prop} (ho:s.heap.get? a=some o) (hS:Kh prog w o l)
    (k:∀ (I:Addr) (h1:Heap) (d:Drawn) (fp:List Addr) (P:Nat→Value→Prop) (St:Nat→Heap→Prop),(∀ b u,s.heap.get? b=some u→h1.get? b=some u)→(∀ b∈fp,b=a∨s.heap.objs.size≤b)→s.heap.objs.size≤I →
      (∀ A':Around,A'.handled=none→Walks prog w A' I fp [I] l.length P St)→St 0 h1→Gives l.length P l→Q (.ref I) { s with heap:=h1,drawn:=d }) :
    wpAny (model prog w) A (pyIter (.ref a)) Q E s:=by -- here
  obtain ⟨es,ep,t,hex,hd,hel,rfl,hnd,hb,hf,hled,hpl⟩:=hS
  have hT:s.TypeIs (.ref a) "set" := ⟨o,ho,hex.1⟩ -- here
  have hlt:=Heap.lt_size ho
  have hlen:(es.toList.map fun e=>strOf e.2).length=es.size:=by rw [List.length_map,Array.length_toList]
  rw [hlen] at k
  refine wpAny_pyIter_slot hT PySem.F.slot_set_iter (wpAny_call_entry PySem.F.slot_set_iter hT Mf ?_ (PySem.F.args_set_iter_1 _))
  unfold Builtin.«frozenset.__iter__» Builtin.Frozenset.slot0 Builtin.Frozenset.sizeOf
  refine wpAny_bind (wpAny_bind (wpAny_pure (wpAny_pure ?_)))
  refine wpAny_bind (wpAny_bind (wpAny_setEntries_of ho hd hf (wpAny_pure ?_))) -- here
  unfold setDrawn setsByText
  refine wpAny_bind (wpAny_bind (wpAny_setState_of ho hd hf ?_))
  dsimp only
  refine wpAny_bind (wpAny_bind (wpAny_askSetting (wpAny_pure (wpAny_pure ?_))))
  dsimp only
  have plain:∀ (St:Nat→Heap→Prop) (us:List Value),us.Perm (es.toList.map (·.2))→(∀ A':Around,A'.handled=none→Walks prog w A' s.heap.objs.size [s.heap.objs.size,a] [s.heap.objs.size] es.size (fun i v=>us[i]? = some v) St)→(∀ h,h.get? s.heap.objs.size=some (itS (.int (0:Nat) 0) 0 a es.size ep)→h.get? a=some o→St 0 h) →
      Q (.ref s.heap.objs.size) { s with heap:=s.heap.push (itS (.int (0:Nat) 0) 0 a es.size ep) }:=by
    intro St us hp hw hst
    refine k s.heap.objs.size _ s.drawn [s.heap.objs.size,a] _ St (fun b u e=>Heap.get?_push_of_some _ e) (fun b hb=>?_) (Nat.le_refl _) hw (hst _ (Heap.get?_push_size _ rfl) (Heap.get?_push_of_some _ ho)) (Wg hel hp)
    simp only [List.mem_cons,List.not_mem_nil,or_false] at hb -- here
    rcases hb with rfl | rfl
    · exact .inr (Nat.le_refl _)
    · exact .inl rfl
  have hne:a≠s.heap.objs.size:=Nat.ne_of_lt hlt
  by_cases hc:(!a1w w&&(!t.plain&&decide (es.size > 1)))=true
  · show wpAny _ _ (if (!a1w w&&(!t.plain&&decide (es.size > 1)))=true then _ else _) _ _ _
    rw [if_pos hc]
    refine wpAny_bind (Vo es.size (List.range es.size) s _ List.length_range fun ys d hp=>?_)
    have hys:ys.length=es.size:=by rw [hp.length_eq,List.length_range]
    refine wpAny_bind (wpAny_newTuple ?_ (by rw [List.length_map,hys]; exact fits_of_scanBound hb))
    refine wpAny_bind (wpAny_setEpoch_of (s:={ s with heap:=s.heap.push (tpS ys),drawn:=d }) (Heap.get?_push_of_some _ ho) hd hf ?_)
    refine wpAny_bind (wpAny_newObj_type (wpAny_pure ⟨_,rfl,"set_iterator",_,⟨_,Heap.get?_push_size _ rfl,rfl⟩,oh.lookup,?_⟩))
    have size1:(s.heap.push (tpS ys)).objs.size=s.heap.objs.size+1:=Heap.size_push _ _
    have q1:s.heap.objs.size≠(s.heap.push (tpS ys)).objs.size:=by rw [size1]; exact Nat.ne_of_lt (Nat.lt_succ_self _)
    have a1:a≠(s.heap.push (tpS ys)).objs.size:=by rw [size1]; exact Nat.ne_of_lt (Nat.lt_succ_of_lt hlt)
    refine k (s.heap.push (tpS ys)).objs.size ((s.heap.push (tpS ys)).push (itS (.ref s.heap.objs.size) 0 a es.size ep)) d [(s.heap.push (tpS ys)).objs.size,a,s.heap.objs.size] _ _ (fun b u e=>Heap.get?_push_of_some _ (Heap.get?_push_of_some _ e)) (fun b hb=>?_) (by rw [size1]; exact Nat.le_succ _)
      (fun A' hh=>Y8 hh a1 q1 hd hf hp) ⟨Heap.get?_push_size _ rfl,Heap.get?_push_of_some _ (Heap.get?_push_of_some _ ho),Heap.get?_push_of_some _ (Heap.get?_push_size _ rfl)⟩ (Wg hel ?_)
    · simp only [List.mem_cons,List.not_mem_nil,or_false] at hb
      rcases hb with rfl | rfl | rfl -- here
      · exact .inr (by rw [size1]; exact Nat.le_succ _)
      · exact .inl rfl
      · exact .inr (Nat.le_refl _)
    · refine (hp.filterMap _).trans ?_
      have:=filterMap_getElem?_range es
      rw [← this,← List.filterMap_eq_map,List.filterMap_filterMap]
      apply List.Perm.of_eq
      congr 1
      funext k
      cases es[k]? <;> rfl
  · show wpAny _ _ (if (!a1w w&&(!t.plain&&decide (es.size > 1)))=true then _ else _) _ _ _
    rw [if_neg hc]
    refine wpAny_bind (wpAny_pure ?_)
    refine wpAny_bind (wpAny_setEpoch_of ho hd hf ?_) -- here
    refine wpAny_bind (wpAny_newObj_type (wpAny_pure ⟨_,rfl,"set_iterator",_,⟨_,Heap.get?_push_size _ rfl,rfl⟩,oh.lookup,?_⟩))
    cases hbt:a1w w with
    | true=>exact plain _ _ ((Km _ es).map _) (fun A' hh=>a03 hh hne hbt hd hf) fun h g1 g2=>⟨g1,g2⟩
    | false =>
      have h1:es.size≤1:=by
        rw [hbt] at hc
        by_cases hz:es.toList.map (fun e=>strOf e.2)=[]
        · rw [hz] at hlen; simp at hlen; omega
        · rw [hpl hz] at hc
          simp at hc
          exact hc
      exact plain _ _ (.refl _) (fun A' hh=>a4l hh hne hbt hd hf (by rw [hled,hbt]; rfl) h1) fun h g1 g2=>⟨by simpa using g1,g2⟩
theorem a4z {Q:Bool→Shared→Prop} (hT:s.TypeIs (.ref a) "set") (h:Q false s):wpAny (model prog w) A (Builtin.List.listLengthHint (.ref a)) Q E s:=by
  unfold Builtin.List.listLengthHint -- here
  refine wpAny_bind (wpAny_specialOf hT PySem.F.slot_set_len.lookup ?_)
  generalize hid:("set.__len__" : String)=id0
  wp_delta
  rw [show splitId id0=some ("set","__len__") from by subst hid; decide +kernel]
  subst hid
  refine wpAny_bind (wpAny_isInstance (T := "set") (b:=true) hT (by rw [isSubtype_type]; kernel_rfl) ?_)
  refine wpAny_ite_split (fun hab=>absurd hab (by decide)) (fun _=>?_) -- here
  refine wpAny_ite_split (fun _=>?_) (fun hab=>absurd (by decide +kernel) hab) -- here
  refine wpAny_bind (wpAny_typeOf hT ?_) -- here
  exact wpAny_pure h
end
end C
end
section
namespace C
open PySem PySem.Spec PyProof.Rows
section
variable {prog:Program} {w:World} {A:Around} {E:Value→Shared→Prop} {s:Shared} {a:Addr} {o:Obj} {l:List Str}
theorem a0h {R:Result→Shared→Prop} (hh:A.handled=none) (ho:s.heap.get? a=some o) (hS:Kh prog w o l) (hn:l.length≤sizeLine) (S:Addr) (hSa:S≠a) (res:Value) (hL:s.heap.get? S=some { cls:=.type "list",data:=.seq #[] })
    (hR:∀ h' tk d got c',(∀ b u,b≠S→s.heap.get? b=some u→h'.get? b=some u)→h'.get? S=some { cls:=.type "list",dict:=none,data:=.seq got c',slots:=#[] }→(∃ l',StrsAre got.toList l'∧l'.Perm l)→R (.ok (.ret res)) { s with heap:=h',toks:=tk,drawn:=d }) :
    wpAny (model prog w) A.in1 (Builtin.List.listExtendWith (.ref S) (.ref a) res)
      (fun fin s'=>match fin with | .done f=>R (.ok f) s' | .again c'=>c'.quiet=true∧codeAny (model prog w) A c' R s') (fun e s'=>R (.error e) s') s:=by -- here
  have hT:s.TypeIs (.ref a) "set" := ⟨o,ho,(let ⟨_,_,_,hex,_⟩:=hS; hex.1)⟩
  have hSl:=Heap.lt_size hL
  unfold Builtin.List.listExtendWith -- here
  refine wpAny_bind (wpAny_typeOf (T := "set") hT ?_)
  have e1:Builtin.List.listSameRef (.ref S) (.ref a)=false:=by simp [Builtin.List.listSameRef,hSa]
  have e2:(Value.type "set" == Value.type "list")=false:=by decide
  have e3:(Value.type "set" == Value.type "tuple")=false:=by decide
  simp only [e1,e2,e3,Bool.or_false,Bool.false_eq_true,if_false]
  refine wpAny_bind (a3p ho hS fun I h1 d fp P St keep hfp hI hW st gv=>?_)
  have hSf:S∉fp:=fun hm=>by
    rcases hfp S hm with e | e
    · exact hSa e
    · exact absurd hSl (Nat.not_lt.mpr e)
  have hSI:S≠I:=fun e=>absurd hSl (Nat.not_lt.mpr (e ▸ hI))
  have W:=hW A.in1.in1 hh
  have W':=hW A.in1 hh
  have key:∀ (h:Heap) (c1 tk:Nat),St 0 h→(∀ b u,b≠S→h1.get? b=some u→h.get? b=some u) →
      h.get? S=some { cls:=.type "list",data:=.seq #[] c1 }→codeAny (model prog w) A (.builtin "list.extend.loop" ⟨[.ref S,.ref I,res],[]⟩) R { s with heap:=h,toks:=tk,drawn:=d }:=by
    intro h c1 tk hst hk hS1
    refine codeAny_extend_loopS W'.toS hn S hSf res l.length 0 _ #[] c1 rfl (Nat.zero_le _) hst hS1 (ItemsOf.nil _) fun s' got c' mv hS' its=>?_
    rw [Moved.eq_with mv]
    refine hR s'.heap s'.toks d got c' (fun b u hb e=>mv.heap b u (fun hmem=>?_) (hk b u hb (keep b u e))) hS' (gv got.toList (Array.length_toList.trans its.1) fun j v e=>its.2 j v (by rw [← Array.getElem?_toList]; exact e))
    rcases List.mem_cons.mp hmem with e' | hmem -- here
    · exact hb e'
    · have e':=List.mem_singleton.mp hmem
      exact absurd (Heap.lt_size e) (Nat.not_lt.mpr (e' ▸ hI))
  have hL1:=keep _ _ hL
  refine wpAny_bind (wpAny_holding (a4z (s:={ s with heap:=h1,drawn:=d }) ⟨o,keep _ _ ho,(let ⟨_,_,_,hex,_⟩:=hS; hex.1)⟩ ?_))
  refine wpAny_ite_split (fun _=>?_) (fun _=>wpAny_pure ⟨plainId_quiet PySem.F.plain_extend_loop _,key _ _ _ st (fun b u _ e=>e) hL1⟩)
  refine wpAny_bind (wpAny_rule (wpAny_bind ?_))
  show wpAny _ _ (updateSeq S (·.push .none) >>= fun _=>updateSeq S (·.pop)) _ _ _ -- here
  refine wpAny_bind (wpAny_updateSeq hL1 rfl ?_)
  have hL2:=Heap.get?_update_self (Obj.mapSeq (·.push Value.none)) hL1 rfl
  refine wpAny_updateSeq (hz:=by seq_fits) hL2 rfl ?_
  have hL3:=Heap.get?_update_self (Obj.mapSeq (·.pop)) hL2 rfl
  refine wpAny_pure ⟨plainId_quiet PySem.F.plain_extend_loop _,key _ _ _ ?_ (fun b u hb e=>?_) hL3⟩
  · refine W.frame 0 _ _ st fun b hb u e=>?_
    have hbS:b≠S:=fun h=>hSf (h ▸ hb) -- here
    exact (Heap.get?_update_other _ _ (Ne.symm hbS)).trans ((Heap.get?_update_other _ _ (Ne.symm hbS)).trans e) -- here
  · exact (Heap.get?_update_other _ _ (Ne.symm hb)).trans ((Heap.get?_update_other _ _ (Ne.symm hb)).trans e)
end
end C
end
section
namespace C
open PySem PySem.Spec PyProof.Rows L2
theorem El {x:Str}:∀ {l:List Str},x∈dedup l↔x∈l
  | []=>Iff.rfl
  | y::l=>by
    unfold dedup
    by_cases h:y∈l
    · rw [if_pos h,El,List.mem_cons]
      exact ⟨.inr,fun z=>z.elim (fun e=>e ▸ h) id⟩
    · rw [if_neg h,List.mem_cons,List.mem_cons,El]
theorem Gg:∀ l:List Str,(dedup l).Nodup
  | []=>List.nodup_nil
  | y::l=>by
    unfold dedup
    by_cases h:y∈l
    · rw [if_pos h]; exact Gg l
    · rw [if_neg h]; exact List.nodup_cons.mpr ⟨fun z=>h (El.mp z),Gg l⟩
theorem Vi:∀ (l M:List Str),l.Nodup→(∀ x∈l,x∈M)→l.length≤M.length
  | [],M,_,_=>by simp
  | x::l,M,hn,hm=>by
    have hx:=hm x List.mem_cons_self
    rw [List.nodup_cons] at hn
    have h1:=Vi l (M.erase x) hn.2 fun y hy=>(List.mem_erase_of_ne (fun (e:y=x)=>hn.1 (e ▸ hy))).mpr (hm y (List.mem_cons_of_mem _ hy))
    rw [List.length_erase_of_mem hx] at h1
    have h2:0<M.length:=List.length_pos_of_mem hx
    simp only [List.length_cons]
    omega
theorem Xg {m l:List Str} (hn:m.Nodup) (h:∀ x,x∈m↔x∈l):m.Perm (dedup l) :=
  (List.perm_ext_iff_of_nodup hn (Gg l)).mpr fun x=>(h x).trans El.symm
def aat (P:Program) (w:World) (a:Addr) (m:List Str):HO:=.ext fun h=>∃ o,h.get? a=some o∧Kh P w o m
section
variable {X:Cx} {B:Bas} {e:Expr} {m1:M T} {p1 p2 p3 p4:Pos}
theorem Inv.drawn {pins:List (Addr × Obj)} {σ:L2.St} {H:Hp} {s:Shared} (I:L2.Inv X pins σ H s) (d:Drawn):L2.Inv X pins σ H { s with drawn:=d } :=
  ⟨I.ok,I.os,I.bare,I.base,I.loc,I.cell,I.free,I.freeC,I.pin,I.hok,I.len⟩
def adi (X:Cx) (xs:List V) (H:Hp) (Q:VK):Prop:=∃ a ss,xs=[.ref a]∧SqL X.K H a (ss.map V.str)∧(dedup ss).length<64∧∀ p m,H p=none→m.Perm (dedup ss)→Q (.ref p) (upd H p (aat X.prog X.w p m))
theorem a1x (hc:X.calm=true):Du X (.type "set") (adi X):=by
  intro pins s σ H xs us Q I rs z8
  obtain ⟨a,ss,ex,hl,h64,q⟩:=z8
  subst ex
  obtain ⟨u,rfl,ru⟩:=rs.one
  cases ru
  obtain ⟨its,r,p,hz⟩:=I.list hl
  refine Vc (I.ok.hd hc) p.isList (Ih r) (fun m hm hx=>?_) fun h' tk o m go hm hx keep=>?_
  · have:=Vi m (dedup ss) hm fun x hxm=>El.mpr (hx x hxm)
    show _<4096
    omega
  · have hnd:m.Nodup:=let ⟨_,_,_,_,_,_,_,n,_⟩:=hm; n
    refine ⟨.ref s.heap.objs.size,_,I.laid (a:=s.heap.objs.size) (o:=aat X.prog X.w s.heap.objs.size m) (h':=h') (t':=tk) keep (Nat.le_refl _) ⟨⟨o,go,hm⟩,⟨o,go⟩,fun h1 h2 ⟨o1,g1,x1⟩ k=>⟨o1,k _ g1,x1⟩⟩,rfl,q _ m (I.hok.fresh (Nat.le_refl _)) (Xg hnd hx)⟩
theorem a2q {R:List Value→Shared→Prop} {A:Around} {E:Value→Shared→Prop} {s:Shared} {a:Addr} {o:Obj} {l:List Str} (nh:A.handled=none) (ho:s.heap.get? a=some o) (hS:Kh X.prog X.w o l) (sz:l.length≤sizeLine)
    (k:∀ (h1:Heap) (tk:Nat) (d:Drawn) (got:List Value),s.heap.objs.size<h1.objs.size→(∀ b u,s.heap.get? b=some u→h1.get? b=some u)→(∃ l',StrsAre got l'∧l'.Perm l)→R got { s with heap:=h1,toks:=tk,drawn:=d }) :
    wpAny (model X.prog X.w) A (collect (.ref a)) R E s:=by
  have lt0:=Heap.lt_size ho
  unfold collect
  refine wpAny_bind (wpAny_runValue
    (codeAny_builtin entry_proto_collect' ?_))
  rw [Around.under_plainId
    PySem.F.plain_proto_collect _]
  show wpAny _ A.in1 (newList [] >>= fun z=>again (.builtin "list.__iadd__" ⟨[z,.ref a],[]⟩)) _ _ s
  refine wpAny_bind (wpAny_newObj_type (wpAny_pure ⟨plainId_quiet PySem.F.plain_list_iadd _,codeAny_builtin entry_list_iadd' ?_⟩))
  rw [Around.under_plainId
    PySem.F.plain_list_iadd _]
  change wpAny _ A.in1 (Builtin.List.listExtendWith (.ref s.heap.objs.size) (.ref a) (.ref s.heap.objs.size)) _ _ _
  have new0:(s.heap.push { cls:=.type "list",data:=.seq ([]:List Value).toArray }).get? s.heap.objs.size=some { cls:=.type "list",data:=.seq #[] }:=Heap.get?_push_size _ rfl
  have walk:=a0h (A:=A) (s:={ s with heap:=s.heap.push { cls:=.type "list",data:=.seq ([]:List Value).toArray } })
    (R:=fun (f:Result) (s1:Shared)=>∃ (h1:Heap) (tk:Nat) (d:Drawn) (got:Array Value) (c1:Nat),f=.ok (.ret (.ref s.heap.objs.size))∧s1 = { s with heap:=h1,toks:=tk,drawn:=d }∧(∀ b u,s.heap.get? b=some u→h1.get? b=some u) ∧
      h1.get? s.heap.objs.size=some { cls:=.type "list",dict:=none,data:=.seq got c1,slots:=#[] }∧∃ l',StrsAre got.toList l'∧l'.Perm l)
    nh (Heap.get?_push_of_some _ ho) hS sz s.heap.objs.size (Nat.ne_of_gt lt0) (.ref s.heap.objs.size) new0
    (fun h1 tk d got c1 old at1 its=>⟨h1,tk,d,got,c1,rfl,rfl,fun b u e=>old b u (Nat.ne_of_lt (Heap.lt_size e)) (Heap.get?_push_of_some _ e),at1,its⟩)
  have last:∀ (h1:Heap) (tk:Nat) (d:Drawn) (got:Array Value) (c1:Nat),(∀ b u,s.heap.get? b=some u→h1.get? b=some u)→h1.get? s.heap.objs.size=some { cls:=.type "list",dict:=none,data:=.seq got c1,slots:=#[] }→(∃ l',StrsAre got.toList l'∧l'.Perm l) →
      wpAny (model X.prog X.w) A (load s.heap.objs.size >>= fun o=>match o.data with | .seq xs _=>pure xs.toList | _=>unsupported "internal:collect") R E { s with heap:=h1,toks:=tk,drawn:=d } :=
    fun h1 tk d got c1 old at1 its=>wpAny_bind (wpAny_load at1 (wpAny_pure (k h1 tk d got.toList (Heap.lt_size at1) old its)))
  refine wpAny_mono walk (fun fin s1 x=>?_) fun e s1 x=>?_
  · cases fin with
    | done f =>
      obtain ⟨h1,tk,d,got,c1,ef,rfl,old,at1,its⟩:=x
      cases ef
      exact last h1 tk d got c1 old at1 its
    | again c =>
      refine ⟨x.1,codeAny_mono x.2 fun f s2 y=>?_⟩
      obtain ⟨h1,tk,d,got,c1,rfl,rfl,old,at1,its⟩:=y
      exact last h1 tk d got c1 old at1 its
  · obtain ⟨_,_,_,_,_,ef,_⟩:=x
    cases ef
def ad8 (X:Cx) (xs:List V) (H:Hp) (Q:VK):Prop:=∃ p m l,xs=[.ref p]∧H p=some (aat X.prog X.w p m)∧m.Perm l∧m.length<64∧∀ p',H p'=none→Q (.ref p') (upd H p' (.lst ((xu l).map V.str)))
theorem Sw (hc:X.calm=true):Du X (.builtin "sorted") (ad8 X):=by
  intro pins s σ H xs us Q I rs z8
  obtain ⟨a,m,l,ex,ha,pm,h64,q⟩:=z8
  subst ex
  obtain ⟨u,rfl,ru⟩:=rs.one
  cases ru
  obtain ⟨⟨o,ho,hS⟩,_,_⟩:=I.hok a _ ha
  have hn:m.length≤sizeLine:=Nat.le_trans (Nat.le_of_lt h64) (by rw [sizeLine_eq]; decide)
  have hh:X.A.in1.handled=none:=I.ok.hd hc
  refine Calls.call_function_entry kind_sorted plain_sorted entry_sorted (args_sorted1 _) ?_ -- here
  unfold Builtin.«sorted»
  refine wpAny_bind (m:=checkCount "sorted" 1 1 _) (wpAny_pure (wpAny_bind ?_))
  refine a2q (A:=X.A.in1) hh ho hS hn fun h' tk d got hlt keep hg=>?_
  obtain ⟨l',hs,hp⟩:=hg
  have hl:got.length=m.length:=hs.length.trans hp.length_eq
  refine wpAny_bind (wpAny_newList ?_ (hl ▸ hn))
  have hoL:(h'.push (seqObj "list" got.toArray 0)).get? h'.objs.size=some (seqObj "list" got.toArray 0):=Heap.get?_push_size _ rfl
  refine wpAny_bind (wpAny_holding (wpAny_call_entry slot_list_sort ⟨_,hoL,rfl⟩ entry_list_sort (list_sort_treeK strKind_oneLt hoL hs.keysOf (fun v₁ v₂ rest e=>keyKind_strs (by rw [← e]; exact hs)) (by rw [hl]; exact h64) fun st' a1 a2=>⟨_,rfl,?_⟩) (args_list_sort _)))
  refine wpAny_pure ⟨_,rfl,(?_:EP X pins σ Q _ _)⟩
  obtain ⟨ss',b1,b2,b3⟩:=sorted_out_str hs a1 a2
  have es:=Oc b3 ((b2.trans hp).trans pm)
  subst es
  have hle:=Nat.le_of_lt hlt
  obtain ⟨e,he⟩:=sortedHeap_at (out:=(arrOf st').map (·.2)) hoL
  have hsz:(List.map V.str (xu l)).length≤sizeLine:=by
    rw [List.length_map,(Er l).length_eq,← pm.length_eq]
    exact hn
  have hnn:H h'.objs.size=none:=I.hok.fresh hle
  refine ⟨.ref h'.objs.size,_,(Inv.drawn I d).laid (a:=h'.objs.size) (o:=.lst ((xu l).map V.str)) (t':=tk) (fun b u eb=>?_) hle ⟨hsz,_,e,K6 b1,he⟩,rfl,q _ hnn⟩
  have hb:=Heap.lt_size (keep _ _ eb)
  rw [sortedHeap_old (Nat.ne_of_lt hb) (by rw [Heap.size_push]; exact Nat.lt_succ_of_lt hb)]
  exact Heap.get?_push_of_some _ (keep _ _ eb)
theorem Jd (hc:X.calm=true) (hg:Gl X "sorted") (hm:X.mg "sorted" = none) (hg2:Gl X "set") (hm2:X.mg "set" = none) (ha:PE X e (tOf X.K B m1))
    (hs:starEach [e] X.env=[(false,eval e X.env)]:=by rfl) (he:starEach [.Call (.Name "set" p2) [e] [] p3] X.env=(false,eval (.Call (.Name "set" p2) [e] [] p3) X.env)::starEach [] X.env:=by rfl)
    (hpl:(backTo p4 (starEach [] X.env)).any (·.1)=false:=by rfl) (hpl3:(backTo p3 (starEach [] X.env)).any (·.1)=false:=by rfl) :
    PE X (.Call (.Name "sorted" p1) [.Call (.Name "set" p2) [e] [] p3] [] p4) (fOf X.K B (nu Af (ao m1 g8))):=by
  have inner:=Dd (p:=p2) (pos:=p3) (a1x hc) hg2 hm2 PyProof.Rows.boot_set (jr ha qz hs) (by decide) (by decide) hs hpl3
  refine (wz (Sw hc) hg hm PyProof.Rows.boot_sorted (jr inner qz he) (by decide) (by decide) he hpl).imp fun σ H Q z0=>?_
  obtain ⟨st,ps,S,as,R,t,st',ev,q⟩:=z0
  obtain ⟨ts,e1,e2⟩:=Di ev
  obtain ⟨t1,s1,us,ea,en,rfl⟩:=Cz e1
  cases en
  cases t1 <;> simp only [Af,reduceCtorEq] at e2
  rename_i xs
  obtain ⟨l,f1,f2⟩:=Option.bind_eq_some_iff.mp e2
  split at f2
  · rename_i hz
    cases f2
    refine ⟨st,ps,S,as,R,_,_,ea,fun v H1 S1 as1 R1=>?_⟩
    have top:=R1.top
    cases top with
    | @lst a vs _ g1 g2 =>
      have evs:=Lg g2 f1
      subst evs
      refine ⟨a,l,rfl,j5 R1.sub g1,hz.2,fun p m hp pm=>⟨p,m,dedup l,rfl,d7,pm,by rw [pm.length_eq]; exact hz.2,fun p2 hp2=>?_⟩⟩
      have R2:=R1.drop.ext (Ext.junk R1.sub hp (aat X.prog X.w p m))
      obtain ⟨z1,z2,z3,z4⟩:=R2.fresh hp2
      exact q _ _ _ _ (R2.a85 z1 z2 z3 z4) ⟨⟨_,d7,Gw _⟩,z2,z3,z1⟩ z4
  · cases f2
theorem Ra (hc:X.calm=true) (hg:Gl X "sorted") (hm:X.mg "sorted" = none) (hg2:Gl X "set") (hm2:X.mg "set" = none) (ha:PE X e (tOf X.K B m1))
    (hs:starEach [e] X.env=[(false,eval e X.env)]:=by rfl) (he:starEach [.Call (.Name "set" p2) [e] [] p3] X.env=(false,eval (.Call (.Name "set" p2) [e] [] p3) X.env)::starEach [] X.env:=by rfl)
    (hpl:(backTo p4 (starEach [] X.env)).any (·.1)=false:=by rfl) (hpl3:(backTo p3 (starEach [] X.env)).any (·.1)=false:=by rfl) :
    PE X (.Call (.Name "sorted" p1) [.Call (.Name "set" p2) [e] [] p3] [] p4) (tOf X.K B (nu Af (ao m1 g8))):=uf (Jd hc hg hm hg2 hm2 ha hs he hpl hpl3)
end
end C
end
section
namespace C
open PySem PySem.Spec PyProof.Rows L2
open AutoSeq1 (wpAny_loadPart') -- here
open MeetsSeq MeetsSeq2 MeetsSeq3 -- here
section
variable {prog:Program} {w:World} -- here
end
section
variable {X:Cx} {pins:List (Addr × Obj)} {σ:L2.St} {H S:Hp} {s:Shared} {as:List Addr}
end
end C
end
section
namespace C
open PySem PySem.Spec PyProof.Rows L2
theorem a83 {K:PySem.W.Frag} {F:Fn} {H:Hp} {a:Addr} {ns:List Int} (hS:SqL K H a (ns.map V.int)) (hE:∃ st,F [.lst (ns.map T.int)] []=some (.bl true,st)):spF K 1 F [.ref a] H (fun v _=>v=.bl true) fun _ _ _=>False:=by
  obtain ⟨st,hF⟩:=hE
  have reps:∀ (S:Hp) (l:List Int),qu K S [] (l.map V.int) (l.map T.int):=fun S l=>by
    induction l with
    | nil=>exact .nil
    | cons x l ih=>exact .cons (.int x) ih
  let S:Hp:=fun p=>if p=a then H p else none
  have sa:S a=H a:=if_pos rfl
  have sub:Same S H:=fun p u h=>by
    by_cases e:p=a
    · subst e; rw [← sa]; exact h
    · have:S p=none:=if_neg e
      rw [this] at h; cases h
  have sq:SqL K S a (ns.map V.int):=by
    rcases hS with h | h
    · refine .inl ?_
      unfold Rd at h ⊢
      rw [sa]; exact h
    · exact .inr h
  refine ⟨S,[],[],[.lst (ns.map T.int)],.bl true,st,sub,⟨rfl,.nil,fun n so e=>by simp at e⟩,.cons (.lst sq (reps S ns)) .nil,rfl,hF,fun v H' S' as' _ _ _ r=>?_⟩
  cases r
  rfl
end C
end
section
namespace C
open PySem
def Q8 (xs:List T):List T:=xs.zipIdx.map fun p=>.tup [.int (p.2:Int),p.1]
def Ue (a:M T):M (List T):=fun s=>match a s with
  | some (.lst xs,s1)=>if xs.length<lim then some (Q8 xs,s1) else none
  | _=>none
def ab0 (f:List (Key × T)→List T) (a:M T):M (List T):=fun s=>match a s with
  | some (.dic kvs,s1)=>if kvs.length<lim then some (f kvs,s1) else none
  | _=>none
end C
end
section
namespace C
open PySem PySem.Spec PyProof.Rows L2
theorem a9w {kvs:List (L2.Key × V)} {vs:List (L2.Key × Value)} (r:KV kvs vs):∀ {i:Nat} {k:L2.Key} {v:V},kvs[i]? = some (k,v)→∃ u,vs[i]? = some (k,u)∧RelV v u:=by
  unfold KV at r
  induction r with
  | nil=>intro i k v e; simp at e
  | cons h _ ih =>
    intro i k v e
    cases i with
    | zero =>
      simp at e
      rename_i p q _ _ _
      subst e
      exact ⟨q.2,by obtain ⟨a,b⟩:=q; simp at h ⊢; exact h.1.symm,h.2⟩
    | succ j =>
      obtain ⟨u,h1,h2⟩:=ih (i:=j) (k:=k) (v:=v) (by simpa using e)
      exact ⟨u,by simpa using h1,h2⟩
theorem a1q {k:L2.Key} {u:Value} (h:Rj k u=true):RelV (kV k) u:=by
  rcases qy h with ⟨i,t,rfl,rfl⟩ | ⟨x,t,rfl,rfl⟩
  · exact ⟨t,rfl⟩
  · exact ⟨t,rfl⟩
def Itk (d:Addr) (o:Obj) (kvs:List (L2.Key × V)):It :=
  ⟨fun i H=>H d=some (.frz o (.dK kvs))∧∃ p,kvs[i]? = some p,fun i H x H'=>H'=H∧∀ p,kvs[i]? = some p→x=kV p.1,fun i H=>H d=some (.frz o (.dK kvs))∧kvs.length≤i⟩
theorem a2e {P:Program} {w:World} {H:Hp} {h:Heap} {d:Addr} {o:Obj} {kvs:List (L2.Key × V)} {es:Array DictEntry} {ep:Nat} (hd:o.data=.dict es ep) (ok:HOk P w H h) (e:H d=some (.frz o (.dK kvs))) :
    (d==sysModules)=false∧∃ vs,KV kvs vs∧h.DictAt (u5 P w) d vs ep:=by
  obtain ⟨ho,z,y,vs,r,o',es',ep',ho',hx,hd',q⟩:=(show vg P w H h d (.frz o (.dK kvs)) from ok d _ e)
  rw [ho] at ho'; cases ho'
  rw [hd] at hd'; cases hd'
  exact ⟨y,vs,r,o,es,ho,hx,hd,q⟩
theorem Z6 {P:Program} {w:World} {K:PySem.W.Frag} {tg:Expr} (d it:Addr) {o:Obj} {kvs:List (L2.Key × V)} {es:Array DictEntry} {ep:Nat} (hd:o.data=.dict es ep) :
    Turn P w K tg (Itk d o kvs) [it] it (fun i h=>h.IsKeyIter it d i kvs.length ep) where
  mem:=by simp
  obj:=fun i h st b hb=>by
    have e:b=it:=by simpa using hb
    subst e
    obtain ⟨o,e,c,d⟩:=st
    exact ⟨o,e,fun v z=>by rw [d] at z; cases z⟩
  keep:=fun i h h' st k=>by
    obtain ⟨o,e,r⟩:=st
    exact ⟨o,k it (by simp) o e,r⟩
  item:=by
    intro X hP hw hK hc i pins s σ H E I hf st hg
    subst hP hw hK
    obtain ⟨hF,⟨k,v⟩,hx⟩:=hg
    obtain ⟨_,vs,rv,da⟩:=a2e hd I.hok hF
    obtain ⟨u,hu,ru⟩:=a9w rv hx
    obtain ⟨f0,f1,f2,f3,f4,f5⟩:=hf it (by simp)
    rw [KV.length rv] at st
    refine wpAny_pyNext_dict_item st da hu fun key h' hk st' sb=>?_
    have I1:Inv X pins σ H { s with heap:=h' }:=I.turned (t':=s.toks) (fun b o hb e=>(sb.2 b hb).trans e) f0 f1 f3 f4 f5
    obtain ⟨o1,e1,c1,d1⟩:=id st'
    exact ⟨key,rfl,a3d (s:={ s with heap:=h' }) e1 c1 d1 (by decide) ⟨kV k,H,I1,a1q hk,⟨rfl,fun p hp=>by rw [hx] at hp; cases hp; rfl⟩,by rw [KV.length rv]; exact st',fun b hb=>(hf b hb).1⟩⟩
  done:=by
    intro X hP hw hK hc i pins s σ H E I hf st hg
    subst hP hw hK
    obtain ⟨hF,hx⟩:=hg
    obtain ⟨_,vs,rv,da⟩:=a2e hd I.hok hF
    obtain ⟨f0,f1,f2,f3,f4,f5⟩:=hf it (by simp)
    rw [KV.length rv] at st hx
    exact wpAny_pyNext_dict_end (I.ok.hd hc) st da (List.getElem?_eq_none hx) fun h' eb=>⟨rfl,I.turned (t':=s.toks) (fun b o hb e=>eb b o hb e) f0 f1 f3 f4 f5⟩
  self:=fun _ _ _ _ _ st h=>wpAny_pyIter_keyiter st h
def ac1 (J:Addr→Obj→List (L2.Key × V)→It) (i:Nat):TI:=fun σ H R=>∃ d o kvs,σ[i]? = some (some (.ref d))∧H d=some (.frz o (.dK kvs))∧R (J d o kvs) H
theorem a99 {X:Cx} {tg l:Expr} {i:Nat} (hl:PE X l (Mq i)):PI X tg l (ac1 Itk i):=by
  intro pins s σ H R I z8
  obtain ⟨d,o,kvs,e1,e2,q⟩:=z8
  refine thn (hl pins s σ H (fun x H1=>x=.ref d∧H1=H) I ⟨_,e1,rfl,rfl⟩) fun v s1 z0=>?_
  obtain ⟨x,H1,I1,r1,hx,hH⟩:=z0
  subst hx; subst hH
  cases r1
  obtain ⟨ho,z,y,vs,r,o',es,ep,ho',hxd,hd',qq⟩:=(show vg X.prog X.w H1 s1.heap d (.frz o (.dK kvs)) from I1.hok d _ e2)
  rw [ho] at ho'; cases ho'
  obtain ⟨_,vs',rv,da⟩:=a2e hd' I1.hok e2
  refine wpAny_pyIter_dict y da ?_
  refine ⟨s1.heap.objs.size,[s1.heap.objs.size],_,_,H1,rfl,I1.kept (t':=s1.toks) fun b o e=>Heap.get?_push_of_some _ e,Z6 d s1.heap.objs.size hd',⟨_,Heap.get?_push_size _ rfl,rfl,by rw [KV.length rv]; rfl⟩,fun b hb=>?_,q⟩
  have e:b=s1.heap.objs.size:=by simpa using hb
  subst e
  exact I1.a8h (Nat.le_refl _) (I1.hok.fresh (Nat.le_refl _))
section
variable {K:PySem.W.Frag} {S S':Hp} {as:List Addr}
def Kf (S S':Hp):Prop:=(∀ a u,(∀ o v,u≠HO.frz o v)→Rd S a u→Rd S' a u)∧∀ a φ,S a=some (.ext φ)→S' a=some (.ext φ)
mutual
theorem Rep.rdx (e:Kf S S'):∀ {v:V} {t:T},Rep K S as v t→Rep K S' as v t
  | _,_,.non=>.non
  | _,_,.bl b=>.bl b
  | _,_,.int i=>.int i
  | _,_,.str y=>.str y
  | _,_,.tup h r=>.tup (h.imp (e.1 _ _ fun _ _=>HO.noConfusion) id) (qu.rdx e r)
  | _,_,.lst h r=>.lst (h.imp (e.1 _ _ fun _ _=>HO.noConfusion) id) (qu.rdx e r)
  | _,_,.dic h r=>.dic (e.1 _ _ (fun _ _=>HO.noConfusion) h) (zy.rdx e r)
  | _,_,.obj h=>.obj h
theorem qu.rdx (e:Kf S S'):∀ {v:List V} {t:List T},qu K S as v t→qu K S' as v t
  | _,_,.nil=>.nil
  | _,_,.cons h r=>.cons (Rep.rdx e h) (qu.rdx e r)
theorem zy.rdx (e:Kf S S'):∀ {v:List (L2.Key × V)} {t:List (L2.Key × T)},zy K S as v t→zy K S' as v t
  | _,_,.nil=>.nil
  | _,_,.cons h r=>.cons (Rep.rdx e h) (zy.rdx e r)
end
theorem T6.rdx (e:Kf S S'):∀ {v:List (List L2.Key × V)} {t:List (List L2.Key × T)},T6 K S as v t→T6 K S' as v t
  | _,_,.nil=>.nil
  | _,_,.cons h r=>.cons (Rep.rdx e h) (T6.rdx e r)
theorem Own.rdx {H H':Hp} {p:Addr} {t:T} (e:Kf S S') (hh:H p=H' p) (o:Own K S as H p t):Own K S' as H' p t:=by
  cases t with
  | lst ts=>obtain ⟨vs,h,r⟩:=o; exact ⟨vs,hh ▸ h,r.rdx e⟩
  | dic ts=>obtain ⟨vs,h,r⟩:=o; exact ⟨vs,hh ▸ h,r.rdx e⟩
  | _=>exact o.elim
theorem Wd.rdx {H H':Hp} {a:Addr} {so:SO} (e:Kf S S') (hh:H a=H' a) (o:Wd K S as H a so):Wd K S' as H' a so:=by
  cases so with
  | dic ts=>obtain ⟨vs,h,r⟩:=o; exact ⟨vs,hh ▸ h,r.rdx e⟩
  | lst ts=>obtain ⟨vs,h,r⟩:=o; exact ⟨vs,hh ▸ h,r.rdx e⟩
  | dit ts=>obtain ⟨vs,h,r⟩:=o; exact ⟨vs,hh ▸ h,r.rdx e⟩
  | exc C f t=>obtain ⟨dx,v,h,g,r⟩:=o; exact ⟨dx,v,hh ▸ h,e.2 _ _ g,r.rdx e⟩
  | fdc ts=>obtain ⟨vs,h,r⟩:=o; exact ⟨vs,hh ▸ h,r.rdx e⟩
def Still (z:HO) (kvs:List (L2.Key × V)):Prop:=z=.dK kvs∨∃ o,z=.frz o (.dK kvs)
theorem Ky {d:Addr} {kvs:List (L2.Key × V)} {z z':HO} (hd:S d=some z') (h':Still z' kvs) (h:Still z kvs):Kf S (upd S d z):=⟨fun a u hu r=>by
  by_cases e:a=d
  · subst e
    have eu:u=.dK kvs:=by
      rcases r with r | ⟨o,r⟩
      · rw [hd] at r; cases r
        rcases h' with h' | ⟨o,h'⟩
        · exact h'
        · exact absurd h' (hu _ _)
      · rw [hd] at r; cases r
        rcases h' with h' | ⟨o,h'⟩
        · cases h'
        · cases h'; rfl
    subst eu
    rcases h with rfl | ⟨o,rfl⟩
    · exact .inl d7
    · exact .inr ⟨o,d7⟩
  · rcases r with r | ⟨o,r⟩
    · exact .inl (by rw [dj e]; exact r)
    · exact .inr ⟨o,by rw [dj e]; exact r⟩,fun a φ q=>by
  have ne:a≠d:=fun e=>by
    subst e
    rw [hd] at q; cases q
    rcases h' with h' | ⟨o,h'⟩ <;> cases h'
  rw [dj ne]; exact q⟩
theorem Ik.swap {B B':Bas} {H:Hp} {p d:Addr} {t:T} {kvs:List (L2.Key × V)} {z z':HO} (o:Ik K B S as H p t) (hd:S d=some z') (h':Still z' kvs) (h:Still z kvs) (hB:B.H p=none→B'.H p=none) :
    Ik K B' (upd S d z) as (upd H d z) p t:=by
  have ne:p≠d:=fun e=>by have:=o.out; rw [e,hd] at this; cases this
  exact ⟨o.own.rdx (Ky hd h' h) (dj ne).symm,by rw [dj ne]; exact o.out,o.nas,hB o.new⟩
theorem Rel.swap {B B':Bas} {st:Sta} {σ:L2.St} {H:Hp} {ps:List (V × T)} {d:Addr} {kvs:List (L2.Key × V)} {z z':HO} (r:Rel K B st σ H ps S as) (hd:S d=some z') (h':Still z' kvs) (h:Still z kvs)
    (hg:Yv B' (upd S d z) as (upd H d z)) (hB:∀ p,B.H p=none→B'.H p=none):Rel K B' st σ (upd H d z) ps (upd S d z) as where
  sub:=fun b u e=>by
    by_cases eb:b=d
    · subst eb; rw [d7] at e ⊢; exact e
    · rw [dj eb] at e ⊢; exact r.sub _ _ e
  grow:=hg
  slots:=fun i t f e=>by
    obtain ⟨v,h1,h2,h3⟩:=r.slots i t f e
    refine ⟨v,h1,fun q=>(h2 q).rdx (Ky hd h' h),fun q=>?_⟩
    obtain ⟨p,ep,o⟩:=h3 q
    exact ⟨p,ep,o.swap hd h' h (hB p)⟩
  apart:=r.apart
  sto:=⟨r.sto.len,r.sto.nd,fun n so e=>by
    obtain ⟨a,h1,h2,h3⟩:=r.sto.at' n so e
    have ne:a≠d:=fun e=>by rw [e,hd] at h2; cases h2
    exact ⟨a,h1,by rw [dj ne]; exact h2,h3.rdx (Ky hd h' h) (dj ne).symm⟩⟩
  pend:=fun p hp=>(r.pend p hp).rdx (Ky hd h' h)
  len:=r.len
theorem Yv.still {B:Bas} {H:Hp} {d:Addr} {z z':HO} (g:Yv B S as H) (hd:S d=some z'):Yv ⟨upd S d z,as,B.H⟩ (upd S d z) as (upd H d z) where
  same:=Same.refl _
  more:=nol
  keep:=fun p o h1 h2 h3=>by
    have ne:p≠d:=fun e=>by subst e; change upd S p z p=none at h2; rw [d7] at h2; cases h2
    have h2':S p=none:=by rw [← dj (H:=S) (o:=z) ne]; exact h2
    have b2:B.S p=none:=by
      cases q:B.S p with
      | none=>rfl
      | some u=>have:=g.same _ _ q; rw [h2'] at this; cases this
    have b3:p∉B.as:=fun q=>by obtain ⟨l,e⟩:=g.more; exact h3 (by show p∈as; rw [e]; exact List.mem_append_left _ q)
    exact ⟨by rw [dj ne]; exact (g.keep p o h1 b2 b3).1,h2,h3⟩
theorem Yv.back {B:Bas} {H H':Hp} {as':List Addr} {d:Addr} {z z':HO} (g:Yv B S as H) (hd:S d=some z') (g':Yv ⟨upd S d z,as,B.H⟩ S' as' H'):Yv B (upd S' d z') as' (upd H' d z') where
  same:=fun b u e=>by
    have e1:=g.same _ _ e
    by_cases eb:b=d
    · subst eb; rw [hd] at e1; cases e1; exact d7
    · rw [dj eb]; exact g'.same _ _ (by show upd S d z b=some u; rw [dj eb]; exact e1)
  more:=by
    obtain ⟨l,e⟩:=g.more
    obtain ⟨l',e'⟩:=g'.more
    exact ⟨l++l',by rw [e',← List.append_assoc,← e]⟩
  keep:=fun p o h1 h2 h3=>by
    obtain ⟨a,b,c⟩:=g.keep p o h1 h2 h3
    have ne:p≠d:=fun e=>by subst e; rw [hd] at b; cases b
    obtain ⟨a',b',c'⟩:=g'.keep p o h1 (by show upd S d z p=none; rw [dj ne]; exact b) c
    exact ⟨by rw [dj ne]; exact a',by rw [dj ne]; exact b',c'⟩
end
theorem a3u {X:Cx} {pins:List (Addr × Obj)} {σ:L2.St} {H:Hp} {s:Shared} {d:Addr} {o:Obj} {kvs:List (L2.Key × V)} (I:Inv X pins σ H s) (e:H d=some (.frz o (.dK kvs))) (n:∀ o u,X.H₀ d≠some (.frz o u)) :
    Inv X pins σ (upd H d (.dK kvs)) s:=by
  have nn:∀ b,H b=none→upd H d (.dK kvs) b=none:=fun b h=>by rw [dj (fun q=>by subst q; rw [e] at h; cases h)]; exact h
  have nt:∀ b xs,H b=some (.tup xs)→upd H d (.dK kvs) b=some (.tup xs):=fun b xs h=>by rw [dj (fun q=>by subst q; rw [e] at h; cases h)]; exact h
  have no:∀ b x,H b=some (.own x)→upd H d (.dK kvs) b=some (.own x):=fun b xs h=>by rw [dj (fun q=>by subst q; rw [e] at h; cases h)]; exact h
  have hok:HOk X.prog X.w (upd H d (.dK kvs)) s.heap:=fun b u q=>by
    by_cases eb:b=d
    · subst eb
      rw [d7] at q; cases q
      obtain ⟨_,x⟩:=(show vg X.prog X.w H s.heap b (.frz o (.dK kvs)) from I.hok b _ e)
      exact vg.stay x (fun _ _ _ q=>q) (fun b q=>no b _ q) nt
    · rw [dj eb] at q
      exact (I.hok b u q).stay (fun _ _ _ q=>q) (fun b q=>no b _ q) nt
  refine ⟨I.ok,I.os,I.bare,⟨I.base.keep,I.base.slot,fun b ob h1 h2 h3=>nn b (I.base.free b ob h1 h2 h3),I.base.there,fun b xs q=>nt b xs (I.base.tups b xs q),fun b ob u q=>?_,fun b ps q=>?_⟩,I.loc,I.cell,nn _ I.free,fun x c q=>nn c (I.freeC x c q),fun p hp=>?_,hok,I.len⟩
  · rw [dj (fun z=>by subst z; exact n _ _ q)]; exact I.base.frzs b ob u q
  · obtain ⟨m,hm⟩:=I.base.tbls b ps q
    exact ⟨m,by rw [dj (fun z=>by subst z; rw [e] at hm; cases hm)]; exact hm⟩
  · obtain ⟨a,b,c⟩:=I.pin p hp
    exact ⟨a,nn _ b,c⟩
section
variable {X:Cx} {scope:Scope} {N:List Str} {B:Bas} {nv:Nat} {cap:List Nat} {g:G} {c:M Bool} {e:M T} {tg iter elt:Expr} {ifs:List Expr} {pos:Pos} {i:Nat}
theorem a3l {f:List (L2.Key × T)→List T} {ts:List T} {s s1:Sta} (h:ab0 f (bw i) s=some (ts,s1)):∃ kvs,ts=f kvs∧kvs.length<lim∧((s.env[i]? = some (some (.dic kvs,false))∧s1=s)∨(s.env[i]? = some (some (.dic kvs,true))∧s1 = { s with env:=s.env.set i (some (.dic kvs,false)) })):=by
  unfold ab0 at h
  split at h
  · rename_i kvs s2 e2
    split at h
    · rename_i hl
      cases h
      exact ⟨kvs,rfl,hl,Vn e2⟩
    · cases h
  · cases h
def Walk (K:PySem.W.Frag) (J:Addr→Obj→List (L2.Key × V)→It) (f:List (L2.Key × T)→List T):Prop:=∀ S as H d o vs ts,Same S H→H d=some (.frz o (.dK vs))→zy K S as vs ts→Ij K S as H (J d o vs) (f ts)
theorem a0s {K:PySem.W.Frag} {S:Hp} {as:List Addr}:∀ {vs:List (L2.Key × V)} {ts:List (L2.Key × T)},zy K S as vs ts→vs.map (·.1)=ts.map (·.1)
  | _,_,.nil=>rfl
  | _,_,.cons (k:=k) _ r=>congrArg (k :: ·) (a0s r)
theorem itK {K:PySem.W.Frag} {S:Hp} {as:List Addr} {H:Hp} {d:Addr} {o:Obj} {vs:List (L2.Key × V)} {ts:List (L2.Key × T)} (sub:Same S H) (h:H d=some (.frz o (.dK vs))) (r:vs.map (·.1)=ts.map (·.1)):Ij K S as H (Itk d o vs) (ts.map fun p=>Iw p.1) where
  go:=fun i t e=>by
    have e2:(ts.map (·.1))[i]?.map Iw=some t:=by rw [← List.getElem?_map,List.map_map]; exact e
    rw [← r,List.getElem?_map] at e2
    cases q:vs[i]? with
    | none=>rw [q] at e2; cases e2
    | some p =>
      rw [q] at e2
      refine ⟨⟨h,p,q⟩,fun x H' y=>⟨S,by rw [y.1]; exact Ext.refl sub,?_⟩⟩
      rw [y.2 p q]
      have:Iw p.1=t:=by simpa using e2
      rw [← this]
      obtain ⟨k,v⟩:=p
      cases k with
      | inl i=>exact .int i
      | inr x=>exact .str x
  stop:=fun i hi=>⟨h,by
    have:=congrArg List.length r
    rw [List.length_map,List.length_map] at this
    rw [List.length_map] at hi
    rw [this]; exact hi⟩
theorem Nt {J:Addr→Obj→List (L2.Key × V)→It} {f:List (L2.Key × T)→List T} (wk:Walk X.K J f) (co:Yi X scope N nv cap) {st s1 s2:Sta} {ps:List (V × T)} {S:Hp} {as:List Addr} {σ:L2.St} {H:Hp} {d:Addr} {o:Obj} {vs:List (L2.Key × V)} {ts:List (L2.Key × T)} {us:List T} {Q:VK}
    (R:Rel X.K B s1 σ H ps S as) (hσ:σ[i]? = some (some (.ref d))) (hB:B.S d=some (.frz o (.dK vs))) (hk:zy X.K B.S B.as vs ts)
    (hc:Dh g c e (f ts) ⟨List.replicate nv none++cap.map (fun i=>((jo cap s1.env)[i]?).getD none),s1.sto⟩ []=some (us,s2))
    (q:∀ p H' S' as',Rel X.K B ⟨jo cap s1.env,s2.sto⟩ σ H' ps S' as'→Ik X.K B S' as' H' p (.lst us)→K4 ⟨jo cap s1.env,s2.sto⟩ σ p→Q (.ref p) H') :
    a2n X scope N (ac1 J i) (gE X.K g) (cE X.K c) (eE X.K e) σ H Q:=by
  obtain ⟨S2,R2⟩:=R.jo cap
  refine ⟨d,o,vs,hσ,R.sub _ _ (R.grow.same _ _ hB),?_⟩
  exact Qd (ps':=[]) co.len (fun _ _ _ _=>trivial) co.at' R2 (fun k hk=>Gf cap s1.env k hk) (fun S as H sB mr _ sub=>wk S as H d o vs ts sub (sub _ _ (sB _ _ hB)) (hk.mono sB mr)) hc fun D H' S' as' R' o n=>q D H' S' as' R' o n
theorem a3b {J:Addr→Obj→List (L2.Key × V)→It} {f:List (L2.Key × T)→List T} (wk:Walk X.K J f) (co:Yi X scope N nv cap) (sc:J6 X scope N) (calm:X.calm=true) (hi:PI X tg iter (ac1 J i))
    (hg:∀ C s₀ H₀ ex pn,PG (ur X scope N C s₀ H₀ ex pn) tg (gE X.K g)) (hc:∀ C s₀ H₀ ex pn,PTs (ur X scope N C s₀ H₀ ex pn) ifs (cE X.K c)) (he:∀ C s₀ H₀ ex pn,PE (ur X scope N C s₀ H₀ ex pn) elt (eE X.K e))
    (hs:∀ x,foldedSetIterable iter X.env x=pure x:=by intro _; rfl):PE X (.ListComp elt [⟨tg,iter,ifs,0⟩] scope pos) (fOf X.K B (ou nv cap g (ab0 f (bw i)) c e)):=by
  have P:=a0k (pos:=pos) sc calm hi hg hc he hs
  intro pins s σ H Q I z8
  obtain ⟨st,ps,S0,as,R0,t,st',em,q⟩:=z8
  obtain ⟨ts0,s1,us,s2,e1,e2,rfl,rfl⟩:=Qq em
  obtain ⟨ts,rfl,hl,hst⟩:=a3l e1
  have hR:∃ S,Rel X.K B s1 σ H ps S as∧s1.env[i]? = some (some (.dic ts,false)):=by
    rcases hst with ⟨h1,rfl⟩ | ⟨h1,rfl⟩
    · exact ⟨S0,R0,h1⟩
    · obtain ⟨S,R⟩:=R0.Um h1
      exact ⟨S,R,List.getElem?_set_self (List.getElem?_eq_some_iff.mp h1).1⟩
  obtain ⟨S,R,hE⟩:=hR
  obtain ⟨v,hσ,hv,_⟩:=R.slots i _ _ hE
  cases hv rfl with
  | @dic d vs _ hrd hrk =>
    obtain ⟨z',hS,hz'⟩:∃ z',S d=some z'∧Still z' vs:=by
      rcases hrd with h | ⟨o,h⟩
      · exact ⟨_,h,.inl rfl⟩
      · exact ⟨_,h,.inr ⟨o,rfl⟩⟩
    have hH:=R.sub _ _ hS
    obtain ⟨o,ho⟩:∃ o,s.heap.get? d=some o:=by
      have:=(I.hok d _ hH).lt
      rcases hz' with rfl | ⟨o,rfl⟩
      · obtain ⟨_,_,_,_,o,_,_,e,_⟩:=(show vg X.prog X.w H s.heap d (.dK vs) from I.hok d _ hH); exact ⟨o,e⟩
      · exact ⟨o,(show vg X.prog X.w H s.heap d (.frz o (.dK vs)) from I.hok d _ hH).1⟩
    rcases hz' with rfl | ⟨o',rfl⟩
    · have nf:∀ o u,X.H₀ d≠some (.frz o u):=fun o u h=>by have:=I.base.frzs d o u h; rw [hH] at this; cases this
      have I1:Inv X pins σ (upd H d (.frz o (.dK vs))) s:=I.write (x:=d) (e:=d) (h':=s.heap) (t':=s.toks) (by rw [hH]; trivial) (.inl rfl) (fun _ _ _ q=>q) ⟨o,ho⟩
        ⟨ho,vg.stay (show vg X.prog X.w H s.heap d (.dK vs) from I.hok d _ hH) (fun _ _ _ q=>q) (fun b q=>by rw [dj (fun z=>by subst z; rw [hH] at q; cases q)]; exact q) fun b xs q=>by rw [dj (fun z=>by subst z; rw [hH] at q; cases q)]; exact q⟩
      have R1:=R.swap (B':=⟨upd S d (.frz o (.dK vs)),as,B.H⟩) (z:=.frz o (.dK vs)) hS (.inl rfl) (.inr ⟨o,rfl⟩) (R.grow.still hS) fun _ h=>h
      refine thn (P pins s σ _ (fun v H'=>H' d=some (.frz o (.dK vs))∧Q v (upd H' d (.dK vs))) I1 (Nt wk (st:=st) (o:=o) (vs:=vs) (ts:=ts) co R1 hσ d7 (hrk.rdx (Ky hS (.inl rfl) (.inr ⟨o,rfl⟩))) e2 fun p H' S' as' R' ow n=>?_)) fun u s' ⟨v,H',I',r,hf,hq⟩=>⟨v,_,a3u I' hf nf,r,hq⟩
      have hS':S' d=some (.frz o (.dK vs)):=R'.grow.same _ _ d7
      refine ⟨R'.sub _ _ hS',q p _ (upd S' d (.dK vs)) as' (R'.swap hS' (.inr ⟨o,rfl⟩) (.inl rfl) (R.grow.back hS R'.grow) fun _ h=>h) (ow.swap hS' (.inr ⟨o,rfl⟩) (.inl rfl) fun h=>h) n⟩
    · have R1:Rel X.K ⟨S,as,B.H⟩ s1 σ H ps S as:=⟨R.sub,⟨Same.refl _,nol,fun p o h1 h2 h3=>by
          change S p=none at h2
          have b2:B.S p=none:=by
            cases q:B.S p with
            | none=>rfl
            | some u=>have:=R.grow.same _ _ q; rw [h2] at this; cases this
          have b3:p∉B.as:=fun q=>by obtain ⟨l,e⟩:=R.grow.more; exact h3 (by show p∈as; rw [e]; exact List.mem_append_left _ q)
          exact ⟨(R.grow.keep p o h1 b2 b3).1,h2,h3⟩⟩,fun i t f e=>by
            obtain ⟨v,h1,h2,h3⟩:=R.slots i t f e
            exact ⟨v,h1,h2,fun q=>by obtain ⟨p,ep,o⟩:=h3 q; exact ⟨p,ep,o.own,o.out,o.nas,o.new⟩⟩,R.apart,R.sto,R.pend,R.len⟩
      refine P pins s σ _ Q I (Nt wk (st:=st) (o:=o') (vs:=vs) (ts:=ts) co R1 hσ hS hrk e2 fun p H' S' as' R' ow n=>q p H' S' as' ⟨R'.sub,⟨R.grow.same.trans R'.grow.same,?_,fun p o h1 h2 h3=>?_⟩,fun i t f e=>?_,R'.apart,R'.sto,R'.pend,R'.len⟩ ⟨ow.own,ow.out,ow.nas,ow.new⟩ n)
      · obtain ⟨l,e⟩:=R.grow.more
        obtain ⟨l',e'⟩:=R'.grow.more
        exact ⟨l++l',by rw [e',← List.append_assoc,← e]⟩
      · obtain ⟨a,b,c⟩:=R.grow.keep p o h1 h2 h3
        exact R'.grow.keep p o h1 b c
      · obtain ⟨v,h1,h2,h3⟩:=R'.slots i t f e
        exact ⟨v,h1,h2,fun q=>by obtain ⟨p,ep,o⟩:=h3 q; exact ⟨p,ep,o.own,o.out,o.nas,o.new⟩⟩
theorem Zm {K:PySem.W.Frag}:Walk K Itk (fun kvs=>kvs.map fun p=>Iw p.1):=fun S as H d o vs ts sub h r=>itK sub h (a0s r)
theorem a3w (co:Yi X scope N nv cap) (sc:J6 X scope N) (calm:X.calm=true) (hi:PE X iter (Mq i))
    (hg:∀ C s₀ H₀ ex pn,PG (ur X scope N C s₀ H₀ ex pn) tg (gE X.K g)) (hc:∀ C s₀ H₀ ex pn,PTs (ur X scope N C s₀ H₀ ex pn) ifs (cE X.K c)) (he:∀ C s₀ H₀ ex pn,PE (ur X scope N C s₀ H₀ ex pn) elt (eE X.K e))
    (hs:∀ x,foldedSetIterable iter X.env x=pure x:=by intro _; rfl):PE X (.ListComp elt [⟨tg,iter,ifs,0⟩] scope pos) (fOf X.K B (ou nv cap g (Rn (bw i)) c e)) :=
  a3b Zm co sc calm (a99 hi) hg hc he hs
end
section
end
end C
end
section
namespace C
open PySem PySem.Spec PyProof.Rows L2
section
variable {K:PySem.W.Frag} {S:Hp} {as:List Addr}
end
section
variable {X:Cx} {B:Bas} {a b e:Expr} {m m2:M T} {pos p1:Pos} {es:List Expr} {ms:M (List T)}
theorem Rel.base {K:PySem.W.Frag} {B:Bas} {st:Sta} {σ:L2.St} {H S:Hp} {ps:List (V × T)} {as:List Addr} (r:Rel K B st σ H ps S as):Rel K ⟨S,as,B.H⟩ st σ H ps S as :=
  ⟨r.sub,⟨Same.refl _,nol,fun p o h1 h2 h3=>by
    change S p=none at h2
    have b2:B.S p=none:=by
      cases q:B.S p with
      | none=>rfl
      | some u=>have:=r.grow.same _ _ q; rw [h2] at this; cases this
    have b3:p∉B.as:=fun q=>by obtain ⟨l,e⟩:=r.grow.more; exact h3 (by show p∈as; rw [e]; exact List.mem_append_left _ q)
    exact ⟨(r.grow.keep p o h1 b2 b3).1,h2,h3⟩⟩,fun i t f e=>by
      obtain ⟨v,h1,h2,h3⟩:=r.slots i t f e
      exact ⟨v,h1,h2,fun q=>by obtain ⟨p,ep,o⟩:=h3 q; exact ⟨p,ep,o.own,o.out,o.nas,o.new⟩⟩,r.apart,r.sto,r.pend,r.len⟩
end
end C
end
section
namespace C
open PySem
def Ja (i:Nat) (lo hi:M (Option Int)):M T:=fun s=>if Cw i s then (match lo s with
  | some (l,s1)=>match hi s1 with
    | some (h,s2)=>match s2.env[i]? with
      | some (some (.lst xs,_))=>some (.lst (a2v xs l h),s2)
      | _=>none
    | none=>none
  | none=>none) else none
end C
end
section
namespace C
open PySem
end C
end
section
namespace C
open PySem
end C
end
section
namespace C
open PySem PySem.W PyProof.Rows
def Lk (i:Nat) (m:M T):M T:=fun s=>if Cw i s then (match m s with
  | some (u,s1)=>match s1.env[i]? with
    | some (some (.lst xs,true))=>match neO (.lst xs) u with
      | some w=>some (w,s1)
      | none=>none
    | _=>none
  | none=>none) else none
end C
end
section
namespace C
open PySem
end C
end
section
namespace C
open PySem
def Gv:Option SO→Bool
  | some (.lst _)=>true
  | _=>false
def Mi (m:Nat) (v:M T):S:=fun s=>match v s with
  | some (t,s1)=>match s1.sto[m]? with
    | some (.lst xs)=>if xs.length<lim then some (.next,{ s1 with sto:=s1.sto.set m (.lst (xs++[t])) }) else none
    | _=>none
  | none=>none
def a8j (q:Key) (kvs:List (Key × T)):List (Key × T):=kvs.filter fun p=>decide (p.1≠q)
end C
end
section
namespace C
open PySem
mutual
def flat:T→Bool
  | .tup xs=>flats xs
  | .lst _=>false
  | .dic _=>false
  | _=>true
def flats:List T→Bool
  | []=>true
  | x::r=>flat x&&flats r
end
def zx:SO→Bool
  | .dic kvs=>flats (kvs.map (·.2))
  | .lst xs=>flats xs
  | .dit kvs=>flats (kvs.map (·.2))
  | .exc _ _ t=>flat t
  | .fdc kvs=>flats (kvs.map (·.2))
end C
end
section
namespace C
open PySem
def a6d (i:Nat) (s:Sta):Bool:=match s.env[i]? with
  | some (some (.dic _,true))=>true
  | _=>false
def Bk (i:Nat) (k v:M T):S:=fun s=>if a6d i s then (match k s with
  | some (kt,s1)=>match s1.env[i]? with
    | some (some (.dic kvs,true))=>match keyOf kt with
      | some q=>if kvs.length<lim then (match Hz q kvs with
        | some (.obj m)=>if Gv s1.sto[m]? then Mi m v s1 else none
        | some _=>none
        | none=>Mi s1.sto.length v (iu i (.dic (a0d q (.obj s1.sto.length) kvs)) true { s1 with sto:=s1.sto++[SO.lst []] })) else none
      | none=>none
    | _=>none
  | none=>none) else none
def Uc (m:M T):S:=fun s=>match m s with
  | some (.obj n,s1)=>match s1.sto[n]? with
    | some (.lst (_::xs))=>some (.next,{ s1 with sto:=s1.sto.set n (.lst xs) })
    | _=>none
  | _=>none
def Ga (i:Nat) (k:M T):S:=fun s=>if a6d i s then (match k s with
  | some (kt,s1)=>match s1.env[i]? with
    | some (some (.dic kvs,true))=>match keyOf kt with
      | some q=>if (Hz q kvs).isSome then some (.next,iu i (.dic (a8j q kvs)) true s1) else none
      | none=>none
    | _=>none
  | none=>none) else none
def Dk (i:Nat):M T:=fun s=>match s.env[i]? with
  | some (some (.dic kvs,_))=>if kvs.length<lim then some (.lst (kvs.map fun p=>Iw p.1),s) else none
  | _=>none
def Nq (is:List Nat) (m:M T):M T:=fun s=>match m ⟨lend is s.env,s.sto⟩ with
  | some (t,s1)=>if s1.sto.all zx&&flat t then some (t,⟨s.env,s1.sto⟩) else none
  | none=>none
def K8 (is:List Nat) (m:M T):M T:=fun s=>match m ⟨lend is s.env,s.sto⟩ with
  | some (.lst xs,s1)=>if s1.sto.all zx&&flats xs then some (.lst xs,⟨s.env,s1.sto⟩) else none
  | _=>none
def Gb (i j:Nat) (k:M T):S:=fun s=>if Cw i s=true∧Cw j s=true then (match k s with
  | some (.int a,s1)=>match s1.env[j]? with
    | some (some (.lst ys,true))=>if i≠j∧0≤a∧a<1000000 then (match ys[a.toNat]? with
      | some t=>match s1.env[i]? with
        | some (some (.lst xs,true))=>if xs.length<lim then some (.next,iu i (.lst (xs++[t])) true (iu j (.lst (ys.eraseIdx a.toNat)) true s1)) else none
        | _=>none
      | none=>none) else none
    | _=>none
  | _=>none) else none
def aax:List Int→Option Int
  | []=>none
  | x::r=>some (r.foldl (fun a b=>if b<a then b else a) x)
def V0:List T→Option T
  | [.lst xs]=>(Yd xs).bind fun l=>(aax l).map .int
  | _=>none
end C
end
section
namespace C
open PySem PySem.Spec PyProof.Rows L2
section
variable {K:PySem.W.Frag} {B:Bas} {st:Sta} {σ:L2.St} {H S:Hp} {ps:List (V × T)} {as:List Addr}
end
theorem Qt {K:PySem.W.Frag} {S:Hp} {as:List Addr}:∀ {vs:List (L2.Key × V)} {ts:List (L2.Key × T)},zy K S as vs ts→qu K S as (vs.map fun p=>kV p.1) (ts.map fun p=>Iw p.1)
  | _,_,.nil=>.nil
  | _,_,.cons (k:=k) _ r=>.cons (by cases k with
    | inl i=>exact .int i
    | inr x=>exact .str x) (Qt r)
theorem a0t {P:Program} {w:World}:∀ {kvs:List (L2.Key × V)} {vs:List (L2.Key × Value)} {us:List Value},KV kvs vs→us.length=kvs.length→(∀ (j:Nat) (v:Value),us[j]? = some v→∃ k x,vs[j]? = some (k,x)∧(u5 P w).is k v=true)→Vals (kvs.map fun p=>kV p.1) us:=by
  intro kvs vs us r
  unfold KV at r
  induction r generalizing us with
  | nil=>intro hl _; cases us with
    | nil=>exact .nil
    | cons _ _=>simp at hl
  | cons h _ ih =>
    intro hl hu
    cases us with
    | nil=>simp at hl
    | cons u us =>
      refine .cons ?_ (ih (by simpa using hl) fun j v e=>by simpa using hu (j+1) v (by simpa using e))
      obtain ⟨k,x,e,hk⟩:=hu 0 u rfl
      have e':=Option.some.inj e
      show RelV (kV _) u
      rw [h.1,e']
      exact a1q hk
section
variable {X:Cx} {B:Bas} {a b c e o k d:Expr} {m mo mk md mv:M T} {pos p:Pos}
theorem M8 (hc:X.calm=true):Du X (.type "list") (fun xs H Q=>∃ q kvs,xs=[.ref q]∧Rd H q (.dK kvs)∧∀ p,H p=none→Q (.ref p) (upd H p (.lst (kvs.map fun p=>kV p.1)))):=by
  intro pins s σ H xs us Q I rs z8
  obtain ⟨a,kvs,ex,h1,h2⟩:=z8
  subst ex
  obtain ⟨u,rfl,ru⟩:=rs.one
  cases ru
  obtain ⟨z,hd,vs,rel,dd⟩:=Jm I.hok h1
  obtain ⟨o,es,ep,dat⟩:=dd
  have da:s.heap.DictAt (u5 X.prog X.w) a vs ep:=⟨o,es,dat⟩
  refine PySem.W.kdl_call (PySem.W.kdl_dict hd) (I.ok.hd hc) da (by rw [← rel.length]; exact z) fun h' tk acc c kp at' it=>?_
  have len:acc.toList.length=kvs.length:=by rw [rel.length]; simpa using it.1
  refine ⟨.ref _,_,I.laid (a:=s.heap.objs.size) (o:=.lst (kvs.map fun p=>kV p.1)) (h':=h') (t':=tk) kp (Nat.le_refl _) ⟨by rw [List.length_map]; exact z,acc.toList,c,?_,by simpa using at'⟩,rfl,h2 _ (I.hok.fresh (Nat.le_refl _))⟩
  refine a0t (P:=X.prog) (w:=X.w) rel len fun j v e=>?_
  exact it.2 j v (by rw [← Array.getElem?_toList]; exact e)
def Zh:V→List V→Hp→VK→Prop:=fun x vs H Q=>∃ d kvs k y,x=.ref d∧vs=[kV k,y]∧H d=some (.dK kvs)∧kvs.length<sizeLine∧(∀ v,Kz kvs k=some v→Q v H)∧(Kz kvs k=none→Q y (upd H d (.dK (putK kvs k y))))
theorem Oe:MtM X "dict.setdefault" Zh:=by
  intro pins s σ H x vs v us Q I rx rv h
  obtain ⟨d,kvs,k,y,rfl,rfl,hH,hz,q1,q2⟩:=h
  cases rx
  cases rv with
  | @cons _ uk _ us rk rv =>
    obtain ⟨u,rfl,ru⟩:=Vals.one rv
    obtain ⟨z,hd,vs,rel,dd⟩:=a7l I.hok hH
    refine call_meetsIn PySem.F.slot_dict_setdefault dd.typeIs PySem.F.entry_dict_setdefault (PySem.F.args_dict_setdefault_3 _ _ _) (kt_meets_setdefault (u5 X.prog X.w) d (Vb rk) hd u) ⟨vs,dd,by rw [← rel.length]; exact z,fun v hv=>?_,fun hv h' dd' hs=>?_⟩
    · cases l:Kz kvs k with
      | none=>have:=rel.val k; rw [l] at this; have:=Mr.none_of this; rw [hv] at this; cases this
      | some w =>
        obtain ⟨w',hw,rw'⟩:=Mr.some_of (v:=w) (o:=valueAt vs k) (by rw [← l]; exact rel.val k)
        rw [hv] at hw; cases hw
        exact ⟨w,H,I.tok _,rw',q1 w l⟩
    · have l:Kz kvs k=none:=by
        cases l:Kz kvs k with
        | none=>rfl
        | some w =>
          obtain ⟨w',hw,rw'⟩:=Mr.some_of (v:=w) (o:=valueAt vs k) (by rw [← l]; exact rel.val k)
          rw [hv] at hw; cases hw
      have he:∃ q,h'.get? d=some q:=let ⟨q,_,_,hq,_⟩:=dd'; ⟨q,hq⟩
      have hl:(putK kvs k y).length≤sizeLine:=by have:=Gi kvs k y; omega
      exact ⟨y,_,O6 I (by rw [hH]; exact True.intro) hs he (Za hl hd (rel.put k ru) dd'),ru,q2 l⟩
theorem Xu {o:Option SO} (h:Gv o=true):∃ k,o=some (.lst k):=by
  unfold Gv at h
  split at h
  · exact ⟨_,rfl⟩
  · cases h
theorem a2m {m:Nat} {v:M T} {s s':Sta} {fl:Flow} (h:Mi m v s=some (fl,s')):∃ t s1 xs,v s=some (t,s1)∧s1.sto[m]? = some (.lst xs)∧xs.length<lim∧fl=.next∧s' = { s1 with sto:=s1.sto.set m (.lst (xs++[t])) }:=by
  unfold Mi at h
  split at h
  · rename_i t s1 e1
    split at h
    · rename_i xs e2
      obtain ⟨hl,h⟩:=vp h
      cases h
      exact ⟨t,s1,xs,e1,e2,hl,rfl,rfl⟩
    · cases h
  · cases h
theorem a6k {st:Sta} {σ:L2.St} {H S:Hp} {ps:List (V × T)} {as:List Addr} {a:Addr} {n:Nat} {D:Ends} {fl:Flow} {st':Sta} (R:Rel X.K B st σ H ps S as) (ha:as[n]? = some a) (hs:Gv st.sto[n]? = true) (e:Mi n mv st=some (fl,st'))
    (q:fl=.next→∀ H' S' as',Rel X.K B st' σ H' ps S' as'→D.nx σ H'):tyV X.K "list" (.ref a) H∧Ii (tOf X.K B mv) Xm σ H fun xs H2=>Io (.ref a) xs H2 fun _ H1=>D.nx σ H1:=by
  obtain ⟨t,s1,xs,e1,e2,hl,rfl,rfl⟩:=a2m e
  obtain ⟨k0,ek⟩:=Xu hs
  obtain ⟨a0,l0,_,vs0,l1,_⟩:=R.sto.at' n _ ek
  rw [ha] at l0; cases l0
  refine ⟨.inl ⟨rfl,_,SqL.of l1⟩,st,(.ref a,.obj n)::ps,S,as,R.push (.obj ha),t,s1,e1,fun v H1 S1 as1 R1=>?_⟩
  have t2:=R1.top2
  cases t2 with
  | @obj _ a2 ha2 =>
    obtain ⟨a',k1,k2,vs,k3,k4⟩:=R1.sto.at' n _ e2
    rw [ha2] at k1; cases k1
    exact ⟨a,vs,v,rfl,rfl,k3,by rw [k4.length]; exact Nat.lt_of_lt_of_le hl qp,q rfl _ S1 as1 (R1.drop.drop.Vm e2 ha2 ⟨_,d7,k4.append (.cons R1.top .nil)⟩)⟩
theorem zy.del {K:PySem.W.Frag} {S:Hp} {as:List Addr} (q:L2.Key):∀ {vs:List (L2.Key × V)} {ts:List (L2.Key × T)},zy K S as vs ts→zy K S as (Tc vs q) (a8j q ts)
  | _,_,.nil=>.nil
  | _,_,.cons (k:=k) (vs:=vs) (ts:=ts) h r=>by
    have ih:=zy.del q r
    unfold Tc a8j at ih ⊢
    by_cases e:k=q
    · rw [List.filter_cons_of_neg (by simpa using e),List.filter_cons_of_neg (by simpa using e)]; exact ih
    · rw [List.filter_cons_of_pos (by simpa using e),List.filter_cons_of_pos (by simpa using e)]; exact .cons h ih
end
end C
end
section
namespace C
open PySem L2
section
variable {K:PySem.W.Frag} {S S':Hp} {as:List Addr}
theorem Uq {a:Addr} {xs:List V} (e:∀ p u,S p=some u→S' p=some u∨(∃ vs,u=.lst vs)∨∃ vs,u=.dK vs) (h:SqT K S a xs):SqT K S' a xs:=by
  rcases h with h | h
  · rcases h with h | ⟨o,h⟩
    · rcases e _ _ h with z | ⟨_,z⟩ | ⟨_,z⟩
      · exact .inl (.inl z)
      · cases z
      · cases z
    · rcases e _ _ h with z | ⟨_,z⟩ | ⟨_,z⟩
      · exact .inl (.inr ⟨o,z⟩)
      · cases z
      · cases z
  · exact .inr h
theorem Rep.out (e:∀ p u,S p=some u→S' p=some u∨(∃ vs,u=.lst vs)∨∃ vs,u=.dK vs) {v:V} {t:T} (h:Rep K S as v t):flat t=true→Rep K S' as v t :=
  Rep.rec (motive_1:=fun v t _=>flat t=true→Rep K S' as v t) (motive_2:=fun v t _=>flats t=true→qu K S' as v t) (motive_3:=fun v t _=>flats (t.map (·.2))=true→zy K S' as v t) (fun _=>.non) (fun b _=>.bl b) (fun i _=>.int i) (fun y _=>.str y) (fun h _ i f=>.tup (Uq e h) (i (by simpa only [flat] using f))) (fun _ _ _ f=>by simp [flat] at f) (fun _ _ _ f=>by simp [flat] at f) (fun h _=>.obj h) (fun _=>.nil) (fun _ _ a b f=>by simp only [flats,Bool.and_eq_true] at f; exact .cons (a f.1) (b f.2)) (fun _=>.nil) (fun _ _ a b f=>by simp only [List.map_cons,flats,Bool.and_eq_true] at f; exact .cons (a f.1) (b f.2)) h
theorem qu.out (e:∀ p u,S p=some u→S' p=some u∨(∃ vs,u=.lst vs)∨∃ vs,u=.dK vs) {v:List V} {t:List T} (h:qu K S as v t):flats t=true→qu K S' as v t :=
  qu.rec (motive_1:=fun v t _=>flat t=true→Rep K S' as v t) (motive_2:=fun v t _=>flats t=true→qu K S' as v t) (motive_3:=fun v t _=>flats (t.map (·.2))=true→zy K S' as v t) (fun _=>.non) (fun b _=>.bl b) (fun i _=>.int i) (fun y _=>.str y) (fun h _ i f=>.tup (Uq e h) (i (by simpa only [flat] using f))) (fun _ _ _ f=>by simp [flat] at f) (fun _ _ _ f=>by simp [flat] at f) (fun h _=>.obj h) (fun _=>.nil) (fun _ _ a b f=>by simp only [flats,Bool.and_eq_true] at f; exact .cons (a f.1) (b f.2)) (fun _=>.nil) (fun _ _ a b f=>by simp only [List.map_cons,flats,Bool.and_eq_true] at f; exact .cons (a f.1) (b f.2)) h
theorem zy.out (e:∀ p u,S p=some u→S' p=some u∨(∃ vs,u=.lst vs)∨∃ vs,u=.dK vs) {v:List (L2.Key × V)} {t:List (L2.Key × T)} (h:zy K S as v t):flats (t.map (·.2))=true→zy K S' as v t :=
  zy.rec (motive_1:=fun v t _=>flat t=true→Rep K S' as v t) (motive_2:=fun v t _=>flats t=true→qu K S' as v t) (motive_3:=fun v t _=>flats (t.map (·.2))=true→zy K S' as v t) (fun _=>.non) (fun b _=>.bl b) (fun i _=>.int i) (fun y _=>.str y) (fun h _ i f=>.tup (Uq e h) (i (by simpa only [flat] using f))) (fun _ _ _ f=>by simp [flat] at f) (fun _ _ _ f=>by simp [flat] at f) (fun h _=>.obj h) (fun _=>.nil) (fun _ _ a b f=>by simp only [flats,Bool.and_eq_true] at f; exact .cons (a f.1) (b f.2)) (fun _=>.nil) (fun _ _ a b f=>by simp only [List.map_cons,flats,Bool.and_eq_true] at f; exact .cons (a f.1) (b f.2)) h
theorem T6.out (e:∀ p u,S p=some u→S' p=some u∨(∃ vs,u=.lst vs)∨∃ vs,u=.dK vs) {v:List (List L2.Key × V)} {t:List (List L2.Key × T)} (h:T6 K S as v t):flats (t.map (·.2))=true→T6 K S' as v t:=by
  induction h with
  | nil=>intro _; exact .nil
  | cons h _ ih=>intro f; simp only [List.map_cons,flats,Bool.and_eq_true] at f; exact .cons (h.out e f.1) (ih f.2)
theorem Wd.out {H:Hp} {a:Addr} {so:SO} (e:∀ p u,S p=some u→S' p=some u∨(∃ vs,u=.lst vs)∨∃ vs,u=.dK vs) (h:Wd K S as H a so) (f:zx so=true):Wd K S' as H a so:=by
  cases so with
  | dic ts=>obtain ⟨vs,h,r⟩:=h; exact ⟨vs,h,r.out e f⟩
  | lst ts=>obtain ⟨vs,h,r⟩:=h; exact ⟨vs,h,r.out e f⟩
  | dit ts=>obtain ⟨vs,h,r⟩:=h; exact ⟨vs,h,r.out e f⟩
  | exc C g t =>
    obtain ⟨dx,v,h,q,r⟩:=h
    refine ⟨dx,v,h,?_,r.out e f⟩
    rcases e _ _ q with z | ⟨vs,z⟩ | ⟨vs,z⟩
    · exact z
    · cases z
    · cases z
  | fdc ts=>obtain ⟨vs,h,r⟩:=h; exact ⟨vs,h,r.out e f⟩
end
section
variable {X:Cx} {B:Bas} {e:Expr}
end
end C
end
section
namespace C
open PySem L2
section
variable {X:Cx} {B:Bas} {e:Expr}
open Classical in
theorem a3i (is:List Nat) {m:M T} (h:∀ B,PE X e (tOf X.K B m)):PE X e (tOf X.K B (Nq is m)):=by
  intro pins s σ H Q I z8
  obtain ⟨st,ps,S,as,R,b,st',em,q⟩:=z8
  unfold Nq at em
  split at em
  · rename_i b1 s1 e1
    split at em
    · rename_i hs0
      have hs1:=(Bool.and_eq_true _ _ ▸ hs0:_∧_).1
      have hf1:=(Bool.and_eq_true _ _ ▸ hs0:_∧_).2
      cases em
      let P:Addr→Prop:=fun p=>∃ i t,i∈is∧st.env[i]? = some (some (t,true))∧σ[i]? = some (some (.ref p))
      have own:∀ p,P p→S p=none∧p∉as∧B.H p=none∧((∃ vs,H p=some (.lst vs))∨∃ vs,H p=some (.dK vs)):=fun p z9=>by
        obtain ⟨i,t,_,ei,eσ⟩:=z9
        obtain ⟨v,h1,_,h3⟩:=R.slots i t true ei
        obtain ⟨p',rfl,o⟩:=h3 rfl
        rw [eσ] at h1; cases h1
        refine ⟨o.out,o.nas,o.new,?_⟩
        have ow:=o.own
        cases t with
        | lst ts=>obtain ⟨vs,hH,r⟩:=ow; exact .inl ⟨vs,hH⟩
        | dic ts=>obtain ⟨vs,hH,r⟩:=ow; exact .inr ⟨vs,hH⟩
        | _=>exact ow.elim
      let S1:Hp:=fun p=>if P p then H p else S p
      have s1pos:∀ p,P p→S1 p=H p:=fun p hp=>if_pos hp
      have s1neg:∀ p,¬ P p→S1 p=S p:=fun p hp=>if_neg hp
      have sub1:Same S1 H:=fun p u hu=>by
        by_cases hp:P p
        · rw [s1pos p hp] at hu; exact hu
        · rw [s1neg p hp] at hu; exact R.sub _ _ hu
      have sS:Same S S1:=fun p u hu=>by
        by_cases hp:P p
        · rw [s1pos p hp]; exact R.sub _ _ hu
        · rw [s1neg p hp]; exact hu
      have R1:Rel X.K ⟨S1,as,H⟩ ⟨lend is st.env,st.sto⟩ σ H [] S1 as:=by
        refine ⟨sub1,⟨Same.refl _,nol,fun p o a b c=>⟨a,b,c⟩⟩,fun i t f ei=>?_,fun i j t u p ei ej=>?_,⟨R.sto.len,R.sto.nd,fun n so en=>?_⟩,fun p hp=>(by cases hp),?_⟩
        · obtain ⟨rfl,g,eg,hg⟩:=Jo ei
          obtain ⟨v,h1,h2,h3⟩:=R.slots i t g eg
          refine ⟨v,h1,fun _=>?_,fun z=>by cases z⟩
          cases g with
          | false=>exact (h2 rfl).mono sS nol
          | true =>
            obtain ⟨p,rfl,o⟩:=h3 rfl
            have hp:P p:=⟨i,t,hg rfl,eg,h1⟩
            have ow:=o.own
            cases t with
            | lst ts=>obtain ⟨vs,hH,r⟩:=ow; exact .lst (SqL.of (by rw [s1pos p hp]; exact hH)) (r.mono sS nol)
            | dic ts=>obtain ⟨vs,hH,r⟩:=ow; exact .dic (.inl (by rw [s1pos p hp]; exact hH)) (r.mono sS nol)
            | _=>exact ow.elim
        · obtain ⟨z,_⟩:=Jo ei; cases z
        · obtain ⟨a,h1,h2,h3⟩:=R.sto.at' n so en
          refine ⟨a,h1,?_,h3.mono sS rfl⟩
          rw [s1neg a (fun hp=>(own a hp).2.1 (List.mem_of_getElem? h1))]; exact h2
        · show σ.length=(lend is st.env).length
          unfold lend
          rw [List.length_mapIdx]; exact R.len
      refine h ⟨S1,as,H⟩ pins s σ H Q I ⟨⟨lend is st.env,st.sto⟩,[],S1,as,R1,_,s1,e1,fun v' H' S' as' R'=>?_⟩
      let S2:Hp:=fun p=>if P p then none else S' p
      have s2pos:∀ p,P p→S2 p=none:=fun p hp=>if_pos hp
      have s2neg:∀ p,¬ P p→S2 p=S' p:=fun p hp=>if_neg hp
      have lent:∀ p,P p→S' p=H p∧H' p=H p:=fun p hp=>by
        rcases (own p hp).2.2.2 with ⟨vs,hv⟩ | ⟨vs,hv⟩
        · have a:=R'.grow.same p _ ((s1pos p hp).trans hv)
          exact ⟨a.trans hv.symm,(R'.sub _ _ a).trans hv.symm⟩
        · have a:=R'.grow.same p _ ((s1pos p hp).trans hv)
          exact ⟨a.trans hv.symm,(R'.sub _ _ a).trans hv.symm⟩
      have nas':∀ p,P p→p∉as':=fun p hp hm=>by
        obtain ⟨n,hn⟩:=List.mem_iff_getElem?.mp hm
        have ln:=(List.getElem?_eq_some_iff.mp hn).1
        rw [R'.sto.len] at ln
        obtain ⟨a,h1,h2,_⟩:=R'.sto.at' n _ (List.getElem?_eq_getElem ln)
        rw [hn] at h1; cases h1
        have:=(lent p hp).1
        rw [h2] at this
        rcases (own p hp).2.2.2 with ⟨vs,hv⟩ | ⟨vs,hv⟩ <;> (rw [hv] at this; cases this)
      have s12:Same S S2:=fun p u hu=>by
        by_cases hp:P p
        · rw [(own p hp).1] at hu; cases hu
        · rw [s2neg p hp]; exact R'.grow.same _ _ (sS _ _ hu)
      have sub2:Same S2 H':=fun p u hu=>by
        by_cases hp:P p
        · rw [s2pos p hp] at hu; cases hu
        · rw [s2neg p hp] at hu; exact R'.sub _ _ hu
      have out2:∀ p u,S' p=some u→S2 p=some u∨(∃ vs,u=.lst vs)∨∃ vs,u=.dK vs:=fun p u hu=>by
        by_cases hp:P p
        · have:=(lent p hp).1
          rw [hu] at this
          rcases (own p hp).2.2.2 with ⟨vs,hv⟩ | ⟨vs,hv⟩
          · rw [hv] at this; cases this; exact .inr (.inl ⟨_,rfl⟩)
          · rw [hv] at this; cases this; exact .inr (.inr ⟨_,rfl⟩)
        · exact .inl ((s2neg p hp).trans hu)
      have more:∃ l,as'=as++l:=R'.grow.more
      have keep:∀ p o,H p=some o→S p=none→p∉as→H' p=some o∧S2 p=none∧p∉as':=fun p o a b c=>by
        by_cases hp:P p
        · exact ⟨(lent p hp).2.trans a,s2pos p hp,nas' p hp⟩
        · obtain ⟨x,y,z⟩:=R'.grow.keep p o a ((s1neg p hp).trans b) c
          exact ⟨x,(s2neg p hp).trans y,z⟩
      refine q v' H' S2 as' (Rel.push (st:=⟨st.env,s1.sto⟩) ⟨sub2,⟨R.grow.same.trans s12,?_,fun p o a b c=>?_⟩,fun i t f ei=>?_,R.apart,⟨R'.sto.len,R'.sto.nd,fun n so en=>?_⟩,fun p hp=>(R.pend p hp).mono s12 more,R.len⟩ (R'.top.out out2 hf1))
      · obtain ⟨l,e⟩:=R.grow.more
        obtain ⟨l',e'⟩:=more
        exact ⟨l++l',by rw [e',e,List.append_assoc]⟩
      · obtain ⟨x,y,z⟩:=R.grow.keep p o a b c
        exact keep p o x y z
      · obtain ⟨v,h1,h2,h3⟩:=R.slots i t f ei
        refine ⟨v,h1,fun z=>(h2 z).mono s12 more,fun z=>?_⟩
        obtain ⟨p,rfl,o⟩:=h3 z
        obtain ⟨ob,ho⟩:=o.own.there
        obtain ⟨x,y,z⟩:=keep p ob ho o.out o.nas
        refine ⟨p,rfl,?_,y,z,o.new⟩
        have ow:=o.own
        cases t with
        | lst ts=>obtain ⟨vs,hH,r⟩:=ow; exact ⟨vs,by rw [ho] at hH; cases hH; exact x,r.mono s12 more⟩
        | dic ts=>obtain ⟨vs,hH,r⟩:=ow; exact ⟨vs,by rw [ho] at hH; cases hH; exact x,r.mono s12 more⟩
        | _=>exact ow.elim
      · obtain ⟨a,h1,h2,h3⟩:=R'.sto.at' n so en
        refine ⟨a,h1,?_,h3.out out2 (List.all_eq_true.mp hs1 so (List.mem_of_getElem? en))⟩
        by_cases hp:P a
        · exact s2pos a hp
        · exact (s2neg a hp).trans h2
    · cases em
  · cases em
open Classical in
theorem a2c (is:List Nat) {m:M T} {te:TE} (h:∀ B σ H Q,fOf X.K B m σ H Q→te σ H Q) (σ:L2.St) (H:Hp) (Q:VK):fOf X.K B (K8 is m) σ H Q→te σ H Q:=by
  intro z8
  obtain ⟨st,ps,S,as,R,b,st',em,q⟩:=z8
  unfold K8 at em
  split at em
  · rename_i b1 s1 e1
    split at em
    · rename_i hs0
      have hs1:=(Bool.and_eq_true _ _ ▸ hs0:_∧_).1
      have hf1:=(Bool.and_eq_true _ _ ▸ hs0:_∧_).2
      cases em
      let P:Addr→Prop:=fun p=>∃ i t,i∈is∧st.env[i]? = some (some (t,true))∧σ[i]? = some (some (.ref p))
      have own:∀ p,P p→S p=none∧p∉as∧B.H p=none∧((∃ vs,H p=some (.lst vs))∨∃ vs,H p=some (.dK vs)):=fun p z9=>by
        obtain ⟨i,t,_,ei,eσ⟩:=z9
        obtain ⟨v,h1,_,h3⟩:=R.slots i t true ei
        obtain ⟨p',rfl,o⟩:=h3 rfl
        rw [eσ] at h1; cases h1
        refine ⟨o.out,o.nas,o.new,?_⟩
        have ow:=o.own
        cases t with
        | lst ts=>obtain ⟨vs,hH,r⟩:=ow; exact .inl ⟨vs,hH⟩
        | dic ts=>obtain ⟨vs,hH,r⟩:=ow; exact .inr ⟨vs,hH⟩
        | _=>exact ow.elim
      let S1:Hp:=fun p=>if P p then H p else S p
      have s1pos:∀ p,P p→S1 p=H p:=fun p hp=>if_pos hp
      have s1neg:∀ p,¬ P p→S1 p=S p:=fun p hp=>if_neg hp
      have sub1:Same S1 H:=fun p u hu=>by
        by_cases hp:P p
        · rw [s1pos p hp] at hu; exact hu
        · rw [s1neg p hp] at hu; exact R.sub _ _ hu
      have sS:Same S S1:=fun p u hu=>by
        by_cases hp:P p
        · rw [s1pos p hp]; exact R.sub _ _ hu
        · rw [s1neg p hp]; exact hu
      have R1:Rel X.K ⟨S1,as,H⟩ ⟨lend is st.env,st.sto⟩ σ H [] S1 as:=by
        refine ⟨sub1,⟨Same.refl _,nol,fun p o a b c=>⟨a,b,c⟩⟩,fun i t f ei=>?_,fun i j t u p ei ej=>?_,⟨R.sto.len,R.sto.nd,fun n so en=>?_⟩,fun p hp=>(by cases hp),?_⟩
        · obtain ⟨rfl,g,eg,hg⟩:=Jo ei
          obtain ⟨v,h1,h2,h3⟩:=R.slots i t g eg
          refine ⟨v,h1,fun _=>?_,fun z=>by cases z⟩
          cases g with
          | false=>exact (h2 rfl).mono sS nol
          | true =>
            obtain ⟨p,rfl,o⟩:=h3 rfl
            have hp:P p:=⟨i,t,hg rfl,eg,h1⟩
            have ow:=o.own
            cases t with
            | lst ts=>obtain ⟨vs,hH,r⟩:=ow; exact .lst (SqL.of (by rw [s1pos p hp]; exact hH)) (r.mono sS nol)
            | dic ts=>obtain ⟨vs,hH,r⟩:=ow; exact .dic (.inl (by rw [s1pos p hp]; exact hH)) (r.mono sS nol)
            | _=>exact ow.elim
        · obtain ⟨z,_⟩:=Jo ei; cases z
        · obtain ⟨a,h1,h2,h3⟩:=R.sto.at' n so en
          refine ⟨a,h1,?_,h3.mono sS rfl⟩
          rw [s1neg a (fun hp=>(own a hp).2.1 (List.mem_of_getElem? h1))]; exact h2
        · show σ.length=(lend is st.env).length
          unfold lend
          rw [List.length_mapIdx]; exact R.len
      refine h ⟨S1,as,H⟩ σ H Q ⟨⟨lend is st.env,st.sto⟩,[],S1,as,R1,_,s1,e1,fun p0 H' S' as' R' ow' ns'=>?_⟩
      let S2:Hp:=fun p=>if P p then none else S' p
      have s2pos:∀ p,P p→S2 p=none:=fun p hp=>if_pos hp
      have s2neg:∀ p,¬ P p→S2 p=S' p:=fun p hp=>if_neg hp
      have lent:∀ p,P p→S' p=H p∧H' p=H p:=fun p hp=>by
        rcases (own p hp).2.2.2 with ⟨vs,hv⟩ | ⟨vs,hv⟩
        · have a:=R'.grow.same p _ ((s1pos p hp).trans hv)
          exact ⟨a.trans hv.symm,(R'.sub _ _ a).trans hv.symm⟩
        · have a:=R'.grow.same p _ ((s1pos p hp).trans hv)
          exact ⟨a.trans hv.symm,(R'.sub _ _ a).trans hv.symm⟩
      have nas':∀ p,P p→p∉as':=fun p hp hm=>by
        obtain ⟨n,hn⟩:=List.mem_iff_getElem?.mp hm
        have ln:=(List.getElem?_eq_some_iff.mp hn).1
        rw [R'.sto.len] at ln
        obtain ⟨a,h1,h2,_⟩:=R'.sto.at' n _ (List.getElem?_eq_getElem ln)
        rw [hn] at h1; cases h1
        have:=(lent p hp).1
        rw [h2] at this
        rcases (own p hp).2.2.2 with ⟨vs,hv⟩ | ⟨vs,hv⟩ <;> (rw [hv] at this; cases this)
      have s12:Same S S2:=fun p u hu=>by
        by_cases hp:P p
        · rw [(own p hp).1] at hu; cases hu
        · rw [s2neg p hp]; exact R'.grow.same _ _ (sS _ _ hu)
      have sub2:Same S2 H':=fun p u hu=>by
        by_cases hp:P p
        · rw [s2pos p hp] at hu; cases hu
        · rw [s2neg p hp] at hu; exact R'.sub _ _ hu
      have out2:∀ p u,S' p=some u→S2 p=some u∨(∃ vs,u=.lst vs)∨∃ vs,u=.dK vs:=fun p u hu=>by
        by_cases hp:P p
        · have:=(lent p hp).1
          rw [hu] at this
          rcases (own p hp).2.2.2 with ⟨vs,hv⟩ | ⟨vs,hv⟩
          · rw [hv] at this; cases this; exact .inr (.inl ⟨_,rfl⟩)
          · rw [hv] at this; cases this; exact .inr (.inr ⟨_,rfl⟩)
        · exact .inl ((s2neg p hp).trans hu)
      have more:∃ l,as'=as++l:=R'.grow.more
      have keep:∀ p o,H p=some o→S p=none→p∉as→H' p=some o∧S2 p=none∧p∉as':=fun p o a b c=>by
        by_cases hp:P p
        · exact ⟨(lent p hp).2.trans a,s2pos p hp,nas' p hp⟩
        · obtain ⟨x,y,z⟩:=R'.grow.keep p o a ((s1neg p hp).trans b) c
          exact ⟨x,(s2neg p hp).trans y,z⟩
      refine q p0 H' S2 as' ⟨sub2,⟨R.grow.same.trans s12,?_,fun p o a b c=>?_⟩,fun i t f ei=>?_,R.apart,⟨R'.sto.len,R'.sto.nd,fun n so en=>?_⟩,fun p hp=>(R.pend p hp).mono s12 more,R.len⟩ ?_ ?_
      · obtain ⟨l,e⟩:=R.grow.more
        obtain ⟨l',e'⟩:=more
        exact ⟨l++l',by rw [e',e,List.append_assoc]⟩
      · obtain ⟨x,y,z⟩:=R.grow.keep p o a b c
        exact keep p o x y z
      · obtain ⟨v,h1,h2,h3⟩:=R.slots i t f ei
        refine ⟨v,h1,fun z=>(h2 z).mono s12 more,fun z=>?_⟩
        obtain ⟨p,rfl,o⟩:=h3 z
        obtain ⟨ob,ho⟩:=o.own.there
        obtain ⟨x,y,z⟩:=keep p ob ho o.out o.nas
        refine ⟨p,rfl,?_,y,z,o.new⟩
        have ow:=o.own
        cases t with
        | lst ts=>obtain ⟨vs,hH,r⟩:=ow; exact ⟨vs,by rw [ho] at hH; cases hH; exact x,r.mono s12 more⟩
        | dic ts=>obtain ⟨vs,hH,r⟩:=ow; exact ⟨vs,by rw [ho] at hH; cases hH; exact x,r.mono s12 more⟩
        | _=>exact ow.elim
      · obtain ⟨a,h1,h2,h3⟩:=R'.sto.at' n so en
        refine ⟨a,h1,?_,h3.out out2 (List.all_eq_true.mp hs1 so (List.mem_of_getElem? en))⟩
        by_cases hp:P a
        · exact s2pos a hp
        · exact (s2neg a hp).trans h2
      · obtain ⟨vs,hH,r⟩:=ow'.own
        have np:¬ P p0:=fun hp=>by
          have a:=ow'.out
          have b:=(lent p0 hp).1
          rw [a] at b
          rcases (own p0 hp).2.2.2 with ⟨vs,hv⟩ | ⟨vs,hv⟩ <;> (rw [hv] at b; cases b)
        exact ⟨⟨vs,hH,r.out out2 hf1⟩,(s2neg p0 np).trans ow'.out,ow'.nas,(R.fresh ow'.new).1⟩
      · exact (R.fresh ow'.new).2.2.2
    · cases em
  · cases em
def iAn (K:PySem.W.Frag) (it:M (List T)):TI:=fun σ H R=>∃ B,iOf K B it σ H R
theorem aci {tg l:Expr} {it:M (List T)} (h:∀ B,PI X tg l (iOf X.K B it)):PI X tg l (iAn X.K it):=fun pins s σ H R I ⟨B,q⟩=>h B pins s σ H R I q
theorem a81 {scope:Scope} {N:List Str} {nv:Nat} {cap:List Nat} {g:G} {it:M (List T)} {c:M Bool} {el:M T} (co:Yi X scope N nv cap) (hsz:∀ st ts st',it st=some (ts,st')→ts.length≤sizeLine) {σ:L2.St} {H:Hp} {Q:VK} (h:fOf X.K B (ou nv cap g it c el) σ H Q) :
    a2n X scope N (iAn X.K it) (gE X.K g) (cE X.K c) (eE X.K el) σ H Q:=⟨B,Zt co hsz h⟩
end
end C
end
section
namespace C
open PySem PySem.Spec PyProof.Rows L2
theorem W5 {i:Nat} {s:Sta} (h:a6d i s=true):∃ kvs,s.env[i]? = some (some (.dic kvs,true)):=by
  unfold a6d at h
  split at h
  · rename_i kvs e; exact ⟨kvs,e⟩
  · cases h
theorem Mj {i:Nat} {k v:M T} {s s':Sta} {fl:Flow} (h:Bk i k v s=some (fl,s')):a6d i s=true∧∃ kt s1 kvs q,k s=some (kt,s1)∧s1.env[i]? = some (some (.dic kvs,true))∧keyOf kt=some q∧kvs.length<lim ∧
    ((∃ m,Hz q kvs=some (.obj m)∧Gv s1.sto[m]? = true∧Mi m v s1=some (fl,s'))∨(Hz q kvs=none∧Mi s1.sto.length v (iu i (.dic (a0d q (.obj s1.sto.length) kvs)) true { s1 with sto:=s1.sto++[SO.lst []] })=some (fl,s'))):=by
  unfold Bk at h
  obtain ⟨c1,h⟩:=vp h
  refine ⟨c1,?_⟩
  split at h
  · rename_i kt s2 e2
    split at h
    · rename_i kvs e3
      split at h
      · rename_i q e4
        obtain ⟨hl,h⟩:=vp h
        refine ⟨kt,s2,kvs,q,e2,e3,e4,hl,?_⟩
        split at h
        · rename_i m e5
          obtain ⟨c2,h⟩:=vp h
          exact .inl ⟨m,e5,c2,h⟩
        · cases h
        · rename_i e5
          exact .inr ⟨e5,h⟩
      · cases h
    · cases h
  · cases h
theorem V3 {i:Nat} {k:M T} {s s':Sta} {fl:Flow} (h:Ga i k s=some (fl,s')):a6d i s=true∧∃ kt s1 kvs q,k s=some (kt,s1)∧s1.env[i]? = some (some (.dic kvs,true))∧keyOf kt=some q∧(Hz q kvs).isSome=true∧fl=.next∧s'=iu i (.dic (a8j q kvs)) true s1:=by
  unfold Ga at h
  obtain ⟨c1,h⟩:=vp h
  refine ⟨c1,?_⟩
  split at h
  · rename_i kt s2 e2
    split at h
    · rename_i kvs e3
      split at h
      · rename_i q e4
        obtain ⟨hl,h⟩:=vp h
        cases h
        exact ⟨kt,s2,kvs,q,e2,e3,e4,hl,rfl,rfl⟩
      · cases h
    · cases h
  · cases h
theorem Z0 {m:M T} {s s':Sta} {fl:Flow} (h:Uc m s=some (fl,s')):∃ n s1 x xs,m s=some (.obj n,s1)∧s1.sto[n]? = some (.lst (x::xs))∧fl=.next∧s' = { s1 with sto:=s1.sto.set n (.lst xs) }:=by
  unfold Uc at h
  split at h
  · rename_i m s1 e1
    split at h
    · rename_i x xs e2
      cases h
      exact ⟨m,s1,x,xs,e1,e2,rfl,rfl⟩
    · cases h
  · cases h
theorem Pz {i:Nat} {s s':Sta} {t:T} (h:Dk i s=some (t,s')):∃ kvs f,s.env[i]? = some (some (.dic kvs,f))∧kvs.length<lim∧t=.lst (kvs.map fun p=>Iw p.1)∧s'=s:=by
  unfold Dk at h
  split at h
  · rename_i kvs f e1
    obtain ⟨hl,h⟩:=vp h
    cases h; exact ⟨kvs,f,e1,hl,rfl,rfl⟩
  · cases h
section
variable {X:Cx} {B:Bas} {a b c e o k d:Expr} {m mo mk md mv:M T} {pos p:Pos}
theorem W8 {K:PySem.W.Frag} {st:Sta} {σ:L2.St} {H S:Hp} {ps:List (V × T)} {as:List Addr} {i:Nat} {kvs:List (L2.Key × T)} (R:Rel K B st σ H ps S as) (e:st.env[i]? = some (some (.dic kvs,true))):∃ p vs,σ[i]? = some (some (.ref p))∧H p=some (.dK vs)∧zy K S as vs kvs:=by
  obtain ⟨v,h1,_,h3⟩:=R.slots i _ true e
  obtain ⟨p,rfl,o⟩:=h3 rfl
  obtain ⟨vs,h,q⟩:=o.own
  exact ⟨p,vs,h1,h,q⟩
theorem Qe (i:Nat) {st:Stmt} (h:PS X st (Rc (tBM X.K "list" Io (tBM X.K "dict" Zh (Mq i) (Ii (tOf X.K B mk) (Ii (aco Xm) Xm))) (Ii (tOf X.K B mv) Xm)))):PS X st (sOf X.K B (Bk i mk mv)):=h.imp fun D σ H z9=>by
  obtain ⟨st,ps,S,as,R,fl,st',e,q⟩:=z9
  obtain ⟨c1,kt,s2,kvs,qk,e2,e3,e4,hl,h⟩:=Mj e
  obtain ⟨k0,ek⟩:=W5 c1
  obtain ⟨a,vs0,eσ,l0,_⟩:=W8 R ek
  refine ⟨_,eσ,.inr (.inr (.inl ⟨rfl,.inl ⟨_,l0⟩⟩)),st,ps,S,as,R,kt,s2,e2,fun u H2 S2 as2 R2=>⟨Nat.zero_le _,fun p hp=>?_⟩⟩
  have ey:=Xe R2.top e4
  subst ey
  obtain ⟨a',vs,eσ',l1,l2⟩:=W8 R2 e3
  rw [eσ] at eσ'; cases eσ'
  have ne:a≠p:=fun z=>by subst z; rw [l1] at hp; cases hp
  rcases h with ⟨m,g1,c2,h⟩ | ⟨g1,h⟩
  · rcases l2.get qk with ⟨z,t',a1,a2,a3⟩ | ⟨_,a2⟩
    · rw [g1] at a2; cases a2
      have x:=Ext.laid R2.sub hp (.lst [])
      have R3:=(R2.ext x).drop
      cases a3 with
      | @obj _ b hb =>
        refine ⟨a,vs,qk,.ref p,rfl,rfl,by rw [dj ne]; exact l1,by rw [l2.length]; exact Nat.lt_of_lt_of_le hl qp,fun v hv=>?_,fun hv=>?_⟩
        · rw [a1] at hv; cases hv
          exact a6k R3 hb c2 h fun z H' S' as' R'=>by subst z; exact q _ _ _ _ R'
        · rw [a1] at hv; cases hv
    · rw [g1] at a2; cases a2
  · rcases l2.get qk with ⟨z,t',a1,a2,a3⟩ | ⟨a1,a2⟩
    · rw [g1] at a2; cases a2
    · have R3:=R2.drop.newObj (ob:=.lst []) (so:=.lst []) hp ⟨[],d7,.nil⟩
      have lp:(as2++[p])[s2.sto.length]? = some p:=by rw [← R2.sto.len]; simp
      have R4:=R3.turn (i:=i) (t:=.dic kvs) (t':=.dic (a0d qk (.obj s2.sto.length) kvs)) (p:=a) (ob:=.dK (putK vs qk (.ref p))) e3 eσ ⟨_,d7,zy.put (.obj lp) (l2.mono (Same.refl _) ⟨[p],rfl⟩)⟩
      refine ⟨a,vs,qk,.ref p,rfl,rfl,by rw [dj ne]; exact l1,by rw [l2.length]; exact Nat.lt_of_lt_of_le hl qp,fun v hv=>?_,fun hv=>?_⟩
      · rw [a1] at hv; cases hv
      · refine a6k R4.drop lp ?_ h fun z H' S' as' R'=>by subst z; exact q _ _ _ _ R'
        show Gv ((s2.sto++[SO.lst []])[s2.sto.length]?)=true
        simp [Gv]
theorem a2g (i:Nat) {st:Stmt} (h:PS X st (Rc (a6c (Mq i) (tOf X.K B mk)))):PS X st (sOf X.K B (Ga i mk)):=h.imp fun D σ H z9=>by
  obtain ⟨st,ps,S,as,R,fl,st',e,q⟩:=z9
  obtain ⟨c1,kt,s2,kvs,qk,e2,e3,e4,hl,rfl,rfl⟩:=V3 e
  obtain ⟨k0,ek⟩:=W5 c1
  obtain ⟨a,vs0,eσ,l0,_⟩:=W8 R ek
  refine ⟨_,eσ,a,rfl,.inl ⟨_,.inl l0⟩,st,ps,S,as,R,kt,s2,e2,fun u H2 S2 as2 R2=>?_⟩
  have ey:=Xe R2.top e4
  subst ey
  obtain ⟨a',vs,eσ',l1,l2⟩:=W8 R2 e3
  rw [eσ] at eσ'; cases eσ'
  rcases l2.get qk with ⟨z,t',a1,a2,a3⟩ | ⟨_,a2⟩
  · exact ⟨vs,qk,z,l1,rfl,a1,q _ _ S2 as2 (R2.drop.turn e3 eσ ⟨_,d7,l2.del qk⟩)⟩
  · rw [a2] at hl; cases hl
theorem a7q {st:Stmt} (h:PS X st (Rc (tBM X.K "list" a1a (tOf X.K B m) (Ii (tOf X.K B (aq (.int 0))) Xm)))):PS X st (sOf X.K B (Uc m)):=h.imp fun D σ H z9=>by
  obtain ⟨st,ps,S,as,R,fl,st',e,q⟩:=z9
  obtain ⟨m,s1,x,xs,e1,e2,rfl,rfl⟩:=Z0 e
  refine ⟨st,ps,S,as,R,_,s1,e1,fun v H1 S1 as1 R1=>?_⟩
  have t1:=R1.top
  cases t1 with
  | @obj _ a ha =>
    obtain ⟨a0,l0,_,vs0,l1,_⟩:=R1.sto.at' m _ e2
    rw [ha] at l0; cases l0
    refine ⟨.inl ⟨rfl,_,SqL.of l1⟩,s1,_,S1,as1,R1,_,s1,rfl,fun v H2 S2 as2 R2=>?_⟩
    cases R2.top
    have t2:=R2.top2
    cases t2 with
    | @obj _ _ ha2 =>
      obtain ⟨a0,l0,_,vs,l1,l2⟩:=R2.sto.at' m _ e2
      rw [ha2] at l0; cases l0
      cases l2 with
      | @cons y _ ys _ hy hys =>
        exact ⟨a,y::ys,0,0,y,rfl,rfl,l1,by decide,by decide,by simp [seqIndex?],rfl,q _ _ S2 as2 (R2.drop.drop.Vm e2 ha2 ⟨_,d7,by simpa using hys⟩)⟩
theorem Xw (i:Nat) (hc:X.calm=true) (hg:Gl X "list") (hm:X.mg "list" = none) (ho:PE X o (Mq i)) (he:starEach [o] X.env=(false,eval o X.env)::starEach [] X.env:=by rfl) (hpl:(backTo pos (starEach [] X.env)).any (·.1)=false:=by rfl) :
    PE X (.Call (.Name "list" p) [o] [] pos) (tOf X.K B (Dk i)):=by
  intro pins s σ H Q I z8
  obtain ⟨st,ps,S,as,R,t,st',e,q⟩:=z8
  obtain ⟨kvs,f,e1,hl,rfl,rfl⟩:=Pz e
  obtain ⟨p0,ws,s0,h1,h2⟩:=R.dictAt e1
  have pa:=jr ho qz he
  refine Call_ (Ng I hg hm PyProof.Rows.boot_list (PyProof.Rows.callWith_type1 (thn (pa pos pins s σ H (fun vs H2=>vs=[.ref p0]∧H2=H) I ⟨_,s0,rfl,rfl⟩) fun us s2 z0=>?_) he hpl))
  obtain ⟨vs,H1,I1,r1,q1⟩:=z0
  obtain ⟨rfl,rfl⟩:=q1
  refine M8 hc pins s2 σ H1 _ us Q I1 r1 ⟨p0,ws,rfl,h1,fun p hp=>?_⟩
  have x:=Ext.laid R.sub hp (.lst (ws.map fun p=>kV p.1))
  exact q _ _ _ as ((R.ext x).push (.lst (SqL.of d7) ((Qt h2).mono x.s nol)))
theorem Wy:∀ (r:List Int) (x:Int),(r.foldl (fun a b=>if b<a then b else a) x=x∨r.foldl (fun a b=>if b<a then b else a) x∈r)∧r.foldl (fun a b=>if b<a then b else a) x≤x∧∀ a∈r,r.foldl (fun a b=>if b<a then b else a) x≤a
  | [],x=>⟨.inl rfl,Int.le_refl _,fun _ h=>by cases h⟩
  | y::r,x=>by
    rw [List.foldl_cons]
    obtain ⟨h1,h2,h3⟩:=Wy r (if y<x then y else x)
    have hx:(if y<x then y else x)≤x:=by split <;> omega
    have hy:(if y<x then y else x)≤y:=by split <;> omega
    refine ⟨?_,Int.le_trans h2 hx,fun a ha=>?_⟩
    · rcases h1 with h1 | h1
      · by_cases z:y<x
        · rw [if_pos z] at h1 ⊢; exact .inr (by rw [h1]; exact List.mem_cons_self)
        · rw [if_neg z] at h1 ⊢; exact .inl h1
      · exact .inr (List.mem_cons_of_mem _ h1)
    · rcases List.mem_cons.mp ha with rfl | ha -- here
      · exact Int.le_trans h2 hy
      · exact h3 a ha
theorem Qk {l:List Int} {m:Int} (h:aax l=some m):m∈l∧∀ a∈l,m≤a:=by
  cases l with
  | nil=>cases h
  | cons x r =>
    cases h
    obtain ⟨h1,h2,h3⟩:=Wy r x
    refine ⟨?_,fun a ha=>?_⟩
    · rcases h1 with h1 | h1
      · rw [h1]; exact List.mem_cons_self
      · exact List.mem_cons_of_mem _ h1
    · rcases List.mem_cons.mp ha with rfl | ha -- here
      · exact h2
      · exact h3 a ha
theorem Mu:∀ {l:List Int} {us:List Value},Vals (l.map V.int) us→∃ ps:List (Int × Tok),us=ps.map (fun p=>.int p.1 p.2)∧ps.map (·.1)=l
  | [],_,.nil=>⟨[],rfl,rfl⟩
  | i::l,_,.cons (b:=u) r rs=>by
    obtain ⟨ps,h1,h2⟩:=Mu rs
    obtain ⟨t,rfl⟩:=r
    exact ⟨(i,t)::ps,by rw [h1]; rfl,by rw [← h2]; rfl⟩
theorem a0q (hc:X.calm=true):V9 X (.builtin "min") V0:=by
  intro pins s σ H xs us Q I rs z8
  obtain ⟨S,as,ts,w,sub,hr,hf,q⟩:=z8
  cases hr with
  | nil=>exact jt hf
  | @cons x t xs' ts' h1 h2 =>
    cases h2 with
    | cons h3 h4=>cases h1 <;> exact jt hf
    | nil =>
      cases h1 with
      | @lst a vs ts g1 g2 =>
        obtain ⟨l,e1,e2⟩:=Option.bind_eq_some_iff.mp hf
        obtain ⟨M,e3,e4⟩:=Option.map_eq_some_iff.mp e2
        subst e4
        have ev:=Rv g2 e1
        subst ev
        obtain ⟨u,rfl,ru⟩:=rs.one
        cases ru
        obtain ⟨its,r,p,hz⟩:=I.list (j5 sub g1)
        obtain ⟨ps,rfl,hl⟩:=Mu r
        obtain ⟨m1,m2⟩:=Qk e3
        have hne:0<ps.toArray.size:=by
          rw [List.size_toArray]
          have:l.length=ps.length:=by rw [← hl,List.length_map]
          have:=List.length_pos_of_mem m1
          omega
        have isl:s.heap.IsList a (intItems ps.toArray):=by
          have:=p.isList
          unfold intItems
          simpa using this
        refine min_intList (I.ok.hd hc) isl hne fun v h' tk hv hk=>?_
        obtain ⟨t,rfl⟩:=intItems_at hv -- here
        obtain ⟨b1,b2⟩:=argBest_lt (numAt ps.toArray) (ps.toArray.size - 1)
        have eM:numAt ps.toArray (argBest (fun i j=>decide (numAt ps.toArray i<numAt ps.toArray j)) (ps.toArray.size - 1))=M:=by
          apply Int.le_antisymm
          · rw [← hl] at m1
            obtain ⟨j,hj,ej⟩:=mem_getD m1
            rw [List.length_map] at hj
            rw [← ej]
            have:=b2 j (by rw [List.size_toArray]; omega)
            rw [numAt_eq (j:=j)] at this
            exact this
          · apply m2
            rw [numAt_eq,← hl]
            exact PySem.getD_mem (by rw [List.length_map]; rw [List.size_toArray] at b1 hne; simp only [List.size_toArray]; omega)
        rw [eM]
        exact ⟨.int M,H,I.kept (h':=h') (t':=tk) hk,⟨_,rfl⟩,q _ H S (Ext.refl sub) (.int _)⟩
      | _=>exact jt hf
theorem Uv {i j:Nat} {k:M T} {s s':Sta} {fl:Flow} (h:Gb i j k s=some (fl,s')):Cw i s=true∧Cw j s=true∧∃ a s1 ys t xs,k s=some (.int a,s1)∧s1.env[j]? = some (some (.lst ys,true))∧i≠j∧0≤a∧a<1000000∧ys[a.toNat]? = some t∧s1.env[i]? = some (some (.lst xs,true))∧xs.length<lim∧fl=.next∧s'=iu i (.lst (xs++[t])) true (iu j (.lst (ys.eraseIdx a.toNat)) true s1):=by
  unfold Gb at h
  obtain ⟨⟨c1,c2⟩,h⟩:=vp h
  refine ⟨c1,c2,?_⟩
  split at h
  · rename_i a s1 e1
    split at h
    · rename_i ys e2
      obtain ⟨⟨c3,c4,c5⟩,h⟩:=vp h
      split at h
      · rename_i t e3
        split at h
        · rename_i xs e4
          obtain ⟨hl,h⟩:=vp h
          cases h
          exact ⟨a,s1,ys,t,xs,e1,e2,c3,c4,c5,e3,e4,hl,rfl,rfl⟩
        · cases h
      · cases h
    · cases h
  · cases h
theorem qu.erase {K:PySem.W.Frag} {S:Hp} {as:List Addr}:∀ {vs:List V} {ts:List T} (n:Nat),qu K S as vs ts→qu K S as (vs.eraseIdx n) (ts.eraseIdx n)
  | _,_,_,.nil=>.nil
  | _,_,0,.cons _ r=>r
  | _,_,n+1,.cons h r=>.cons h (qu.erase n r)
theorem a0f (i j:Nat) {st:Stmt} (h:PS X st (Rc (tBM X.K "list" Io (Mq i) (Ii (tBM X.K "list" a1a (Mq j) (Ii (tOf X.K B mk) Xm)) Xm)))):PS X st (sOf X.K B (Gb i j mk)):=h.imp fun D σ H z9=>by
  obtain ⟨st,ps,S,as,R,fl,st',e,q⟩:=z9
  obtain ⟨c1,c2,a,s1,ys,t,xs,e1,e2,c3,c4,c5,e3,e4,hl,rfl,rfl⟩:=Uv e
  obtain ⟨xs0,f0,ei⟩:=Bq c1
  obtain ⟨ys0,g0,ej⟩:=Bq c2
  obtain ⟨p0,vs0,s0,q0,_⟩:=R.listAt ei
  obtain ⟨p1,vs1,t0,q1,_⟩:=R.listAt ej
  refine ⟨_,s0,.inl ⟨rfl,_,q0⟩,_,t0,.inl ⟨rfl,_,q1⟩,st,ps,S,as,R,_,s1,e1,fun v H1 S1 as1 R1=>?_⟩
  cases R1.top
  obtain ⟨w,h1,_,h3⟩:=R1.slots i _ true e4
  rw [s0] at h1; cases h1
  obtain ⟨p',ep,ow⟩:=h3 rfl
  cases ep
  obtain ⟨vs,hH,h4⟩:=ow.own
  obtain ⟨w,h1,_,h3⟩:=R1.slots j _ true e2
  rw [t0] at h1; cases h1
  obtain ⟨p',ep,ow2⟩:=h3 rfl
  cases ep
  obtain ⟨us,hH2,h42⟩:=ow2.own
  have ne:p0≠p1:=fun z=>by subst z; exact c3 (R1.apart i j _ _ _ e4 e2 s0 t0)
  obtain ⟨y,hy,ry⟩:=h42.get e3
  have lt:a.toNat<us.length:=(List.getElem?_eq_some_iff.mp hy).1
  have R2:=R1.drop.turn (i:=j) (t':=.lst (ys.eraseIdx a.toNat)) (ob:=.lst (us.eraseIdx a.toNat)) e2 t0 ⟨_,d7,qu.erase _ h42⟩
  have e4':(iu j (.lst (ys.eraseIdx a.toNat)) true s1).env[i]? = some (some (.lst xs,true)):=by
    show (s1.env.set j _)[i]? = _
    rw [List.getElem?_set_ne (fun z=>c3 z.symm)]; exact e4
  refine ⟨p1,us,a,a.toNat,y,rfl,rfl,hH2,by omega,by omega,?_,hy,p0,vs,y,rfl,rfl,by rw [dj ne]; exact hH,by rw [h4.length]; exact Nat.lt_of_lt_of_le hl qp,q _ _ S1 as1 (R2.turn (i:=i) (ob:=.lst (vs++[y])) e4' s0 ⟨_,d7,h4.append (.cons ry .nil)⟩)⟩
  unfold seqIndex?
  first
  | (rw [if_neg (by omega)]; simp; omega)
  | (simp; omega)
end
end C
end
section
namespace C
open PySem PySem.Spec PyProof.Rows L2
theorem Yc {i:Nat} {m:M T} {s s':Sta} {t:T} (h:Lk i m s=some (t,s')):Cw i s=true∧∃ u xs,m s=some (u,s')∧s'.env[i]? = some (some (.lst xs,true))∧neO (.lst xs) u=some t:=by
  unfold Lk at h
  split at h
  · rename_i hl
    split at h
    · rename_i u s1 e1
      split at h
      · rename_i xs e2
        split at h
        · rename_i w e3; cases h; exact ⟨hl,u,xs,e1,e2,e3⟩
        · cases h
      · cases h
    · cases h
  · cases h
theorem aaf {t u w:T} (h:neO t u=some w):∃ b,w=.bl b:=by
  unfold neO at h
  split at h
  · cases h; exact ⟨_,rfl⟩
  · cases h
theorem Ik.rep {K:PySem.W.Frag} {B:Bas} {S H:Hp} {as:List Addr} {p:Addr} {xs:List T} (o:Ik K B S as H p (.lst xs)) (sub:Same S H):∃ S2,Same S S2∧Same S2 H∧Rep K S2 as (.ref p) (.lst xs):=by
  obtain ⟨vs,hH,r⟩:=o.own
  have s1:Same S (upd S p (.lst vs)):=Same.upd o.out _
  refine ⟨upd S p (.lst vs),s1,fun b u e=>?_,.lst (SqL.of d7) (r.mono s1 nol)⟩
  by_cases h:b=p
  · subst h; rw [d7] at e; cases e; exact hH
  · rw [dj h] at e; exact sub _ _ e
section
variable {X:Cx} {B:Bas} {a b c e:Expr} {m:M T} {pos p:Pos} {u v:S}
theorem a3j (i:Nat) (ho:OpT X (compareOp .NotEq) neO) (hi:PE X a (Mq i)) (hb:PE X b (tOf X.K B m)) (hm:behindInMarks .NotEq b=false):PT X (.Compare a [.NotEq] [b] pos) (cOf X.K B (gb (Lk i m))) :=
  Iv ((a07 ho hi hb hm).imp fun σ H Q z9=>by
    obtain ⟨st,ps,S,as,R,t,st',e,q⟩:=z9
    obtain ⟨hl,u,xs,e1,e2,e3⟩:=Yc e
    obtain ⟨xs0,f0,e0⟩:=Bq hl
    obtain ⟨p0,v0,s0,_,_⟩:=R.listAt e0
    refine ⟨_,s0,st,ps,S,as,R,u,st',e1,fun y H2 S2 as2 R2=>?_⟩
    obtain ⟨w,h1,_,h3⟩:=R2.slots i _ true e2
    rw [s0] at h1; cases h1
    obtain ⟨p',ep,ow⟩:=h3 rfl
    cases ep
    obtain ⟨S3,z1,z2,z3⟩:=ow.rep R2.sub
    obtain ⟨b,rfl⟩:=aaf e3
    refine ⟨S3,as2,_,u,.bl b,z2,z3,R2.top.mono z1 nol,e3,fun v H' S' x r=>?_⟩
    cases r
    have x2:Ext S2 H2 S2 H':=⟨Same.refl _,x.h,R2.sub.trans x.h,fun _ q=>.inl q⟩
    exact q _ _ _ _ ((R2.ext x2).drop.push (.bl b)))
end
end C
end
section
namespace C
open PySem PySem.Spec
section
variable {prog:Program} {w:World} {A:Around} {E:Value→Shared→Prop} {s:Shared} {it l:Addr} {xs:Array Value}
end
end C
end
section
namespace C
open PySem PySem.Spec PyProof.Rows L2
section
variable {X:Cx} {B:Bas} {a b e e1 e2:Expr} {m m1 m2:M T} {pos p1 p2 p3 p4:Pos} {lo hi:Option Expr} {ml mh:M (Option Int)}
theorem Y0 {i:Nat} {s s':Sta} {t:T} (h:Ja i ml mh s=some (t,s')):Cw i s=true∧∃ l s1 u xs f,ml s=some (l,s1)∧mh s1=some (u,s')∧s'.env[i]? = some (some (.lst xs,f))∧t=.lst (a2v xs l u):=by
  unfold Ja at h
  split at h
  · rename_i hd
    refine ⟨hd,?_⟩
    split at h
    · rename_i l s1 e1
      split at h
      · rename_i u s2 e2
        split at h
        · rename_i xs f e3
          cases h
          exact ⟨l,s1,u,xs,f,e1,e2,e3,rfl⟩
        · cases h
      · cases h
    · cases h
  · cases h
theorem a3f (i:Nat) (ha:PE X a (Mq i)) (hl:PO X lo (oOf X.K B ml)) (hh:PO X hi (oOf X.K B mh)):PE X (.Subscript a (.Slice lo hi none p2) pos) (tOf X.K B (Ja i ml mh)) :=
  (Wh (Zg.or a5w) ha hl hh).imp fun σ H Q z9=>by
    obtain ⟨st,ps,S,as,R,t,st',ev,q⟩:=z9
    obtain ⟨hd,l,s1,u,xs,f,e1,e2,e3,rfl⟩:=Y0 ev
    obtain ⟨xs0,f0,e0⟩:=Bq hd
    obtain ⟨p0,vs0,s0,_⟩:=R.listAt e0
    refine ⟨_,s0,st,_,S,as,R,l,s1,e1,fun H2 S2 as2 R2=>⟨s1,_,S2,as2,R2,u,st',e2,fun H3 S3 as3 R3=>?_⟩⟩
    obtain ⟨q1,vs1,s1',rd1,h4⟩:=R3.listAt e3
    rw [s0] at s1'; cases s1'
    refine .inl ⟨p0,vs1,rfl,rd1,fun p hp=>?_⟩
    have x:=Ext.laid R3.sub hp (.lst (Zn vs1 l u))
    exact q _ _ _ _ ((R3.ext x).push (.lst (SqL.of d7) ((Od h4 l u).mono x.s nol)))
end
end C
end
section
namespace C
open PySem PySem.Spec PyProof.Rows L2
def Itm (K:PySem.W.Frag) (a:Addr):It :=
  ⟨fun i H=>∃ xs x,SqL K H a xs∧xs[i]? = some x,fun i H v H'=>∃ p x,H p=none∧v=.ref p∧H'=upd H p (.tup [.int (i:Int),x])∧∀ xs,SqL K H a xs→xs[i]? = some x,fun i H=>∃ xs,SqL K H a xs∧xs.length≤i⟩
theorem a1g {P:Program} {w:World} {K:PySem.W.Frag} {elts:List Expr} {x1:Nat} {pos:Pos} {a e it:Addr} (hne:e≠it) :
    Turn P w K (.Tuple elts x1 pos) (Itm K a) [e,it] e (fun i h=>(∃ old,IsEnum h e it (i:Int) old)∧h.IsListIter it a i) where
  mem:=by simp
  obj:=fun i h ⟨⟨old,he⟩,t⟩ b hb=>by
    simp only [List.mem_cons,List.not_mem_nil,or_false] at hb -- here
    rcases hb with rfl | rfl
    · exact ⟨_,he,fun v q=>by cases q⟩
    · obtain ⟨o,e,c,d⟩:=t
      exact ⟨o,e,fun v z=>by rw [d] at z; cases z⟩
  keep:=fun i h h' ⟨⟨old,he⟩,t⟩ k=>⟨⟨old,k e (by simp) _ he⟩,t.at fun o q=>k it (by simp) o q⟩
  item:=by
    intro X hP hw hK hc i pins s σ H E I hf ⟨⟨old,he⟩,t⟩ ⟨xs,x,q1,e1⟩
    subst hP hw hK
    obtain ⟨its,rv,p,hz⟩:=I.list q1
    obtain ⟨u,g1,ru⟩:=rv.get e1
    refine wpAny_pyNext_enum_item he t p.isList (x:=u) (by simpa using g1) hne fun h' heo t' hp hsz kp=>?_
    refine ⟨_,rfl,wpAny_letOwnedTupleGo_enum (s:={ s with heap:=h',toks:=s.toks+1 }) heo fun h2 he2 s2=>?_⟩
    have lt:∀ b∈[e,it],s.heap.objs.size≠b:=fun b hb=>by
      simp only [List.mem_cons,List.not_mem_nil,or_false] at hb -- here
      rcases hb with rfl | rfl
      · exact Nat.ne_of_gt (Heap.lt_size he)
      · obtain ⟨o,e,_⟩:=t
        exact Nat.ne_of_gt (Heap.lt_size e)
    have pair:h2.get? s.heap.objs.size=some { cls:=.type "tuple",data:=.seq #[.int i s.toks,u] }:=s2.extBut _ _ (lt e (by simp)) hp
    have J:L2.Inv X pins σ (upd H s.heap.objs.size (.tup [.int (i:Int),x])) { s with heap:=h2,toks:=s.toks+1 }:=Inv.a7f (ch:=[e,it]) I hf (fun b o hb eb=>by
      simp only [List.mem_cons,List.not_mem_nil,or_false,not_or] at hb
      exact s2.extBut _ _ hb.1 (kp b o hb.1 hb.2 eb)) (Nat.le_refl _) ⟨by show 2≤sizeLine; rw [sizeLine_eq]; decide,[.int i s.toks,u],.cons ⟨_,rfl⟩ (.cons ru .nil),⟨_,pair,rfl,rfl,0,rfl⟩⟩
    refine ⟨.ref s.heap.objs.size,_,J,rfl,⟨s.heap.objs.size,x,I.hok.fresh (Nat.le_refl _),rfl,rfl,fun xs' h=>by rw [I.X8 h q1]; exact e1⟩,⟨⟨u,?_⟩,?_⟩,fun b hb=>?_⟩
    · have:((i+1:Nat):Int)=(i:Int)+1:=by omega
      rw [this]; exact he2
    · exact t'.at fun o q=>s2.extBut _ _ (Ne.symm hne) q
    · rw [dj (Ne.symm (lt b hb))]; exact (hf b hb).1
  done:=by
    intro X hP hw hK hc i pins s σ H E I hf ⟨⟨old,he⟩,t⟩ ⟨xs,q1,hx⟩
    subst hP hw hK
    obtain ⟨its,rv,p,hz⟩:=I.list q1
    have hl:=rv.length
    refine wpAny_pyNext_enum_end (I.ok.hd hc) he t p.isList (by simp; omega) fun h' kp=>⟨rfl,Inv.a76 (t':=s.toks) (ch:=[e,it]) I hf fun b u hb eb=>?_⟩
    simp only [List.mem_cons,List.not_mem_nil,or_false,not_or] at hb
    exact kp b u hb.2 eb
  self:=fun _ _ _ _ _ ⟨⟨_,he⟩,_⟩ h=>wpAny_pyIter_enum he h
def iEm (K:PySem.W.Frag) (ta:TA):TI:=fun σ H R=>ta σ H fun vs H1=>∃ a xs,vs=[.ref a]∧SqL K H1 a xs∧R (Itm K a) H1
section
variable {X:Cx} {B:Bas} {a:Expr} {m:M T} {pos p:Pos} {elts:List Expr} {x1:Nat} {tpos:Pos}
theorem a6z {ta:TA} (hg:Gl X "enumerate") (hm:X.mg "enumerate" = none) (ha:PA X [a] ta) (hs:starEach [a] X.env=[(false,eval a X.env)]:=by rfl) :
    PI X (.Tuple elts x1 tpos) (.Call (.Name "enumerate" p) [a] [] pos) (iEm X.K ta):=by
  intro pins s σ H R I h
  refine Call_ (Ng I hg hm boot_enumerate (PyProof.Rows.callWith_type1 (thn (ha pos pins s σ H _ I h) fun us s1 z0=>?_) (by rw [hs]; rfl) (by rfl)))
  obtain ⟨vs,H1,I1,r1,q1⟩:=z0
  obtain ⟨a,xs,e,w1,q⟩:=q1
  subst e
  cases r1 with
  | cons r rr =>
    cases rr
    cases r
    obtain ⟨its,rv,pL,hz⟩:=I1.list w1
    refine call_enumerate_list pL.isList fun h' he hit hsz kp=>wpAny_pyIter_enum he ?_
    refine ⟨_,[s1.heap.objs.size+1,s1.heap.objs.size],_,_,H1,rfl,I1.kept (t':=s1.toks) kp,a1g (Nat.succ_ne_self _),⟨⟨_,he⟩,hit⟩,fun b hb=>?_,q⟩
    have hle:s1.heap.objs.size≤b:=by
      simp only [List.mem_cons,List.not_mem_nil,or_false] at hb -- here
      rcases hb with rfl | rfl
      · exact Nat.le_succ _
      · exact Nat.le_refl _
    exact I1.a8h hle (I1.hok.fresh hle)
theorem S7 {ts:List T} {s s':Sta} (h:Ue m s=some (ts,s')):∃ xs,m s=some (.lst xs,s')∧xs.length<lim∧ts=Q8 xs:=by
  unfold Ue at h
  split at h
  · rename_i xs s1 e1
    split at h
    · rename_i hl; cases h; exact ⟨xs,e1,hl,rfl⟩
    · cases h
  · cases h
theorem a8c:∀ st ts st',Ue m st=some (ts,st')→ts.length≤sizeLine:=fun st ts st' e=>by
  obtain ⟨xs,_,l1,rfl⟩:=S7 e
  unfold Q8
  rw [List.length_map,List.length_zipIdx]
  exact Nat.le_trans (Nat.le_of_lt l1) qp
theorem a2a {xs:List T} {i:Nat} {t:T} (h:(Q8 xs)[i]? = some t):∃ x,xs[i]? = some x∧t=.tup [.int (i:Int),x]:=by
  unfold Q8 at h
  rw [List.getElem?_map,List.getElem?_zipIdx] at h
  cases q:xs[i]? with
  | none=>rw [q] at h; cases h
  | some x=>rw [q] at h; simp at h; exact ⟨x,rfl,h.symm⟩
theorem a6s (hg:Gl X "enumerate") (hm:X.mg "enumerate" = none) (h1:PE X a (tOf X.K B m)) (hs:starEach [a] X.env=[(false,eval a X.env)]:=by rfl) :
    PI X (.Tuple elts x1 tpos) (.Call (.Name "enumerate" p) [a] [] pos) (iOf X.K B (Ue m)):=by
  intro pins s σ H R I hw
  refine a6z (ta:=Ii (tOf X.K B m) Xm) hg hm (jr h1 qz hs) hs pins s σ H R I ?_
  obtain ⟨st,ps,S,as,Rl,ts,st',e,hz,q⟩:=hw
  obtain ⟨xs,e1,l1,rfl⟩:=S7 e
  refine ⟨st,ps,S,as,Rl,_,_,e1,fun v H1 S1 as1 R1=>?_⟩
  have top:=R1.top
  cases top with
  | @lst a vs _ hs hr =>
    refine ⟨a,vs,rfl,j5 R1.sub hs,q _ H1 S1 as1 [(.ref a,.lst xs)] R1 fun S2 as2 H2 hp hh=>?_⟩
    have:=hp _ List.mem_cons_self
    cases this with
    | @lst _ vs2 _ hs2 hr2 =>
      refine ⟨fun i tt et=>?_,fun i hi=>⟨vs2,j5 hh hs2,?_⟩⟩
      · obtain ⟨x,f1,rfl⟩:=a2a et
        obtain ⟨vx,gx,rx⟩:=hr2.get f1
        refine ⟨⟨vs2,vx,j5 hh hs2,gx⟩,fun v H' z0=>?_⟩
        obtain ⟨pp,x',hn,hv,hH,b1⟩:=z0
        have c1:=b1 _ (j5 hh hs2)
        rw [gx] at c1
        cases c1
        subst hv hH
        have x:=Ext.laid hh hn (.tup [.int (i:Int),vx])
        exact ⟨_,x,.tup (SqT.of d7) (.cons (.int _) (.cons (rx.mono x.s nol) .nil))⟩
      · rw [hr2.length]
        unfold Q8 at hi
        rwa [List.length_map,List.length_zipIdx] at hi
end
end C
end
section
namespace K
open C PySem
def uo:Fn:=su 1
  (Ah (ou 2 [] (M5 [0,1]) (Ab (mOp d9 (bw 0) (aq (.int 1)))) yw (bw 0)))
def uq:Fn:=su 1
  (jl (sIf (gb (mOp eqO (mOp d9 (bw 0) (aq (.int 0))) (aq (.str "not"))))
  (Ah (nu (fun l=>some (.tup l)) (ao (mOp d9 (bw 0) (aq (.int 1))) g8)))
  Dl)
  (Ah (mIf (gb (mOp inT (mOp d9 (bw 0) (aq (.int 0))) (nu (fun l=>some (.tup l)) (ao (aq (.str "and")) (ao (aq (.str "or")) g8))))) (mOp d9 (bw 0) (aq (.int 1))) (nu (fun l=>some (.tup l)) g8))))
def uz:Fn:=su 4
  (jl (sNew 1 (nu (fun l=>some (.lst l)) g8))
  (jl (sNew 2 (nu (fun l=>some (.lst l)) (ao (bw 0) g8)))
  (jl (yc 1000 (gb (mOp gtT (vh 2) (aq (.int 0))))
  (jl (a8i 2 3)
  (jl (xg 1 (bw 3))
  (Ai 2 (mUn a8m (fu uq (ao (bw 3) g8)))))))
  (Ah (bw 1)))))
def n6:Fn:=su 3
  (jl (sNew 1 (nu (fun l=>some (.lst l)) g8))
  (jl (G6 (hName 2) (Ab (fu uz (ao (bw 0) g8)))
  (sIf (gb (mOp inT (mOp d9 (bw 2) (aq (.int 0))) (nu (fun l=>some (.tup l)) (ao (aq (.str "most")) (ao (aq (.str "rest")) g8)))))
  (Ai 1 (fu uo (ao (mOp d9 (bw 2) (aq (.int 1))) g8)))
  Dl))
  (Ah (bw 1))))
def m9:Fn:=su 1
  (Ah (ou 1 [] (hName 0) (Ab (fu uz (ao (bw 0) g8))) (gb (mOp eqO (mOp d9 (bw 0) (aq (.int 0))) (aq (.str "at")))) (bw 0)))
def Ag:Fn:=su 1
  (Ah (nu Af (ao (fu n6 (ao (bw 0) g8)) g8)))
def Ad:Fn:=su 1
  (Ah (nu Af (ao (ou 1 [] (hName 0) (Ab (fu m9 (ao (bw 0) g8))) yw (mOp d9 (bw 0) (aq (.int 1)))) g8)))
def Dv:Fn:=su 2
  (Ah (nu acd (ao (ou 1 [1] (hName 0) (Ab (bw 0)) yw (mOp inT (bw 0) (bw 1))) g8)))
def mj:Fn:=su 1
  (Ah (mOp Gk (nu (fun l=>some (.lst l)) (ao (nu (fun l=>some (.tup l)) (ao (aq (.str "hand")) (ao (mOp d9 (bw 0) (aq (.int 0))) g8))) g8)) (ou 2 [] (M5 [0,1]) (Ab (mOp d9 (bw 0) (aq (.int 3)))) yw (nu (fun l=>some (.tup l)) (ao (aq (.str "box")) (ao (bw 0) g8))))))
def yt:Fn:=su 5
  (jl (zp 1 (fu Ad (ao (mOp d9 (bw 0) (aq (.int 2))) g8)))
  (jl (sNew 2 (fu Ag (ao (mOp d9 (bw 0) (aq (.int 2))) g8)))
  (jl (G6 (M5 [3,4]) (Ab (mOp d9 (bw 0) (aq (.int 3))))
  (Ai 2 (fu uo (ao (bw 4) g8))))
  (Ah (mOp Gk (mOp Gk (fu mj (ao (bw 0) g8)) (ou 1 [] (hName 0) (Ab (bw 1)) yw (nu (fun l=>some (.tup l)) (ao (aq (.str "hand")) (ao (bw 0) g8))))) (ou 1 [] (hName 0) (Ab (bw 2)) yw (nu (fun l=>some (.tup l)) (ao (aq (.str "box")) (ao (bw 0) g8)))))))))
def Cg:Fn:=su 5
  (jl (zp 3 (mOp d9 (mOp d9 (bw 0) (aq (.int 2))) (bw 1)))
  (jl (zp 4 (mOp d9 (mOp d9 (bw 0) (aq (.int 2))) (bw 2)))
  (Ah (Fl (V4 (gb (Fl (mOr (gb (fu Dv (ao (fu mj (ao (bw 3) g8)) (ao (fu yt (ao (bw 4) g8)) g8)))) (gb (fu Dv (ao (fu mj (ao (bw 4) g8)) (ao (fu yt (ao (bw 3) g8)) g8))))))))))))
def m8:Fn:=su 4
  (jl (sNx (sNew 1 (aq (.dic []))))
  (jl (sNx (G6 (M5 [2,3]) (Ue (bw 0))
  (Bk 1 (bw 3) (bw 2))))
  (Ge 1)))
def o8:Fn:=su 4
  (jl (sNew 2 (aq (.dic [])))
  (jl (G6 (hName 3) (Ab (bw 1))
  (Lh 2 (bw 3) (ou 1 [3,0] (hName 0) (Ab (bw 1)) (Yu (gb (mOp neO (bw 0) (bw 1))) (V4 (gb (fu Cg (ao (bw 2) (ao (bw 1) (ao (bw 0) g8))))))) (bw 0))))
  (Ah (bw 2))))
def uw:Fn:=su 4
  (jl (zp 3 (vd (mOp d9 (bw 1) (bw 0)) (aq (.int 0))))
  (Ah (nu abu (ao (ou 1 [1,3] (hName 0) (Ab (mOp d9 (bw 2) (bw 0))) yw (Fl (mOr (gb (mOp K1 (bw 0) (bw 1))) (gb (mOp gtT (vd (mOp d9 (bw 1) (bw 0)) (aq (.int 0))) (bw 2)))))) g8))))
def yr:Fn:=su 6
  (jl (sNew 2 (fu m8 (ao (bw 1) g8)))
  (jl (zp 3 (fu o8 (ao (bw 0) (ao (Dk 2) g8))))
  (jl (sNew 4 (nu (fun l=>some (.lst l)) g8))
  (jl (yc 1000 (gb (mOp gtT (vh 2) (aq (.int 0))))
  (jl (zp 5 (Nq [2] (nu V0 (ao (ou 1 [2,3] (hName 0) (Rn (bw 2)) (gb (fu uw (ao (bw 0) (ao (bw 1) (ao (bw 2) g8))))) (bw 0)) g8))))
  (jl (xg 4 (bw 5))
  (jl (Uc (vq 2 (bw 5)))
  (sIf (gb (mOp eqO (zq (vq 2 (bw 5))) (aq (.int 0))))
  (Ga 2 (bw 5))
  Dl)))))
  (Ah (bw 4))))))
def m6:Fn:=su 2
  (jl (sIf (gb (mOp ltT (bw 1) (nu Xp (ao (bw 0) g8))))
  (Ah (mOp d9 (bw 0) (bw 1)))
  Dl)
  (Ah (aq (.int 0))))
def cj:Fn:=su 3
  (jl (sIf (gb (mOp eqO (zq (bw 0)) (aq (.int 2))))
  (Ln 0 (vd (bw 0) (aq (.int 0))))
  Dl)
  (jl (sIf (Yu (gb (mOp eqO (vd (bw 0) (aq (.int 1))) (aq (.int 0)))) (gb (mOp inT (vd (bw 0) (aq (.int 0))) (nu (fun l=>some (.lst l)) (ao (aq (.int 0)) (ao (mUn a9c (aq (.int 1))) g8))))))
  (jl (Ft (bw 0) (aq (.int 0)) (mOp Gk (vd (bw 0) (aq (.int 2))) (aq (.int 1013))))
  (Ft (bw 0) (aq (.int 1)) (aq (.int 1))))
  Dl)
  (jl (sIf (gb (mOp eqO (vd (bw 0) (aq (.int 1))) (aq (.int 0))))
  (jl (zp 2 (mOp T5 (vd (bw 0) (aq (.int 0))) (bw 1)))
  (jl (Ft (bw 0) (aq (.int 0)) (mOp Ox (vd (bw 0) (aq (.int 0))) (bw 1)))
  (Ah (bw 2))))
  Dl)
  (jl (Ft (bw 0) (aq (.int 0)) (mOp T5 (mOp Gk (mOp Nz (mOp T5 (vd (bw 0) (aq (.int 0))) (aq (.int 2147483647))) (aq (.int 48271))) (aq (.int 1013))) (aq (.int 2147483629))))
  (Ah (mOp T5 (mOp Ox (mOp T5 (mOp Nz (vd (bw 0) (aq (.int 0))) (aq (.int 69621))) (aq (.int 2147483587))) (aq (.int 11))) (bw 1)))))))
def u6:Fn:=su 4
  (jl (sIf (gb (mOp eqO (mOp T5 (mOp Ox (bw 0) (aq (.int 640))) (aq (.int 4))) (aq (.int 1))))
  (Ah (mOp d9 (nu (fun l=>some (.lst l)) (a2t ["b","ab","abc","abcd","a","ba","aab","b1","bab","ab1"])) (mOp T5 (bw 1) (aq (.int 10)))))
  Dl)
  (jl (zp 2 (mOp Gk (aq (.int 1)) (mOp T5 (bw 0) (aq (.int 8)))))
  (jl (zp 3 (mOp T5 (mOp Ox (bw 0) (aq (.int 8))) (bw 2)))
  (Ah (mOp Gk (mOp Gk (mOp Nz (aq (.str "q")) (bw 3)) (mOp d9 (aq (.str "abcdefghij")) (mOp T5 (mOp Gk (mOp Nz (aq (.int 3)) (bw 1)) (mOp Ox (bw 0) (aq (.int 64)))) (aq (.int 10))))) (mOp Nz (aq (.str "q")) (mOp Jv (mOp Jv (bw 2) (aq (.int 1))) (bw 3))))))))
def xr:Fn:=su 6
  (jl (zp 2 (mOp Jv (fu cj (ao (bw 0) (ao (aq (.int 5)) g8))) (aq (.int 2))))
  (jl (sIf (gb (mOp eqO (fu cj (ao (bw 0) (ao (aq (.int 9)) g8))) (aq (.int 8))))
  (zp 2 (mOp Jv (fu cj (ao (bw 0) (ao (mOp Jv (mOp Nz (aq (.int 2)) (mOp Y4 (aq (.int 10)) (aq (.int 9)))) (aq (.int 1))) g8))) (mOp Jv (mOp Y4 (aq (.int 10)) (aq (.int 9))) (aq (.int 1)))))
  Dl)
  (jl (sNew 3 (nu (fun l=>some (.lst l)) g8))
  (jl (G6 (hName 4) (Ab (nu Ld (ao (bw 1) g8)))
  (jl (zp 5 (mOp d9 (nu (fun l=>some (.lst l)) (ao (aq (.int 0)) (ao (aq (.int 0)) (ao (aq (.int 1)) (ao (aq (.int 1)) (ao (mUn a9c (aq (.int 1))) (ao (aq (.int 2)) (ao (mOp Jv (fu cj (ao (bw 0) (ao (aq (.int 7)) g8))) (aq (.int 3))) g8)))))))) (fu cj (ao (bw 0) (ao (aq (.int 7)) g8)))))
  (sIf (gb (mOp neO (bw 5) (aq (.int 0))))
  (xg 3 (nu (fun l=>some (.tup l)) (ao (bw 4) (ao (bw 5) g8))))
  Dl)))
  (Ah (nu (fun l=>some (.tup l)) (ao (bw 2) (ao (nu Dq (ao (bw 3) g8)) g8))))))))
def nq:Fn:=su 7
  (jl (zp 3 (fu cj (ao (bw 0) (ao (aq (.int 4)) g8))))
  (jl (sIf (gb (mOp eqO (bw 3) (aq (.int 0))))
  (jl (sGo (M5 [4,5]) (mOp d9 (bw 2) (fu cj (ao (bw 0) (ao (nu Xp (ao (bw 2) g8)) g8)))))
  (Ah (nu (fun l=>some (.tup l)) (ao (aq (.str "at")) (ao (bw 4) (ao (fu cj (ao (bw 0) (ao (bw 5) g8))) g8))))))
  Dl)
  (jl (zp 6 (fu xr (ao (bw 0) (ao (bw 1) g8))))
  (jl (sIf (gb (mOp eqO (bw 3) (aq (.int 1))))
  (Ah (nu (fun l=>some (.tup l)) (ao (aq (.str "rest")) (ao (bw 6) (ao (mOp Gk (aq (.int 2)) (fu cj (ao (bw 0) (ao (aq (.int 11)) g8)))) g8)))))
  Dl)
  (Ah (nu (fun l=>some (.tup l)) (ao (aq (.str "most")) (ao (bw 6) g8))))))))
def vm:Fn:=su 7
  (jl (zp 3 (fu cj (ao (bw 0) (ao (aq (.int 11)) g8))))
  (jl (sIf (gb (mOp ltT (bw 3) (aq (.int 2))))
  (Ah (nu (fun l=>some (.tup l)) (ao (aq (.str "and")) (ao (nu (fun l=>some (.tup l)) g8) g8))))
  Dl)
  (jl (zp 4 (fu nq (ao (bw 0) (ao (bw 1) (ao (bw 2) g8)))))
  (jl (sIf (gb (mOp ltT (bw 3) (aq (.int 5))))
  (Ah (bw 4))
  Dl)
  (jl (sIf (gb (mOp eqO (bw 3) (aq (.int 5))))
  (Ah (nu (fun l=>some (.tup l)) (ao (aq (.str "not")) (ao (bw 4) g8))))
  Dl)
  (jl (zp 5 (nu (fun l=>some (.tup l)) (ao (mOp d9 (nu (fun l=>some (.lst l)) (ao (aq (.str "and")) (ao (aq (.str "or")) g8))) (mOp T5 (bw 3) (aq (.int 2)))) (ao (nu (fun l=>some (.tup l)) (ao (bw 4) (ao (fu nq (ao (bw 0) (ao (bw 1) (ao (bw 2) g8)))) g8))) g8))))
  (jl (sIf (gb (mOp ltT (bw 3) (aq (.int 8))))
  (Ah (bw 5))
  Dl)
  (jl (sIf (gb (mOp eqO (bw 3) (aq (.int 8))))
  (Ah (nu (fun l=>some (.tup l)) (ao (aq (.str "not")) (ao (nu (fun l=>some (.tup l)) (ao (mOp d9 (nu (fun l=>some (.lst l)) (ao (aq (.str "and")) (ao (aq (.str "or")) g8))) (fu cj (ao (bw 0) (ao (aq (.int 2)) g8)))) (ao (mOp d9 (bw 5) (aq (.int 1))) g8))) g8))))
  Dl)
  (jl (sIf (gb (mOp eqO (bw 3) (aq (.int 9))))
  (Ah (nu (fun l=>some (.tup l)) (ao (mOp d9 (nu (fun l=>some (.lst l)) (ao (aq (.str "and")) (ao (aq (.str "or")) g8))) (fu cj (ao (bw 0) (ao (aq (.int 2)) g8)))) (ao (nu (fun l=>some (.tup l)) (ao (nu (fun l=>some (.tup l)) (ao (aq (.str "not")) (ao (bw 5) g8))) (ao (fu nq (ao (bw 0) (ao (bw 1) (ao (bw 2) g8)))) g8))) g8))))
  Dl)
  (jl (zp 6 (nu Dq (ao (ou 1 [0,1,2] (hName 0) (Bs (mOp Gk (aq (.int 1)) (fu cj (ao (bw 0) (ao (aq (.int 3)) g8))))) yw (fu nq (ao (bw 1) (ao (bw 2) (ao (bw 3) g8))))) g8)))
  (Ah (nu (fun l=>some (.tup l)) (ao (mOp d9 (nu (fun l=>some (.lst l)) (ao (aq (.str "and")) (ao (aq (.str "or")) g8))) (fu cj (ao (bw 0) (ao (aq (.int 2)) g8)))) (ao (mOp Gk (mOp d9 (bw 5) (aq (.int 1))) (bw 6)) g8))))))))))))))
def yp:Fn:=su 7
  (jl (sNew 3 (nu (fun l=>some (.lst l)) g8))
  (jl (G6 (hName 4) (Bs (bw 2))
  (jl (zp 5 (mOp Jv (fu cj (ao (bw 0) (ao (aq (.int 4)) g8))) (aq (.int 2))))
  (jl (sIf (gb (mOp eqO (fu cj (ao (bw 0) (ao (aq (.int 9)) g8))) (aq (.int 8))))
  (zp 5 (mOp Jv (fu cj (ao (bw 0) (ao (mOp Jv (mOp Nz (aq (.int 2)) (mOp Y4 (aq (.int 10)) (aq (.int 30)))) (aq (.int 9))) g8))) (mOp Y4 (aq (.int 10)) (aq (.int 30)))))
  Dl)
  (jl (zp 6 (mOp Gk (bw 5) (fu cj (ao (bw 0) (ao (aq (.int 3)) g8)))))
  (xg 3 (nu (fun l=>some (.tup l)) (ao (fu u6 (ao (bw 1) (ao (bw 4) g8))) (ao (aq (.str "")) (ao (bw 5) (ao (bw 6) (ao (mOp Gk (bw 5) (fu cj (ao (bw 0) (ao (mOp Gk (mOp Jv (bw 6) (bw 5)) (aq (.int 1))) g8)))) g8)))))))))))
  (Ah (bw 3))))
def yq:Fn:=su 11
  (jl (sGo (M5 [3,4]) (mOp d9 (bw 2) (fu cj (ao (bw 0) (ao (nu Xp (ao (bw 2) g8)) g8)))))
  (jl (zp 5 (fu cj (ao (bw 0) (ao (bw 4) g8))))
  (jl (zp 6 (fu cj (ao (bw 0) (ao (bw 4) g8))))
  (jl (zp 7 (fu vm (ao (bw 0) (ao (bw 1) (ao (bw 2) g8)))))
  (jl (sNew 8 (nu (fun l=>some (.lst l)) g8))
  (jl (G6 (hName 9) (Ab (nu Ld (ao (bw 1) g8)))
  (jl (zp 10 (fu cj (ao (bw 0) (ao (aq (.int 5)) g8))))
  (jl (sIf (gb (mOp eqO (bw 10) (aq (.int 0))))
  (xg 8 (nu (fun l=>some (.tup l)) (ao (bw 9) (ao (fu xr (ao (bw 0) (ao (bw 1) g8))) g8))))
  Dl)
  (sIf (gb (mOp eqO (bw 10) (aq (.int 1))))
  (xg 8 (nu (fun l=>some (.tup l)) (ao (bw 9) (ao (nu (fun l=>some (.tup l)) (ao (mOp Jv (fu cj (ao (bw 0) (ao (aq (.int 3)) g8))) (aq (.int 1))) (ao (nu (fun l=>some (.tup l)) (ao (nu (fun l=>some (.tup l)) (ao (bw 9) (ao (aq (.int 1)) g8))) g8)) g8))) g8))))
  Dl))))
  (Ah (nu (fun l=>some (.tup l)) (ao (bw 3) (ao (bw 5) (ao (bw 7) (ao (nu Dq (ao (bw 8) g8)) (ao (bw 6) g8)))))))))))))
def wu:Fn:=su 11
  (jl (zp 2 (mOp T5 (mOp Ox (fu m6 (ao (bw 0) (ao (aq (.int 0)) g8))) (aq (.int 5))) (aq (.int 2))))
  (jl (zp 3 (fu m6 (ao (bw 0) (ao (aq (.int 1)) g8))))
  (jl (zp 4 (Ep (ao (fu m6 (ao (bw 0) (ao (aq (.int 2)) g8))) (ao (bw 2) g8))))
  (jl (zp 5 (mOp Gk (aq (.int 1)) (fu cj (ao (bw 4) (ao (aq (.int 3)) g8)))))
  (jl (sNew 6 (nu (fun l=>some (.lst l)) g8))
  (jl (G6 (hName 7) (Bs (bw 5))
  (xg 6 (nu (fun l=>some (.tup l)) (ao (fu u6 (ao (bw 3) (ao (mOp Gk (aq (.int 5)) (bw 7)) g8))) (ao (mOp Gk (aq (.int 1)) (fu cj (ao (bw 4) (ao (mOp d9 (nu (fun l=>some (.lst l)) (ao (aq (.int 4)) (ao (aq (.int 4)) (ao (aq (.int 2)) g8)))) (mOp Jv (bw 5) (aq (.int 1)))) g8)))) g8)))))
  (jl (zp 8 (fu yp (ao (bw 4) (ao (bw 3) (ao (fu cj (ao (bw 4) (ao (aq (.int 3)) g8))) g8)))))
  (jl (zp 9 (ou 1 [] (hName 0) (Ab (bw 8)) yw (mOp d9 (bw 0) (aq (.int 0)))))
  (jl (zp 10 (ou 1 [9,6,2] (hName 0) (Ab (Hj (bw 0) (En (aq (.int 3))) (En (mOp Gk (aq (.int 3)) (bw 1))))) yw (fu yq (ao (Ep (ao (bw 0) (ao (bw 3) g8))) (ao (bw 1) (ao (bw 2) g8))))))
  (Ah (nu (fun l=>some (.tup l)) (ao (bw 8) (ao (bw 6) (ao (bw 10) (ao (nu (fun l=>some (.tup l)) g8) g8)))))))))))))))
mutual
def fj:Nat→Fn
  | 0=>fun _ _=>none
  | n+1=>su 3
      (jl (sIf (mOr (gb (mOp eqO (mOp d9 (bw 0) (aq (.int 0))) (aq (.str "most")))) (gb (mOp eqO (mOp d9 (bw 0) (aq (.int 0))) (aq (.str "rest")))))
      (Ah (ou 2 [] (M5 [0,1]) (Ab (mOp d9 (mOp d9 (bw 0) (aq (.int 1))) (aq (.int 1)))) yw (bw 0)))
      Dl)
      (jl (sNew 1 (nu (fun l=>some (.lst l)) g8))
      (jl (sIf (gb (mOp eqO (mOp d9 (bw 0) (aq (.int 0))) (aq (.str "not"))))
      (Ah (fu (fj n) (ao (mOp d9 (bw 0) (aq (.int 1))) g8)))
      Dl)
      (jl (sIf (mOr (gb (mOp eqO (mOp d9 (bw 0) (aq (.int 0))) (aq (.str "and")))) (gb (mOp eqO (mOp d9 (bw 0) (aq (.int 0))) (aq (.str "or")))))
      (G6 (hName 2) (Ab (mOp d9 (bw 0) (aq (.int 1))))
      (Ai 1 (fu (fj n) (ao (bw 2) g8))))
      Dl)
      (Ah (bw 1))))))
end
mutual
def gq:Nat→Fn
  | 0=>fun _ _=>none
  | n+1=>su 3
      (jl (sIf (gb (mOp eqO (mOp d9 (bw 0) (aq (.int 0))) (aq (.str "at"))))
      (Ah (nu (fun l=>some (.lst l)) (ao (mOp d9 (bw 0) (aq (.int 1))) g8)))
      Dl)
      (jl (sNew 1 (nu (fun l=>some (.lst l)) g8))
      (jl (sIf (gb (mOp eqO (mOp d9 (bw 0) (aq (.int 0))) (aq (.str "not"))))
      (Ah (fu (gq n) (ao (mOp d9 (bw 0) (aq (.int 1))) g8)))
      Dl)
      (jl (sIf (mOr (gb (mOp eqO (mOp d9 (bw 0) (aq (.int 0))) (aq (.str "and")))) (gb (mOp eqO (mOp d9 (bw 0) (aq (.int 0))) (aq (.str "or")))))
      (G6 (hName 2) (Ab (mOp d9 (bw 0) (aq (.int 1))))
      (Ai 1 (fu (gq n) (ao (bw 2) g8))))
      Dl)
      (Ah (bw 1))))))
end
def u9:Fn:=su 5
  (jl (sIf (mOr (gb (mOp eqO (mOp d9 (bw 0) (aq (.int 0))) (mOp d9 (bw 1) (aq (.int 0))))) (gb (mOp inT (mOp d9 (bw 0) (aq (.int 0))) (fu (gq 40) (ao (mOp d9 (bw 1) (aq (.int 2))) g8)))))
  (Ah (aq (.bl true)))
  Dl)
  (jl (zp 2 (fu (fj 40) (ao (mOp d9 (bw 1) (aq (.int 2))) g8)))
  (jl (G6 (M5 [3,4]) (Ab (mOp d9 (bw 1) (aq (.int 3))))
  (zp 2 (mOp Gk (mOp Gk (bw 2) (nu (fun l=>some (.lst l)) (ao (bw 3) g8))) (ou 2 [] (M5 [0,1]) (Ab (mOp d9 (bw 4) (aq (.int 1)))) yw (bw 0)))))
  (Ah (mOp neO (ou 2 [2] (M5 [0,1]) (Ab (mOp d9 (bw 0) (aq (.int 3)))) (gb (mOp inT (bw 0) (bw 2))) (bw 0)) (nu (fun l=>some (.lst l)) g8))))))
def qt:Fn:=su 5
  (jl (zp 3 (mOp d9 (mOp d9 (bw 0) (aq (.int 2))) (bw 1)))
  (jl (zp 4 (mOp d9 (mOp d9 (bw 0) (aq (.int 2))) (bw 2)))
  (Ah (Fl (Yu (gb (Fl (V4 (gb (fu u9 (ao (bw 3) (ao (bw 4) g8))))))) (gb (Fl (V4 (gb (fu u9 (ao (bw 4) (ao (bw 3) g8))))))))))))
def uy:Fn:=su 7
  (jl (sNew 2 (nu Hv (ao (bw 1) g8)))
  (jl (sNew 3 (nu (fun l=>some (.lst l)) g8))
  (jl (yc 1000 (gb (Lk 2 (nu (fun l=>some (.lst l)) g8)))
  (jl (zp 4 (aq (.int 0)))
  (jl (G6 (hName 5) (Bs (vh 2))
  (jl (zp 6 (K8 [2] (ou 1 [0,2,5] (hName 0) (Ab (Ja 2 Xd (En (bw 5)))) (V4 (gb (fu qt (ao (bw 1) (ao (bw 0) (ao (mOp d9 (bw 2) (bw 3)) g8)))))) (bw 0))))
  (sIf (Yu (gb (mOp eqO (bw 6) (nu (fun l=>some (.lst l)) g8))) (gb (mOp ltT (Dz 2 (bw 5)) (Dz 2 (bw 4)))))
  (zp 4 (bw 5))
  Dl)))
  (Gb 3 2 (bw 4)))))
  (Ah (bw 3)))))
def Yr:Fn:=su 6
  (jl (zp 1 (fu wu (ao (bw 0) (ao (aq (.int 12)) g8))))
  (jl (sNew 2 (nu (fun l=>some (.lst l)) g8))
  (jl (G6 (hName 3) (Ab (Hj (bw 0) (En (aq (.int 15))) (En (aq (.int 33)))))
  (sIf (gb (mOp neO (mOp d9 (bw 1) (aq (.int 2))) (nu (fun l=>some (.lst l)) g8)))
  (xg 2 (mOp T5 (bw 3) (nu Xp (ao (mOp d9 (bw 1) (aq (.int 2))) g8))))
  Dl))
  (jl (zp 4 (nu Hv (ao (bw 2) g8)))
  (jl (zp 5 (fu yr (ao (bw 1) (ao (bw 4) g8))))
  (jl (sIf (mOr (gb (mOp neO (bw 4) (bw 2))) (mOr (V4 (gb (nu Sy (ao (bw 5) g8)))) (gb (mOp neO (bw 5) (fu uy (ao (bw 1) (ao (bw 2) g8)))))))
  (Ah (aq (.bl false)))
  Dl)
  (Ah (Fl (Yu (gb (mOp eqO (fu yr (ao (bw 1) (ao (bw 5) g8))) (bw 5))) (gb (mOp eqO (fu yr (ao (bw 1) (ao (nu (fun l=>some (.lst l)) g8) g8))) (nu (fun l=>some (.lst l)) g8))))))))))))
end K
end
section
namespace D
open PySem L2 C
def top (i:Nat):Stmt:=PySem.Challenge.pw_calm_k32_straightened.main.body.getD i (.Pass ⟨0,0,0,0⟩)
section
variable {P:Program} {w:World} {K:PySem.W.Frag} {mg:Str→Option Value} {base:Heap} {f:Addr} {fd:FuncData}
abbrev Ew:Stmt:=top 1
theorem Lp:jg ["one"] ["one"] (dh Ew):=⟨rfl,rfl,rfl,by decide +kernel,rfl,by decide +kernel,by decide +kernel⟩
theorem U6 (F:Fun K "boxes_of" "boxes_of" Ew f fd):Bf P w K mg base CX0 1 f fd ["one"] (spF K (["one"]:List Str).length _root_.K.uo):=by
  refine mq (N:=["one"]) F Lp (by decide)  fun cdv A outer s H E B hr=>?_
  have hu:=yu hr
  have hq:=hr.units
  have nd:(["one"]:List Str).Nodup:=Lp.nd
  refine dw ?_
  · refine jh ?_
    · refine uf ?_
      · refine zc (N:=["box","times"]) ?_ ?_ ?_ ?_ ?_ ?_ ?_ ?_
        · exact ⟨rfl,fun j k h=>match j,h with | _+0,h=>(by cases h)⟩
        · exact ⟨rfl,rfl,by decide +kernel,by decide +kernel⟩
        · exact rfl
        · exact vf (jk hu (ak 0 (pv 0)) bf (fun _ _=>rfl))
        · exact v8
        · exact fun C s₀ H₀ ex pn=>pgE fun B=>(Fw (is:=[0,1]) (G5 rfl (ql (gn (show (["box","times"]:List Str).Nodup by decide +kernel) rfl (Or.inl rfl)) (ql (gn (show (["box","times"]:List Str).Nodup by decide +kernel) rfl (Or.inl rfl)) Cm))))
        · exact fun C s₀ H₀ ex pn=>yh
        · exact fun C s₀ H₀ ex pn=>peE fun B=>(ak 0 (pv 0))
theorem Uy (F:Fun K "boxes_of" "boxes_of" Ew f fd) (hmg:mg "boxes_of" = some (.ref f)):dz P w K mg base "boxes_of" 1 ["one"] _root_.K.uo :=
  ⟨f,fd,U6 F,F.binds (ps:=["one"]) fun _ _ _ _ _ _ us hl=>bd1 (fun _=>rfl) us hl,F.kp,hmg⟩
abbrev Bu:Stmt:=top 3
theorem Gx:jg ["remark"] ["remark"] (dh Bu):=⟨rfl,rfl,rfl,by decide +kernel,rfl,by decide +kernel,by decide +kernel⟩
theorem Oq (F:Fun K "members_of" "members_of" Bu f fd):Bf P w K mg base CX0 1 f fd ["remark"] (spF K (["remark"]:List Str).length _root_.K.uq):=by
  refine mq (N:=["remark"]) F Gx (by decide)  fun cdv A outer s H E B hr=>?_
  have hu:=yu hr
  have hq:=hr.units
  have nd:(["remark"]:List Str).Nodup:=Gx.nd
  refine cg ?_ ?_
  · exact yj (ji (uc hq) (jk hu (ak 0 (pv 0)) bf (fun _ _=>rfl)) m7 (jj _))   (dw (jh (p8 (aj (jk hu (ak 0 (pv 0)) bf (fun _ _=>rfl)) c7) (gk (bh d8) (by decide)))))   qw
  · refine dw ?_
    · exact jh (a3x (ji (Mx hq) (jk hu (ak 0 (pv 0)) bf (fun _ _=>rfl)) (p8 (aj m7 (aj m7 c7)) (gk (bh (bh d8)) (by decide))) rfl) (jk hu (ak 0 (pv 0)) bf (fun _ _=>rfl)) (p8 c7 (gk d8 (by decide))))
theorem Ov (F:Fun K "members_of" "members_of" Bu f fd) (hmg:mg "members_of" = some (.ref f)):dz P w K mg base "members_of" 1 ["remark"] _root_.K.uq :=
  ⟨f,fd,Oq F,F.binds (ps:=["remark"]) fun _ _ _ _ _ _ us hl=>bd1 (fun _=>rfl) us hl,F.kp,hmg⟩
abbrev Ey:Stmt:=top 4
theorem Ls:jg ["remark","parts","waiting","part"] ["remark"] (dh Ey):=⟨rfl,rfl,rfl,by decide +kernel,rfl,by decide +kernel,by decide +kernel⟩
theorem Uz (F:Fun K "parts_of" "parts_of" Ey f fd) (d_members_of:dz P w K mg base "members_of" 1 ["remark"] (_root_.K.uq)) (b_len:mg "len" = none):Bf P w K mg base CX0 2 f fd ["remark"] (spF K (["remark"]:List Str).length _root_.K.uz):=by
  have d_members_of:=d_members_of.mono (show 1≤1 by first | decide | omega)
  refine mq (N:=["remark","parts","waiting","part"]) F Ls (by decide)  fun cdv A outer s H E B hr=>?_
  have hu:=yu hr
  have hq:=hr.units
  have nd:(["remark","parts","waiting","part"]:List Str).Nodup:=Ls.nd
  refine cg ?_ ?_
  · exact Ba 1 (ig nd rfl (Or.inl rfl) (Ds c7 (gk d8 (by decide)))) (fun _ _ _ h=>h)
  · refine cg ?_ ?_
    · exact Ba 2 (ig nd rfl (Or.inl rfl) (Ds (aj (ak 0 (pv 0)) c7) (gk (bh d8) (by decide)))) (fun _ _ _ h=>h)
    · refine cg ?_ ?_
      · refine Pg _ ?_ ?_ ?_
        · exact PassesOwn.never
        · exact ji a2i (Lb 2 b_len rfl (pv 2)) bf (jj _)
        · refine cg ?_ ?_
          · exact aa1 2 3 (Ks (a93 PySem.F.plainAttrs_list PySem.F.slot_list_pop PySem.F.type_list_pop a9f (pv 2)) (gn nd rfl (Or.inl rfl)))
          · refine cg ?_ ?_
            · exact Aq 1 (v7 (Dm PySem.F.plainAttrs_list PySem.F.slot_list_append PySem.F.type_list_append ux (pv 1) (jr (ak 3 (pv 3)) qz)))
            · exact dw (Ei 2 (v7 (Dm PySem.F.plainAttrs_list PySem.F.slot_list_extend PySem.F.type_list_extend Cv (pv 2) (jr (a77 (cu d_members_of hr (by rfl) (aj (ak 3 (pv 3)) c7) (au eq_nil))) qz))))
      · exact dw (jh (ak 1 (pv 1)))
theorem Us (F:Fun K "parts_of" "parts_of" Ey f fd) (hmg:mg "parts_of" = some (.ref f)) (d_members_of:dz P w K mg base "members_of" 1 ["remark"] (_root_.K.uq)) (b_len:mg "len" = none):dz P w K mg base "parts_of" 2 ["remark"] _root_.K.uz :=
  ⟨f,fd,Uz F d_members_of b_len,F.binds (ps:=["remark"]) fun _ _ _ _ _ _ us hl=>bd1 (fun _=>rfl) us hl,F.kp,hmg⟩
abbrev wj:Stmt:=top 5
theorem Ca:jg ["remark","boxes","part"] ["remark"] (dh wj):=⟨rfl,rfl,rfl,by decide +kernel,rfl,by decide +kernel,by decide +kernel⟩
theorem Hs (F:Fun K "boxes_from_left" "boxes_from_left" wj f fd) (d_boxes_of:dz P w K mg base "boxes_of" 1 ["one"] (_root_.K.uo)) (d_parts_of:dz P w K mg base "parts_of" 2 ["remark"] (_root_.K.uz)):Bf P w K mg base CX0 3 f fd ["remark"] (spF K (["remark"]:List Str).length _root_.K.n6):=by
  have d_boxes_of:=d_boxes_of.mono (show 1≤2 by first | decide | omega)
  have d_parts_of:=d_parts_of.mono (show 2≤2 by first | decide | omega)
  refine mq (N:=["remark","boxes","part"]) F Ca (by decide)  fun cdv A outer s H E B hr=>?_
  have hu:=yu hr
  have hq:=hr.units
  have nd:(["remark","boxes","part"]:List Str).Nodup:=Ca.nd
  refine cg ?_ ?_
  · exact Ba 1 (ig nd rfl (Or.inl rfl) (Ds c7 (gk d8 (by decide)))) (fun _ _ _ h=>h)
  · refine cg ?_ ?_
    · refine Cy ?_ ?_ ?_ ?_ ?_ ?_
      · exact PassesOwn.never
      · exact rfl
      · exact vf (cu d_parts_of hr (by rfl) (aj (ak 0 (pv 0)) c7) (au eq_nil))
      · exact rm 2 (gn nd rfl (Or.inl rfl))
      · refine dw ?_
        · refine yj ?_ ?_ ?_
          · exact ji (Mx hq) (jk hu (ak 2 (pv 2)) bf (fun _ _=>rfl)) (p8 (aj m7 (aj m7 c7)) (gk (bh (bh d8)) (by decide))) rfl
          · exact dw (Ei 1 (v7 (Dm PySem.F.plainAttrs_list PySem.F.slot_list_extend PySem.F.type_list_extend Cv (pv 1) (jr (cu d_boxes_of hr (by rfl) (aj (jk hu (ak 2 (pv 2)) bf (fun _ _=>rfl)) c7) (au eq_nil)) qz))))
          · exact qw
      · exact v8
    · exact dw (jh (ak 1 (pv 1)))
theorem Hy (F:Fun K "boxes_from_left" "boxes_from_left" wj f fd) (hmg:mg "boxes_from_left" = some (.ref f)) (d_boxes_of:dz P w K mg base "boxes_of" 1 ["one"] (_root_.K.uo)) (d_parts_of:dz P w K mg base "parts_of" 2 ["remark"] (_root_.K.uz)):dz P w K mg base "boxes_from_left" 3 ["remark"] _root_.K.n6 :=
  ⟨f,fd,Hs F d_boxes_of d_parts_of,F.binds (ps:=["remark"]) fun _ _ _ _ _ _ us hl=>bd1 (fun _=>rfl) us hl,F.kp,hmg⟩
abbrev za:Stmt:=top 6
theorem Dr:jg ["remark"] ["remark"] (dh za):=⟨rfl,rfl,rfl,by decide +kernel,rfl,by decide +kernel,by decide +kernel⟩
theorem Jg (F:Fun K "ats_from_left" "ats_from_left" za f fd) (d_parts_of:dz P w K mg base "parts_of" 2 ["remark"] (_root_.K.uz)):Bf P w K mg base CX0 3 f fd ["remark"] (spF K (["remark"]:List Str).length _root_.K.m9):=by
  have d_parts_of:=d_parts_of.mono (show 2≤2 by first | decide | omega)
  refine mq (N:=["remark"]) F Dr (by decide)  fun cdv A outer s H E B hr=>?_
  have hu:=yu hr
  have hq:=hr.units
  have nd:(["remark"]:List Str).Nodup:=Dr.nd
  refine dw ?_
  · refine jh ?_
    · refine uf ?_
      · refine zc (N:=["part"]) ?_ ?_ ?_ ?_ ?_ ?_ ?_ ?_
        · exact ⟨rfl,fun j k h=>match j,h with | _+0,h=>(by cases h)⟩
        · exact ⟨rfl,rfl,by decide +kernel,by decide +kernel⟩
        · exact rfl
        · exact vf (cu d_parts_of hr (by rfl) (aj (ak 0 (pv 0)) c7) (au eq_nil))
        · exact v8
        · exact fun C s₀ H₀ ex pn=>pgE fun B=>(rm 0 (gn (show (["part"]:List Str).Nodup by decide +kernel) rfl (Or.inl rfl)))
        · exact fun C s₀ H₀ ex pn=>(Gz fun B=>(ji (uc hq) (jk hu (ak 0 (pv 0)) bf (fun _ _=>rfl)) m7 (jj _)))
        · exact fun C s₀ H₀ ex pn=>peE fun B=>(ak 0 (pv 0))
theorem Jh (F:Fun K "ats_from_left" "ats_from_left" za f fd) (hmg:mg "ats_from_left" = some (.ref f)) (d_parts_of:dz P w K mg base "parts_of" 2 ["remark"] (_root_.K.uz)):dz P w K mg base "ats_from_left" 3 ["remark"] _root_.K.m9 :=
  ⟨f,fd,Jg F d_parts_of,F.binds (ps:=["remark"]) fun _ _ _ _ _ _ us hl=>bd1 (fun _=>rfl) us hl,F.kp,hmg⟩
abbrev Ez:Stmt:=top 7
theorem Kc:jg ["remark"] ["remark"] (dh Ez):=⟨rfl,rfl,rfl,by decide +kernel,rfl,by decide +kernel,by decide +kernel⟩
theorem Tr (F:Fun K "boxes_in" "boxes_in" Ez f fd) (d_boxes_from_left:dz P w K mg base "boxes_from_left" 3 ["remark"] (_root_.K.n6)) (b_set:mg "set" = none) (b_sorted:mg "sorted" = none):Bf P w K mg base CX0 4 f fd ["remark"] (aa3 K (["remark"]:List Str).length _root_.K.Ag):=by
  have d_boxes_from_left:=d_boxes_from_left.mono (show 3≤3 by first | decide | omega)
  refine Wi (N:=["remark"]) F Kc (by decide) (a0j _) fun cdv A outer s H E B hr=>?_
  have hu:=yu hr
  have hq:=hr.units
  have nd:(["remark"]:List Str).Nodup:=Kc.nd
  exact a5a (Jd rfl (by rfl) b_sorted (by rfl) b_set (cu d_boxes_from_left hr (by rfl) (aj (ak 0 (pv 0)) c7) (au eq_nil)))
theorem Uk (F:Fun K "boxes_in" "boxes_in" Ez f fd) (hmg:mg "boxes_in" = some (.ref f)) (d_boxes_from_left:dz P w K mg base "boxes_from_left" 3 ["remark"] (_root_.K.n6)) (b_set:mg "set" = none) (b_sorted:mg "sorted" = none):Fz P w K mg base "boxes_in" 4 ["remark"] _root_.K.Ag :=
  ⟨f,fd,Tr F d_boxes_from_left b_set b_sorted,F.binds (ps:=["remark"]) fun _ _ _ _ _ _ us hl=>bd1 (fun _=>rfl) us hl,F.kp,hmg⟩
abbrev Fe:Stmt:=top 8
theorem Lj:jg ["remark"] ["remark"] (dh Fe):=⟨rfl,rfl,rfl,by decide +kernel,rfl,by decide +kernel,by decide +kernel⟩
theorem U7 (F:Fun K "hands_in" "hands_in" Fe f fd) (d_ats_from_left:dz P w K mg base "ats_from_left" 3 ["remark"] (_root_.K.m9)) (b_set:mg "set" = none) (b_sorted:mg "sorted" = none):Bf P w K mg base CX0 4 f fd ["remark"] (spF K (["remark"]:List Str).length _root_.K.Ad):=by
  have d_ats_from_left:=d_ats_from_left.mono (show 3≤3 by first | decide | omega)
  refine mq (N:=["remark"]) F Lj (by decide)  fun cdv A outer s H E B hr=>?_
  have hu:=yu hr
  have hq:=hr.units
  have nd:(["remark"]:List Str).Nodup:=Lj.nd
  refine dw ?_
  · refine jh ?_
    · refine Ra ?_ ?_ ?_ ?_ ?_ ?_
      · exact rfl
      · exact by rfl
      · exact b_sorted
      · exact by rfl
      · exact b_set
      · refine uf ?_
        · refine zc (N:=["at"]) ?_ ?_ ?_ ?_ ?_ ?_ ?_ ?_
          · exact ⟨rfl,fun j k h=>match j,h with | _+0,h=>(by cases h)⟩
          · exact ⟨rfl,rfl,by decide +kernel,by decide +kernel⟩
          · exact rfl
          · exact vf (cu d_ats_from_left hr (by rfl) (aj (ak 0 (pv 0)) c7) (au eq_nil))
          · exact v8
          · exact fun C s₀ H₀ ex pn=>pgE fun B=>(rm 0 (gn (show (["at"]:List Str).Nodup by decide +kernel) rfl (Or.inl rfl)))
          · exact fun C s₀ H₀ ex pn=>yh
          · exact fun C s₀ H₀ ex pn=>peE fun B=>(jk hu (ak 0 (pv 0)) bf (fun _ _=>rfl))
theorem Uj (F:Fun K "hands_in" "hands_in" Fe f fd) (hmg:mg "hands_in" = some (.ref f)) (d_ats_from_left:dz P w K mg base "ats_from_left" 3 ["remark"] (_root_.K.m9)) (b_set:mg "set" = none) (b_sorted:mg "sorted" = none):dz P w K mg base "hands_in" 4 ["remark"] _root_.K.Ad :=
  ⟨f,fd,U7 F d_ats_from_left b_set b_sorted,F.binds (ps:=["remark"]) fun _ _ _ _ _ _ us hl=>bd1 (fun _=>rfl) us hl,F.kp,hmg⟩
abbrev Oa:Stmt:=top 11
theorem X5:jg ["names","others"] ["names","others"] (dh Oa):=⟨rfl,rfl,rfl,by decide +kernel,rfl,by decide +kernel,by decide +kernel⟩
theorem a4s (F:Fun K "meets" "meets" Oa f fd) (b_any:mg "any" = none):Bf P w K mg base CX0 1 f fd ["names","others"] (spF K (["names","others"]:List Str).length _root_.K.Dv):=by
  refine mq (N:=["names","others"]) F X5 (by decide)  fun cdv A outer s H E B hr=>?_
  have hu:=yu hr
  have hq:=hr.units
  have nd:(["names","others"]:List Str).Nodup:=X5.nd
  refine dw ?_
  · refine jh ?_
    · refine wg ?_
      · refine wz (a1v (by rfl)) ?_ ?_ PyProof.Rows.boot_any ?_
        · exact by rfl
        · exact b_any
        · refine aj ?_ ?_
          · refine uf ?_
            · refine zc (N:=["name","others"]) ?_ ?_ ?_ ?_ ?_ ?_ ?_ ?_
              · exact ⟨rfl,fun j k h=>match j,h with | 0,h=>(by cases h; exact ⟨_,rfl,rfl,⟨.inl rfl,.inr (.inl rfl),.inl rfl⟩⟩) | _+1,h=>(by cases h)⟩
              · exact ⟨rfl,rfl,by decide +kernel,by decide +kernel⟩
              · exact rfl
              · exact vf (ak 0 (pv 0))
              · exact v8
              · exact fun C s₀ H₀ ex pn=>pgE fun B=>(rm 0 (gn (show (["name","others"]:List Str).Nodup by decide +kernel) rfl (Or.inl rfl)))
              · exact fun C s₀ H₀ ex pn=>yh
              · exact fun C s₀ H₀ ex pn=>peE fun B=>(Nj (Mx hq) (ak 0 (pv 0)) (ak 1 (pv 1)) rfl)
          · exact c7
theorem a3o (F:Fun K "meets" "meets" Oa f fd) (hmg:mg "meets" = some (.ref f)) (b_any:mg "any" = none):dz P w K mg base "meets" 1 ["names","others"] _root_.K.Dv :=
  ⟨f,fd,a4s F b_any,F.binds (ps:=["names","others"]) fun _ _ _ _ _ _ us hl=>bd2 (fun _ _=>rfl) us hl,F.kp,hmg⟩
abbrev Bt:Stmt:=top 12
theorem Gm:jg ["step"] ["step"] (dh Bt):=⟨rfl,rfl,rfl,by decide +kernel,rfl,by decide +kernel,by decide +kernel⟩
theorem Oh (F:Fun K "changed_by" "changed_by" Bt f fd):Bf P w K mg base CX0 1 f fd ["step"] (spF K (["step"]:List Str).length _root_.K.mj):=by
  refine mq (N:=["step"]) F Gm (by decide)  fun cdv A outer s H E B hr=>?_
  have hu:=yu hr
  have hq:=hr.units
  have nd:(["step"]:List Str).Nodup:=Gm.nd
  refine dw ?_
  · refine jh ?_
    · refine jm ?_ ?_ ?_
      · exact ud
      · exact Az (aj (p8 (aj m7 (aj (jk hu (ak 0 (pv 0)) bf (fun _ _=>rfl)) c7)) (gk (bh (bh d8)) (by decide))) c7) (gk (bh d8) (by decide))
      · refine uf ?_
        · refine zc (N:=["box","one"]) ?_ ?_ ?_ ?_ ?_ ?_ ?_ ?_
          · exact ⟨rfl,fun j k h=>match j,h with | _+0,h=>(by cases h)⟩
          · exact ⟨rfl,rfl,by decide +kernel,by decide +kernel⟩
          · exact rfl
          · exact vf (jk hu (ak 0 (pv 0)) bf (fun _ _=>rfl))
          · exact v8
          · exact fun C s₀ H₀ ex pn=>pgE fun B=>(Fw (is:=[0,1]) (G5 rfl (ql (gn (show (["box","one"]:List Str).Nodup by decide +kernel) rfl (Or.inl rfl)) (ql (gn (show (["box","one"]:List Str).Nodup by decide +kernel) rfl (Or.inl rfl)) Cm))))
          · exact fun C s₀ H₀ ex pn=>yh
          · exact fun C s₀ H₀ ex pn=>peE fun B=>(p8 (aj m7 (aj (ak 0 (pv 0)) c7)) (gk (bh (bh d8)) (by decide)))
theorem Px (F:Fun K "changed_by" "changed_by" Bt f fd) (hmg:mg "changed_by" = some (.ref f)):dz P w K mg base "changed_by" 1 ["step"] _root_.K.mj :=
  ⟨f,fd,Oh F,F.binds (ps:=["step"]) fun _ _ _ _ _ _ us hl=>bd1 (fun _=>rfl) us hl,F.kp,hmg⟩
abbrev Et:Stmt:=top 13
theorem Le:jg ["step","hands","boxes","box","one"] ["step"] (dh Et):=⟨rfl,rfl,rfl,by decide +kernel,rfl,by decide +kernel,by decide +kernel⟩
theorem Tt (F:Fun K "named_by" "named_by" Et f fd) (d_boxes_in:Fz P w K mg base "boxes_in" 4 ["remark"] (_root_.K.Ag)) (d_boxes_of:dz P w K mg base "boxes_of" 1 ["one"] (_root_.K.uo)) (d_changed_by:dz P w K mg base "changed_by" 1 ["step"] (_root_.K.mj)) (d_hands_in:dz P w K mg base "hands_in" 4 ["remark"] (_root_.K.Ad)):Bf P w K mg base CX0 5 f fd ["step"] (spF K (["step"]:List Str).length _root_.K.yt):=by
  have d_boxes_in:=d_boxes_in.mono (show 4≤4 by first | decide | omega)
  have d_boxes_of:=d_boxes_of.mono (show 1≤4 by first | decide | omega)
  have d_changed_by:=d_changed_by.mono (show 1≤4 by first | decide | omega)
  have d_hands_in:=d_hands_in.mono (show 4≤4 by first | decide | omega)
  refine mq (N:=["step","hands","boxes","box","one"]) F Le (by decide)  fun cdv A outer s H E B hr=>?_
  have hu:=yu hr
  have hq:=hr.units
  have nd:(["step","hands","boxes","box","one"]:List Str).Nodup:=Le.nd
  refine cg ?_ ?_
  · exact jq 1 (ig nd rfl (Or.inl rfl) (cu d_hands_in hr (by rfl) (aj (jk hu (ak 0 (pv 0)) bf (fun _ _=>rfl)) c7) (au eq_nil))) (fun _ _ _ h=>h)
  · refine cg ?_ ?_
    · exact Ba 2 (ig nd rfl (Or.inl rfl) (Wz d_boxes_in hr (by rfl) (aj (jk hu (ak 0 (pv 0)) bf (fun _ _=>rfl)) c7) (au eq_nil))) (fun _ _ _ h=>h)
    · refine cg ?_ ?_
      · refine Cy ?_ ?_ ?_ ?_ ?_ ?_
        · exact PassesOwn.never
        · exact rfl
        · exact vf (jk hu (ak 0 (pv 0)) bf (fun _ _=>rfl))
        · exact Fw (is:=[3,4]) (G5 rfl (ql (gn nd rfl (Or.inl rfl)) (ql (gn nd rfl (Or.inl rfl)) Cm)))
        · exact dw (Ei 2 (v7 (Dm PySem.F.plainAttrs_list PySem.F.slot_list_extend PySem.F.type_list_extend Cv (pv 2) (jr (cu d_boxes_of hr (by rfl) (aj (ak 4 (pv 4)) c7) (au eq_nil)) qz))))
        · exact v8
      · refine dw ?_
        · refine jh ?_
          · refine jm ?_ ?_ ?_
            · exact ud
            · refine jm ?_ ?_ ?_
              · exact ud
              · exact cu d_changed_by hr (by rfl) (aj (ak 0 (pv 0)) c7) (au eq_nil)
              · refine uf ?_
                · refine zc (N:=["hand"]) ?_ ?_ ?_ ?_ ?_ ?_ ?_ ?_
                  · exact ⟨rfl,fun j k h=>match j,h with | _+0,h=>(by cases h)⟩
                  · exact ⟨rfl,rfl,by decide +kernel,by decide +kernel⟩
                  · exact rfl
                  · exact vf (ak 1 (pv 1))
                  · exact v8
                  · exact fun C s₀ H₀ ex pn=>pgE fun B=>(rm 0 (gn (show (["hand"]:List Str).Nodup by decide +kernel) rfl (Or.inl rfl)))
                  · exact fun C s₀ H₀ ex pn=>yh
                  · exact fun C s₀ H₀ ex pn=>peE fun B=>(p8 (aj m7 (aj (ak 0 (pv 0)) c7)) (gk (bh (bh d8)) (by decide)))
            · refine uf ?_
              · refine zc (N:=["box"]) ?_ ?_ ?_ ?_ ?_ ?_ ?_ ?_
                · exact ⟨rfl,fun j k h=>match j,h with | _+0,h=>(by cases h)⟩
                · exact ⟨rfl,rfl,by decide +kernel,by decide +kernel⟩
                · exact rfl
                · exact vf (ak 2 (pv 2))
                · exact v8
                · exact fun C s₀ H₀ ex pn=>pgE fun B=>(rm 0 (gn (show (["box"]:List Str).Nodup by decide +kernel) rfl (Or.inl rfl)))
                · exact fun C s₀ H₀ ex pn=>yh
                · exact fun C s₀ H₀ ex pn=>peE fun B=>(p8 (aj m7 (aj (ak 0 (pv 0)) c7)) (gk (bh (bh d8)) (by decide)))
theorem Ui (F:Fun K "named_by" "named_by" Et f fd) (hmg:mg "named_by" = some (.ref f)) (d_boxes_in:Fz P w K mg base "boxes_in" 4 ["remark"] (_root_.K.Ag)) (d_boxes_of:dz P w K mg base "boxes_of" 1 ["one"] (_root_.K.uo)) (d_changed_by:dz P w K mg base "changed_by" 1 ["step"] (_root_.K.mj)) (d_hands_in:dz P w K mg base "hands_in" 4 ["remark"] (_root_.K.Ad)):dz P w K mg base "named_by" 5 ["step"] _root_.K.yt :=
  ⟨f,fd,Tt F d_boxes_in d_boxes_of d_changed_by d_hands_in,F.binds (ps:=["step"]) fun _ _ _ _ _ _ us hl=>bd1 (fun _=>rfl) us hl,F.kp,hmg⟩
abbrev Jy:Stmt:=top 10
theorem Ru:jg ["program","one","other","first","second"] ["program","one","other"] (dh Jy):=⟨rfl,rfl,rfl,by decide +kernel,rfl,by decide +kernel,by decide +kernel⟩
theorem Ze (F:Fun K "parted" "parted" Jy f fd) (d_changed_by:dz P w K mg base "changed_by" 1 ["step"] (_root_.K.mj)) (d_meets:dz P w K mg base "meets" 1 ["names","others"] (_root_.K.Dv)) (d_named_by:dz P w K mg base "named_by" 5 ["step"] (_root_.K.yt)):Bf P w K mg base CX0 6 f fd ["program","one","other"] (spF K (["program","one","other"]:List Str).length _root_.K.Cg):=by
  have d_changed_by:=d_changed_by.mono (show 1≤5 by first | decide | omega)
  have d_meets:=d_meets.mono (show 1≤5 by first | decide | omega)
  have d_named_by:=d_named_by.mono (show 5≤5 by first | decide | omega)
  refine mq (N:=["program","one","other","first","second"]) F Ru (by decide)  fun cdv A outer s H E B hr=>?_
  have hu:=yu hr
  have hq:=hr.units
  have nd:(["program","one","other","first","second"]:List Str).Nodup:=Ru.nd
  refine cg ?_ ?_
  · exact jq 3 (ig nd rfl (Or.inl rfl) (jk hu (jk hu (ak 0 (pv 0)) bf (fun _ _=>rfl)) (ak 1 (pv 1)) (fun _ _=>rfl))) (fun _ _ _ h=>h)
  · refine cg ?_ ?_
    · exact jq 4 (ig nd rfl (Or.inl rfl) (jk hu (jk hu (ak 0 (pv 0)) bf (fun _ _=>rfl)) (ak 2 (pv 2)) (fun _ _=>rfl))) (fun _ _ _ h=>h)
    · refine dw ?_
      · refine jh ?_
        · refine Zc ?_
          · refine a98 ?_ ?_
            · exact cu d_meets hr (by rfl) (aj (cu d_changed_by hr (by rfl) (aj (ak 3 (pv 3)) c7) (au eq_nil)) (aj (cu d_named_by hr (by rfl) (aj (ak 4 (pv 4)) c7) (au eq_nil)) c7)) (au (au eq_nil))
            · exact X4 (cu d_meets hr (by rfl) (aj (cu d_changed_by hr (by rfl) (aj (ak 4 (pv 4)) c7) (au eq_nil)) (aj (cu d_named_by hr (by rfl) (aj (ak 3 (pv 3)) c7) (au eq_nil)) c7)) (au (au eq_nil)))
theorem a1l (F:Fun K "parted" "parted" Jy f fd) (hmg:mg "parted" = some (.ref f)) (d_changed_by:dz P w K mg base "changed_by" 1 ["step"] (_root_.K.mj)) (d_meets:dz P w K mg base "meets" 1 ["names","others"] (_root_.K.Dv)) (d_named_by:dz P w K mg base "named_by" 5 ["step"] (_root_.K.yt)):dz P w K mg base "parted" 6 ["program","one","other"] _root_.K.Cg :=
  ⟨f,fd,Ze F d_changed_by d_meets d_named_by,F.binds (ps:=["program","one","other"]) fun _ _ _ _ _ _ us hl=>bd3 (fun _ _ _=>rfl) us hl,F.kp,hmg⟩
abbrev v9:Stmt:=top 15
theorem Bo:jg ["numbers","places","place","number"] ["numbers"] (dh v9):=⟨rfl,rfl,rfl,by decide +kernel,rfl,by decide +kernel,by decide +kernel⟩
theorem G9 (F:Fun K "places_by_number" "places_by_number" v9 f fd) (b_enumerate:mg "enumerate" = none):Bf P w K mg base CX0 1 f fd ["numbers"] (aa3 K (["numbers"]:List Str).length _root_.K.m8):=by
  refine Wi (N:=["numbers","places","place","number"]) F Bo (by decide) (Vy (Vy (a4f _))) fun cdv A outer s H E B hr=>?_
  have hu:=yu hr
  have hq:=hr.units
  have nd:(["numbers","places","place","number"]:List Str).Nodup:=Bo.nd
  refine Vx ?_ ?_
  · exact Ba 1 (ig nd rfl (Or.inl rfl) Zb) (fun _ _ _ h=>h)
  · refine Vx ?_ ?_
    · refine Cy ?_ ?_ ?_ ?_ ?_ ?_
      · exact PassesOwn.never
      · exact rfl
      · exact a6s (by rfl) b_enumerate (ak 0 (pv 0))
      · exact Fw (is:=[2,3]) (G5 rfl (ql (gn nd rfl (Or.inl rfl)) (ql (gn nd rfl (Or.inl rfl)) Cm)))
      · refine dw ?_
        · refine Qe _ ?_
          · refine v7 ?_
            · exact Dm PySem.F.plainAttrs_list PySem.F.slot_list_append PySem.F.type_list_append ux (Dm PySem.F.plainAttrs_dict PySem.F.slot_dict_setdefault PySem.F.type_dict_setdefault Oe (pv 1) (jr (ak 3 (pv 3)) (jr (Ww qz) qz))) (jr (ak 2 (pv 2)) qz)
      · exact a8c
    · exact a6u 1 (pv 1)
theorem Gj (F:Fun K "places_by_number" "places_by_number" v9 f fd) (hmg:mg "places_by_number" = some (.ref f)) (b_enumerate:mg "enumerate" = none):Fz P w K mg base "places_by_number" 1 ["numbers"] _root_.K.m8 :=
  ⟨f,fd,G9 F b_enumerate,F.binds (ps:=["numbers"]) fun _ _ _ _ _ _ us hl=>bd1 (fun _=>rfl) us hl,F.kp,hmg⟩
abbrev zf:Stmt:=top 16
theorem Dp:jg ["program","numbers","clashes","one"] ["program","numbers"] (dh zf):=⟨rfl,rfl,rfl,by decide +kernel,rfl,by decide +kernel,by decide +kernel⟩
theorem Ji (F:Fun K "clashes_among" "clashes_among" zf f fd) (d_parted:dz P w K mg base "parted" 6 ["program","one","other"] (_root_.K.Cg)):Bf P w K mg base CX0 7 f fd ["program","numbers"] (spF K (["program","numbers"]:List Str).length _root_.K.o8):=by
  have d_parted:=d_parted.mono (show 6≤6 by first | decide | omega)
  refine mq (N:=["program","numbers","clashes","one"]) F Dp (by decide)  fun cdv A outer s H E B hr=>?_
  have hu:=yu hr
  have hq:=hr.units
  have nd:(["program","numbers","clashes","one"]:List Str).Nodup:=Dp.nd
  refine cg ?_ ?_
  · exact Ba 2 (ig nd rfl (Or.inl rfl) Zb) (fun _ _ _ h=>h)
  · refine cg ?_ ?_
    · refine Cy ?_ ?_ ?_ ?_ ?_ ?_
      · exact PassesOwn.never
      · exact rfl
      · exact vf (ak 1 (pv 1))
      · exact rm 3 (gn nd rfl (Or.inr rfl))
      · refine dw ?_
        · refine a1k _ ?_ ?_ ?_ ?_ ?_
          · exact hu
          · exact pv 2
          · exact ak 3 (pv 3)
          · refine uf ?_
            · refine zc (N:=["other","one","program"]) ?_ ?_ ?_ ?_ ?_ ?_ ?_ ?_
              · exact ⟨rfl,fun j k h=>match j,h with | 0,h=>(by cases h; exact ⟨_,rfl,rfl,⟨.inl rfl,.inr (.inl rfl),.inl rfl⟩⟩) | 1,h=>(by cases h; exact ⟨_,rfl,rfl,⟨.inl rfl,.inr (.inl rfl),.inl rfl⟩⟩) | _+2,h=>(by cases h)⟩
              · exact ⟨rfl,rfl,by decide +kernel,by decide +kernel⟩
              · exact rfl
              · exact vf (ak 1 (pv 1))
              · exact v8
              · exact fun C s₀ H₀ ex pn=>pgE fun B=>(rm 0 (gn (show (["other","one","program"]:List Str).Nodup by decide +kernel) rfl (Or.inl rfl)))
              · intro C s₀ H₀ ex pn
                exact Gz fun B=>(PW.pt (a2p (ji (K7 hq) (ak 0 (pv 0)) (ak 1 (pv 1)) (jj _)) (Tj (a1y (Wq (cu d_parted hr (by rfl) (aj (ak 2 (pv 2)) (aj (ak 1 (pv 1)) (aj (ak 0 (pv 0)) c7))) (au (au (au eq_nil)))))))))
              · exact fun C s₀ H₀ ex pn=>peE fun B=>(ak 0 (pv 0))
          · exact rfl
      · exact v8
    · exact dw (jh (ak 2 (pv 2)))
theorem Jj (F:Fun K "clashes_among" "clashes_among" zf f fd) (hmg:mg "clashes_among" = some (.ref f)) (d_parted:dz P w K mg base "parted" 6 ["program","one","other"] (_root_.K.Cg)):dz P w K mg base "clashes_among" 7 ["program","numbers"] _root_.K.o8 :=
  ⟨f,fd,Ji F d_parted,F.binds (ps:=["program","numbers"]) fun _ _ _ _ _ _ us hl=>bd2 (fun _ _=>rfl) us hl,F.kp,hmg⟩
abbrev Hx:Stmt:=top 17
theorem Nh:jg ["number","waiting","clashes","place"] ["number","waiting","clashes"] (dh Hx):=⟨rfl,rfl,rfl,by decide +kernel,rfl,by decide +kernel,by decide +kernel⟩
theorem Xj (F:Fun K "is_free" "is_free" Hx f fd) (b_all:mg "all" = none):Bf P w K mg base CX0 1 f fd ["number","waiting","clashes"] (spF K (["number","waiting","clashes"]:List Str).length _root_.K.uw):=by
  refine mq (N:=["number","waiting","clashes","place"]) F Nh (by decide)  fun cdv A outer s H E B hr=>?_
  have hu:=yu hr
  have hq:=hr.units
  have nd:(["number","waiting","clashes","place"]:List Str).Nodup:=Nh.nd
  refine cg ?_ ?_
  · exact jq 3 (ig nd rfl (Or.inr rfl) (yx (jk hu (ak 1 (pv 1)) (ak 0 (pv 0)) (fun _ _=>rfl)) bf (fun _ _=>rfl))) (fun _ _ _ h=>h)
  · refine dw ?_
    · refine jh ?_
      · refine wg ?_
        · refine wz (a01 (by rfl)) ?_ ?_ PyProof.Rows.boot_all ?_
          · exact by rfl
          · exact b_all
          · refine aj ?_ ?_
            · refine uf ?_
              · refine zc (N:=["other","waiting","place"]) ?_ ?_ ?_ ?_ ?_ ?_ ?_ ?_
                · exact ⟨rfl,fun j k h=>match j,h with | 0,h=>(by cases h; exact ⟨_,rfl,rfl,⟨.inl rfl,.inr (.inl rfl),.inl rfl⟩⟩) | 1,h=>(by cases h; exact ⟨_,rfl,rfl,⟨.inl rfl,.inr (.inl rfl),.inl rfl⟩⟩) | _+2,h=>(by cases h)⟩
                · exact ⟨rfl,rfl,by decide +kernel,by decide +kernel⟩
                · exact rfl
                · exact vf (jk hu (ak 2 (pv 2)) (ak 0 (pv 0)) (fun _ _=>rfl))
                · exact v8
                · exact fun C s₀ H₀ ex pn=>pgE fun B=>(rm 0 (gn (show (["other","waiting","place"]:List Str).Nodup by decide +kernel) rfl (Or.inl rfl)))
                · exact fun C s₀ H₀ ex pn=>yh
                · exact fun C s₀ H₀ ex pn=>peE fun B=>(a98 (Nj (a05 hq) (ak 0 (pv 0)) (ak 1 (pv 1)) rfl) (X4 (Nj a2i (yx (jk hu (ak 1 (pv 1)) (ak 0 (pv 0)) (fun _ _=>rfl)) bf (fun _ _=>rfl)) (ak 2 (pv 2)) (jj _))))
            · exact c7
theorem Yt (F:Fun K "is_free" "is_free" Hx f fd) (hmg:mg "is_free" = some (.ref f)) (b_all:mg "all" = none):dz P w K mg base "is_free" 1 ["number","waiting","clashes"] _root_.K.uw :=
  ⟨f,fd,Xj F b_all,F.binds (ps:=["number","waiting","clashes"]) fun _ _ _ _ _ _ us hl=>bd3 (fun _ _ _=>rfl) us hl,F.kp,hmg⟩
abbrev Fj:Stmt:=top 14
theorem Kd:jg ["program","numbers","waiting","clashes","told","number"] ["program","numbers"] (dh Fj):=⟨rfl,rfl,rfl,by decide +kernel,rfl,by decide +kernel,by decide +kernel⟩
theorem V5 (F:Fun K "straight" "straight" Fj f fd) (d_clashes_among:dz P w K mg base "clashes_among" 7 ["program","numbers"] (_root_.K.o8)) (d_is_free:dz P w K mg base "is_free" 1 ["number","waiting","clashes"] (_root_.K.uw)) (d_places_by_number:Fz P w K mg base "places_by_number" 1 ["numbers"] (_root_.K.m8)) (b_len:mg "len" = none) (b_list:mg "list" = none) (b_min:mg "min" = none):Bf P w K mg base CX0 8 f fd ["program","numbers"] (spF K (["program","numbers"]:List Str).length _root_.K.yr):=by
  have d_clashes_among:=d_clashes_among.mono (show 7≤7 by first | decide | omega)
  have d_is_free:=d_is_free.mono (show 1≤7 by first | decide | omega)
  have d_places_by_number:=d_places_by_number.mono (show 1≤7 by first | decide | omega)
  refine mq (N:=["program","numbers","waiting","clashes","told","number"]) F Kd (by decide)  fun cdv A outer s H E B hr=>?_
  have hu:=yu hr
  have hq:=hr.units
  have nd:(["program","numbers","waiting","clashes","told","number"]:List Str).Nodup:=Kd.nd
  refine cg ?_ ?_
  · exact Ba 2 (ig nd rfl (Or.inr rfl) (Wz d_places_by_number hr (by rfl) (aj (ak 1 (pv 1)) c7) (au eq_nil))) (fun _ _ _ h=>h)
  · refine cg ?_ ?_
    · exact jq 3 (ig nd rfl (Or.inr rfl) (cu d_clashes_among hr (by rfl) (aj (ak 0 (pv 0)) (aj (Xw 2 rfl (by rfl) b_list (pv 2)) c7)) (au (au eq_nil)))) (fun _ _ _ h=>h)
    · refine cg ?_ ?_
      · exact Ba 4 (ig nd rfl (Or.inl rfl) (Ds c7 (gk d8 (by decide)))) (fun _ _ _ h=>h)
      · refine cg ?_ ?_
        · refine Pg _ ?_ ?_ ?_
          · exact PassesOwn.never
          · exact ji a2i (Lb 2 b_len rfl (pv 2)) bf (jj _)
          · refine cg ?_ ?_
            · refine @jq _ _ _ _ (tOf _ _ _) _ ?_ (fun _ _ _ h=>h)
              · refine ig ?_ ?_ ?_ ?_
                · exact nd
                · exact rfl
                · exact Or.inl rfl
                · refine a3i [2] ?_
                  · intro B
                    refine wg ?_
                    · refine wz (a0q (by rfl)) ?_ ?_ PyProof.Rows.boot_min ?_
                      · exact by rfl
                      · exact b_min
                      · refine aj ?_ ?_
                        · refine uf ?_
                          · refine a3w (N:=["one","waiting","clashes"]) ?_ ?_ ?_ ?_ ?_ ?_ ?_
                            · exact ⟨rfl,fun j k h=>match j,h with | 0,h=>(by cases h; exact ⟨_,rfl,rfl,⟨.inl rfl,.inr (.inl rfl),.inl rfl⟩⟩) | 1,h=>(by cases h; exact ⟨_,rfl,rfl,⟨.inl rfl,.inr (.inl rfl),.inl rfl⟩⟩) | _+2,h=>(by cases h)⟩
                            · exact ⟨rfl,rfl,by decide +kernel,by decide +kernel⟩
                            · exact rfl
                            · exact pv 2
                            · exact fun C s₀ H₀ ex pn=>pgE fun B=>(rm 0 (gn (show (["one","waiting","clashes"]:List Str).Nodup by decide +kernel) rfl (Or.inl rfl)))
                            · exact fun C s₀ H₀ ex pn=>(Gz fun B=>(Wq (cu d_is_free hr (by rfl) (aj (ak 0 (pv 0)) (aj (ak 1 (pv 1)) (aj (ak 2 (pv 2)) c7))) (au (au (au eq_nil))))))
                            · exact fun C s₀ H₀ ex pn=>peE fun B=>(ak 0 (pv 0))
                        · exact c7
            · refine cg ?_ ?_
              · exact Aq 4 (v7 (Dm PySem.F.plainAttrs_list PySem.F.slot_list_append PySem.F.type_list_append ux (pv 4) (jr (ak 5 (pv 5)) qz)))
              · refine cg ?_ ?_
                · exact a7q (v7 (Dm PySem.F.plainAttrs_list PySem.F.slot_list_pop PySem.F.type_list_pop W7 (Nm 2 hu (pv 2) (ak 5 (pv 5)) (fun _ _=>rfl)) (jr bf qz)))
                · exact dw (yj (ji (uc hq) (Rh (by rfl) b_len (Nm 2 hu (pv 2) (ak 5 (pv 5)) (fun _ _=>rfl))) bf (jj _))   (dw (a2g 2 (v7 (a3a (pv 2) (ak 5 (pv 5)) ⟨rfl,rfl,rfl,rfl⟩))))   qw)
        · exact dw (jh (ak 4 (pv 4)))
theorem Ut (F:Fun K "straight" "straight" Fj f fd) (hmg:mg "straight" = some (.ref f)) (d_clashes_among:dz P w K mg base "clashes_among" 7 ["program","numbers"] (_root_.K.o8)) (d_is_free:dz P w K mg base "is_free" 1 ["number","waiting","clashes"] (_root_.K.uw)) (d_places_by_number:Fz P w K mg base "places_by_number" 1 ["numbers"] (_root_.K.m8)) (b_len:mg "len" = none) (b_list:mg "list" = none) (b_min:mg "min" = none):dz P w K mg base "straight" 8 ["program","numbers"] _root_.K.yr :=
  ⟨f,fd,V5 F d_clashes_among d_is_free d_places_by_number b_len b_list b_min,F.binds (ps:=["program","numbers"]) fun _ _ _ _ _ _ us hl=>bd2 (fun _ _=>rfl) us hl,F.kp,hmg⟩
abbrev Bc:Stmt:=top 19
theorem G3:jg ["_law_script","_law_k"] ["_law_script","_law_k"] (dh Bc):=⟨rfl,rfl,rfl,by decide +kernel,rfl,by decide +kernel,by decide +kernel⟩
theorem Mp (F:Fun K "_law_cell_at" "_law_cell_at" Bc f fd) (b_len:mg "len" = none):Bf P w K mg base CX0 1 f fd ["_law_script","_law_k"] (spF K (["_law_script","_law_k"]:List Str).length _root_.K.m6):=by
  refine mq (N:=["_law_script","_law_k"]) F G3 (by decide)  fun cdv A outer s H E B hr=>?_
  have hu:=yu hr
  have hq:=hr.units
  have nd:(["_law_script","_law_k"]:List Str).Nodup:=G3.nd
  exact cg (yj (ji Rb (ak 1 (pv 1)) (wg (wz Gq (by rfl) b_len PySem.boot_len (aj (ak 0 (pv 0)) c7))) (jj _))   (dw (jh (jk hu (ak 0 (pv 0)) (ak 1 (pv 1)) (fun _ _=>rfl))))   qw)   (dw (jh bf))
theorem Ml (F:Fun K "_law_cell_at" "_law_cell_at" Bc f fd) (hmg:mg "_law_cell_at" = some (.ref f)) (b_len:mg "len" = none):dz P w K mg base "_law_cell_at" 1 ["_law_script","_law_k"] _root_.K.m6 :=
  ⟨f,fd,Mp F b_len,F.binds (ps:=["_law_script","_law_k"]) fun _ _ _ _ _ _ us hl=>bd2 (fun _ _=>rfl) us hl,F.kp,hmg⟩
abbrev Fi:Stmt:=top 20
theorem Lf:jg ["_law_stream","_law_many","_law_found"] ["_law_stream","_law_many"] (dh Fi):=⟨rfl,rfl,rfl,by decide +kernel,rfl,by decide +kernel,by decide +kernel⟩
theorem Ul (F:Fun K "_law_pick" "_law_pick" Fi f fd) (b_len:mg "len" = none):Bf P w K mg base CX0 1 f fd ["_law_stream","_law_many"] (spF K (["_law_stream","_law_many"]:List Str).length _root_.K.cj):=by
  refine mq (N:=["_law_stream","_law_many","_law_found"]) F Lf (by decide)  fun cdv A outer s H E B hr=>?_
  have hu:=yu hr
  have hq:=hr.units
  have nd:(["_law_stream","_law_many","_law_found"]:List Str).Nodup:=Lf.nd
  refine cg ?_ ?_
  · refine yj ?_ ?_ ?_
    · exact ji (uc hq) (Rh (by rfl) b_len (ak 0 (pv 0))) bf (jj _)
    · exact dw (a2r 0 (v7 (Dm PySem.F.plainAttrs_list PySem.F.slot_list_append PySem.F.type_list_append ux (pv 0) (jr (yx (ak 0 (pv 0)) bf (fun _ _=>rfl)) qz))))
    · exact qw
  · refine cg ?_ ?_
    · refine yj ?_ ?_ ?_
      · refine PW.pt ?_
        · refine a2p ?_ ?_
          · exact ji (uc hq) (yx (ak 0 (pv 0)) bf (fun _ _=>rfl)) bf (jj _)
          · exact Tj (ji (Mx hq) (yx (ak 0 (pv 0)) bf (fun _ _=>rfl)) (Az (aj bf (aj (aaq a2b bf) c7)) (gk (bh (bh d8)) (by decide))) rfl)
      · exact cg (Jq (Ks (jm ud (yx (ak 0 (pv 0)) bf (fun _ _=>rfl)) bf) (Vd (ak 0 (pv 0)) bf set_list)))   (dw (Jq (Ks bf (Vd (ak 0 (pv 0)) bf set_list))))
      · exact qw
    · refine cg ?_ ?_
      · refine yj ?_ ?_ ?_
        · exact ji (uc hq) (yx (ak 0 (pv 0)) bf (fun _ _=>rfl)) bf (jj _)
        · refine cg ?_ ?_
          · exact jq 2 (ig nd rfl (Or.inl rfl) (jm Aa (yx (ak 0 (pv 0)) bf (fun _ _=>rfl)) (ak 1 (pv 1)))) (fun _ _ _ h=>h)
          · exact cg (Jq (Ks (jm Fg (yx (ak 0 (pv 0)) bf (fun _ _=>rfl)) (ak 1 (pv 1))) (Vd (ak 0 (pv 0)) bf set_list)))   (dw (jh (ak 2 (pv 2))))
        · exact qw
      · refine cg ?_ ?_
        · exact Jq (Ks (jm Aa (jm ud (jm Gd (jm Aa (yx (ak 0 (pv 0)) bf (fun _ _=>rfl)) bf) bf) bf) bf) (Vd (ak 0 (pv 0)) bf set_list))
        · exact dw (jh (jm Aa (jm Fg (jm Aa (jm Gd (yx (ak 0 (pv 0)) bf (fun _ _=>rfl)) bf) bf) bf) (ak 1 (pv 1))))
theorem Ti (F:Fun K "_law_pick" "_law_pick" Fi f fd) (hmg:mg "_law_pick" = some (.ref f)) (b_len:mg "len" = none):dz P w K mg base "_law_pick" 1 ["_law_stream","_law_many"] _root_.K.cj :=
  ⟨f,fd,Ul F b_len,F.binds (ps:=["_law_stream","_law_many"]) fun _ _ _ _ _ _ us hl=>bd2 (fun _ _=>rfl) us hl,F.kp,hmg⟩
abbrev Fd:Stmt:=top 21
theorem K9:jg ["_law_cell","_law_k","_law_size","_law_place"] ["_law_cell","_law_k"] (dh Fd):=⟨rfl,rfl,rfl,by decide +kernel,rfl,by decide +kernel,by decide +kernel⟩
theorem U3 (F:Fun K "_law_name" "_law_name" Fd f fd):Bf P w K mg base CX0 1 f fd ["_law_cell","_law_k"] (spF K (["_law_cell","_law_k"]:List Str).length _root_.K.u6):=by
  refine mq (N:=["_law_cell","_law_k","_law_size","_law_place"]) F K9 (by decide)  fun cdv A outer s H E B hr=>?_
  have hu:=yu hr
  have hq:=hr.units
  have nd:(["_law_cell","_law_k","_law_size","_law_place"]:List Str).Nodup:=K9.nd
  refine cg ?_ ?_
  · refine yj ?_ ?_ ?_
    · exact ji (uc hq) (jm Aa (jm Fg (ak 0 (pv 0)) bf) bf) bf (jj _)
    · refine dw ?_
      · refine jh ?_
        · refine jk ?_ ?_ ?_ ?_
          · exact hu
          · refine Az ?_ ?_
            · exact a0p (.cons (.cons (.cons (.cons (.cons (.cons (.cons (.cons (.cons (.cons .nil))))))))))
            · exact gk (len_strs _) (by decide)
          · exact jm Aa (ak 1 (pv 1)) bf
          · exact fun _ _=>rfl
    · exact qw
  · refine cg ?_ ?_
    · exact jq 2 (ig nd rfl (Or.inl rfl) (jm ud bf (jm Aa (ak 0 (pv 0)) bf))) (fun _ _ _ h=>h)
    · refine cg ?_ ?_
      · exact jq 3 (ig nd rfl (Or.inl rfl) (jm Aa (jm Fg (ak 0 (pv 0)) bf) (ak 2 (pv 2)))) (fun _ _ _ h=>h)
      · refine dw ?_
        · refine jh ?_
          · refine jm ?_ ?_ ?_
            · exact ud
            · exact jm ud (jm Gd m7 (ak 3 (pv 3))) (jk hu m7 (jm Aa (jm ud (jm Gd bf (ak 1 (pv 1))) (jm Fg (ak 0 (pv 0)) bf)) bf) (fun _ _=>rfl))
            · exact jm Gd m7 (jm Ae (jm Ae (ak 2 (pv 2)) bf) (ak 3 (pv 3)))
theorem Tf (F:Fun K "_law_name" "_law_name" Fd f fd) (hmg:mg "_law_name" = some (.ref f)):dz P w K mg base "_law_name" 1 ["_law_cell","_law_k"] _root_.K.u6 :=
  ⟨f,fd,U3 F,F.binds (ps:=["_law_cell","_law_k"]) fun _ _ _ _ _ _ us hl=>bd2 (fun _ _=>rfl) us hl,F.kp,hmg⟩
abbrev Hw:Stmt:=top 22
theorem Nu:jg ["_law_stream","_law_boxes_here","_law_number","_law_parts","_law_box","_law_times_of"] ["_law_stream","_law_boxes_here"] (dh Hw):=⟨rfl,rfl,rfl,by decide +kernel,rfl,by decide +kernel,by decide +kernel⟩
theorem Yj (F:Fun K "_law_sum" "_law_sum" Hw f fd) (d_law_pick:dz P w K mg base "_law_pick" 1 ["_law_stream","_law_many"] (_root_.K.cj)) (b_sorted:mg "sorted" = none) (b_tuple:mg "tuple" = none):Bf P w K mg base CX0 2 f fd ["_law_stream","_law_boxes_here"] (spF K (["_law_stream","_law_boxes_here"]:List Str).length _root_.K.xr):=by
  have d_law_pick:=d_law_pick.mono (show 1≤1 by first | decide | omega)
  refine mq (N:=["_law_stream","_law_boxes_here","_law_number","_law_parts","_law_box","_law_times_of"]) F Nu (by decide)  fun cdv A outer s H E B hr=>?_
  have hu:=yu hr
  have hq:=hr.units
  have nd:(["_law_stream","_law_boxes_here","_law_number","_law_parts","_law_box","_law_times_of"]:List Str).Nodup:=Nu.nd
  refine cg ?_ ?_
  · exact jq 2 (ig nd rfl (Or.inl rfl) (jm Ae (cu d_law_pick hr (by rfl) (aj (ak 0 (pv 0)) (aj bf c7)) (au (au eq_nil))) bf)) (fun _ _ _ h=>h)
  · refine cg ?_ ?_
    · refine yj ?_ ?_ ?_
      · exact ji (uc hq) (cu d_law_pick hr (by rfl) (aj (ak 0 (pv 0)) (aj bf c7)) (au (au eq_nil))) bf (jj _)
      · refine dw ?_
        · refine @jq _ _ _ _ (tOf _ _ _) _ ?_ (fun _ _ _ h=>h)
          · exact ig nd rfl (Or.inl rfl) (jm Ae (cu d_law_pick hr (by rfl) (aj (ak 0 (pv 0)) (aj (jm Ae (jm Gd bf (jm Oo bf bf)) bf) c7)) (au (au eq_nil))) (jm Ae (jm Oo bf bf) bf))
      · exact qw
    · refine cg ?_ ?_
      · exact Ba 3 (ig nd rfl (Or.inl rfl) (Ds c7 (gk d8 (by decide)))) (fun _ _ _ h=>h)
      · refine cg ?_ ?_
        · refine Cy ?_ ?_ ?_ ?_ ?_ ?_
          · exact PassesOwn.never
          · exact rfl
          · exact vf (wg (wz (J9 (by rfl)) (by rfl) b_sorted PyProof.Rows.boot_sorted (aj (ak 1 (pv 1)) c7)))
          · exact rm 4 (gn nd rfl (Or.inl rfl))
          · refine cg ?_ ?_
            · refine @jq _ _ _ _ (tOf _ _ _) _ ?_ (fun _ _ _ h=>h)
              · refine ig ?_ ?_ ?_ ?_
                · exact nd
                · exact rfl
                · exact Or.inl rfl
                · refine jk ?_ ?_ ?_ ?_
                  · exact hu
                  · refine Az ?_ ?_
                    · exact aj bf (aj bf (aj bf (aj bf (aj (aaq a2b bf) (aj bf (aj (jm Ae (cu d_law_pick hr (by rfl) (aj (ak 0 (pv 0)) (aj bf c7)) (au (au eq_nil))) bf) c7))))))
                    · exact gk (bh (bh (bh (bh (bh (bh (bh d8))))))) (by decide)
                  · exact cu d_law_pick hr (by rfl) (aj (ak 0 (pv 0)) (aj bf c7)) (au (au eq_nil))
                  · exact fun _ _=>rfl
            · refine dw ?_
              · refine yj ?_ ?_ ?_
                · exact ji (K7 hq) (ak 5 (pv 5)) bf (jj _)
                · exact dw (Aq 3 (v7 (Dm PySem.F.plainAttrs_list PySem.F.slot_list_append PySem.F.type_list_append ux (pv 3) (jr (p8 (aj (ak 4 (pv 4)) (aj (ak 5 (pv 5)) c7)) (gk (bh (bh d8)) (by decide))) qz))))
                · exact qw
          · exact v8
        · exact dw (jh (p8 (aj (ak 2 (pv 2)) (aj (wg (Dd Gh (by rfl) b_tuple PyProof.Rows.boot_tuple (aj (ak 3 (pv 3)) c7))) c7)) (gk (bh (bh d8)) (by decide))))
theorem Xq (F:Fun K "_law_sum" "_law_sum" Hw f fd) (hmg:mg "_law_sum" = some (.ref f)) (d_law_pick:dz P w K mg base "_law_pick" 1 ["_law_stream","_law_many"] (_root_.K.cj)) (b_sorted:mg "sorted" = none) (b_tuple:mg "tuple" = none):dz P w K mg base "_law_sum" 2 ["_law_stream","_law_boxes_here"] _root_.K.xr :=
  ⟨f,fd,Yj F d_law_pick b_sorted b_tuple,F.binds (ps:=["_law_stream","_law_boxes_here"]) fun _ _ _ _ _ _ us hl=>bd2 (fun _ _=>rfl) us hl,F.kp,hmg⟩
abbrev Ce:Stmt:=top 23
theorem Hl:jg ["_law_stream","_law_boxes_here","_law_hands","_law_way","_law_hand","_law_places","_law_one"] ["_law_stream","_law_boxes_here","_law_hands"] (dh Ce):=⟨rfl,rfl,rfl,by decide +kernel,rfl,by decide +kernel,by decide +kernel⟩
theorem Ph (F:Fun K "_law_simple" "_law_simple" Ce f fd) (d_law_pick:dz P w K mg base "_law_pick" 1 ["_law_stream","_law_many"] (_root_.K.cj)) (d_law_sum:dz P w K mg base "_law_sum" 2 ["_law_stream","_law_boxes_here"] (_root_.K.xr)) (b_len:mg "len" = none):Bf P w K mg base CX0 3 f fd ["_law_stream","_law_boxes_here","_law_hands"] (spF K (["_law_stream","_law_boxes_here","_law_hands"]:List Str).length _root_.K.nq):=by
  have d_law_pick:=d_law_pick.mono (show 1≤2 by first | decide | omega)
  have d_law_sum:=d_law_sum.mono (show 2≤2 by first | decide | omega)
  refine mq (N:=["_law_stream","_law_boxes_here","_law_hands","_law_way","_law_hand","_law_places","_law_one"]) F Hl (by decide)  fun cdv A outer s H E B hr=>?_
  have hu:=yu hr
  have hq:=hr.units
  have nd:(["_law_stream","_law_boxes_here","_law_hands","_law_way","_law_hand","_law_places","_law_one"]:List Str).Nodup:=Hl.nd
  refine cg ?_ ?_
  · exact jq 3 (ig nd rfl (Or.inl rfl) (cu d_law_pick hr (by rfl) (aj (ak 0 (pv 0)) (aj bf c7)) (au (au eq_nil)))) (fun _ _ _ h=>h)
  · refine cg ?_ ?_
    · refine yj ?_ ?_ ?_
      · exact ji (uc hq) (ak 3 (pv 3)) bf (jj _)
      · refine cg ?_ ?_
        · refine aag ?_
          · refine Ks ?_ ?_
            · exact jk hu (ak 2 (pv 2)) (cu d_law_pick hr (by rfl) (aj (ak 0 (pv 0)) (aj (wg (wz Gq (by rfl) b_len PySem.boot_len (aj (ak 2 (pv 2)) c7))) c7)) (au (au eq_nil))) (fun _ _=>rfl)
            · exact Fw (is:=[4,5]) (G5 rfl (ql (gn nd rfl (Or.inl rfl)) (ql (gn nd rfl (Or.inl rfl)) Cm)))
        · exact dw (jh (p8 (aj m7 (aj (ak 4 (pv 4)) (aj (cu d_law_pick hr (by rfl) (aj (ak 0 (pv 0)) (aj (ak 5 (pv 5)) c7)) (au (au eq_nil))) c7))) (gk (bh (bh (bh d8))) (by decide))))
      · exact qw
    · refine cg ?_ ?_
      · exact jq 6 (ig nd rfl (Or.inl rfl) (cu d_law_sum hr (by rfl) (aj (ak 0 (pv 0)) (aj (ak 1 (pv 1)) c7)) (au (au eq_nil)))) (fun _ _ _ h=>h)
      · refine cg ?_ ?_
        · refine yj ?_ ?_ ?_
          · exact ji (uc hq) (ak 3 (pv 3)) bf (jj _)
          · exact dw (jh (p8 (aj m7 (aj (ak 6 (pv 6)) (aj (jm ud bf (cu d_law_pick hr (by rfl) (aj (ak 0 (pv 0)) (aj bf c7)) (au (au eq_nil)))) c7))) (gk (bh (bh (bh d8))) (by decide))))
          · exact qw
        · exact dw (jh (p8 (aj m7 (aj (ak 6 (pv 6)) c7)) (gk (bh (bh d8)) (by decide))))
theorem O1 (F:Fun K "_law_simple" "_law_simple" Ce f fd) (hmg:mg "_law_simple" = some (.ref f)) (d_law_pick:dz P w K mg base "_law_pick" 1 ["_law_stream","_law_many"] (_root_.K.cj)) (d_law_sum:dz P w K mg base "_law_sum" 2 ["_law_stream","_law_boxes_here"] (_root_.K.xr)) (b_len:mg "len" = none):dz P w K mg base "_law_simple" 3 ["_law_stream","_law_boxes_here","_law_hands"] _root_.K.nq :=
  ⟨f,fd,Ph F d_law_pick d_law_sum b_len,F.binds (ps:=["_law_stream","_law_boxes_here","_law_hands"]) fun _ _ _ _ _ _ us hl=>bd3 (fun _ _ _=>rfl) us hl,F.kp,hmg⟩
abbrev Bv:Stmt:=top 24
theorem Hf:jg ["_law_stream","_law_boxes_here","_law_hands","_law_way","_law_one","_law_two","_law_others"] ["_law_stream","_law_boxes_here","_law_hands"] (dh Bv):=⟨rfl,rfl,rfl,by decide +kernel,rfl,by decide +kernel,by decide +kernel⟩
theorem P0 (F:Fun K "_law_remark" "_law_remark" Bv f fd) (d_law_pick:dz P w K mg base "_law_pick" 1 ["_law_stream","_law_many"] (_root_.K.cj)) (d_law_simple:dz P w K mg base "_law_simple" 3 ["_law_stream","_law_boxes_here","_law_hands"] (_root_.K.nq)) (b_range:mg "range" = none) (b_tuple:mg "tuple" = none):Bf P w K mg base CX0 4 f fd ["_law_stream","_law_boxes_here","_law_hands"] (spF K (["_law_stream","_law_boxes_here","_law_hands"]:List Str).length _root_.K.vm):=by
  have d_law_pick:=d_law_pick.mono (show 1≤3 by first | decide | omega)
  have d_law_simple:=d_law_simple.mono (show 3≤3 by first | decide | omega)
  refine mq (N:=["_law_stream","_law_boxes_here","_law_hands","_law_way","_law_one","_law_two","_law_others"]) F Hf (by decide)  fun cdv A outer s H E B hr=>?_
  have hu:=yu hr
  have hq:=hr.units
  have nd:(["_law_stream","_law_boxes_here","_law_hands","_law_way","_law_one","_law_two","_law_others"]:List Str).Nodup:=Hf.nd
  refine cg ?_ ?_
  · exact jq 3 (ig nd rfl (Or.inl rfl) (cu d_law_pick hr (by rfl) (aj (ak 0 (pv 0)) (aj bf c7)) (au (au eq_nil)))) (fun _ _ _ h=>h)
  · refine cg ?_ ?_
    · exact yj (ji Rb (ak 3 (pv 3)) bf (jj _))   (dw (jh (p8 (aj m7 (aj (p8 c7 (gk d8 (by decide))) c7)) (gk (bh (bh d8)) (by decide)))))   qw
    · refine cg ?_ ?_
      · exact jq 4 (ig nd rfl (Or.inl rfl) (cu d_law_simple hr (by rfl) (aj (ak 0 (pv 0)) (aj (ak 1 (pv 1)) (aj (ak 2 (pv 2)) c7))) (au (au (au eq_nil))))) (fun _ _ _ h=>h)
      · refine cg ?_ ?_
        · exact yj (ji Rb (ak 3 (pv 3)) bf (jj _))   (dw (jh (ak 4 (pv 4))))   qw
        · refine cg ?_ ?_
          · exact yj (ji (uc hq) (ak 3 (pv 3)) bf (jj _))   (dw (jh (p8 (aj m7 (aj (ak 4 (pv 4)) c7)) (gk (bh (bh d8)) (by decide)))))   qw
          · refine cg ?_ ?_
            · refine @jq _ _ _ _ (tOf _ _ _) _ ?_ (fun _ _ _ h=>h)
              · refine ig ?_ ?_ ?_ ?_
                · exact nd
                · exact rfl
                · exact Or.inl rfl
                · refine p8 ?_ ?_
                  · refine aj ?_ ?_
                    · exact jk hu (Az (aj m7 (aj m7 c7)) (gk (bh (bh d8)) (by decide))) (jm Aa (ak 3 (pv 3)) bf) (fun _ _=>rfl)
                    · exact aj (p8 (aj (ak 4 (pv 4)) (aj (cu d_law_simple hr (by rfl) (aj (ak 0 (pv 0)) (aj (ak 1 (pv 1)) (aj (ak 2 (pv 2)) c7))) (au (au (au eq_nil)))) c7)) (gk (bh (bh d8)) (by decide))) c7
                  · exact gk (bh (bh d8)) (by decide)
            · refine cg ?_ ?_
              · exact yj (ji Rb (ak 3 (pv 3)) bf (jj _))   (dw (jh (ak 5 (pv 5))))   qw
              · refine cg ?_ ?_
                · refine yj ?_ ?_ ?_
                  · exact ji (uc hq) (ak 3 (pv 3)) bf (jj _)
                  · refine dw ?_
                    · refine jh ?_
                      · refine p8 ?_ ?_
                        · refine aj ?_ ?_
                          · exact m7
                          · refine aj ?_ ?_
                            · refine p8 ?_ ?_
                              · refine aj ?_ ?_
                                · exact jk hu (Az (aj m7 (aj m7 c7)) (gk (bh (bh d8)) (by decide))) (cu d_law_pick hr (by rfl) (aj (ak 0 (pv 0)) (aj bf c7)) (au (au eq_nil))) (fun _ _=>rfl)
                                · exact aj (jk hu (ak 5 (pv 5)) bf (fun _ _=>rfl)) c7
                              · exact gk (bh (bh d8)) (by decide)
                            · exact c7
                        · exact gk (bh (bh d8)) (by decide)
                  · exact qw
                · refine cg ?_ ?_
                  · refine yj ?_ ?_ ?_
                    · exact ji (uc hq) (ak 3 (pv 3)) bf (jj _)
                    · refine dw ?_
                      · refine jh ?_
                        · refine p8 ?_ ?_
                          · refine aj ?_ ?_
                            · exact jk hu (Az (aj m7 (aj m7 c7)) (gk (bh (bh d8)) (by decide))) (cu d_law_pick hr (by rfl) (aj (ak 0 (pv 0)) (aj bf c7)) (au (au eq_nil))) (fun _ _=>rfl)
                            · refine aj ?_ ?_
                              · refine p8 ?_ ?_
                                · exact aj (p8 (aj m7 (aj (ak 5 (pv 5)) c7)) (gk (bh (bh d8)) (by decide))) (aj (cu d_law_simple hr (by rfl) (aj (ak 0 (pv 0)) (aj (ak 1 (pv 1)) (aj (ak 2 (pv 2)) c7))) (au (au (au eq_nil)))) c7)
                                · exact gk (bh (bh d8)) (by decide)
                              · exact c7
                          · exact gk (bh (bh d8)) (by decide)
                    · exact qw
                  · refine cg ?_ ?_
                    · refine @jq _ _ _ _ (tOf _ _ _) _ ?_ (fun _ _ _ h=>h)
                      · refine ig ?_ ?_ ?_ ?_
                        · exact nd
                        · exact rfl
                        · exact Or.inl rfl
                        · refine wg ?_
                          · refine Dd Gh ?_ ?_ PyProof.Rows.boot_tuple ?_
                            · exact by rfl
                            · exact b_tuple
                            · refine aj ?_ ?_
                              · refine uf ?_
                                · refine zc (N:=["_law_k","_law_stream","_law_boxes_here","_law_hands"]) ?_ ?_ ?_ ?_ ?_ ?_ ?_ ?_
                                  · refine ⟨rfl,fun j k h=>match j,h with | 0,h=>(by cases h; exact ⟨_,rfl,rfl,⟨.inl rfl,.inr (.inl rfl),.inl rfl⟩⟩) | 1,h=>(by cases h; exact ⟨_,rfl,rfl,⟨.inl rfl,.inr (.inl rfl),.inl rfl⟩⟩) | 2,h=>(by cases h; exact ⟨_,rfl,rfl,⟨.inl rfl,.inr (.inl rfl),.inl rfl⟩⟩) | _+3,h=>(by cases h)⟩
                                  · exact ⟨rfl,rfl,by decide +kernel,by decide +kernel⟩
                                  · exact rfl
                                  · exact Jw (by rfl) b_range (jm ud bf (cu d_law_pick hr (by rfl) (aj (ak 0 (pv 0)) (aj bf c7)) (au (au eq_nil))))
                                  · exact Jp
                                  · exact fun C s₀ H₀ ex pn=>pgE fun B=>(rm 0 (gn (show (["_law_k","_law_stream","_law_boxes_here","_law_hands"]:List Str).Nodup by decide +kernel) rfl (Or.inl rfl)))
                                  · exact fun C s₀ H₀ ex pn=>yh
                                  · exact fun C s₀ H₀ ex pn=>peE fun B=>(cu d_law_simple hr (by rfl) (aj (ak 1 (pv 1)) (aj (ak 2 (pv 2)) (aj (ak 3 (pv 3)) c7))) (au (au (au eq_nil))))
                              · exact c7
                    · refine dw ?_
                      · refine jh ?_
                        · refine p8 ?_ ?_
                          · refine aj ?_ ?_
                            · exact jk hu (Az (aj m7 (aj m7 c7)) (gk (bh (bh d8)) (by decide))) (cu d_law_pick hr (by rfl) (aj (ak 0 (pv 0)) (aj bf c7)) (au (au eq_nil))) (fun _ _=>rfl)
                            · exact aj (jm ud (jk hu (ak 5 (pv 5)) bf (fun _ _=>rfl)) (ak 6 (pv 6))) c7
                          · exact gk (bh (bh d8)) (by decide)
theorem Om (F:Fun K "_law_remark" "_law_remark" Bv f fd) (hmg:mg "_law_remark" = some (.ref f)) (d_law_pick:dz P w K mg base "_law_pick" 1 ["_law_stream","_law_many"] (_root_.K.cj)) (d_law_simple:dz P w K mg base "_law_simple" 3 ["_law_stream","_law_boxes_here","_law_hands"] (_root_.K.nq)) (b_range:mg "range" = none) (b_tuple:mg "tuple" = none):dz P w K mg base "_law_remark" 4 ["_law_stream","_law_boxes_here","_law_hands"] _root_.K.vm :=
  ⟨f,fd,P0 F d_law_pick d_law_simple b_range b_tuple,F.binds (ps:=["_law_stream","_law_boxes_here","_law_hands"]) fun _ _ _ _ _ _ us hl=>bd3 (fun _ _ _=>rfl) us hl,F.kp,hmg⟩
abbrev Dj:Stmt:=top 25
theorem J3:jg ["_law_stream","_law_cell","_law_many","_law_boxes_here","_law_k","_law_low","_law_high"] ["_law_stream","_law_cell","_law_many"] (dh Dj):=⟨rfl,rfl,rfl,by decide +kernel,rfl,by decide +kernel,by decide +kernel⟩
theorem Sv (F:Fun K "_law_boxes" "_law_boxes" Dj f fd) (d_law_name:dz P w K mg base "_law_name" 1 ["_law_cell","_law_k"] (_root_.K.u6)) (d_law_pick:dz P w K mg base "_law_pick" 1 ["_law_stream","_law_many"] (_root_.K.cj)) (b_range:mg "range" = none):Bf P w K mg base CX0 2 f fd ["_law_stream","_law_cell","_law_many"] (spF K (["_law_stream","_law_cell","_law_many"]:List Str).length _root_.K.yp):=by
  have d_law_name:=d_law_name.mono (show 1≤1 by first | decide | omega)
  have d_law_pick:=d_law_pick.mono (show 1≤1 by first | decide | omega)
  refine mq (N:=["_law_stream","_law_cell","_law_many","_law_boxes_here","_law_k","_law_low","_law_high"]) F J3 (by decide)  fun cdv A outer s H E B hr=>?_
  have hu:=yu hr
  have hq:=hr.units
  have nd:(["_law_stream","_law_cell","_law_many","_law_boxes_here","_law_k","_law_low","_law_high"]:List Str).Nodup:=J3.nd
  refine cg ?_ ?_
  · exact Ba 3 (ig nd rfl (Or.inl rfl) (Ds c7 (gk d8 (by decide)))) (fun _ _ _ h=>h)
  · refine cg ?_ ?_
    · refine Cy ?_ ?_ ?_ ?_ ?_ ?_
      · exact PassesOwn.never
      · exact rfl
      · exact Jw (by rfl) b_range (ak 2 (pv 2))
      · exact rm 4 (gn nd rfl (Or.inl rfl))
      · refine cg ?_ ?_
        · exact jq 5 (ig nd rfl (Or.inl rfl) (jm Ae (cu d_law_pick hr (by rfl) (aj (ak 0 (pv 0)) (aj bf c7)) (au (au eq_nil))) bf)) (fun _ _ _ h=>h)
        · refine cg ?_ ?_
          · refine yj ?_ ?_ ?_
            · exact ji (uc hq) (cu d_law_pick hr (by rfl) (aj (ak 0 (pv 0)) (aj bf c7)) (au (au eq_nil))) bf (jj _)
            · exact dw (jq 5 (ig nd rfl (Or.inl rfl) (jm Ae (cu d_law_pick hr (by rfl) (aj (ak 0 (pv 0)) (aj (jm Ae (jm Gd bf (jm Oo bf bf)) bf) c7)) (au (au eq_nil))) (jm Oo bf bf))) (fun _ _ _ h=>h))
            · exact qw
          · refine cg ?_ ?_
            · exact jq 6 (ig nd rfl (Or.inl rfl) (jm ud (ak 5 (pv 5)) (cu d_law_pick hr (by rfl) (aj (ak 0 (pv 0)) (aj bf c7)) (au (au eq_nil))))) (fun _ _ _ h=>h)
            · refine dw ?_
              · refine Aq _ ?_
                · refine v7 ?_
                  · refine Dm PySem.F.plainAttrs_list PySem.F.slot_list_append PySem.F.type_list_append ux ?_ ?_
                    · exact pv 3
                    · refine jr ?_ ?_
                      · refine p8 ?_ ?_
                        · refine aj ?_ ?_
                          · exact cu d_law_name hr (by rfl) (aj (ak 1 (pv 1)) (aj (ak 4 (pv 4)) c7)) (au (au eq_nil))
                          · refine aj ?_ ?_
                            · exact m7
                            · exact aj (ak 5 (pv 5)) (aj (ak 6 (pv 6)) (aj (jm ud (ak 5 (pv 5)) (cu d_law_pick hr (by rfl) (aj (ak 0 (pv 0)) (aj (jm ud (jm Ae (ak 6 (pv 6)) (ak 5 (pv 5))) bf) c7)) (au (au eq_nil)))) c7))
                        · exact gk (bh (bh (bh (bh (bh d8))))) (by decide)
                      · exact qz
      · exact Jp
    · exact dw (jh (ak 3 (pv 3)))
theorem Qz (F:Fun K "_law_boxes" "_law_boxes" Dj f fd) (hmg:mg "_law_boxes" = some (.ref f)) (d_law_name:dz P w K mg base "_law_name" 1 ["_law_cell","_law_k"] (_root_.K.u6)) (d_law_pick:dz P w K mg base "_law_pick" 1 ["_law_stream","_law_many"] (_root_.K.cj)) (b_range:mg "range" = none):dz P w K mg base "_law_boxes" 2 ["_law_stream","_law_cell","_law_many"] _root_.K.yp :=
  ⟨f,fd,Sv F d_law_name d_law_pick b_range,F.binds (ps:=["_law_stream","_law_cell","_law_many"]) fun _ _ _ _ _ _ us hl=>bd3 (fun _ _ _=>rfl) us hl,F.kp,hmg⟩
abbrev Es:Stmt:=top 26
theorem Ka:jg ["_law_stream","_law_boxes_here","_law_hands","_law_hand","_law_places","_law_here","_law_there","_law_guard","_law_sets","_law_box","_law_way"] ["_law_stream","_law_boxes_here","_law_hands"] (dh Es):=⟨rfl,rfl,rfl,by decide +kernel,rfl,by decide +kernel,by decide +kernel⟩
theorem U4 (F:Fun K "_law_step" "_law_step" Es f fd) (d_law_pick:dz P w K mg base "_law_pick" 1 ["_law_stream","_law_many"] (_root_.K.cj)) (d_law_remark:dz P w K mg base "_law_remark" 4 ["_law_stream","_law_boxes_here","_law_hands"] (_root_.K.vm)) (d_law_sum:dz P w K mg base "_law_sum" 2 ["_law_stream","_law_boxes_here"] (_root_.K.xr)) (b_len:mg "len" = none) (b_sorted:mg "sorted" = none) (b_tuple:mg "tuple" = none):Bf P w K mg base CX0 5 f fd ["_law_stream","_law_boxes_here","_law_hands"] (spF K (["_law_stream","_law_boxes_here","_law_hands"]:List Str).length _root_.K.yq):=by
  have d_law_pick:=d_law_pick.mono (show 1≤4 by first | decide | omega)
  have d_law_remark:=d_law_remark.mono (show 4≤4 by first | decide | omega)
  have d_law_sum:=d_law_sum.mono (show 2≤4 by first | decide | omega)
  refine mq (N:=["_law_stream","_law_boxes_here","_law_hands","_law_hand","_law_places","_law_here","_law_there","_law_guard","_law_sets","_law_box","_law_way"]) F Ka (by decide)  fun cdv A outer s H E B hr=>?_
  have hu:=yu hr
  have hq:=hr.units
  have nd:(["_law_stream","_law_boxes_here","_law_hands","_law_hand","_law_places","_law_here","_law_there","_law_guard","_law_sets","_law_box","_law_way"]:List Str).Nodup:=Ka.nd
  refine cg ?_ ?_
  · refine aag ?_
    · refine Ks ?_ ?_
      · exact jk hu (ak 2 (pv 2)) (cu d_law_pick hr (by rfl) (aj (ak 0 (pv 0)) (aj (wg (wz Gq (by rfl) b_len PySem.boot_len (aj (ak 2 (pv 2)) c7))) c7)) (au (au eq_nil))) (fun _ _=>rfl)
      · exact Fw (is:=[3,4]) (G5 rfl (ql (gn nd rfl (Or.inl rfl)) (ql (gn nd rfl (Or.inl rfl)) Cm)))
  · refine cg ?_ ?_
    · exact jq 5 (ig nd rfl (Or.inl rfl) (cu d_law_pick hr (by rfl) (aj (ak 0 (pv 0)) (aj (ak 4 (pv 4)) c7)) (au (au eq_nil)))) (fun _ _ _ h=>h)
    · refine cg ?_ ?_
      · exact jq 6 (ig nd rfl (Or.inl rfl) (cu d_law_pick hr (by rfl) (aj (ak 0 (pv 0)) (aj (ak 4 (pv 4)) c7)) (au (au eq_nil)))) (fun _ _ _ h=>h)
      · refine cg ?_ ?_
        · exact jq 7 (ig nd rfl (Or.inl rfl) (cu d_law_remark hr (by rfl) (aj (ak 0 (pv 0)) (aj (ak 1 (pv 1)) (aj (ak 2 (pv 2)) c7))) (au (au (au eq_nil))))) (fun _ _ _ h=>h)
        · refine cg ?_ ?_
          · exact Ba 8 (ig nd rfl (Or.inl rfl) (Ds c7 (gk d8 (by decide)))) (fun _ _ _ h=>h)
          · refine cg ?_ ?_
            · refine Cy ?_ ?_ ?_ ?_ ?_ ?_
              · exact PassesOwn.never
              · exact rfl
              · exact vf (wg (wz (J9 (by rfl)) (by rfl) b_sorted PyProof.Rows.boot_sorted (aj (ak 1 (pv 1)) c7)))
              · exact rm 9 (gn nd rfl (Or.inl rfl))
              · refine cg ?_ ?_
                · exact jq 10 (ig nd rfl (Or.inl rfl) (cu d_law_pick hr (by rfl) (aj (ak 0 (pv 0)) (aj bf c7)) (au (au eq_nil)))) (fun _ _ _ h=>h)
                · refine cg ?_ ?_
                  · refine yj ?_ ?_ ?_
                    · exact ji (uc hq) (ak 10 (pv 10)) bf (jj _)
                    · refine dw ?_
                      · refine Aq _ ?_
                        · refine v7 ?_
                          · refine Dm PySem.F.plainAttrs_list PySem.F.slot_list_append PySem.F.type_list_append ux ?_ ?_
                            · exact pv 8
                            · exact jr (p8 (aj (ak 9 (pv 9)) (aj (cu d_law_sum hr (by rfl) (aj (ak 0 (pv 0)) (aj (ak 1 (pv 1)) c7)) (au (au eq_nil))) c7)) (gk (bh (bh d8)) (by decide))) qz
                    · exact qw
                  · refine dw ?_
                    · refine yj ?_ ?_ ?_
                      · exact ji (uc hq) (ak 10 (pv 10)) bf (jj _)
                      · refine dw ?_
                        · refine Aq _ ?_
                          · refine v7 ?_
                            · refine Dm PySem.F.plainAttrs_list PySem.F.slot_list_append PySem.F.type_list_append ux ?_ ?_
                              · exact pv 8
                              · refine jr ?_ ?_
                                · refine p8 ?_ ?_
                                  · refine aj ?_ ?_
                                    · exact ak 9 (pv 9)
                                    · refine aj ?_ ?_
                                      · refine p8 ?_ ?_
                                        · refine aj ?_ ?_
                                          · exact jm Ae (cu d_law_pick hr (by rfl) (aj (ak 0 (pv 0)) (aj bf c7)) (au (au eq_nil))) bf
                                          · exact aj (p8 (aj (p8 (aj (ak 9 (pv 9)) (aj bf c7)) (gk (bh (bh d8)) (by decide))) c7) (gk (bh d8) (by decide))) c7
                                        · exact gk (bh (bh d8)) (by decide)
                                      · exact c7
                                  · exact gk (bh (bh d8)) (by decide)
                                · exact qz
                      · exact qw
              · exact v8
            · refine dw ?_
              · refine jh ?_
                · refine p8 ?_ ?_
                  · exact aj (ak 3 (pv 3)) (aj (ak 5 (pv 5)) (aj (ak 7 (pv 7)) (aj (wg (Dd Gh (by rfl) b_tuple PyProof.Rows.boot_tuple (aj (ak 8 (pv 8)) c7))) (aj (ak 6 (pv 6)) c7))))
                  · exact gk (bh (bh (bh (bh (bh d8))))) (by decide)
theorem T9 (F:Fun K "_law_step" "_law_step" Es f fd) (hmg:mg "_law_step" = some (.ref f)) (d_law_pick:dz P w K mg base "_law_pick" 1 ["_law_stream","_law_many"] (_root_.K.cj)) (d_law_remark:dz P w K mg base "_law_remark" 4 ["_law_stream","_law_boxes_here","_law_hands"] (_root_.K.vm)) (d_law_sum:dz P w K mg base "_law_sum" 2 ["_law_stream","_law_boxes_here"] (_root_.K.xr)) (b_len:mg "len" = none) (b_sorted:mg "sorted" = none) (b_tuple:mg "tuple" = none):dz P w K mg base "_law_step" 5 ["_law_stream","_law_boxes_here","_law_hands"] _root_.K.yq :=
  ⟨f,fd,U4 F d_law_pick d_law_remark d_law_sum b_len b_sorted b_tuple,F.binds (ps:=["_law_stream","_law_boxes_here","_law_hands"]) fun _ _ _ _ _ _ us hl=>bd3 (fun _ _ _=>rfl) us hl,F.kp,hmg⟩
abbrev Bh:Stmt:=top 27
theorem Fx:jg ["_law_script","_law_most","_law_way","_law_cell","_law_stream","_law_many","_law_hands","_law_k","_law_boxes_here","_law_names","_law_steps"] ["_law_script","_law_most"] (dh Bh):=⟨rfl,rfl,rfl,by decide +kernel,rfl,by decide +kernel,by decide +kernel⟩
theorem Mg (F:Fun K "_law_program" "_law_program" Bh f fd) (d_law_boxes:dz P w K mg base "_law_boxes" 2 ["_law_stream","_law_cell","_law_many"] (_root_.K.yp)) (d_law_cell_at:dz P w K mg base "_law_cell_at" 1 ["_law_script","_law_k"] (_root_.K.m6)) (d_law_name:dz P w K mg base "_law_name" 1 ["_law_cell","_law_k"] (_root_.K.u6)) (d_law_pick:dz P w K mg base "_law_pick" 1 ["_law_stream","_law_many"] (_root_.K.cj)) (d_law_step:dz P w K mg base "_law_step" 5 ["_law_stream","_law_boxes_here","_law_hands"] (_root_.K.yq)) (b_range:mg "range" = none):Bf P w K mg base CX0 6 f fd ["_law_script","_law_most"] (spF K (["_law_script","_law_most"]:List Str).length _root_.K.wu):=by
  have d_law_boxes:=d_law_boxes.mono (show 2≤5 by first | decide | omega)
  have d_law_cell_at:=d_law_cell_at.mono (show 1≤5 by first | decide | omega)
  have d_law_name:=d_law_name.mono (show 1≤5 by first | decide | omega)
  have d_law_pick:=d_law_pick.mono (show 1≤5 by first | decide | omega)
  have d_law_step:=d_law_step.mono (show 5≤5 by first | decide | omega)
  refine mq (N:=["_law_script","_law_most","_law_way","_law_cell","_law_stream","_law_many","_law_hands","_law_k","_law_boxes_here","_law_names","_law_steps"]) F Fx (by decide)  fun cdv A outer s H E B hr=>?_
  have hu:=yu hr
  have hq:=hr.units
  have nd:(["_law_script","_law_most","_law_way","_law_cell","_law_stream","_law_many","_law_hands","_law_k","_law_boxes_here","_law_names","_law_steps"]:List Str).Nodup:=Fx.nd
  refine cg ?_ ?_
  · exact jq 2 (ig nd rfl (Or.inr rfl) (jm Aa (jm Fg (cu d_law_cell_at hr (by rfl) (aj (ak 0 (pv 0)) (aj bf c7)) (au (au eq_nil))) bf) bf)) (fun _ _ _ h=>h)
  · refine cg ?_ ?_
    · exact jq 3 (ig nd rfl (Or.inl rfl) (cu d_law_cell_at hr (by rfl) (aj (ak 0 (pv 0)) (aj bf c7)) (au (au eq_nil)))) (fun _ _ _ h=>h)
    · refine cg ?_ ?_
      · exact jq 4 (ig nd rfl (Or.inl rfl) (Qy (aj (cu d_law_cell_at hr (by rfl) (aj (ak 0 (pv 0)) (aj bf c7)) (au (au eq_nil))) (aj (ak 2 (pv 2)) c7)) (gk (bh (bh d8)) (by decide)))) (fun _ _ _ h=>h)
      · refine cg ?_ ?_
        · exact jq 5 (ig nd rfl (Or.inl rfl) (jm ud bf (cu d_law_pick hr (by rfl) (aj (ak 4 (pv 4)) (aj bf c7)) (au (au eq_nil))))) (fun _ _ _ h=>h)
        · refine cg ?_ ?_
          · exact Ba 6 (ig nd rfl (Or.inr rfl) (Ds c7 (gk d8 (by decide)))) (fun _ _ _ h=>h)
          · refine cg ?_ ?_
            · refine Cy ?_ ?_ ?_ ?_ ?_ ?_
              · exact PassesOwn.never
              · exact rfl
              · exact Jw (by rfl) b_range (ak 5 (pv 5))
              · exact rm 7 (gn nd rfl (Or.inl rfl))
              · refine dw ?_
                · refine Aq _ ?_
                  · refine v7 ?_
                    · refine Dm PySem.F.plainAttrs_list PySem.F.slot_list_append PySem.F.type_list_append ux ?_ ?_
                      · exact pv 6
                      · refine jr ?_ ?_
                        · refine p8 ?_ ?_
                          · refine aj ?_ ?_
                            · exact cu d_law_name hr (by rfl) (aj (ak 3 (pv 3)) (aj (jm ud bf (ak 7 (pv 7))) c7)) (au (au eq_nil))
                            · refine aj ?_ ?_
                              · refine jm ?_ ?_ ?_
                                · exact ud
                                · exact bf
                                · refine cu d_law_pick ?_ ?_ ?_ ?_
                                  · exact hr
                                  · exact by rfl
                                  · exact aj (ak 4 (pv 4)) (aj (jk hu (Az (aj bf (aj bf (aj bf c7))) (gk (bh (bh (bh d8))) (by decide))) (jm Ae (ak 5 (pv 5)) bf) (fun _ _=>rfl)) c7)
                                  · exact au (au eq_nil)
                              · exact c7
                          · exact gk (bh (bh d8)) (by decide)
                        · exact qz
              · exact Jp
            · refine cg ?_ ?_
              · refine @jq _ _ _ _ (tOf _ _ _) _ ?_ (fun _ _ _ h=>h)
                · exact ig nd rfl (Or.inl rfl) (cu d_law_boxes hr (by rfl) (aj (ak 4 (pv 4)) (aj (ak 3 (pv 3)) (aj (cu d_law_pick hr (by rfl) (aj (ak 4 (pv 4)) (aj bf c7)) (au (au eq_nil))) c7))) (au (au (au eq_nil))))
              · refine cg ?_ ?_
                · refine @jq _ _ _ _ (tOf _ _ _) _ ?_ (fun _ _ _ h=>h)
                  · refine ig ?_ ?_ ?_ ?_
                    · exact nd
                    · exact rfl
                    · exact Or.inr rfl
                    · refine uf ?_
                      · refine zc (N:=["_law_box"]) ?_ ?_ ?_ ?_ ?_ ?_ ?_ ?_
                        · exact ⟨rfl,fun j k h=>match j,h with | _+0,h=>(by cases h)⟩
                        · exact ⟨rfl,rfl,by decide +kernel,by decide +kernel⟩
                        · exact rfl
                        · exact vf (ak 8 (pv 8))
                        · exact v8
                        · exact fun C s₀ H₀ ex pn=>pgE fun B=>(rm 0 (gn (show (["_law_box"]:List Str).Nodup by decide +kernel) rfl (Or.inl rfl)))
                        · exact fun C s₀ H₀ ex pn=>yh
                        · exact fun C s₀ H₀ ex pn=>peE fun B=>(jk hu (ak 0 (pv 0)) bf (fun _ _=>rfl))
                · refine cg ?_ ?_
                  · exact jq 10 (Zq (N:=["_law_one","_law_names","_law_hands","_law_way"]) ⟨rfl,rfl,by decide +kernel,by decide +kernel⟩ rfl (vf (W2 (ak 0 (pv 0)) (Jz bf) (Jz (jm ud bf (ak 1 (pv 1)))))) (fun C s₀ H₀ ex pn=>pgE fun B=>(rm 0 (gn (show (["_law_one","_law_names","_law_hands","_law_way"]:List Str).Nodup by decide +kernel) rfl (Or.inl rfl)))) (fun C s₀ H₀ ex pn=>yh) (fun C s₀ H₀ ex pn=>peE fun B=>(cu d_law_step hr (by rfl) (aj (Qy (aj (ak 0 (pv 0)) (aj (ak 3 (pv 3)) c7)) (gk (bh (bh d8)) (by decide))) (aj (ak 1 (pv 1)) (aj (ak 2 (pv 2)) c7))) (au (au (au eq_nil))))) (gn nd rfl (Or.inl rfl)) rfl) (fun σ H Q h=>Zt ⟨rfl,fun j k h=>match j,h with | 0,h=>(by cases h; exact ⟨_,rfl,rfl,⟨.inl rfl,.inr (.inl rfl),.inl rfl⟩⟩) | 1,h=>(by cases h; exact ⟨_,rfl,rfl,⟨.inl rfl,.inr (.inl rfl),.inl rfl⟩⟩) | 2,h=>(by cases h; exact ⟨_,rfl,rfl,⟨.inl rfl,.inr (.inl rfl),.inl rfl⟩⟩) | _+3,h=>(by cases h)⟩ v8 (a0o h))
                  · exact dw (jh (p8 (aj (ak 8 (pv 8)) (aj (ak 6 (pv 6)) (aj (ak 10 (pv 10)) (aj (p8 c7 (gk d8 (by decide))) c7)))) (gk (bh (bh (bh (bh d8)))) (by decide))))
theorem Mh (F:Fun K "_law_program" "_law_program" Bh f fd) (hmg:mg "_law_program" = some (.ref f)) (d_law_boxes:dz P w K mg base "_law_boxes" 2 ["_law_stream","_law_cell","_law_many"] (_root_.K.yp)) (d_law_cell_at:dz P w K mg base "_law_cell_at" 1 ["_law_script","_law_k"] (_root_.K.m6)) (d_law_name:dz P w K mg base "_law_name" 1 ["_law_cell","_law_k"] (_root_.K.u6)) (d_law_pick:dz P w K mg base "_law_pick" 1 ["_law_stream","_law_many"] (_root_.K.cj)) (d_law_step:dz P w K mg base "_law_step" 5 ["_law_stream","_law_boxes_here","_law_hands"] (_root_.K.yq)) (b_range:mg "range" = none):dz P w K mg base "_law_program" 6 ["_law_script","_law_most"] _root_.K.wu :=
  ⟨f,fd,Mg F d_law_boxes d_law_cell_at d_law_name d_law_pick d_law_step b_range,F.binds (ps:=["_law_script","_law_most"]) fun _ _ _ _ _ _ us hl=>bd2 (fun _ _=>rfl) us hl,F.kp,hmg⟩
abbrev xq:Stmt:=top 28
theorem Ea:jg ["_law_remark_here","_law_found","_law_one"] ["_law_remark_here"] (dh xq):=⟨rfl,rfl,rfl,by decide +kernel,rfl,by decide +kernel,by decide +kernel⟩
theorem Kl (F:Fun K "_law_boxes_of" "_law_boxes_of" xq f fd) {nn:Nat} (d_law_boxes_of:dz P w K mg base "_law_boxes_of" (0+nn) ["_law_remark_here"] (_root_.K.fj nn)):Bf P w K mg base CX0 (0+nn+1) f fd ["_law_remark_here"] (spF K (["_law_remark_here"]:List Str).length (_root_.K.fj (nn+1))):=by
  have d_law_boxes_of:=d_law_boxes_of.mono (show (0+nn)≤(0+nn) by first | decide | omega)
  refine mq (N:=["_law_remark_here","_law_found","_law_one"]) F Ea (by decide)  fun cdv A outer s H E B hr=>?_
  have hu:=yu hr
  have hq:=hr.units
  have nd:(["_law_remark_here","_law_found","_law_one"]:List Str).Nodup:=Ea.nd
  refine cg ?_ ?_
  · refine yj ?_ ?_ ?_
    · exact PW.pt (Yn (ji (uc hq) (jk hu (ak 0 (pv 0)) bf (fun _ _=>rfl)) m7 (jj _)) (Qw (ji (uc hq) (jk hu (ak 0 (pv 0)) bf (fun _ _=>rfl)) m7 (jj _))))
    · refine dw ?_
      · refine jh ?_
        · refine uf ?_
          · refine zc (N:=["_law_box","_law_times_of"]) ?_ ?_ ?_ ?_ ?_ ?_ ?_ ?_
            · exact ⟨rfl,fun j k h=>match j,h with | _+0,h=>(by cases h)⟩
            · exact ⟨rfl,rfl,by decide +kernel,by decide +kernel⟩
            · exact rfl
            · exact vf (jk hu (jk hu (ak 0 (pv 0)) bf (fun _ _=>rfl)) bf (fun _ _=>rfl))
            · exact v8
            · intro C s₀ H₀ ex pn
              exact pgE fun B=>(Fw (is:=[0,1]) (G5 rfl (ql (gn (show (["_law_box","_law_times_of"]:List Str).Nodup by decide +kernel) rfl (Or.inl rfl)) (ql (gn (show (["_law_box","_law_times_of"]:List Str).Nodup by decide +kernel) rfl (Or.inl rfl)) Cm))))
            · exact fun C s₀ H₀ ex pn=>yh
            · exact fun C s₀ H₀ ex pn=>peE fun B=>(ak 0 (pv 0))
    · exact qw
  · refine cg ?_ ?_
    · exact Ba 1 (ig nd rfl (Or.inl rfl) (Ds c7 (gk d8 (by decide)))) (fun _ _ _ h=>h)
    · refine cg ?_ ?_
      · exact yj (ji (uc hq) (jk hu (ak 0 (pv 0)) bf (fun _ _=>rfl)) m7 (jj _))   (dw (jh (cu d_law_boxes_of hr (by rfl) (aj (jk hu (ak 0 (pv 0)) bf (fun _ _=>rfl)) c7) (au eq_nil))))   qw
      · refine cg ?_ ?_
        · refine yj ?_ ?_ ?_
          · exact PW.pt (Yn (ji (uc hq) (jk hu (ak 0 (pv 0)) bf (fun _ _=>rfl)) m7 (jj _)) (Qw (ji (uc hq) (jk hu (ak 0 (pv 0)) bf (fun _ _=>rfl)) m7 (jj _))))
          · refine dw ?_
            · refine Cy ?_ ?_ ?_ ?_ ?_ ?_
              · exact PassesOwn.never
              · exact rfl
              · exact vf (jk hu (ak 0 (pv 0)) bf (fun _ _=>rfl))
              · exact rm 2 (gn nd rfl (Or.inl rfl))
              · exact dw (Ei 1 (v7 (Dm PySem.F.plainAttrs_list PySem.F.slot_list_extend PySem.F.type_list_extend Cv (pv 1) (jr (cu d_law_boxes_of hr (by rfl) (aj (ak 2 (pv 2)) c7) (au eq_nil)) qz))))
              · exact v8
          · exact qw
        · exact dw (jh (ak 1 (pv 1)))
theorem Lz (F:Fun K "_law_boxes_of" "_law_boxes_of" xq f fd) (hmg:mg "_law_boxes_of" = some (.ref f)) {nn:Nat} (d_law_boxes_of:dz P w K mg base "_law_boxes_of" (0+nn) ["_law_remark_here"] (_root_.K.fj nn)):dz P w K mg base "_law_boxes_of" (0+nn+1) ["_law_remark_here"] (_root_.K.fj (nn+1)) :=
  ⟨f,fd,Kl F d_law_boxes_of,F.binds (ps:=["_law_remark_here"]) fun _ _ _ _ _ _ us hl=>bd1 (fun _=>rfl) us hl,F.kp,hmg⟩
theorem Dt {f_law_boxes_of:Addr} {fd_law_boxes_of:FuncData} (F_law_boxes_of:Fun K "_law_boxes_of" "_law_boxes_of" xq f_law_boxes_of fd_law_boxes_of) (h_law_boxes_of:mg "_law_boxes_of" = some (.ref f_law_boxes_of)):∀ nn:Nat,dz P w K mg base "_law_boxes_of" (0+nn) ["_law_remark_here"] (_root_.K.fj nn)
  | 0=>dz.zero F_law_boxes_of h_law_boxes_of (F_law_boxes_of.binds (ps:=["_law_remark_here"]) fun _ _ _ _ _ _ us hl=>bd1 (fun _=>rfl) us hl)
  | nn+1=>by
    have ih:=Dt F_law_boxes_of h_law_boxes_of nn
    have d_law_boxes_of:=ih
    exact Lz F_law_boxes_of h_law_boxes_of d_law_boxes_of
abbrev Ay:Stmt:=top 29
theorem Gy:jg ["_law_remark_here","_law_found","_law_one"] ["_law_remark_here"] (dh Ay):=⟨rfl,rfl,rfl,by decide +kernel,rfl,by decide +kernel,by decide +kernel⟩
theorem Ow (F:Fun K "_law_ats_of" "_law_ats_of" Ay f fd) {nn:Nat} (d_law_ats_of:dz P w K mg base "_law_ats_of" (0+nn) ["_law_remark_here"] (_root_.K.gq nn)):Bf P w K mg base CX0 (0+nn+1) f fd ["_law_remark_here"] (spF K (["_law_remark_here"]:List Str).length (_root_.K.gq (nn+1))):=by
  have d_law_ats_of:=d_law_ats_of.mono (show (0+nn)≤(0+nn) by first | decide | omega)
  refine mq (N:=["_law_remark_here","_law_found","_law_one"]) F Gy (by decide)  fun cdv A outer s H E B hr=>?_
  have hu:=yu hr
  have hq:=hr.units
  have nd:(["_law_remark_here","_law_found","_law_one"]:List Str).Nodup:=Gy.nd
  refine cg ?_ ?_
  · exact yj (ji (uc hq) (jk hu (ak 0 (pv 0)) bf (fun _ _=>rfl)) m7 (jj _))   (dw (jh (Az (aj (jk hu (ak 0 (pv 0)) bf (fun _ _=>rfl)) c7) (gk (bh d8) (by decide)))))   qw
  · refine cg ?_ ?_
    · exact Ba 1 (ig nd rfl (Or.inl rfl) (Ds c7 (gk d8 (by decide)))) (fun _ _ _ h=>h)
    · refine cg ?_ ?_
      · exact yj (ji (uc hq) (jk hu (ak 0 (pv 0)) bf (fun _ _=>rfl)) m7 (jj _))   (dw (jh (cu d_law_ats_of hr (by rfl) (aj (jk hu (ak 0 (pv 0)) bf (fun _ _=>rfl)) c7) (au eq_nil))))   qw
      · refine cg ?_ ?_
        · refine yj ?_ ?_ ?_
          · exact PW.pt (Yn (ji (uc hq) (jk hu (ak 0 (pv 0)) bf (fun _ _=>rfl)) m7 (jj _)) (Qw (ji (uc hq) (jk hu (ak 0 (pv 0)) bf (fun _ _=>rfl)) m7 (jj _))))
          · refine dw ?_
            · refine Cy ?_ ?_ ?_ ?_ ?_ ?_
              · exact PassesOwn.never
              · exact rfl
              · exact vf (jk hu (ak 0 (pv 0)) bf (fun _ _=>rfl))
              · exact rm 2 (gn nd rfl (Or.inl rfl))
              · exact dw (Ei 1 (v7 (Dm PySem.F.plainAttrs_list PySem.F.slot_list_extend PySem.F.type_list_extend Cv (pv 1) (jr (cu d_law_ats_of hr (by rfl) (aj (ak 2 (pv 2)) c7) (au eq_nil)) qz))))
              · exact v8
          · exact qw
        · exact dw (jh (ak 1 (pv 1)))
theorem Pq (F:Fun K "_law_ats_of" "_law_ats_of" Ay f fd) (hmg:mg "_law_ats_of" = some (.ref f)) {nn:Nat} (d_law_ats_of:dz P w K mg base "_law_ats_of" (0+nn) ["_law_remark_here"] (_root_.K.gq nn)):dz P w K mg base "_law_ats_of" (0+nn+1) ["_law_remark_here"] (_root_.K.gq (nn+1)) :=
  ⟨f,fd,Ow F d_law_ats_of,F.binds (ps:=["_law_remark_here"]) fun _ _ _ _ _ _ us hl=>bd1 (fun _=>rfl) us hl,F.kp,hmg⟩
theorem G8 {f_law_ats_of:Addr} {fd_law_ats_of:FuncData} (F_law_ats_of:Fun K "_law_ats_of" "_law_ats_of" Ay f_law_ats_of fd_law_ats_of) (h_law_ats_of:mg "_law_ats_of" = some (.ref f_law_ats_of)):∀ nn:Nat,dz P w K mg base "_law_ats_of" (0+nn) ["_law_remark_here"] (_root_.K.gq nn)
  | 0=>dz.zero F_law_ats_of h_law_ats_of (F_law_ats_of.binds (ps:=["_law_remark_here"]) fun _ _ _ _ _ _ us hl=>bd1 (fun _=>rfl) us hl)
  | nn+1=>by
    have ih:=G8 F_law_ats_of h_law_ats_of nn
    have d_law_ats_of:=ih
    exact Pq F_law_ats_of h_law_ats_of d_law_ats_of
abbrev Bd:Stmt:=top 30
theorem G4:jg ["_law_step_here","_law_other","_law_named","_law_box","_law_one"] ["_law_step_here","_law_other"] (dh Bd):=⟨rfl,rfl,rfl,by decide +kernel,rfl,by decide +kernel,by decide +kernel⟩
theorem M9 (F:Fun K "_law_meddles" "_law_meddles" Bd f fd) (d_law_ats_of:dz P w K mg base "_law_ats_of" 40 ["_law_remark_here"] (_root_.K.gq 40)) (d_law_boxes_of:dz P w K mg base "_law_boxes_of" 40 ["_law_remark_here"] (_root_.K.fj 40)):Bf P w K mg base CX0 41 f fd ["_law_step_here","_law_other"] (spF K (["_law_step_here","_law_other"]:List Str).length _root_.K.u9):=by
  have d_law_ats_of:=d_law_ats_of.mono (show 40≤40 by first | decide | omega)
  have d_law_boxes_of:=d_law_boxes_of.mono (show 40≤40 by first | decide | omega)
  refine mq (N:=["_law_step_here","_law_other","_law_named","_law_box","_law_one"]) F G4 (by decide)  fun cdv A outer s H E B hr=>?_
  have hu:=yu hr
  have hq:=hr.units
  have nd:(["_law_step_here","_law_other","_law_named","_law_box","_law_one"]:List Str).Nodup:=G4.nd
  refine cg ?_ ?_
  · refine yj ?_ ?_ ?_
    · refine PW.pt ?_
      · refine Yn ?_ ?_
        · exact ji (uc hq) (jk hu (ak 0 (pv 0)) bf (fun _ _=>rfl)) (jk hu (ak 1 (pv 1)) bf (fun _ _=>rfl)) (jj _)
        · exact Qw (ji (Mx hq) (jk hu (ak 0 (pv 0)) bf (fun _ _=>rfl)) (cu d_law_ats_of hr (by rfl) (aj (jk hu (ak 1 (pv 1)) bf (fun _ _=>rfl)) c7) (au eq_nil)) rfl)
    · exact dw (jh a9v)
    · exact qw
  · refine cg ?_ ?_
    · exact jq 2 (ig nd rfl (Or.inr rfl) (cu d_law_boxes_of hr (by rfl) (aj (jk hu (ak 1 (pv 1)) bf (fun _ _=>rfl)) c7) (au eq_nil))) (fun _ _ _ h=>h)
    · refine cg ?_ ?_
      · refine Cy ?_ ?_ ?_ ?_ ?_ ?_
        · exact PassesOwn.never
        · exact rfl
        · exact vf (jk hu (ak 1 (pv 1)) bf (fun _ _=>rfl))
        · exact Fw (is:=[3,4]) (G5 rfl (ql (gn nd rfl (Or.inl rfl)) (ql (gn nd rfl (Or.inl rfl)) Cm)))
        · refine dw ?_
          · refine @jq _ _ _ _ (tOf _ _ _) _ ?_ (fun _ _ _ h=>h)
            · refine ig ?_ ?_ ?_ ?_
              · exact nd
              · exact rfl
              · exact Or.inr rfl
              · refine jm ?_ ?_ ?_
                · exact ud
                · exact jm ud (ak 2 (pv 2)) (Az (aj (ak 3 (pv 3)) c7) (gk (bh d8) (by decide)))
                · refine uf ?_
                  · refine zc (N:=["_law_name_here","_law_times_of"]) ?_ ?_ ?_ ?_ ?_ ?_ ?_ ?_
                    · exact ⟨rfl,fun j k h=>match j,h with | _+0,h=>(by cases h)⟩
                    · exact ⟨rfl,rfl,by decide +kernel,by decide +kernel⟩
                    · exact rfl
                    · exact vf (jk hu (ak 4 (pv 4)) bf (fun _ _=>rfl))
                    · exact v8
                    · intro C s₀ H₀ ex pn
                      exact pgE fun B=>(Fw (is:=[0,1]) (G5 rfl (ql (gn (show (["_law_name_here","_law_times_of"]:List Str).Nodup by decide +kernel) rfl (Or.inl rfl)) (ql (gn (show (["_law_name_here","_law_times_of"]:List Str).Nodup by decide +kernel) rfl (Or.inl rfl)) Cm))))
                    · exact fun C s₀ H₀ ex pn=>yh
                    · exact fun C s₀ H₀ ex pn=>peE fun B=>(ak 0 (pv 0))
        · exact v8
      · refine dw ?_
        · refine jh ?_
          · refine Nj (K7 hq) ?_ ?_ ?_
            · refine uf ?_
              · refine zc (N:=["_law_box","_law_one","_law_named"]) ?_ ?_ ?_ ?_ ?_ ?_ ?_ ?_
                · exact ⟨rfl,fun j k h=>match j,h with | 0,h=>(by cases h; exact ⟨_,rfl,rfl,⟨.inl rfl,.inr (.inl rfl),.inl rfl⟩⟩) | _+1,h=>(by cases h)⟩
                · exact ⟨rfl,rfl,by decide +kernel,by decide +kernel⟩
                · exact rfl
                · exact vf (jk hu (ak 0 (pv 0)) bf (fun _ _=>rfl))
                · exact v8
                · intro C s₀ H₀ ex pn
                  exact pgE fun B=>(Fw (is:=[0,1]) (G5 rfl (ql (gn (show (["_law_box","_law_one","_law_named"]:List Str).Nodup by decide +kernel) rfl (Or.inl rfl)) (ql (gn (show (["_law_box","_law_one","_law_named"]:List Str).Nodup by decide +kernel) rfl (Or.inl rfl)) Cm))))
                · exact fun C s₀ H₀ ex pn=>(Gz fun B=>(ji (Mx hq) (ak 0 (pv 0)) (ak 2 (pv 2)) rfl))
                · exact fun C s₀ H₀ ex pn=>peE fun B=>(ak 0 (pv 0))
            · exact Az c7 (gk d8 (by decide))
            · exact jj _
theorem Ma (F:Fun K "_law_meddles" "_law_meddles" Bd f fd) (hmg:mg "_law_meddles" = some (.ref f)) (d_law_ats_of:dz P w K mg base "_law_ats_of" 40 ["_law_remark_here"] (_root_.K.gq 40)) (d_law_boxes_of:dz P w K mg base "_law_boxes_of" 40 ["_law_remark_here"] (_root_.K.fj 40)):dz P w K mg base "_law_meddles" 41 ["_law_step_here","_law_other"] _root_.K.u9 :=
  ⟨f,fd,M9 F d_law_ats_of d_law_boxes_of,F.binds (ps:=["_law_step_here","_law_other"]) fun _ _ _ _ _ _ us hl=>bd2 (fun _ _=>rfl) us hl,F.kp,hmg⟩
abbrev Ci:Stmt:=top 31
theorem Hh:jg ["_law_program_here","_law_k","_law_j","_law_one","_law_other"] ["_law_program_here","_law_k","_law_j"] (dh Ci):=⟨rfl,rfl,rfl,by decide +kernel,rfl,by decide +kernel,by decide +kernel⟩
theorem Oi (F:Fun K "_law_parted" "_law_parted" Ci f fd) (d_law_meddles:dz P w K mg base "_law_meddles" 41 ["_law_step_here","_law_other"] (_root_.K.u9)):Bf P w K mg base CX0 42 f fd ["_law_program_here","_law_k","_law_j"] (spF K (["_law_program_here","_law_k","_law_j"]:List Str).length _root_.K.qt):=by
  have d_law_meddles:=d_law_meddles.mono (show 41≤41 by first | decide | omega)
  refine mq (N:=["_law_program_here","_law_k","_law_j","_law_one","_law_other"]) F Hh (by decide)  fun cdv A outer s H E B hr=>?_
  have hu:=yu hr
  have hq:=hr.units
  have nd:(["_law_program_here","_law_k","_law_j","_law_one","_law_other"]:List Str).Nodup:=Hh.nd
  refine cg ?_ ?_
  · exact jq 3 (ig nd rfl (Or.inl rfl) (jk hu (jk hu (ak 0 (pv 0)) bf (fun _ _=>rfl)) (ak 1 (pv 1)) (fun _ _=>rfl))) (fun _ _ _ h=>h)
  · refine cg ?_ ?_
    · exact jq 4 (ig nd rfl (Or.inl rfl) (jk hu (jk hu (ak 0 (pv 0)) bf (fun _ _=>rfl)) (ak 2 (pv 2)) (fun _ _=>rfl))) (fun _ _ _ h=>h)
    · refine dw ?_
      · exact jh (a5p (Zc (cu d_law_meddles hr (by rfl) (aj (ak 3 (pv 3)) (aj (ak 4 (pv 4)) c7)) (au (au eq_nil)))) (X4 (Zc (cu d_law_meddles hr (by rfl) (aj (ak 4 (pv 4)) (aj (ak 3 (pv 3)) c7)) (au (au eq_nil))))))
theorem O8 (F:Fun K "_law_parted" "_law_parted" Ci f fd) (hmg:mg "_law_parted" = some (.ref f)) (d_law_meddles:dz P w K mg base "_law_meddles" 41 ["_law_step_here","_law_other"] (_root_.K.u9)):dz P w K mg base "_law_parted" 42 ["_law_program_here","_law_k","_law_j"] _root_.K.qt :=
  ⟨f,fd,Oi F d_law_meddles,F.binds (ps:=["_law_program_here","_law_k","_law_j"]) fun _ _ _ _ _ _ us hl=>bd3 (fun _ _ _=>rfl) us hl,F.kp,hmg⟩
abbrev Al:Stmt:=top 32
theorem Ec:jg ["_law_program_here","_law_numbers","_law_left","_law_found","_law_best_at","_law_at","_law_ahead"] ["_law_program_here","_law_numbers"] (dh Al):=⟨rfl,rfl,rfl,by decide +kernel,rfl,by decide +kernel,by decide +kernel⟩
theorem Lw (F:Fun K "_law_straight" "_law_straight" Al f fd) (d_law_parted:dz P w K mg base "_law_parted" 42 ["_law_program_here","_law_k","_law_j"] (_root_.K.qt)) (b_len:mg "len" = none) (b_list:mg "list" = none) (b_range:mg "range" = none):Bf P w K mg base CX0 43 f fd ["_law_program_here","_law_numbers"] (spF K (["_law_program_here","_law_numbers"]:List Str).length _root_.K.uy):=by
  have d_law_parted:=d_law_parted.mono (show 42≤42 by first | decide | omega)
  refine mq (N:=["_law_program_here","_law_numbers","_law_left","_law_found","_law_best_at","_law_at","_law_ahead"]) F Ec (by decide)  fun cdv A outer s H E B hr=>?_
  have hu:=yu hr
  have hq:=hr.units
  have nd:(["_law_program_here","_law_numbers","_law_left","_law_found","_law_best_at","_law_at","_law_ahead"]:List Str).Nodup:=Ec.nd
  refine cg ?_ ?_
  · exact Ba 2 (ig nd rfl (Or.inr rfl) (a8d (by rfl) b_list (ak 1 (pv 1)))) (fun _ _ _ h=>h)
  · refine cg ?_ ?_
    · exact Ba 3 (ig nd rfl (Or.inl rfl) (Ds c7 (gk d8 (by decide)))) (fun _ _ _ h=>h)
    · refine cg ?_ ?_
      · refine Pg _ ?_ ?_ ?_
        · exact PassesOwn.never
        · exact a3j 2 (K7 hq) (pv 2) (Az c7 (gk d8 (by decide))) (jj _)
        · refine cg ?_ ?_
          · exact jq 4 (ig nd rfl (Or.inl rfl) bf) (fun _ _ _ h=>h)
          · refine cg ?_ ?_
            · refine Cy ?_ ?_ ?_ ?_ ?_ ?_
              · exact PassesOwn.never
              · exact rfl
              · exact Jw (by rfl) b_range (Lb 2 b_len rfl (pv 2))
              · exact rm 5 (gn nd rfl (Or.inr rfl))
              · refine cg ?_ ?_
                · exact jq 6 (Zq (N:=["_law_k","_law_program_here","_law_left","_law_at"]) ⟨rfl,rfl,by decide +kernel,by decide +kernel⟩ rfl (aci (fun B=>(vf (a3f 2 (pv 2) a7m (Jz (ak 5 (pv 5))))))) (fun C s₀ H₀ ex pn=>pgE fun B=>(rm 0 (gn (show (["_law_k","_law_program_here","_law_left","_law_at"]:List Str).Nodup by decide +kernel) rfl (Or.inl rfl)))) (fun C s₀ H₀ ex pn=>(Gz fun B=>(a1y (Wq (cu d_law_parted hr (by rfl) (aj (ak 1 (pv 1)) (aj (ak 0 (pv 0)) (aj (jk hu (ak 2 (pv 2)) (ak 3 (pv 3)) (fun _ _=>rfl)) c7))) (au (au (au eq_nil)))))))) (fun C s₀ H₀ ex pn=>peE fun B=>(ak 0 (pv 0))) (gn nd rfl (Or.inl rfl)) rfl) (fun σ H Q h=>a2c [2] (fun B σ H Q h=>a81 ⟨rfl,fun j k h=>match j,h with | 0,h=>(by cases h; exact ⟨_,rfl,rfl,⟨.inl rfl,.inr (.inl rfl),.inl rfl⟩⟩) | 1,h=>(by cases h; exact ⟨_,rfl,rfl,⟨.inl rfl,.inr (.inl rfl),.inl rfl⟩⟩) | 2,h=>(by cases h; exact ⟨_,rfl,rfl,⟨.inl rfl,.inr (.inl rfl),.inl rfl⟩⟩) | _+3,h=>(by cases h)⟩ v8 h) σ H Q (a0o h))
                · refine dw ?_
                  · refine yj ?_ ?_ ?_
                    · exact PW.pt (a2p (ji (uc hq) (ak 6 (pv 6)) (Az c7 (gk d8 (by decide))) (jj _)) (Tj (ji Rb (Ws 2 (pv 2) (ak 5 (pv 5)) (fun _ _=>rfl)) (Ws 2 (pv 2) (ak 4 (pv 4)) (fun _ _=>rfl)) (jj _))))
                    · exact dw (jq 4 (ig nd rfl (Or.inl rfl) (ak 5 (pv 5))) (fun _ _ _ h=>h))
                    · exact qw
              · exact Jp
            · exact dw (a0f 3 2 (v7 (Dm PySem.F.plainAttrs_list PySem.F.slot_list_append PySem.F.type_list_append ux (pv 3) (jr (Dm PySem.F.plainAttrs_list PySem.F.slot_list_pop PySem.F.type_list_pop W7 (pv 2) (jr (ak 4 (pv 4)) qz)) qz))))
      · exact dw (jh (ak 3 (pv 3)))
theorem Kp (F:Fun K "_law_straight" "_law_straight" Al f fd) (hmg:mg "_law_straight" = some (.ref f)) (d_law_parted:dz P w K mg base "_law_parted" 42 ["_law_program_here","_law_k","_law_j"] (_root_.K.qt)) (b_len:mg "len" = none) (b_list:mg "list" = none) (b_range:mg "range" = none):dz P w K mg base "_law_straight" 43 ["_law_program_here","_law_numbers"] _root_.K.uy :=
  ⟨f,fd,Lw F d_law_parted b_len b_list b_range,F.binds (ps:=["_law_program_here","_law_numbers"]) fun _ _ _ _ _ _ us hl=>bd2 (fun _ _=>rfl) us hl,F.kp,hmg⟩
abbrev Nv:Stmt:=top 33
theorem a66:jg ["_law_script","_law_program_here","_law_numbers","_law_cell","_law_handed","_law_found"] ["_law_script"] (dh Nv):=⟨rfl,rfl,rfl,by decide +kernel,rfl,by decide +kernel,by decide +kernel⟩
theorem a9h (F:Fun K "law" "law" Nv f fd) (d_law_program:dz P w K mg base "_law_program" 6 ["_law_script","_law_most"] (_root_.K.wu)) (d_law_straight:dz P w K mg base "_law_straight" 43 ["_law_program_here","_law_numbers"] (_root_.K.uy)) (d_straight:dz P w K mg base "straight" 8 ["program","numbers"] (_root_.K.yr)) (b_isinstance:mg "isinstance" = none) (b_len:mg "len" = none) (b_list:mg "list" = none):Bf P w K mg base CX0 44 f fd ["_law_script"] (spF K (["_law_script"]:List Str).length _root_.K.Yr):=by
  have d_law_program:=d_law_program.mono (show 6≤43 by first | decide | omega)
  have d_law_straight:=d_law_straight.mono (show 43≤43 by first | decide | omega)
  have d_straight:=d_straight.mono (show 8≤43 by first | decide | omega)
  refine mq (N:=["_law_script","_law_program_here","_law_numbers","_law_cell","_law_handed","_law_found"]) F a66 (by decide)  fun cdv A outer s H E B hr=>?_
  have hu:=yu hr
  have hq:=hr.units
  have nd:(["_law_script","_law_program_here","_law_numbers","_law_cell","_law_handed","_law_found"]:List Str).Nodup:=a66.nd
  refine cg ?_ ?_
  · exact jq 1 (ig nd rfl (Or.inl rfl) (cu d_law_program hr (by rfl) (aj (ak 0 (pv 0)) (aj bf c7)) (au (au eq_nil)))) (fun _ _ _ h=>h)
  · refine cg ?_ ?_
    · exact Ba 2 (ig nd rfl (Or.inl rfl) (Ds c7 (gk d8 (by decide)))) (fun _ _ _ h=>h)
    · refine cg ?_ ?_
      · refine Cy ?_ ?_ ?_ ?_ ?_ ?_
        · exact PassesOwn.never
        · exact rfl
        · exact vf (W2 (ak 0 (pv 0)) (Jz bf) (Jz bf))
        · exact rm 3 (gn nd rfl (Or.inl rfl))
        · refine dw ?_
          · refine yj ?_ ?_ ?_
            · exact ji (K7 hq) (jk hu (ak 1 (pv 1)) bf (fun _ _=>rfl)) (Az c7 (gk d8 (by decide))) (jj _)
            · refine dw ?_
              · refine Aq _ ?_
                · exact v7 (Dm PySem.F.plainAttrs_list PySem.F.slot_list_append PySem.F.type_list_append ux (pv 2) (jr (jm Aa (ak 3 (pv 3)) (wg (wz Gq (by rfl) b_len PySem.boot_len (aj (jk hu (ak 1 (pv 1)) bf (fun _ _=>rfl)) c7)))) qz))
            · exact qw
        · exact v8
      · refine cg ?_ ?_
        · exact jq 4 (ig nd rfl (Or.inl rfl) (wg (Dd Xr (by rfl) b_list PyProof.Rows.boot_list (aj (ak 2 (pv 2)) c7)))) (fun _ _ _ h=>h)
        · refine cg ?_ ?_
          · exact jq 5 (ig nd rfl (Or.inl rfl) (cu d_straight hr (by rfl) (aj (ak 1 (pv 1)) (aj (ak 4 (pv 4)) c7)) (au (au eq_nil)))) (fun _ _ _ h=>h)
          · refine cg ?_ ?_
            · refine yj ?_ ?_ ?_
              · refine PW.pt ?_
                · refine Yn ?_ ?_
                  · exact ji (K7 hq) (ak 4 (pv 4)) (ak 2 (pv 2)) (jj _)
                  · exact Yn (a1y (Wq (Tp (by rfl) b_isinstance (by rfl) b_list (ak 5 (pv 5))))) (Qw (ji (K7 hq) (ak 5 (pv 5)) (cu d_law_straight hr (by rfl) (aj (ak 1 (pv 1)) (aj (ak 2 (pv 2)) c7)) (au (au eq_nil))) (jj _)))
              · exact dw (jh a9v)
              · exact qw
            · refine dw ?_
              · refine jh ?_
                · refine a5p ?_ ?_
                  · exact Nj (uc hq) (cu d_straight hr (by rfl) (aj (ak 1 (pv 1)) (aj (ak 5 (pv 5)) c7)) (au (au eq_nil))) (ak 5 (pv 5)) (jj _)
                  · exact X4 (Nj (uc hq) (cu d_straight hr (by rfl) (aj (ak 1 (pv 1)) (aj (Az c7 (gk d8 (by decide))) c7)) (au (au eq_nil))) (Az c7 (gk d8 (by decide))) (jj _))
end
end D
end
section
namespace C
open PySem
theorem S9 {α:Type} {h f:α→T} {g:G} {c:M Bool} {e:M T} {nv:Nat} {cap:List Slot} {sto:List SO} (hcap:cap.map Gu=cap) :
    ∀ (l:List α) (acc:List T) (pre:List Slot),pre.length=nv→acc.length+l.length≤lim →
      (∀ a∈l,∀ pre:List Slot,pre.length=nv→∃ pre',pre'.length=nv∧g (h a) ⟨pre++cap,sto⟩=some ⟨pre'++cap,sto⟩∧c ⟨pre'++cap,sto⟩=some (true,⟨pre'++cap,sto⟩)∧e ⟨pre'++cap,sto⟩=some (f a,⟨pre'++cap,sto⟩)) →
      ∃ s',Dh g c e (l.map h) ⟨pre++cap,sto⟩ acc=some (acc++l.map f,s')∧s'.sto=sto
  | [],acc,pre,hp,hl,H=>⟨⟨pre++cap,sto⟩,by simp [Dh],rfl⟩
  | a::l,acc,pre,hp,hl,H=>by
    obtain ⟨pre',p1,p2,p3,p4⟩:=H a List.mem_cons_self pre hp
    have hlen:acc.length<lim:=by simp at hl ⊢; (clear p4 p3 p2 p1 H hp hcap; omega)
    obtain ⟨s',q1,q2⟩:=S9 hcap l (acc++[f a]) (pre'.map Gu) (by simpa using p1) (by simp at hl ⊢; (clear hlen p4 p3 p2 p1 H hp hcap; omega)) fun b hb=>H b (List.mem_cons_of_mem _ hb)
    refine ⟨s',?_,q2⟩
    rw [List.map_cons,Dh,p2]
    dsimp only
    rw [p3]
    dsimp only
    rw [p4]
    dsimp only
    rw [if_pos hlen,qm]
    dsimp only
    rw [List.map_append,hcap,q1]
    simp
theorem zj {α:Type} (h f:α→T) (l:List α) {g:G} {c:M Bool} {e:M T} {nv:Nat} {ci:List Nat} {it:M (List T)} {s s1:Sta} (env:List Slot) (cap:List Slot) (hit:it s=some (l.map h,s1)) (henv:jo ci s1.env=env) (hci:ci.map (fun i=>(env[i]?).getD none)=cap) (hcap:cap.map Gu=cap) (hl:l.length≤lim)
    (H:∀ a∈l,∀ pre:List Slot,pre.length=nv→∃ pre',pre'.length=nv∧g (h a) ⟨pre++cap,s1.sto⟩=some ⟨pre'++cap,s1.sto⟩∧c ⟨pre'++cap,s1.sto⟩=some (true,⟨pre'++cap,s1.sto⟩)∧e ⟨pre'++cap,s1.sto⟩=some (f a,⟨pre'++cap,s1.sto⟩)) :
    ou nv ci g it c e s=some (.lst (l.map f),⟨env,s1.sto⟩):=by
  obtain ⟨s',q1,q2⟩:=S9 hcap l [] (List.replicate nv none) (by simp) (by simpa using hl) H
  unfold ou
  rw [hit]
  dsimp only
  rw [henv,hci,q1]
  dsimp only
  rw [q2]; rfl
def okS (x:Str):Prop:=PyData.canLay0 (.str x)=true
theorem Bm {x:Str} (h:okS x):dat (.str x)=some (.str x):=by
  unfold okS at h
  simp [dat,h]
theorem a78 {a b:Str} (ha:okS a) (hb:okS b):neO (.str a) (.str b)=some (.bl (!(a==b))):=by
  simp [neO,eqT,eqD,Bm ha,Bm hb,PyData.depth,PyData.eqv]
def Pl (n:Nat) (t:T):Prop:=∃ d,dat t=some d∧d.depth≤n
theorem Nk (n:Nat) (i:Int):Pl n (.int i):=⟨.int i,by simp [dat],by simp [PyData.depth]⟩
theorem Ek (n:Nat) {x:Str} (h:okS x):Pl n (.str x):=⟨.str x,Bm h,by simp [PyData.depth]⟩
theorem pls {n:Nat}:∀ ts:List T,(∀ t∈ts,Pl n t)→∃ ds,Dw ts=some ds∧PyData.depthAll ds≤n
  | [],_=>⟨[],by simp [Dw],by simp [PyData.depthAll]⟩
  | t::r,h=>by
    obtain ⟨d,d1,d2⟩:=h t List.mem_cons_self
    obtain ⟨ds,e1,e2⟩:=pls r fun x hx=>h x (List.mem_cons_of_mem _ hx)
    exact ⟨d::ds,by simp [Dw,d1,e1],by simp only [PyData.depthAll]; (clear e1 d1 h; omega)⟩
theorem Cd {n:Nat} {ts:List T} (h:∀ t∈ts,Pl n t):Pl (n+1) (.tup ts):=by
  obtain ⟨ds,e1,e2⟩:=pls ts h
  exact ⟨.tuple ds,by simp [dat,e1],by simp only [PyData.depth]; (clear e1 h; omega)⟩
end C
namespace C
open PySem
theorem a1p {g:G} {b:S} (P:List T→Sta→Prop) (H:∀ t r s,P (t::r) s→∃ s1 s2,g t s=some s1∧b s1=some (.next,s2)∧P r s2):∀ (ts:List T) (s:Sta),P ts s→∃ s',forL g b ts s=some (.next,s')∧P [] s'
  | [],s,h=>⟨s,by simp [forL],h⟩
  | t::r,s,h=>by
    obtain ⟨s1,s2,h1,h2,h3⟩:=H t r s h
    obtain ⟨s',e,p⟩:=a1p P H r s2 h3
    refine ⟨s',?_,p⟩
    rw [forL]; dsimp only; rw [h1]; dsimp only; rw [h2]; dsimp only; exact e
theorem Bb {g:G} {b:S} {ts:List T} {s:Sta} {r:Option (Flow × Sta)} (hF:forL g b ts s=r) (P:List T→Sta→Prop) (hP:P ts s) (H:∀ t r s,P (t::r) s→∃ s1 s2,g t s=some s1∧b s1=some (.next,s2)∧P r s2):∃ s',r=some (.next,s')∧P [] s':=by
  obtain ⟨s',e,p⟩:=a1p P H ts s hP
  exact ⟨s',hF.symm.trans e,p⟩
end C
namespace C
open PySem
theorem Ve {α:Type} {g:G} {c:M Bool} {e:M T} {nv:Nat} {ci:List Nat} {it:M (List T)} {s:Sta} {r:Option (T × Sta)} (hF:ou nv ci g it c e s=r) (h f:α→T) (l:List α) (s1:Sta) (env cap:List Slot) (hit:it s=some (l.map h,s1)) (henv:jo ci s1.env=env) (hci:ci.map (fun i=>(env[i]?).getD none)=cap) (hcap:cap.map Gu=cap) (hl:l.length≤lim)
    (H:∀ a∈l,∀ pre:List Slot,pre.length=nv→∃ pre',pre'.length=nv∧g (h a) ⟨pre++cap,s1.sto⟩=some ⟨pre'++cap,s1.sto⟩∧c ⟨pre'++cap,s1.sto⟩=some (true,⟨pre'++cap,s1.sto⟩)∧e ⟨pre'++cap,s1.sto⟩=some (f a,⟨pre'++cap,s1.sto⟩)) :
    r=some (.lst (l.map f),⟨env,s1.sto⟩):=hF.symm.trans (zj h f l env cap hit henv hci hcap hl H)
theorem a1i {α:Type} (h:α→T) (l:List α) {i:Int} (h0:0≤i) (h1:i<l.length):∃ a∈l,d9 (.lst (l.map h)) (.int i)=some (h a):=by
  have hi:i.toNat<l.length:=by omega
  refine ⟨l[i.toNat],List.getElem_mem hi,?_⟩
  simp [d9,ixI,h0,h1,List.getElem?_eq_getElem hi]
theorem Js {α:Type} (h:α→T) (l:List α) {k:Nat} (hk:k<l.length):d9 (.lst (l.map h)) (.int (k:Int))=some (h l[k]):=by
  have h1:(k:Int)<(l.length:Int):=by omega
  simp [d9,ixI,h1,List.getElem?_eq_getElem hk]
end C
end
open C
local macro_rules | `(tactic| simp! [$ls,*])=>`(tactic| simp [su,jl,sIf,zp,sNew,Ah,Dl,sNx,Ge,sGo,a3t,G6,xg,Ai,Cw,gb,V4,Yu,mOr,Fl,mIf,mOp,mUn,bw,nu,ao,g8,aq,a2t,fu,iu,hName,M5,Bs,Ab,ltT,leT,Xp,Gk,Jv,T5,Ox,a9c,adp,a6y,yw,jo,Gu,$ls,*])
section
namespace C
open PySem
theorem Qu {α σ:Type} {g:G} {b:S} (h:α→T) (R:σ→Sta) (step:σ→α→σ) (P:List α→σ→Prop)
    (H:∀ a r x,P (a::r) x→(∃ s1,g (h a) (R x)=some s1∧b s1=some (.next,R (step x a)))∧P r (step x a)) :
    ∀ (l:List α) (x:σ),P l x→forL g b (l.map h) (R x)=some (.next,R (l.foldl step x))∧P [] (l.foldl step x)
  | [],x,p=>⟨by simp [forL],p⟩
  | a::l,x,p=>by
    obtain ⟨⟨s1,h1,h2⟩,h3⟩:=H a l x p
    obtain ⟨e,q⟩:=Qu h R step P H l (step x a) h3
    refine ⟨?_,q⟩
    rw [List.map_cons,forL]; dsimp only; rw [h1]; dsimp only; rw [h2]; dsimp only; exact e
theorem a5c {α σ:Type} {g:G} {b:S} {ts:List T} {s:Sta} {r:Option (Flow × Sta)} (hF:forL g b ts s=r) (h:α→T) (l:List α) (R:σ→Sta) (x0:σ) (step:σ→α→σ) (P:List α→σ→Prop) (ht:ts=l.map h) (hs:s=R x0) (hP:P l x0)
    (H:∀ a r x,P (a::r) x→(∃ s1,g (h a) (R x)=some s1∧b s1=some (.next,R (step x a)))∧P r (step x a)) :
    r=some (.next,R (l.foldl step x0))∧P [] (l.foldl step x0):=by
  subst ht hs
  obtain ⟨e,p⟩:=Qu h R step P H l x0 hP
  exact ⟨hF.symm.trans e,p⟩
theorem Dy {α:Type} {h f:α→T} {q:α→Bool} {g:G} {c:M Bool} {e:M T} {nv:Nat} {cap:List Slot} {sto:List SO} (hcap:cap.map Gu=cap) :
    ∀ (l:List α) (acc:List T) (pre:List Slot),pre.length=nv→acc.length+l.length≤lim →
      (∀ a∈l,∀ pre:List Slot,pre.length=nv→∃ pre',pre'.length=nv∧g (h a) ⟨pre++cap,sto⟩=some ⟨pre'++cap,sto⟩∧c ⟨pre'++cap,sto⟩=some (q a,⟨pre'++cap,sto⟩)∧(q a=true→e ⟨pre'++cap,sto⟩=some (f a,⟨pre'++cap,sto⟩))) →
      ∃ s',Dh g c e (l.map h) ⟨pre++cap,sto⟩ acc=some (acc++(l.filter q).map f,s')∧s'.sto=sto
  | [],acc,pre,hp,hl,H=>⟨⟨pre++cap,sto⟩,by simp [Dh],rfl⟩
  | a::l,acc,pre,hp,hl,H=>by
    obtain ⟨pre',p1,p2,p3,p4⟩:=H a List.mem_cons_self pre hp
    have hlen:acc.length<lim:=by simp at hl ⊢; (clear p4 p3 p2 p1 H hp hcap; omega)
    rw [List.map_cons,Dh,p2]
    dsimp only
    rw [p3]
    cases hq:q a with
    | true =>
      obtain ⟨s',q1,q2⟩:=Dy hcap l (acc++[f a]) (pre'.map Gu) (by simpa using p1) (by simp at hl ⊢; (clear hq hlen p4 p3 p2 p1 H hp hcap; omega)) fun b hb=>H b (List.mem_cons_of_mem _ hb)
      refine ⟨s',?_,q2⟩
      dsimp only
      rw [p4 hq]
      dsimp only
      rw [if_pos hlen,qm]
      dsimp only
      rw [List.map_append,hcap,q1]
      simp [hq]
    | false =>
      obtain ⟨s',q1,q2⟩:=Dy hcap l acc (pre'.map Gu) (by simpa using p1) (by simp at hl ⊢; (clear hq hlen p4 p3 p2 p1 H hp hcap; omega)) fun b hb=>H b (List.mem_cons_of_mem _ hb)
      refine ⟨s',?_,q2⟩
      dsimp only
      rw [qm]
      dsimp only
      rw [List.map_append,hcap,q1]
      simp [hq]
theorem Ed {α:Type} {g:G} {c:M Bool} {e:M T} {nv:Nat} {ci:List Nat} {it:M (List T)} {s:Sta} {r:Option (T × Sta)} (hF:ou nv ci g it c e s=r) (h f:α→T) (q:α→Bool) (l:List α) (s1:Sta) (env cap:List Slot) (hit:it s=some (l.map h,s1)) (henv:jo ci s1.env=env) (hci:ci.map (fun i=>(env[i]?).getD none)=cap) (hcap:cap.map Gu=cap) (hl:l.length≤lim)
    (H:∀ a∈l,∀ pre:List Slot,pre.length=nv→∃ pre',pre'.length=nv∧g (h a) ⟨pre++cap,s1.sto⟩=some ⟨pre'++cap,s1.sto⟩∧c ⟨pre'++cap,s1.sto⟩=some (q a,⟨pre'++cap,s1.sto⟩)∧(q a=true→e ⟨pre'++cap,s1.sto⟩=some (f a,⟨pre'++cap,s1.sto⟩))) :
    r=some (.lst ((l.filter q).map f),⟨env,s1.sto⟩):=by
  obtain ⟨s',q1,q2⟩:=Dy hcap l [] (List.replicate nv none) (by simp) (by simpa using hl) H
  rw [← hF]
  unfold ou
  rw [hit]
  dsimp only
  rw [henv,hci,q1]
  dsimp only
  rw [q2]; rfl
theorem tu {a b:Int}:eqO (.int a) (.int b)=some (.bl (a==b)):=rfl
theorem V6 {a b:Int}:neO (.int a) (.int b)=some (.bl (!(a==b))):=by simp [neO,eqT,eqD,dat,PyData.depth,PyData.eqv]
theorem a7z {a b:Str} (ha:okS a) (hb:okS b):eqD (.str a) (.str b)=some (a==b):=by
  simp [eqD,Bm ha,Bm hb,PyData.depth,PyData.eqv]
theorem Z8 {a b:Str} (ha:okS a) (hb:okS b):eqO (.str a) (.str b)=some (.bl (a==b)):=by
  simp [eqO,eqT,eqD,Bm ha,Bm hb,PyData.depth,PyData.eqv]
theorem a7d {xs:List T} {k:Nat} {t:T} (h:xs[k]? = some t):d9 (.lst xs) (.int (k:Int))=some t:=by
  have hk:k<xs.length:=(List.getElem?_eq_some_iff.mp h).1
  have h1:(k:Int)<(xs.length:Int):=by omega
  simp [d9,ixI,h1,h]
theorem Pb {xs:List T} {k:Nat} {t:T} (h:xs[k]? = some t):d9 (.tup xs) (.int (k:Int))=some t:=by
  have hk:k<xs.length:=(List.getElem?_eq_some_iff.mp h).1
  have h1:(k:Int)<(xs.length:Int):=by omega
  simp [d9,ixI,h1,h]
theorem vo {a:T} {r:List T}:d9 (.tup (a::r)) (.int 0)=some a:=Pb (k:=0) rfl
theorem Ax {a b:T} {r:List T}:d9 (.tup (a::b::r)) (.int 1)=some b:=Pb (k:=1) rfl
theorem Sh {a b c:T} {r:List T}:d9 (.tup (a::b::c::r)) (.int 2)=some c:=Pb (k:=2) rfl
theorem a0b {a b c d:T} {r:List T}:d9 (.tup (a::b::c::d::r)) (.int 3)=some d:=Pb (k:=3) rfl
theorem Ir {α β:Type} {f g:α→List β}:∀ {l:List α},(∀ a∈l,f a=g a)→l.flatMap f=l.flatMap g
  | [],_=>rfl
  | a::l,h=>by rw [List.flatMap_cons,List.flatMap_cons,h a List.mem_cons_self,Ir fun b hb=>h b (List.mem_cons_of_mem _ hb)]
theorem R7 {i j:Nat} {x y:T} {s:Sta}:M5 [i,j] (.tup [x,y]) s=some (iu j y false (iu i x false s)):=by simp [M5]
theorem Wr {a b c:S} {s s':Sta} (h:jl a b s=some (.next,s')):jl a (jl b c) s=c s':=by
  unfold jl at h ⊢
  cases ha:a s with
  | none=>rw [ha] at h; cases h
  | some p =>
    obtain ⟨fl,s1⟩:=p
    rw [ha] at h
    cases fl with
    | next=>dsimp only at h ⊢; rw [h]
    | _=>cases h
theorem gj {a b:S} {s s':Sta} (h:a s=some (.next,s')):jl a b s=b s':=by unfold jl; rw [h]
def Out (r:Option (T × List SO)) (P:T→List SO→Prop):Prop:=∃ t s,r=some (t,s)∧P t s
theorem Out.of {t:T} {s:List SO} {P:T→List SO→Prop} (h:P t s):Out (some (t,s)) P:=⟨t,s,rfl,h⟩
theorem Ip {n:Nat} {c:M Bool} {b:S} {s s1 s2:Sta} (hc:c s=some (true,s1)) (hb:b s1=some (.next,s2)):yc (n+1) c b s=yc n c b s2:=by
  rw [yc]; dsimp only; rw [hc]; dsimp only; rw [hb]
theorem Im {n:Nat} {c:M Bool} {b:S} {s s1:Sta} (hc:c s=some (false,s1)):yc (n+1) c b s=some (.next,s1):=by
  rw [yc]; dsimp only; rw [hc]
end C
end
section
namespace K
open C PySem
abbrev scr (cs:List Int):T:=.lst (cs.map .int)
def cell (cs:List Int) (k:Nat):Int:=cs.getD k 0
theorem a73 {cs:List Int} {k:Nat} {sto:List SO}:m6 [scr cs,.int (k:Int)] sto=some (.int (cell cs k),sto):=by
  by_cases h:k<cs.length
  · have h1:((k:Int)<(cs.length:Int)):=by omega
    have h2:cs[k]? = some cs[k]:=List.getElem?_eq_getElem h
    simp! [m6,d9,ixI,h1,h2,cell,List.getD]
  · have h1:¬ ((k:Int)<(cs.length:Int)):=by omega
    have h2:cs[k]? = none:=List.getElem?_eq_none_iff.mpr (by omega)
    simp! [m6,d9,ixI,h1,h2,cell,List.getD]
theorem a1n {cs:List Int} {k:Nat} {i:Int} {sto:List SO} (h:i=(k:Int)):m6 [scr cs,.int i] sto=some (.int (cell cs k),sto):=by
  rw [h]; exact a73
def a8l (so:SO):Prop:=(∃ a w,so=.lst [.int a,.int w])∨∃ a w c,so=.lst [.int a,.int w,.int c]
def StO (sto:List SO):Prop:=∀ so∈sto,a8l so
theorem StO.set {sto:List SO} (h:StO sto) (n:Nat) {so:SO} (hs:a8l so):StO (sto.set n so):=fun x hx=>by
  rcases List.mem_or_eq_of_mem_set hx with z | z
  · exact h x z
  · subst z; exact hs
theorem ad4 (a:Int):inT (.int a) (.lst [.int 0,.int (-1)])=some (.bl (a==0||a == -1)):=by
  simp [inT,inL,eqD,dat,PyData.depth,PyData.eqv]
  rw [show ((0:Int)==a)=(a==0) from Bool.beq_comm,show ((-1:Int)==a)=(a == -1) from Bool.beq_comm]
def mixed (a:Int):Int:=(a%2147483647 * 48271+1013)%2147483629
theorem a9b {n:Nat} {many a w c:Int} {sto:List SO} (hn:n<sto.length) (hs:StO sto) (hm:0<many) (hb:many.natAbs<fdl) (e:sto[n]? = some (.lst [.int a,.int w,.int c])) :
    ∃ r sto',cj [.obj n,.int many] sto=some (.int r,sto')∧0≤r∧r<many∧StO sto'∧sto'.length=sto.length:=by
  have lt:∀ x:Int,0≤x%many∧x%many<many:=fun x=>⟨Int.emod_nonneg _ (by omega),Int.emod_lt_of_pos _ hm⟩
  have S3:∀ a w c:Int,a8l (.lst [.int a,.int w,.int c]):=fun a w c=>.inr ⟨a,w,c,rfl⟩
  have b1:∀ x:Int,Qn (x%2147483647)=true:=fun x=>by
    have:=Int.emod_nonneg x (show (2147483647:Int)≠0 by decide)
    have:=Int.emod_lt_of_pos x (show (0:Int)<2147483647 by decide)
    simp only [Qn,decide_eq_true_eq]; omega
  have b2:Qn 69621=true:=by decide
  unfold cj
  by_cases hw:w=0
  · subst hw
    by_cases ha:(a==0||a == -1)=true
    · refine ⟨(mixed (c+1013) * 69621%2147483587) / 11%many,sto.set n (.lst [.int (mixed (c+1013)),.int 1,.int c]),?_,(lt _).1,(lt _).2,hs.set n (S3 _ _ _),List.length_set⟩
      simp! [zq,e,tu,vd,ixI,ad4,ha,Ft,List.getElem?_set_self hn,Nz,b1,b2,hm,mixed]
    · refine ⟨a%many,sto.set n (.lst [.int (a / many),.int 0,.int c]),?_,(lt _).1,(lt _).2,hs.set n (S3 _ _ _),List.length_set⟩
      simp! [zq,e,tu,vd,ixI,ad4,ha,Ft,List.getElem?_set_self hn,hm,hb]
  · have hw':(w==0)=false:=beq_eq_false_iff_ne.mpr hw
    refine ⟨(mixed a * 69621%2147483587) / 11%many,sto.set n (.lst [.int (mixed a),.int w,.int c]),?_,(lt _).1,(lt _).2,hs.set n (S3 _ _ _),List.length_set⟩
    simp! [zq,e,tu,vd,ixI,hw',Ft,List.getElem?_set_self hn,Nz,b1,b2,hm,mixed]
theorem abb {n:Nat} {many a w:Int} {sto:List SO} (hn:n<sto.length) (e:sto[n]? = some (.lst [.int a,.int w])):cj [.obj n,.int many] sto=cj [.obj n,.int many] (sto.set n (.lst [.int a,.int w,.int a])):=by
  have l2:(2:Nat)<lim:=by decide
  simp! [cj,zq,e,tu,vd,ixI,Ln,List.getElem?_set_self hn,l2]
theorem pick {n:Nat} {many:Int} {sto:List SO} (hn:n<sto.length) (hs:StO sto) (hm:0<many) (hb:many.natAbs<fdl) :
    ∃ r sto',cj [.obj n,.int many] sto=some (.int r,sto')∧0≤r∧r<many∧StO sto'∧sto'.length=sto.length:=by
  have e:=List.getElem?_eq_getElem hn
  rcases hs _ (List.getElem_mem hn) with ⟨a,w,h⟩ | ⟨a,w,c,h⟩
  · rw [h] at e
    rw [abb hn e]
    obtain ⟨r,sto',q1,q2,q3,q4,q5⟩:=a9b (many:=many) (by rw [List.length_set]; exact hn) (hs.set n (.inr ⟨a,w,a,rfl⟩)) hm hb (List.getElem?_set_self hn)
    exact ⟨r,sto',q1,q2,q3,q4,by rw [q5,List.length_set]⟩
  · rw [h] at e
    exact a9b hn hs hm hb e
end K
end
section
namespace C
open PySem
theorem Ms {g:G} {e:M T} {nv:Nat} {cap:List Slot} (hcap:cap.map Gu=cap) (P:List T→List T→List SO→Prop)
    (H:∀ t r acc sto,P (t::r) acc sto→∀ pre:List Slot,pre.length=nv→∃ pre' u sto',pre'.length=nv∧g t ⟨pre++cap,sto⟩=some ⟨pre'++cap,sto⟩∧e ⟨pre'++cap,sto⟩=some (u,⟨pre'++cap,sto'⟩)∧P r (acc++[u]) sto') :
    ∀ (ts acc:List T) (pre:List Slot) (sto:List SO),pre.length=nv→acc.length+ts.length≤lim→P ts acc sto →
      ∃ us s',Dh g yw e ts ⟨pre++cap,sto⟩ acc=some (us,s')∧P [] us s'.sto
  | [],acc,pre,sto,hp,hl,p=>⟨acc,⟨pre++cap,sto⟩,by simp [Dh],p⟩
  | t::r,acc,pre,sto,hp,hl,p=>by
    obtain ⟨pre',u,sto',p1,p2,p3,p4⟩:=H t r acc sto p pre hp
    have hlen:acc.length<lim:=by simp only [List.length_cons] at hl; omega
    obtain ⟨us,s',q1,q2⟩:=Ms hcap P H r (acc++[u]) (pre'.map Gu) sto' (by simpa using p1) (by simp only [List.length_cons,List.length_append,List.length_nil] at hl ⊢; omega) p4
    refine ⟨us,s',?_,q2⟩
    rw [Dh,p2]
    dsimp only [yw]
    rw [p3]
    dsimp only
    rw [if_pos hlen,qm]
    dsimp only
    rw [List.map_append,hcap,q1]
theorem Mw {g:G} {e:M T} {nv:Nat} {ci:List Nat} {it:M (List T)} {s:Sta} {r:Option (T × Sta)} (hF:ou nv ci g it yw e s=r) (ts:List T) (s1:Sta) (env cap:List Slot) (P:List T→List T→List SO→Prop) (hit:it s=some (ts,s1)) (henv:jo ci s1.env=env) (hci:ci.map (fun i=>(env[i]?).getD none)=cap) (hcap:cap.map Gu=cap) (hl:ts.length≤lim) (p:P ts [] s1.sto)
    (H:∀ t r acc sto,P (t::r) acc sto→∀ pre:List Slot,pre.length=nv→∃ pre' u sto',pre'.length=nv∧g t ⟨pre++cap,sto⟩=some ⟨pre'++cap,sto⟩∧e ⟨pre'++cap,sto⟩=some (u,⟨pre'++cap,sto'⟩)∧P r (acc++[u]) sto') :
    ∃ us sto',r=some (.lst us,⟨env,sto'⟩)∧P [] us sto':=by
  obtain ⟨us,s',q1,q2⟩:=Ms hcap P H ts [] (List.replicate nv none) s1.sto (by simp) (by simpa using hl) p
  refine ⟨us,s'.sto,?_,q2⟩
  rw [← hF]
  unfold ou
  rw [hit]
  dsimp only
  rw [henv,hci,q1]
end C
namespace K
open C PySem
def qs (n:Nat):Str:=⟨((List.replicate n ("q" : Str).cps.toList).flatten).toArray⟩
theorem a8r {j:Int} (h0:0≤j) (h1:j≤1000):Nz (.str "q") (.int j)=some (.str (qs j.toNat)):=by
  have hl:Str.length ("q" : Str)≤100:=by decide +kernel
  simp only [Nz]
  rw [if_pos ⟨h0,h1,hl⟩]; rfl
def lt1 (i:Nat):Str:=⟨#[("abcdefghij" : Str).cps.toList.getD i 0]⟩
theorem a8n {i:Nat} (h:i<10):d9 (.str "abcdefghij") (.int (i:Int))=some (.str (lt1 i)):=by
  match i,h with
  | 0,_=>rfl
  | 1,_=>rfl
  | 2,_=>rfl
  | 3,_=>rfl
  | 4,_=>rfl
  | 5,_=>rfl
  | 6,_=>rfl
  | 7,_=>rfl
  | 8,_=>rfl
  | 9,_=>rfl
def nm (p i q:Nat):Str:=qs p++lt1 i++qs q
def okN (x:Str):Prop:=okS x∧x.length<40
theorem abp:∀ p,p<8→∀ i,i<10→∀ q,q<8→okN (nm p i q)∧(qs p).length+(lt1 i).length<20∧(qs p++lt1 i).length+(qs q).length<40:=by
  unfold okN okS
  decide +kernel
def wd (i:Nat):Str:=(["b","ab","abc","abcd","a","ba","aab","b1","bab","ab1"]:List Str).getD i "b"
theorem abt:∀ i,i<10→okN (wd i):=by
  unfold okN okS
  decide +kernel
theorem abd {i:Nat} (h:i<10):d9 (.lst [.str "b",.str "ab",.str "abc",.str "abcd",.str "a",.str "ba",.str "aab",.str "b1",.str "bab",.str "ab1"]) (.int (i:Int))=some (.str (wd i)):=by
  match i,h with
  | 0,_=>rfl
  | 1,_=>rfl
  | 2,_=>rfl
  | 3,_=>rfl
  | 4,_=>rfl
  | 5,_=>rfl
  | 6,_=>rfl
  | 7,_=>rfl
  | 8,_=>rfl
  | 9,_=>rfl
theorem name {c k:Int} {sto:List SO}:∃ x:Str,u6 [.int c,.int k] sto=some (.str x,sto)∧okN x:=by
  by_cases h4:c / 640%4=1
  · obtain ⟨i,hi,ei⟩:∃ i:Nat,i<10∧k%10=(i:Int):=⟨(k%10).toNat,by omega,by omega⟩
    refine ⟨wd i,?_,abt i hi⟩
    simp! [u6,tu,h4,ei,abd hi]
  · obtain ⟨z,hz,ez⟩:∃ z:Nat,z<8∧c%8=(z:Int):=⟨(c%8).toNat,by omega,by omega⟩
    have hs:(0:Int)<1+(z:Int):=by omega
    have p0:=Int.emod_nonneg (c / 8) (show (1+(z:Int))≠0 by omega)
    have p1:=Int.emod_lt_of_pos (c / 8) hs
    obtain ⟨p,ep⟩:∃ p:Nat,c / 8%(1+(z:Int))=(p:Int):=⟨(c / 8%(1+(z:Int))).toNat,by omega⟩
    have hp:p≤z:=by omega
    obtain ⟨i,hi,ei⟩:∃ i:Nat,i<10∧(3 * k+c / 64)%10=(i:Int):=⟨((3 * k+c / 64)%10).toNat,by omega,by omega⟩
    obtain ⟨o1,o2,o3⟩:=abp p (by omega) i hi (z - p) (by omega)
    refine ⟨nm p i (z - p),?_,o1⟩
    have hb:(c / 640%4==1)=false:=beq_eq_false_iff_ne.mpr h4
    have m1:=a8r (j:=(p:Int)) (by omega) (by omega)
    have m2:=a8r (j:=(z:Int) - (p:Int)) (by omega) (by omega)
    rw [Int.toNat_natCast] at m1
    rw [show ((z:Int) - (p:Int)).toNat=z - p by omega] at m2
    have b3:Qn 3=true:=by decide
    have mi:Nz (.int 3) (.int k)=some (.int (3 * k)):=by simp [Nz,b3]
    have l1:(qs p).length+(lt1 i).length<lim:=by show _<1000000; omega
    have l2:(qs p++lt1 i).length+(qs (z - p)).length<lim:=by show _<1000000; omega
    simp! [u6,tu,hb,ez,hs,ep,m1,mi,ei,a8n hi,l1,show 1+(z:Int) - 1 - (p:Int)=(z:Int) - (p:Int) by omega,m2,l2,nm]
abbrev Sm:=Int × List (Str × Int)
def pT (p:Str × Int):T:=.tup [.str p.1,.int p.2]
def smT (s:Sm):T:=.tup [.int s.1,.tup (s.2.map pT)]
def a5q (N:List Str) (s:Sm):Prop:=s.2.length≤N.length∧∀ p∈s.2,p.1∈N∧-4<p.2∧p.2<4
def G7 (N:List Str):Prop:=N.length≤2∧∀ x∈N,okN x
theorem W3 {x y:Str}:∀ {l:List Str},y∈M6 x l→y=x∨y∈l
  | [],h=>by simp [M6] at h; exact .inl h
  | z::l,h=>by
    unfold M6 at h
    split at h
    · rcases List.mem_cons.mp h with rfl | h -- here
      · exact .inl rfl
      · exact .inr h
    · rcases List.mem_cons.mp h with rfl | h -- here
      · exact .inr List.mem_cons_self
      · rcases W3 h with h | h
        · exact .inl h
        · exact .inr (List.mem_cons_of_mem _ h)
theorem Vp {x:Str}:∀ {l:List Str},(M6 x l).length=l.length+1
  | []=>rfl
  | z::l=>by unfold M6; split <;> simp [Vp]
theorem Bl (l:List Str):∀ acc:List Str,(∀ y∈l.foldl (fun acc x=>M6 x acc) acc,y∈l∨y∈acc)∧(l.foldl (fun acc x=>M6 x acc) acc).length=l.length+acc.length:=by
  induction l with
  | nil=>intro acc; exact ⟨fun y h=>.inr h,by simp⟩
  | cons x l ih =>
    intro acc
    obtain ⟨h1,h2⟩:=ih (M6 x acc)
    refine ⟨fun y hy=>?_,by rw [List.foldl_cons,h2,Vp,List.length_cons]; omega⟩
    rcases h1 y hy with h | h
    · exact .inl (List.mem_cons_of_mem _ h)
    · rcases W3 h with rfl | h
      · exact .inl List.mem_cons_self
      · exact .inr h
theorem Kw {l:List Str} {y:Str} (h:y∈xu l):y∈l:=by
  rcases (Bl l []).1 y h with h | h
  · exact h
  · cases h
theorem Ht {l:List Str}:(xu l).length=l.length:=by have:=(Bl l []).2; unfold xu; simpa using this
theorem strs_map:∀ l:List Str,Jl (l.map T.str)=some l
  | []=>rfl
  | x::l=>by simp [Jl,strs_map l]
theorem sorted_strs {l:List Str} (h:l.length<64):Ld [.lst (l.map T.str)]=some (.lst ((xu l).map T.str)):=by
  simp [Ld,h,strs_map]
theorem a5b {n:Nat} {v:Int} (hn:n<7) (h0:0≤v) (h1:v<7):∃ t:Int,d9 (.lst [.int 0,.int 0,.int 1,.int 1,.int (-1),.int 2,.int (v - 3)]) (.int (n:Int))=some (.int t)∧-4<t∧t<4:=by
  match n,hn with
  | 0,_=>exact ⟨0,rfl,by omega,by omega⟩
  | 1,_=>exact ⟨0,rfl,by omega,by omega⟩
  | 2,_=>exact ⟨1,rfl,by omega,by omega⟩
  | 3,_=>exact ⟨1,rfl,by omega,by omega⟩
  | 4,_=>exact ⟨-1,rfl,by omega,by omega⟩
  | 5,_=>exact ⟨2,rfl,by omega,by omega⟩
  | 6,_=>exact ⟨v - 3,rfl,by omega,by omega⟩
theorem a1h {j:Int} (h0:0≤j) (h1:j<1000000000000000000000000000000000):j.natAbs<fdl:=Nat.lt_trans (show j.natAbs<1000000000000000000000000000000000 by omega) (by decide)
structure Dn (sto:List SO) (sto':List SO):Prop where
  ok:StO sto'
  len:sto.length≤sto'.length
theorem Aj {n:Nat} {many:Int} {sto:List SO} (hn:n<sto.length) (hs:StO sto) (hm:0<many) (hb:many<1000000000000000000000000000000000) :
    ∃ (r:Int) (sto':List SO),cj [.obj n,.int many] sto=some (.int r,sto')∧0≤r∧r<many∧StO sto'∧sto'.length=sto.length:=pick hn hs hm (a1h (by omega) hb)
def SmO (N:List Str) (L:Nat) (t:T) (st:List SO):Prop:=∃ s,t=smT s∧a5q N s∧StO st∧st.length=L
theorem sum {n:Nat} {N:List Str} {sto:List SO} (hn:n<sto.length) (hs:StO sto) (okN:G7 N) :
    Out (xr [.obj n,.lst (N.map T.str)] sto) (SmO N sto.length):=by
  obtain ⟨r1,s1,p1,a1,b1,o1,l1⟩:=Aj (many:=5) hn hs (by decide) (by decide)
  obtain ⟨r2,s2,p2,a2,b2,o2,l2⟩:=Aj (many:=9) (by omega:n<s1.length) o1 (by decide) (by decide)
  have num:∃ (k:Int) (s3:List SO),StO s3∧s3.length=sto.length∧((jl (zp 2 (mOp Jv (fu cj (ao (bw 0) (ao (aq (.int 5)) g8))) (aq (.int 2))))
      (sIf (gb (mOp eqO (fu cj (ao (bw 0) (ao (aq (.int 9)) g8))) (aq (.int 8))))
      (zp 2 (mOp Jv (fu cj (ao (bw 0) (ao (mOp Jv (mOp Nz (aq (.int 2)) (mOp Y4 (aq (.int 10)) (aq (.int 9)))) (aq (.int 1))) g8))) (mOp Jv (mOp Y4 (aq (.int 10)) (aq (.int 9))) (aq (.int 1)))))
      Dl)):S) ⟨[some (.obj n,false),some (.lst (N.map T.str),false),none,none,none,none],sto⟩=some (.next,⟨[some (.obj n,false),some (.lst (N.map T.str),false),some (.int k,false),none,none,none],s3⟩):=by
    by_cases h8:r2=8
    · obtain ⟨r3,s3,p3,a3,b3,o3,l3⟩:=Aj (n:=n) (many:=1999999999) (by omega:n<s2.length) o2 (by decide) (by decide)
      refine ⟨r3 - 999999999,s3,o3,by omega,?_⟩
      have bb:Qn 2=true:=by decide
      subst h8
      simp! [p1,p2,tu,Y4,Nz,bb,p3]
    · have hb:(r2==8)=false:=beq_eq_false_iff_ne.mpr h8
      refine ⟨r1 - 2,s2,o2,by omega,?_⟩
      simp! [p1,p2,tu,hb]
  obtain ⟨k,s3,o3,l3,num⟩:=num
  have hN:(xu N).length=N.length:=Ht
  have h2:=okN.1
  have nn:(xu N).length<lim:=by show _<1000000; omega
  have so:=sorted_strs (l:=N) (by omega)
  unfold xr su
  rw [show ([T.obj n,.lst (N.map T.str)].map (fun t=>some (t,false))++List.replicate (6 - [T.obj n,.lst (N.map T.str)].length) none:List Slot)=[some (.obj n,false),some (.lst (N.map T.str),false),none,none,none,none] from rfl,Wr num]
  simp! [so,nn]
  generalize hF:forL _ _ _ _=r
  obtain ⟨s',rfl,P⟩:=Bb hF (fun ts s=>∃ (l:List Str) (acc:List (Str × Int)) (o4 o5:Slot) (st:List SO),ts=l.map T.str∧(∀ x∈l,x∈N)∧s=⟨[some (.obj n,false),some (.lst (N.map T.str),false),some (.int k,false),some (.lst (acc.map pT),true),o4,o5],st⟩∧StO st∧st.length=sto.length∧acc.length+l.length≤N.length∧∀ p∈acc,p.1∈N∧-4<p.2∧p.2<4)
    ⟨xu N,[],none,none,s3,rfl,fun x hx=>Kw hx,rfl,o3,l3,by simp [hN],fun p hp=>by cases hp⟩ (by
      rintro t r s ⟨l,acc,o4,o5,st,e1,e2,rfl,e3,e4,e5,e6⟩
      cases l with
      | nil=>cases e1
      | cons x l =>
        cases e1
        have xN:=e2 x List.mem_cons_self
        obtain ⟨v,t1,q1,c1,d1,w1,m1⟩:=Aj (n:=n) (many:=7) (by omega:n<st.length) e3 (by decide) (by decide)
        obtain ⟨i,t2,q2,c2,d2,w2,m2⟩:=Aj (n:=n) (many:=7) (by omega:n<t1.length) w1 (by decide) (by decide)
        obtain ⟨ii,hi,ei⟩:∃ j:Nat,j<7∧i=(j:Int):=⟨i.toNat,by omega,by omega⟩
        obtain ⟨tm,ht,g1,g2⟩:=a5b hi c1 d1
        rw [← ei] at ht
        simp only [List.length_cons] at e5
        have hl:acc.length<lim:=by show _<1000000; omega
        by_cases h0:tm=0
        · refine ⟨_,⟨[some (.obj n,false),some (.lst (N.map T.str),false),some (.int k,false),some (.lst (acc.map pT),true),some (.str x,false),some (.int tm,false)],t2⟩,rfl,?_,l,acc,some (.str x,false),some (.int tm,false),t2,rfl,fun y hy=>e2 y (List.mem_cons_of_mem _ hy),rfl,w2,by omega,by omega,e6⟩
          subst h0
          simp! [q1,q2,ht,V6]
        · have hb:(tm==0)=false:=beq_eq_false_iff_ne.mpr h0
          refine ⟨_,⟨[some (.obj n,false),some (.lst (N.map T.str),false),some (.int k,false),some (.lst ((acc++[(x,tm)]).map pT),true),some (.str x,false),some (.int tm,false)],t2⟩,rfl,?_,l,acc++[(x,tm)],some (.str x,false),some (.int tm,false),t2,rfl,fun y hy=>e2 y (List.mem_cons_of_mem _ hy),rfl,w2,by omega,by rw [List.length_append,List.length_singleton]; omega,?_⟩
          · simp! [q1,q2,ht,V6,hb,hl,pT]
          · intro p hp
            rcases List.mem_append.mp hp with z | z -- here
            · exact e6 p z
            · rw [List.mem_singleton] at z; subst z; exact ⟨xN,g1,g2⟩)
  obtain ⟨l,acc,o4,o5,st,e1,e2,rfl,e3,e4,e5,e6⟩:=P
  cases l with
  | cons _ _=>cases e1
  | nil =>
    simp! [Dq]
    exact .of ⟨(k,acc),rfl,⟨by simpa using e5,e6⟩,e3,e4⟩
end K
end
section
namespace K
open C PySem
abbrev Hd:=Str × Int
def hT (h:Hd):T:=.tup [.str h.1,.int h.2]
def M7 (H:List Hd):Prop:=1≤H.length∧H.length≤3∧∀ h∈H,okN h.1∧1≤h.2∧h.2≤4
inductive Rem where
  | most (s:Sm) | rest (s:Sm) (m:Int) | pl (h:Str) (p:Int) | all (l:List Rem) | any (l:List Rem) | no (r:Rem)
mutual
def nj:Rem→T
  | .most s=>.tup [.str "most",smT s]
  | .rest s m=>.tup [.str "rest",smT s,.int m]
  | .pl h p=>.tup [.str "at",.str h,.int p]
  | .all l=>.tup [.str "and",.tup (Li l)]
  | .any l=>.tup [.str "or",.tup (Li l)]
  | .no r=>.tup [.str "not",nj r]
def Li:List Rem→List T
  | []=>[]
  | r::l=>nj r::Li l
end
theorem zm:∀ l:List Rem,Li l=l.map nj
  | []=>rfl
  | r::l=>by rw [Li,zm l]; rfl
inductive OkR (N:List Str) (H:List Hd):Nat→Rem→Prop where
  | most {d:Nat} {s:Sm}:a5q N s→OkR N H d (.most s)
  | rest {d:Nat} {s:Sm} {m:Int}:a5q N s→2≤m→m≤12→OkR N H d (.rest s m)
  | pl {d:Nat} {h:Hd} {p:Int}:h∈H→0≤p→p<h.2→OkR N H d (.pl h.1 p)
  | all {d:Nat} {l:List Rem}:l.length≤5→(∀ r∈l,OkR N H d r)→OkR N H (d+1) (.all l)
  | any {d:Nat} {l:List Rem}:l.length≤5→(∀ r∈l,OkR N H d r)→OkR N H (d+1) (.any l)
  | no {d:Nat} {r:Rem}:OkR N H d r→OkR N H (d+1) (.no r)
theorem OkR.up {N:List Str} {H:List Hd} {d:Nat} {r:Rem} (h:OkR N H d r):OkR N H (d+1) r:=by
  induction h with
  | most h=>exact .most h
  | rest h a b=>exact .rest h a b
  | pl h a b=>exact .pl h a b
  | all h _ ih=>exact .all h ih
  | any h _ ih=>exact .any h ih
  | no _ ih=>exact .no ih
def RmO (N:List Str) (H:List Hd) (d L:Nat) (t:T) (st:List SO):Prop:=∃ r,t=nj r∧OkR N H d r∧StO st∧st.length=L
theorem Q9 {α:Type} (h:α→T) (l:List α) {i:Int} (h0:0≤i) (h1:i<l.length):∃ a∈l,d9 (.lst (l.map h)) (.int i)=some (h a):=a1i h l h0 h1
section
variable {n:Nat} {N:List Str} {H:List Hd} {sto:List SO}
theorem simple (hn:n<sto.length) (hs:StO sto) (okn:G7 N) (okh:M7 H):Out (nq [.obj n,.lst (N.map T.str),.lst (H.map hT)] sto) (RmO N H 0 sto.length):=by
  obtain ⟨r1,s1,p1,a1,b1,o1,l1⟩:=Aj (many:=4) hn hs (by decide) (by decide)
  unfold nq
  by_cases h0:r1=0
  · subst h0
    obtain ⟨hl1,hl2,hok⟩:=okh
    obtain ⟨r2,s2,p2,a2,b2,o2,l2⟩:=Aj (n:=n) (many:=(H.length:Int)) (by omega:n<s1.length) o1 (by omega) (by omega)
    obtain ⟨h,hm,hi⟩:=Q9 hT H a2 b2
    obtain ⟨k1,k2,k3⟩:=hok h hm
    obtain ⟨r3,s3,p3,a3,b3,o3,l3⟩:=Aj (n:=n) (many:=h.2) (by omega:n<s2.length) o2 (by omega) (by omega)
    simp! [p1,tu,p2,hi,hT,p3]
    exact .of ⟨.pl h.1 r3,rfl,.pl hm a3 b3,o3,by omega⟩
  · have hb:(r1==0)=false:=beq_eq_false_iff_ne.mpr h0
    obtain ⟨t,s2,p2,s,rfl,ok,o2,l2⟩:=sum (n:=n) (by omega:n<s1.length) o1 okn
    by_cases h1:r1=1
    · subst h1
      obtain ⟨r3,s3,p3,a3,b3,o3,l3⟩:=Aj (n:=n) (many:=11) (by omega:n<s2.length) o2 (by omega) (by omega)
      simp! [p1,tu,p2,p3]
      exact .of ⟨.rest s (2+r3),rfl,.rest ok (by omega) (by omega),o3,by omega⟩
    · have hb1:(r1==1)=false:=beq_eq_false_iff_ne.mpr h1
      simp! [p1,tu,hb,hb1,p2]
      exact .of ⟨.most s,rfl,.most ok,o2,by omega⟩
theorem a86 {v:Int} (h0:0≤v) (h1:v<2):(v=0∧d9 (.lst [.str "and",.str "or"]) (.int v)=some (.str "and"))∨(v=1∧d9 (.lst [.str "and",.str "or"]) (.int v)=some (.str "or")):=by
  have:v=0∨v=1:=by omega
  rcases this with rfl | rfl
  · exact .inl ⟨rfl,rfl⟩
  · exact .inr ⟨rfl,rfl⟩
def either (v:Int) (l:List Rem):Rem:=if v=0 then .all l else .any l
def Xo (v:Int):Str:=if v=0 then "and" else "or"
theorem Lx {v:Int} (h0:0≤v) (h1:v<2):d9 (.lst [.str "and",.str "or"]) (.int v)=some (.str (Xo v)):=by
  rcases a86 h0 h1 with ⟨rfl,h⟩ | ⟨rfl,h⟩ <;> exact h
theorem Ju {v:Int} {l:List Rem}:nj (either v l)=.tup [.str (Xo v),.tup (Li l)]:=by
  unfold either Xo
  split <;> simp [nj]
theorem Ef {v:Int} {d:Nat} {l:List Rem} (h:l.length≤5) (h2:∀ r∈l,OkR N H d r):OkR N H (d+1) (either v l):=by
  unfold either
  split
  · exact .all h h2
  · exact .any h h2
theorem remark (hn:n<sto.length) (hs:StO sto) (okn:G7 N) (okh:M7 H):Out (vm [.obj n,.lst (N.map T.str),.lst (H.map hT)] sto) (RmO N H 3 sto.length):=by
  obtain ⟨w,s1,p1,a1,b1,o1,l1⟩:=Aj (many:=11) hn hs (by decide) (by decide)
  unfold vm
  by_cases h2:w<2
  · simp! [p1,h2]
    exact .of ⟨.all [],by simp [nj,Li],.all (by simp) (fun r hr=>by cases hr),o1,by omega⟩
  obtain ⟨t1,s2,p2,x1,rfl,k1,o2,l2⟩:=simple (n:=n) (by omega:n<s1.length) o1 okn okh
  by_cases h5:w<5
  · simp! [p1,h2,p2,h5]
    exact .of ⟨x1,rfl,k1.up.up.up,o2,by omega⟩
  by_cases e5:w=5
  · subst e5
    simp! [p1,p2,tu]
    exact .of ⟨.no x1,by simp [nj],.no k1.up.up,o2,by omega⟩
  have n5:(w==5)=false:=beq_eq_false_iff_ne.mpr e5
  obtain ⟨t3,s3,p3,x2,rfl,k2,o3,l3⟩:=simple (n:=n) (by omega:n<s2.length) o2 okn okh
  have m2:0≤w%2∧w%2<2:=by omega
  have we:=Lx m2.1 m2.2
  by_cases h8:w<8
  · simp! [p1,h2,p2,h5,tu,n5,we,p3,h8]
    refine .of ⟨either (w%2) [x1,x2],by rw [Ju]; simp [Li],(Ef (d:=0) (by simp) ?_).up.up,o3,by omega⟩
    intro r hr
    simp only [List.mem_cons,List.not_mem_nil,or_false] at hr
    rcases hr with rfl | rfl
    · exact k1
    · exact k2
  by_cases e8:w=8
  · subst e8
    obtain ⟨v,s4,p4,a4,b4,o4,l4⟩:=Aj (n:=n) (many:=2) (by omega:n<s3.length) o3 (by omega) (by omega)
    have wv:=Lx a4 b4
    simp! [p1,p2,tu,Lx (v:=0) (by decide) (by decide),p3,p4,wv,Ax]
    refine .of ⟨.no (either v [x1,x2]),by simp [nj,Ju,Li],.no (Ef (d:=0) (by simp) ?_).up,o4,by omega⟩
    intro r hr
    simp only [List.mem_cons,List.not_mem_nil,or_false] at hr
    rcases hr with rfl | rfl
    · exact k1
    · exact k2
  have n8:(w==8)=false:=beq_eq_false_iff_ne.mpr e8
  by_cases e9:w=9
  · subst e9
    obtain ⟨v,s4,p4,a4,b4,o4,l4⟩:=Aj (n:=n) (many:=2) (by omega:n<s3.length) o3 (by omega) (by omega)
    obtain ⟨t5,s5,p5,x3,rfl,k3,o5,l5⟩:=simple (n:=n) (by omega:n<s4.length) o4 okn okh
    have wv:=Lx a4 b4
    simp! [p1,p2,tu,Lx (v:=1) (by decide) (by decide),p3,p4,wv,p5]
    refine .of ⟨either v [.no (either 1 [x1,x2]),x3],by simp [nj,Ju,Li],Ef (d:=2) (by simp) ?_,o5,by omega⟩
    intro r hr
    simp only [List.mem_cons,List.not_mem_nil,or_false] at hr
    rcases hr with rfl | rfl
    · refine .no (Ef (d:=0) (by simp) ?_)
      intro r hr
      simp only [List.mem_cons,List.not_mem_nil,or_false] at hr
      rcases hr with rfl | rfl
      · exact k1
      · exact k2
    · exact k3.up.up
  have n9:(w==9)=false:=beq_eq_false_iff_ne.mpr e9
  have e10:w=10:=by omega
  subst e10
  obtain ⟨m,s4,p4,a4,b4,o4,l4⟩:=Aj (n:=n) (many:=3) (by omega:n<s3.length) o3 (by omega) (by omega)
  have ml:(1+m).natAbs<lim:=by show _<1000000; omega
  obtain ⟨us,s5,ec,l,e1,e2,o5,l5,k5⟩:=Mw (g:=hName 0) (nv:=1) (ci:=[0,1,2]) (it:=Bs (mOp Gk (aq (.int 1)) (fu cj (ao (bw 0) (ao (aq (.int 3)) g8))))) (e:=fu nq (ao (bw 1) (ao (bw 2) (ao (bw 3) g8))))
    (s:=⟨[some (.obj n,false),some (.lst (N.map T.str),false),some (.lst (H.map hT),false),some (.int 10,false),some (nj x1,false),some (.tup [.str (Xo 0),.tup [nj x1,nj x2]],false),none],s3⟩) rfl (rangeT (1+m).toNat) ⟨[some (.obj n,false),some (.lst (N.map T.str),false),some (.lst (H.map hT),false),some (.int 10,false),some (nj x1,false),some (.tup [.str (Xo 0),.tup [nj x1,nj x2]],false),none],s4⟩
    [some (.obj n,false),some (.lst (N.map T.str),false),some (.lst (H.map hT),false),some (.int 10,false),some (nj x1,false),some (.tup [.str (Xo 0),.tup [nj x1,nj x2]],false),none] [some (.obj n,false),some (.lst (N.map T.str),false),some (.lst (H.map hT),false)]
    (fun ts acc st=>∃ l:List Rem,acc=l.map nj∧ts.length+l.length≤3∧StO st∧st.length=sto.length∧∀ r∈l,OkR N H 0 r)
    (by simp! [p4,ml]) rfl rfl rfl (by unfold rangeT; rw [List.length_map,List.length_range]; show _≤1000000; omega) ⟨[],rfl,by unfold rangeT; rw [List.length_map,List.length_range]; simp only [List.length_nil]; omega,o4,(by show s4.length=sto.length; omega),fun r hr=>by cases hr⟩ (by
      rintro t q acc st ⟨l,e1,e2,e3,e4,e5⟩ pre hp
      obtain ⟨a,rfl⟩:∃ a,pre=[a]:=by
        match pre,hp with
        | [a],_=>exact ⟨a,rfl⟩
      simp only [List.length_cons] at e2
      obtain ⟨t5,s6,p6,x3,rfl,k3,o6,l6⟩:=simple (n:=n) (by omega:n<st.length) e3 okn okh
      refine ⟨[some (t,false)],nj x3,s6,rfl,rfl,?_,l++[x3],by rw [e1]; simp,by rw [List.length_append,List.length_singleton]; omega,o6,by omega,fun r hr=>?_⟩
      · simp! [p6]
      · rcases List.mem_append.mp hr with z | z
        · exact e5 r z
        · rw [List.mem_singleton] at z; subst z; exact k3)
  simp only [List.length_nil,Nat.zero_add] at e2
  subst e1
  obtain ⟨v,s7,p7,a7,b7,o7,l7⟩:=Aj (n:=n) (many:=2) (by omega:n<s5.length) o5 (by omega) (by omega)
  have wv:=Lx a7 b7
  have l2l:l.length+2<lim:=by show _<1000000; omega
  simp! [p1,p2,tu,Lx (v:=0) (by decide) (by decide),p3,ec,Dq,p7,wv,Ax,l2l,Nat.add_comm]
  refine .of ⟨either v (x1::x2::l),by simp [Ju,Li,zm],(Ef (d:=0) (by simp; omega) ?_).up.up,o7,by omega⟩
  intro r hr
  simp only [List.mem_cons] at hr
  rcases hr with rfl | rfl | hr
  · exact k1
  · exact k2
  · exact k5 r hr
end
end K
end
section
namespace C
open PySem
theorem Ni {i:Nat} {e:M T} {s s1:Sta} {t:T} (h:e s=some (t,s1)):zp i e s=some (.next,iu i t false s1):=by unfold zp; rw [h]
theorem ac9 {c:M Bool} {a:S} {s s1:Sta} (h:c s=some (false,s1)):sIf c a Dl s=some (.next,s1):=by unfold sIf; rw [h]; rfl
theorem p1 (pre:List Slot) (h:pre.length=1):∃ a,pre=[a]:=by
  match pre,h with
  | [a],_=>exact ⟨a,rfl⟩
theorem p2 (pre:List Slot) (h:pre.length=2):∃ a b,pre=[a,b]:=by
  match pre,h with
  | [a,b],_=>exact ⟨a,b,rfl⟩
end C
namespace K
open C PySem
structure Bx where
  nm:Str
  lo:Int
  hi:Int
  st:Int
def bxT (b:Bx):T:=.tup [.str b.nm,.str "",.int b.lo,.int b.hi,.int b.st]
def abl (b:Bx):Prop:=okN b.nm∧b.lo≤b.st∧b.st≤b.hi∧b.hi≤b.lo+2
def BxO (L:Nat) (t:T) (st:List SO):Prop:=∃ l:List Bx,t=.lst (l.map bxT)∧l.length≤2∧(∀ b∈l,abl b)∧StO st∧st.length=L
section
variable {n:Nat} {N:List Str} {H:List Hd} {sto:List SO}
theorem abm {c m:Int} (hn:n<sto.length) (hs:StO sto) (m0:0≤m) (m2:m<3):Out (yp [.obj n,.int c,.int m] sto) (BxO sto.length):=by
  have ml:m.natAbs<lim:=by show _<1000000; omega
  have c30:Y4 (.int 10) (.int 30)=some (.int 1000000000000000000000000000000):=by simp [Y4]
  have bb:Qn 2=true:=by decide
  unfold yp
  simp! [ml]
  generalize hF:forL _ _ _ _=q
  obtain ⟨s',rfl,P⟩:=Bb hF (fun ts s=>∃ (l:List Bx) (o4 o5 o6:Slot) (st:List SO),(∀ t∈ts,∃ k:Int,t=.int k)∧ts.length+l.length≤2∧s=⟨[some (.obj n,false),some (.int c,false),some (.int m,false),some (.lst (l.map bxT),true),o4,o5,o6],st⟩∧StO st∧st.length=sto.length∧∀ b∈l,abl b)
    ⟨[],none,none,none,sto,fun t ht=>by unfold rangeT at ht; obtain ⟨k,_,rfl⟩:=List.mem_map.mp ht; exact ⟨_,rfl⟩,by unfold rangeT; rw [List.length_map,List.length_range]; simp only [List.length_nil]; omega,rfl,hs,rfl,fun b hb=>by cases hb⟩ (by
      rintro t q s ⟨l,o4,o5,o6,st,e0,e1,rfl,e2,e3,e4⟩
      obtain ⟨k,rfl⟩:=e0 t List.mem_cons_self
      simp only [List.length_cons] at e1
      have ll:l.length<lim:=by show _<1000000; omega
      obtain ⟨r1,s1,q1,a1,b1,w1,l1⟩:=Aj (n:=n) (many:=4) (by omega:n<st.length) e2 (by decide) (by decide)
      obtain ⟨r2,s2,q2,a2,b2,w2,l2⟩:=Aj (n:=n) (many:=9) (by omega:n<s1.length) w1 (by decide) (by decide)
      obtain ⟨lo,s3,w3,l3,h3⟩:∃ (lo:Int) (s3:List SO),StO s3∧s3.length=sto.length∧(jl (zp 5 (mOp Jv (fu cj (ao (bw 0) (ao (aq (.int 4)) g8))) (aq (.int 2))))
          (sIf (gb (mOp eqO (fu cj (ao (bw 0) (ao (aq (.int 9)) g8))) (aq (.int 8))))
          (zp 5 (mOp Jv (fu cj (ao (bw 0) (ao (mOp Jv (mOp Nz (aq (.int 2)) (mOp Y4 (aq (.int 10)) (aq (.int 30)))) (aq (.int 9))) g8))) (mOp Y4 (aq (.int 10)) (aq (.int 30)))))
          Dl):S) ⟨[some (.obj n,false),some (.int c,false),some (.int m,false),some (.lst (l.map bxT),true),some (.int k,false),o5,o6],st⟩=some (.next,⟨[some (.obj n,false),some (.int c,false),some (.int m,false),some (.lst (l.map bxT),true),some (.int k,false),some (.int lo,false),o6],s3⟩):=by
        by_cases h8:r2=8
        · obtain ⟨r3,s3,q3,a3,b3,w3,l3⟩:=Aj (n:=n) (many:=1999999999999999999999999999991) (by omega:n<s2.length) w2 (by decide) (by decide)
          subst h8
          exact ⟨r3 - 1000000000000000000000000000000,s3,w3,by omega,by simp! [q1,q2,tu,c30,Nz,bb,q3]⟩
        · have hb:(r2==8)=false:=beq_eq_false_iff_ne.mpr h8
          exact ⟨r1 - 2,s2,w2,by omega,by simp! [q1,q2,tu,hb]⟩
      obtain ⟨r4,s4,q4,a4,b4,w4,l4⟩:=Aj (n:=n) (many:=3) (by omega:n<s3.length) w3 (by decide) (by decide)
      obtain ⟨x,q5,ox⟩:=name (c:=c) (k:=k) (sto:=s4)
      obtain ⟨r6,s6,q6,a6,b6,w6,l6⟩:=Aj (n:=n) (many:=lo+r4 - lo+1) (by omega:n<s4.length) w4 (by omega) (by omega)
      refine ⟨_,⟨[some (.obj n,false),some (.int c,false),some (.int m,false),some (.lst ((l++[Bx.mk x lo (lo+r4) (lo+r6)]).map bxT),true),some (.int k,false),some (.int lo,false),some (.int (lo+r4),false)],s6⟩,rfl,?_,l++[⟨x,lo,lo+r4,lo+r6⟩],_,_,_,s6,fun t ht=>e0 t (List.mem_cons_of_mem _ ht),by rw [List.length_append,List.length_singleton]; omega,rfl,w6,by omega,fun b hb=>?_⟩
      · show (jl _ (jl _ _):S) ⟨[some (.obj n,false),some (.int c,false),some (.int m,false),some (.lst (l.map bxT),true),some (.int k,false),o5,o6],st⟩=_
        rw [Wr h3]
        simp! [q4,q5,q6,ll,bxT]
      · rcases List.mem_append.mp hb with z | z
        · exact e4 b z
        · rw [List.mem_singleton] at z; subst z; exact ⟨ox,by show lo≤lo+r6; omega,by show lo+r6≤lo+r4; omega,by show lo+r4≤lo+2; omega⟩)
  obtain ⟨l,o4,o5,o6,st,e0,e1,rfl,e2,e3,e4⟩:=P
  exact .of ⟨l,rfl,by simpa using e1,e4,e2,e3⟩
structure Sp where
  hand:Str
  here:Int
  guard:Rem
  sets:List (Str × Sm)
  there:Int
def seT (p:Str × Sm):T:=.tup [.str p.1,smT p.2]
def spT (s:Sp):T:=.tup [.str s.hand,.int s.here,nj s.guard,.tup (s.sets.map seT),.int s.there]
structure OkP (N:List Str) (H:List Hd) (s:Sp):Prop where
  hd:okN s.hand
  gd:OkR N H 3 s.guard
  len:s.sets.length≤2
  set:∀ p∈s.sets,p.1∈N∧a5q N p.2
def SpO (N:List Str) (H:List Hd) (L:Nat) (t:T) (st:List SO):Prop:=∃ s,t=spT s∧OkP N H s∧StO st∧st.length=L
theorem step (hn:n<sto.length) (hs:StO sto) (okn:G7 N) (okh:M7 H):Out (yq [.obj n,.lst (N.map T.str),.lst (H.map hT)] sto) (SpO N H sto.length):=by
  obtain ⟨hl1,hl2,hok⟩:=okh
  obtain ⟨r2,s2,q2,a2,b2,o2,l2⟩:=Aj (n:=n) (many:=(H.length:Int)) hn hs (by omega) (by omega)
  obtain ⟨h,hm,hi⟩:=Q9 hT H a2 b2
  obtain ⟨k1,k2,k3⟩:=hok h hm
  obtain ⟨r3,s3,q3,a3,b3,o3,l3⟩:=Aj (n:=n) (many:=h.2) (by omega:n<s2.length) o2 (by omega) (by omega)
  obtain ⟨r4,s4,q4,a4,b4,o4,l4⟩:=Aj (n:=n) (many:=h.2) (by omega:n<s3.length) o3 (by omega) (by omega)
  obtain ⟨t5,s5,q5,g,rfl,kg,o5,l5⟩:=remark (n:=n) (by omega:n<s4.length) o4 okn ⟨hl1,hl2,hok⟩
  have hN:(xu N).length=N.length:=Ht
  have h2:=okn.1
  have nn:(xu N).length<lim:=by show _<1000000; omega
  have so:=sorted_strs (l:=N) (by omega)
  unfold yq
  simp! [q2,hi,hT,q3,q4,q5,so,nn]
  generalize hF:forL _ _ _ _=q
  obtain ⟨s',rfl,P⟩:=Bb hF (fun ts s=>∃ (m:List Str) (l:List (Str × Sm)) (o9 o10:Slot) (st:List SO),ts=m.map T.str∧(∀ x∈m,x∈N)∧m.length+l.length≤2∧s=⟨[some (.obj n,false),some (.lst (N.map T.str),false),some (.lst (H.map hT),false),some (.str h.1,false),some (.int h.2,false),some (.int r3,false),some (.int r4,false),some (nj g,false),some (.lst (l.map seT),true),o9,o10],st⟩∧StO st∧st.length=sto.length∧∀ p∈l,p.1∈N∧a5q N p.2)
    ⟨xu N,[],none,none,s5,rfl,fun x hx=>Kw hx,by simp only [List.length_nil]; omega,rfl,o5,by omega,fun p hp=>by cases hp⟩ (by
      rintro t q s ⟨m,l,o9,o10,st,e1,e2,e3,rfl,e4,e5,e6⟩
      cases m with
      | nil=>cases e1
      | cons x m =>
        cases e1
        have xN:=e2 x List.mem_cons_self
        simp only [List.length_cons] at e3
        have ll:l.length<lim:=by show _<1000000; omega
        obtain ⟨w,t1,q1,c1,d1,w1,m1⟩:=Aj (n:=n) (many:=5) (by omega:n<st.length) e4 (by decide) (by decide)
        by_cases h0:w=0
        · subst h0
          obtain ⟨t2,s2,q2,y,rfl,ok,w2,m2⟩:=sum (n:=n) (by omega:n<t1.length) w1 okn
          refine ⟨_,⟨[some (.obj n,false),some (.lst (N.map T.str),false),some (.lst (H.map hT),false),some (.str h.1,false),some (.int h.2,false),some (.int r3,false),some (.int r4,false),some (nj g,false),some (.lst ((l++[(x,y)]).map seT),true),some (.str x,false),some (.int 0,false)],s2⟩,rfl,?_,m,l++[(x,y)],_,_,s2,rfl,fun z hz=>e2 z (List.mem_cons_of_mem _ hz),by rw [List.length_append,List.length_singleton]; omega,rfl,w2,by omega,fun p hp=>?_⟩
          · simp! [q1,tu,q2,ll,seT]
          · rcases List.mem_append.mp hp with z | z
            · exact e6 p z
            · rw [List.mem_singleton] at z; subst z; exact ⟨xN,ok⟩
        · have b0:(w==0)=false:=beq_eq_false_iff_ne.mpr h0
          by_cases h1:w=1
          · subst h1
            obtain ⟨v,s2,q2,a2,b2,w2,m2⟩:=Aj (n:=n) (many:=3) (by omega:n<t1.length) w1 (by decide) (by decide)
            refine ⟨_,⟨[some (.obj n,false),some (.lst (N.map T.str),false),some (.lst (H.map hT),false),some (.str h.1,false),some (.int h.2,false),some (.int r3,false),some (.int r4,false),some (nj g,false),some (.lst ((l++[(x,(v - 1,[(x,1)]))]).map seT),true),some (.str x,false),some (.int 1,false)],s2⟩,rfl,?_,m,l++[(x,(v - 1,[(x,1)]))],_,_,s2,rfl,fun z hz=>e2 z (List.mem_cons_of_mem _ hz),by rw [List.length_append,List.length_singleton]; omega,rfl,w2,by omega,fun p hp=>?_⟩
            · simp! [q1,tu,q2,ll,seT,smT,pT]
            · rcases List.mem_append.mp hp with z | z
              · exact e6 p z
              · rw [List.mem_singleton] at z; subst z
                refine ⟨xN,List.length_pos_of_mem xN,fun p hp=>?_⟩
                simp only [List.mem_singleton] at hp
                subst hp
                exact ⟨xN,by show (-4:Int)<1; decide,by show (1:Int)<4; decide⟩
          · have b1:(w==1)=false:=beq_eq_false_iff_ne.mpr h1
            refine ⟨_,⟨[some (.obj n,false),some (.lst (N.map T.str),false),some (.lst (H.map hT),false),some (.str h.1,false),some (.int h.2,false),some (.int r3,false),some (.int r4,false),some (nj g,false),some (.lst (l.map seT),true),some (.str x,false),some (.int w,false)],t1⟩,rfl,?_,m,l,_,_,t1,rfl,fun z hz=>e2 z (List.mem_cons_of_mem _ hz),by omega,rfl,w1,by omega,e6⟩
            simp! [q1,tu,b0,b1])
  obtain ⟨m,l,o9,o10,st,e1,e2,e3,rfl,e4,e5,e6⟩:=P
  simp! [Dq]
  exact .of ⟨⟨h.1,r3,g,l,r4⟩,rfl,⟨k1,kg,by show l.length≤2; omega,e6⟩,e4,e5⟩
def prT (bs:List Bx) (H:List Hd) (ss:List Sp):T:=.tup [.lst (bs.map bxT),.lst (H.map hT),.lst (ss.map spT),.tup []]
structure acn (bs:List Bx) (H:List Hd) (ss:List Sp):Prop where
  ns:G7 (bs.map (·.nm))
  bx:∀ b∈bs,abl b
  hs:M7 H
  ss:∀ s∈ss,OkP (bs.map (·.nm)) H s
def PrO (k:Nat) (t:T) (st:List SO):Prop:=∃ bs H ss,t=prT bs H ss∧acn bs H ss∧ss.length≤k∧StO st
theorem StO.add {sto:List SO} (h:StO sto) {so:SO} (hs:a8l so):StO (sto++[so]):=fun x hx=>by
  rcases List.mem_append.mp hx with z | z
  · exact h x z
  · rw [List.mem_singleton] at z; subst z; exact hs
theorem a6r {m:Int} (h0:0<m) (h1:m<4):∃ p:Int,d9 (.lst [.int 4,.int 4,.int 2]) (.int (m - 1))=some (.int p)∧1≤p∧p≤4:=by
  have:m=1∨m=2∨m=3:=by omega
  rcases this with rfl | rfl | rfl
  · exact ⟨4,rfl,by decide,by decide⟩
  · exact ⟨4,rfl,by decide,by decide⟩
  · exact ⟨2,rfl,by decide,by decide⟩
theorem program {cs:List Int} {k:Nat} (hc:cs.length≤63):Out (wu [scr cs,.int (k:Int)] []) (PrO 63):=by
  have c0e:=a1n (cs:=cs) (k:=0) (i:=0) (sto:=[]) rfl
  have c1e:=a1n (cs:=cs) (k:=1) (i:=1) (sto:=[]) rfl
  have c2e:=a1n (cs:=cs) (k:=2) (i:=2) (sto:=[]) rfl
  generalize cell cs 0=c0 at *
  generalize cell cs 1=c at *
  generalize cell cs 2=c2 at *
  obtain ⟨w,ew⟩:∃ w:Int,c0 / 5%2=w:=⟨_,rfl⟩
  have s0:StO [.lst [.int c2,.int w]]:=fun x hx=>by rw [List.mem_singleton] at hx; subst hx; exact .inl ⟨_,_,rfl⟩
  obtain ⟨r5,s5,q5,a5,b5,o5,l5⟩:=Aj (n:=0) (many:=3) (by simp) s0 (by decide) (by decide)
  have l5':s5.length=1:=l5
  have hm:(1+r5).natAbs<lim:=by show _<1000000; omega
  unfold wu su
  rw [show ([scr cs,T.int (k:Int)].map (fun t=>some (t,false))++List.replicate (11 - [scr cs,T.int (k:Int)].length) none:List Slot)=[some (scr cs,false),some (.int (k:Int),false),none,none,none,none,none,none,none,none,none] from rfl]
  rw [gj (s':=⟨[some (scr cs,false),some (.int (k:Int),false),some (.int w,false),none,none,none,none,none,none,none,none],[]⟩) (by simp! [c0e,ew])]
  rw [gj (s':=⟨[some (scr cs,false),some (.int (k:Int),false),some (.int w,false),some (.int c,false),none,none,none,none,none,none,none],[]⟩) (by simp! [c1e])]
  rw [gj (s':=⟨[some (scr cs,false),some (.int (k:Int),false),some (.int w,false),some (.int c,false),some (.obj 0,false),none,none,none,none,none,none],[.lst [.int c2,.int w]]⟩) (by simp! [c2e,Ep])]
  rw [gj (s':=⟨[some (scr cs,false),some (.int (k:Int),false),some (.int w,false),some (.int c,false),some (.obj 0,false),some (.int (1+r5),false),none,none,none,none,none],s5⟩) (by simp! [q5])]
  rw [gj (s':=⟨[some (scr cs,false),some (.int (k:Int),false),some (.int w,false),some (.int c,false),some (.obj 0,false),some (.int (1+r5),false),some (.lst [],true),none,none,none,none],s5⟩) rfl]
  obtain ⟨H,o7,s7,okH,o7s,l7,e7⟩:∃ (H:List Hd) (o7:Slot) (s7:List SO),M7 H∧StO s7∧s7.length=1∧G6 (hName 7) (Bs (bw 5))
      (xg 6 (nu (fun l=>some (.tup l)) (ao (fu u6 (ao (bw 3) (ao (mOp Gk (aq (.int 5)) (bw 7)) g8))) (ao (mOp Gk (aq (.int 1)) (fu cj (ao (bw 4) (ao (mOp d9 (nu (fun l=>some (.lst l)) (ao (aq (.int 4)) (ao (aq (.int 4)) (ao (aq (.int 2)) g8)))) (mOp Jv (bw 5) (aq (.int 1)))) g8)))) g8))))
      ⟨[some (scr cs,false),some (.int (k:Int),false),some (.int w,false),some (.int c,false),some (.obj 0,false),some (.int (1+r5),false),some (.lst [],true),none,none,none,none],s5⟩=some (.next,⟨[some (scr cs,false),some (.int (k:Int),false),some (.int w,false),some (.int c,false),some (.obj 0,false),some (.int (1+r5),false),some (.lst (H.map hT),true),o7,none,none,none],s7⟩):=by
    obtain ⟨mx,em,m1,m4⟩:=a6r (m:=1+r5) (by omega) (by omega)
    have it:Bs (bw 5) ⟨[some (scr cs,false),some (.int (k:Int),false),some (.int w,false),some (.int c,false),some (.obj 0,false),some (.int (1+r5),false),some (.lst [],true),none,none,none,none],s5⟩=some (rangeT (1+r5).toNat,⟨[some (scr cs,false),some (.int (k:Int),false),some (.int w,false),some (.int c,false),some (.obj 0,false),some (.int (1+r5),false),some (.lst [],true),none,none,none,none],s5⟩):=by simp! [hm]
    unfold G6
    rw [it]
    dsimp only
    generalize hF:forL _ _ _ _=q
    obtain ⟨s',rfl,P⟩:=Bb hF (fun ts s=>∃ (H:List Hd) (o7:Slot) (st:List SO),(∀ t∈ts,∃ k:Int,t=.int k)∧ts.length+H.length=(1+r5).toNat∧s=⟨[some (scr cs,false),some (.int (k:Int),false),some (.int w,false),some (.int c,false),some (.obj 0,false),some (.int (1+r5),false),some (.lst (H.map hT),true),o7,none,none,none],st⟩∧StO st∧st.length=1∧∀ h∈H,okN h.1∧1≤h.2∧h.2≤4)
      ⟨[],none,s5,fun t ht=>by unfold rangeT at ht; obtain ⟨k,_,rfl⟩:=List.mem_map.mp ht; exact ⟨_,rfl⟩,by unfold rangeT; rw [List.length_map,List.length_range]; rfl,rfl,o5,l5',fun b hb=>by cases hb⟩ (by
        rintro t q s ⟨H,o7,st,e0,e1,rfl,e2,e3,e4⟩
        obtain ⟨kk,rfl⟩:=e0 t List.mem_cons_self
        simp only [List.length_cons] at e1
        have ll:H.length<lim:=by show _<1000000; omega
        obtain ⟨x,qx,ox⟩:=name (c:=c) (k:=5+kk) (sto:=st)
        obtain ⟨r,s1,q1,a1,b1,w1,l1⟩:=Aj (n:=0) (many:=mx) (by omega:0<st.length) e2 (by omega) (by omega)
        refine ⟨_,⟨[some (scr cs,false),some (.int (k:Int),false),some (.int w,false),some (.int c,false),some (.obj 0,false),some (.int (1+r5),false),some (.lst ((H++[(x,1+r)]).map hT),true),some (.int kk,false),none,none,none],s1⟩,rfl,?_,H++[(x,1+r)],_,s1,fun t ht=>e0 t (List.mem_cons_of_mem _ ht),by rw [List.length_append,List.length_singleton]; omega,rfl,w1,by omega,fun h hh=>?_⟩
        · simp! [qx,em,q1,ll,hT]
        · rcases List.mem_append.mp hh with z | z
          · exact e4 h z
          · rw [List.mem_singleton] at z; subst z; exact ⟨ox,by show 1≤1+r; omega,by show 1+r≤4; omega⟩)
    obtain ⟨H,o7,st,e0,e1,rfl,e2,e3,e4⟩:=P
    simp only [List.length_nil,Nat.zero_add] at e1
    exact ⟨H,o7,st,⟨by omega,by omega,e4⟩,e2,e3,rfl⟩
  rw [gj e7]
  obtain ⟨r8,s8,q8,a8,b8,w8,l8⟩:=Aj (n:=0) (many:=3) (by omega:0<s7.length) o7s (by decide) (by decide)
  obtain ⟨t9,s9,q9,bs,rfl,bl,bok,w9,l9⟩:=abm (n:=0) (c:=c) (m:=r8) (by omega:0<s8.length) w8 a8 b8
  rw [gj (s':=⟨[some (scr cs,false),some (.int (k:Int),false),some (.int w,false),some (.int c,false),some (.obj 0,false),some (.int (1+r5),false),some (.lst (H.map hT),true),o7,some (.lst (bs.map bxT),false),none,none],s9⟩) (by simp! [q8,q9])]
  have bll:bs.length<lim:=by show _<1000000; omega
  have cb:=zj bxT (fun b=>T.str b.nm) bs (g:=hName 0) (nv:=1) (ci:=[]) (c:=yw) (it:=Ab (bw 8)) (e:=mOp d9 (bw 0) (aq (.int 0))) (s:=⟨[some (scr cs,false),some (.int (k:Int),false),some (.int w,false),some (.int c,false),some (.obj 0,false),some (.int (1+r5),false),some (.lst (H.map hT),true),o7,some (.lst (bs.map bxT),false),none,none],s9⟩) (s1:=⟨[some (scr cs,false),some (.int (k:Int),false),some (.int w,false),some (.int c,false),some (.obj 0,false),some (.int (1+r5),false),some (.lst (H.map hT),true),o7,some (.lst (bs.map bxT),false),none,none],s9⟩) [some (scr cs,false),some (.int (k:Int),false),some (.int w,false),some (.int c,false),some (.obj 0,false),some (.int (1+r5),false),some (.lst (H.map hT),true),o7,some (.lst (bs.map bxT),false),none,none] []
    (by simp! [bll]) rfl rfl rfl (Nat.le_of_lt bll) (by
      intro b hb pre hp
      obtain ⟨a,rfl⟩:=C.p1 pre hp
      exact ⟨[some (bxT b,false)],rfl,rfl,rfl,by simp! [bxT,vo]⟩)
  have en:bs.map (fun b=>T.str b.nm)=(bs.map (·.nm)).map T.str:=by rw [List.map_map]; rfl
  rw [en] at cb
  have okn:G7 (bs.map (·.nm)):=⟨by simpa using bl,fun x hx=>by obtain ⟨b,hb,rfl⟩:=List.mem_map.mp hx; exact (bok b hb).1⟩
  rw [gj (s':=⟨[some (scr cs,false),some (.int (k:Int),false),some (.int w,false),some (.int c,false),some (.obj 0,false),some (.int (1+r5),false),some (.lst (H.map hT),true),o7,some (.lst (bs.map bxT),false),some (.lst ((bs.map (·.nm)).map T.str),false),none],s9⟩) (Ni cb)]
  obtain ⟨m,hmm,cx⟩:∃ m:List Int,m.length≤63∧a5o (some 3) (some (3+(k:Int))) (scr cs)=some (.lst (m.map T.int)):=by
    refine ⟨(cs.drop (sIx cs.length 0 (some 3))).take (sIx cs.length cs.length (some (3+(k:Int))) - sIx cs.length 0 (some 3)),?_,?_⟩
    · rw [List.length_take,List.length_drop]; omega
    · simp only [a5o,a2v,List.length_map,← List.map_drop,← List.map_take]
  have mll:m.length<lim:=by show _<1000000; omega
  generalize hN:bs.map (·.nm)=N at *
  obtain ⟨us,s10,ec,ss,e1,e2,w10,k10⟩:=Mw (g:=hName 0) (nv:=1) (ci:=[9,6,2]) (it:=Ab (Hj (bw 0) (En (aq (.int 3))) (En (mOp Gk (aq (.int 3)) (bw 1))))) (e:=fu yq (ao (Ep (ao (bw 0) (ao (bw 3) g8))) (ao (bw 1) (ao (bw 2) g8))))
    (s:=⟨[some (scr cs,false),some (.int (k:Int),false),some (.int w,false),some (.int c,false),some (.obj 0,false),some (.int (1+r5),false),some (.lst (H.map hT),true),o7,some (.lst (bs.map bxT),false),some (.lst (N.map T.str),false),none],s9⟩) rfl (m.map T.int) ⟨[some (scr cs,false),some (.int (k:Int),false),some (.int w,false),some (.int c,false),some (.obj 0,false),some (.int (1+r5),false),some (.lst (H.map hT),true),o7,some (.lst (bs.map bxT),false),some (.lst (N.map T.str),false),none],s9⟩
    [some (scr cs,false),some (.int (k:Int),false),some (.int w,false),some (.int c,false),some (.obj 0,false),some (.int (1+r5),false),some (.lst (H.map hT),false),o7,some (.lst (bs.map bxT),false),some (.lst (N.map T.str),false),none] [some (.lst (N.map T.str),false),some (.lst (H.map hT),false),some (.int w,false)]
    (fun ts acc st=>∃ l:List Sp,acc=l.map spT∧ts.length+l.length≤63∧(∀ t∈ts,∃ i:Int,t=.int i)∧StO st∧∀ s∈l,OkP N H s)
    (by simp! [Hj,En,cx,mll]) rfl rfl rfl (by rw [List.length_map]; exact Nat.le_of_lt mll) ⟨[],rfl,by rw [List.length_map]; exact hmm,fun t ht=>by obtain ⟨i,_,rfl⟩:=List.mem_map.mp ht; exact ⟨i,rfl⟩,w9,fun s hs=>by cases hs⟩ (by
      rintro t q acc st ⟨l,e1,e2,e0,e3,e4⟩ pre hp
      obtain ⟨a,rfl⟩:=C.p1 pre hp
      obtain ⟨i,rfl⟩:=e0 t List.mem_cons_self
      simp only [List.length_cons] at e2
      have hs':StO (st++[.lst [.int i,.int w]]):=e3.add (.inl ⟨_,_,rfl⟩)
      obtain ⟨t5,s6,p6,x,rfl,kx,o6,l6⟩:=step (n:=st.length) (by rw [List.length_append]; simp:st.length<(st++[SO.lst [.int i,.int w]]).length) hs' okn okH
      refine ⟨[some (.int i,false)],spT x,s6,rfl,rfl,?_,l++[x],by rw [e1]; simp,by rw [List.length_append,List.length_singleton]; omega,fun t ht=>e0 t (List.mem_cons_of_mem _ ht),o6,fun r hr=>?_⟩
      · simp! [Ep,p6]
      · rcases List.mem_append.mp hr with z | z
        · exact e4 r z
        · rw [List.mem_singleton] at z; subst z; exact kx)
  simp only [List.length_nil,Nat.zero_add] at e2
  subst e1
  rw [gj (Ni ec)]
  simp! []
  subst hN
  exact .of ⟨bs,H,ss,rfl,⟨okn,bok,okH,k10.2⟩,e2,k10.1⟩
end
end K
end
section
namespace K
open C PySem
theorem eqC {a b:Str} {c:Bool} (h:(PyData.canLay0 (.str a)&&PyData.canLay0 (.str b)&&((a==b)==c))=true):eqO (.str a) (.str b)=some (.bl c):=by
  simp only [Bool.and_eq_true,beq_iff_eq] at h
  rw [Z8 h.1.1 h.1.2,h.2]
theorem neC {a b:Str} {c:Bool} (h:(PyData.canLay0 (.str a)&&PyData.canLay0 (.str b)&&((a==b) == !c))=true):neO (.str a) (.str b)=some (.bl c):=by
  simp only [Bool.and_eq_true,beq_iff_eq] at h
  rw [a78 h.1.1 h.1.2,h.2,Bool.not_not]
theorem inC {w a b:Str} {c:Bool} (h:(PyData.canLay0 (.str w)&&PyData.canLay0 (.str a)&&PyData.canLay0 (.str b)&&((a==w||b==w)==c))=true):inT (.str w) (.tup [.str a,.str b])=some (.bl c):=by
  simp only [Bool.and_eq_true,beq_iff_eq] at h
  obtain ⟨⟨⟨h1,h2⟩,h3⟩,h4⟩:=h -- here
  simp [inT,inL,eqD,dat,h1,h2,h3,PyData.depth,PyData.eqv,← h4]
theorem iw:eqO (.str "most") (.str "most")=some (.bl true):=eqC (by decide +kernel)
theorem j4:eqO (.str "most") (.str "rest")=some (.bl false):=eqC (by decide +kernel)
theorem jx:eqO (.str "most") (.str "at")=some (.bl false):=eqC (by decide +kernel)
theorem j6:eqO (.str "most") (.str "not")=some (.bl false):=eqC (by decide +kernel)
theorem je:eqO (.str "most") (.str "and")=some (.bl false):=eqC (by decide +kernel)
theorem iz:eqO (.str "rest") (.str "most")=some (.bl false):=eqC (by decide +kernel)
theorem iy:eqO (.str "rest") (.str "rest")=some (.bl true):=eqC (by decide +kernel)
theorem jy:eqO (.str "rest") (.str "at")=some (.bl false):=eqC (by decide +kernel)
theorem jc:eqO (.str "rest") (.str "not")=some (.bl false):=eqC (by decide +kernel)
theorem jf:eqO (.str "rest") (.str "and")=some (.bl false):=eqC (by decide +kernel)
theorem jw:eqO (.str "at") (.str "most")=some (.bl false):=eqC (by decide +kernel)
theorem kh:eqO (.str "at") (.str "rest")=some (.bl false):=eqC (by decide +kernel)
theorem uh:eqO (.str "at") (.str "at")=some (.bl true):=eqC (by decide +kernel)
theorem qj:eqO (.str "at") (.str "not")=some (.bl false):=eqC (by decide +kernel)
theorem pq:eqO (.str "at") (.str "and")=some (.bl false):=eqC (by decide +kernel)
theorem j9:eqO (.str "not") (.str "most")=some (.bl false):=eqC (by decide +kernel)
theorem jd:eqO (.str "not") (.str "rest")=some (.bl false):=eqC (by decide +kernel)
theorem qg:eqO (.str "not") (.str "at")=some (.bl false):=eqC (by decide +kernel)
theorem ju:eqO (.str "not") (.str "not")=some (.bl true):=eqC (by decide +kernel)
theorem m5:eqO (.str "not") (.str "and")=some (.bl false):=eqC (by decide +kernel)
theorem j8:eqO (.str "and") (.str "most")=some (.bl false):=eqC (by decide +kernel)
theorem j7:eqO (.str "and") (.str "rest")=some (.bl false):=eqC (by decide +kernel)
theorem qd:eqO (.str "and") (.str "at")=some (.bl false):=eqC (by decide +kernel)
theorem kj:eqO (.str "and") (.str "not")=some (.bl false):=eqC (by decide +kernel)
theorem jz:eqO (.str "and") (.str "and")=some (.bl true):=eqC (by decide +kernel)
theorem lg:eqO (.str "or") (.str "most")=some (.bl false):=eqC (by decide +kernel)
theorem lq:eqO (.str "or") (.str "rest")=some (.bl false):=eqC (by decide +kernel)
theorem um:eqO (.str "or") (.str "at")=some (.bl false):=eqC (by decide +kernel)
theorem qb:eqO (.str "or") (.str "not")=some (.bl false):=eqC (by decide +kernel)
theorem qe:eqO (.str "or") (.str "and")=some (.bl false):=eqC (by decide +kernel)
theorem J2:inT (.str "most") (.tup [.str "and",.str "or"])=some (.bl false):=inC (by decide +kernel)
theorem Jb:inT (.str "most") (.tup [.str "most",.str "rest"])=some (.bl true):=inC (by decide +kernel)
theorem J7:neO (.str "most") (.str "at")=some (.bl true):=neC (by decide +kernel)
theorem Jc:inT (.str "rest") (.tup [.str "and",.str "or"])=some (.bl false):=inC (by decide +kernel)
theorem J8:inT (.str "rest") (.tup [.str "most",.str "rest"])=some (.bl true):=inC (by decide +kernel)
theorem Je:neO (.str "rest") (.str "at")=some (.bl true):=neC (by decide +kernel)
theorem a5x:inT (.str "at") (.tup [.str "and",.str "or"])=some (.bl false):=inC (by decide +kernel)
theorem a6a:inT (.str "at") (.tup [.str "most",.str "rest"])=some (.bl false):=inC (by decide +kernel)
theorem a6j:neO (.str "at") (.str "at")=some (.bl false):=neC (by decide +kernel)
theorem Qs:inT (.str "not") (.tup [.str "and",.str "or"])=some (.bl false):=inC (by decide +kernel)
theorem S8:inT (.str "not") (.tup [.str "most",.str "rest"])=some (.bl false):=inC (by decide +kernel)
theorem Q5:neO (.str "not") (.str "at")=some (.bl true):=neC (by decide +kernel)
theorem Py:inT (.str "and") (.tup [.str "and",.str "or"])=some (.bl true):=inC (by decide +kernel)
theorem Ql:inT (.str "and") (.tup [.str "most",.str "rest"])=some (.bl false):=inC (by decide +kernel)
theorem Rr:neO (.str "and") (.str "at")=some (.bl true):=neC (by decide +kernel)
theorem a5k:inT (.str "or") (.tup [.str "and",.str "or"])=some (.bl true):=inC (by decide +kernel)
theorem a6e:inT (.str "or") (.tup [.str "most",.str "rest"])=some (.bl false):=inC (by decide +kernel)
theorem a5j:neO (.str "or") (.str "at")=some (.bl true):=neC (by decide +kernel)
def kids:Rem→List Rem
  | .no r=>[r]
  | .all l=>l
  | .any l=>l
  | _=>[]
def aar:Rem→Bool
  | .no _=>true
  | .all _=>true
  | .any _=>true
  | _=>false
def pre:Nat→Rem→List Rem
  | 0,r=>[r]
  | n+1,r=>r::(kids r).flatMap (pre n)
section
variable {N:List Str} {H:List Hd} {sto:List SO}
theorem X7 {s:Sm} (hN:G7 N) (hs:a5q N s):s.2.length<lim:=by
  have:=hs.1; have:=hN.1; show _<1000000; omega
theorem OkR.kid {d:Nat} {r:Rem} (h:OkR N H (d+1) r):∀ u∈kids r,OkR N H d u:=by
  intro u hu
  cases h with
  | most _=>cases hu
  | rest _ _ _=>cases hu
  | pl _ _ _=>cases hu
  | all _ h=>exact h u hu
  | any _ h=>exact h u hu
  | no h=>simp only [kids,List.mem_singleton] at hu; subst hu; exact h
theorem OkR.ab4 {r:Rem} (h:OkR N H 0 r):kids r=[]:=by cases h <;> rfl
theorem OkR.a9y {d:Nat} {r:Rem} (h:OkR N H d r):(kids r).length≤5:=by cases h <;> simp [kids] <;> assumption
theorem Z5:∀ (d:Nat) {r:Rem},OkR N H d r→pre (d+1) r=pre d r
  | 0,r,h=>by rw [show pre (0+1) r=r::(kids r).flatMap (pre 0) from rfl,h.ab4]; rfl
  | d+1,r,h=>by
    rw [pre,pre]
    congr 1
    exact Ir fun u hu=>Z5 d (h.kid u hu)
theorem OkR.adn {r:Rem} (h:OkR N H 3 r):∀ u∈kids r,OkR N H 3 u:=fun u hu=>(h.kid u hu).up
theorem acq {r:Rem} (h:OkR N H 3 r):pre 3 r=r::(kids r).flatMap (pre 3):=by
  rw [show pre 3 r=r::(kids r).flatMap (pre 2) from rfl]
  congr 1
  exact Ir fun u hu=>(Z5 2 (h.kid u hu)).symm
theorem Nf {α β:Type} {f:α→List β} {m:Nat}:∀ {l:List α},(∀ a∈l,(f a).length≤m)→(l.flatMap f).length≤l.length * m
  | [],_=>by simp
  | a::l,h=>by
    have h1:=h a List.mem_cons_self
    have h2:=Nf (l:=l) fun b hb=>h b (List.mem_cons_of_mem _ hb)
    rw [List.flatMap_cons,List.length_append,List.length_cons,Nat.succ_mul]
    omega
def top:Nat→Nat
  | 0=>1
  | n+1=>1+5 * top n
theorem Pn:∀ (d:Nat) {r:Rem},OkR N H d r→(pre d r).length≤top d
  | 0,r,h=>by simp [pre,top]
  | d+1,r,h=>by
    have h1:=Nf (f:=pre d) (m:=top d) (l:=kids r) fun u hu=>Pn d (h.kid u hu)
    have h2:=Nat.mul_le_mul_right (top d) h.a9y
    rw [pre,List.length_cons,top]
    omega
theorem members {d:Nat} {r:Rem} (h:OkR N H d r):uq [nj r] sto=some (.tup ((kids r).map nj),sto):=by
  unfold uq
  cases h <;> unfold nj kids <;> simp! [vo,Ax,iw,j4,jx,j6,je,iz,iy,jy,jc,jf,jw,kh,uh,qj,pq,j9,jd,qg,ju,m5,j8,j7,qd,kj,jz,lg,lq,um,qb,qe,J2,Jb,J7,Jc,J8,Je,a5x,a6a,a6j,Qs,S8,Q5,Py,Ql,Rr,a5k,a6e,a5j,zm]
def cnt (W:List Rem):Nat:=(W.flatMap (pre 3)).length
theorem Iz (a b:List Rem):cnt (a++b)=cnt a+cnt b:=by simp [cnt]
theorem a0r (a:List Rem):cnt a.reverse=cnt a:=by
  induction a with
  | nil=>rfl
  | cons x a ih=>rw [List.reverse_cons,Iz,ih,show x::a=[x]++a from rfl,Iz]; omega
theorem a7a {W:List Rem}:W.length≤cnt W:=by
  induction W with
  | nil=>simp
  | cons x a ih =>
    rw [show x::a=[x]++a from rfl,Iz,List.length_append]
    have:1≤cnt [x]:=by simp [cnt,pre]
    simp only [List.length_singleton]
    omega
theorem Nb {r0:Slot}:∀ (fuel:Nat) (W P:List Rem) (o:Slot),(∀ w∈W,OkR N H 3 w)→cnt W<fuel→P.length+cnt W<1000 →
    ∃ o',yc fuel (gb (mOp gtT (vh 2) (aq (.int 0)))) (jl (a8i 2 3) (jl (xg 1 (bw 3)) (Ai 2 (mUn a8m (fu uq (ao (bw 3) g8)))))) ⟨[r0,some (.lst (P.map nj),true),some (.lst (W.map nj),true),o],sto⟩
      = some (.next,⟨[r0,some (.lst ((P++W.reverse.flatMap (pre 3)).map nj),true),some (.lst [],true),o'],sto⟩)
  | 0,W,P,o,_,h,_=>by omega
  | fuel+1,W,P,o,hW,hc,hb=>by
    rcases List.eq_nil_or_concat W with rfl | ⟨W,w,rfl⟩
    · refine ⟨o,?_⟩
      rw [Im (s1:=⟨[r0,some (.lst (P.map nj),true),some (.lst ([].map nj),true),o],sto⟩) (by simp! [vh,gtT])]
      simp
    · simp only [List.concat_eq_append] at hW hc hb ⊢
      have hw:OkR N H 3 w:=hW w (by simp)
      have hk:=hw.a9y
      have cw:cnt [w]=1+cnt (kids w):=by
        unfold cnt
        rw [show [w].flatMap (pre 3)=pre 3 w by simp,acq hw,List.length_cons]; omega
      rw [Iz,cw] at hc hb
      have lW:=a7a (W:=W)
      have l1:P.length<lim:=by show _<1000000; omega
      have l2:W.length+(kids w).length<lim:=by show _<1000000; omega
      obtain ⟨o',e⟩:=Nb fuel (W++(kids w).reverse) (P++[w]) (some (nj w,false))
        (fun u hu=>by
          rcases List.mem_append.mp hu with z | z
          · exact hW u (List.mem_append_left _ z)
          · exact hw.adn u (List.mem_reverse.mp z))
        (by rw [Iz,a0r]; omega) (by rw [Iz,a0r,List.length_append,List.length_singleton]; omega)
      refine ⟨o',?_⟩
      rw [Ip (s1:=⟨[r0,some (.lst (P.map nj),true),some (.lst ((W++[w]).map nj),true),o],sto⟩) (s2:=⟨[r0,some (.lst ((P++[w]).map nj),true),some (.lst ((W++(kids w).reverse).map nj),true),some (nj w,false)],sto⟩) ?_ ?_,e]
      · simp [List.flatMap_append,acq hw]
      · simp! [vh,gtT]
      · simp! [a8i,l1,l2,members hw,a8m]
theorem Wb {r:Rem} (h:OkR N H 3 r):uz [nj r] sto=some (.lst ((pre 3 r).map nj),sto):=by
  have hl:=Pn 3 h
  have ht:top 3=156:=rfl
  have hc:cnt [r]=(pre 3 r).length:=by simp [cnt]
  obtain ⟨o',e⟩:=Nb (N:=N) (H:=H) (r0:=some (nj r,false)) (sto:=sto) 1000 [r] [] none (fun w hw=>by rw [List.mem_singleton] at hw; subst hw; exact h) (by omega) (by simp only [List.length_nil]; omega)
  simp only [List.map_nil,List.map_cons,List.nil_append,List.reverse_cons,List.reverse_nil,List.flatMap_cons,List.flatMap_nil,List.append_nil] at e
  unfold uz
  simp! [e]
theorem Ko {r:Rem} (h:OkR N H 3 r):(pre 3 r).length≤156:=Pn 3 h
def bx:Rem→List Str
  | .most s=>s.2.map (·.1)
  | .rest s _=>s.2.map (·.1)
  | _=>[]
def isAt:Rem→Bool
  | .pl _ _=>true
  | _=>false
def hnd:Rem→Str
  | .pl h _=>h
  | _ => "b"
theorem Og {s:Sm} (hN:G7 N) (hs:a5q N s):uo [smT s] sto=some (.lst ((s.2.map (·.1)).map T.str),sto):=by
  have hl:=X7 hN hs
  unfold uo
  simp! []
  generalize hF:ou _ _ _ _ _ _ _=r
  obtain rfl:=Ve hF pT (fun p=>.str p.1) s.2 ⟨[some (smT s,false)],sto⟩ [some (smT s,false)] []
    (by unfold smT; simp! [Ax,hl]) rfl rfl rfl (Nat.le_of_lt hl) (by
      intro p hp pre hpre
      obtain ⟨a,b,rfl⟩:∃ a b,pre=[a,b]:=by
        match pre,hpre with
        | [a,b],_=>exact ⟨a,b,rfl⟩
      exact ⟨[some (.str p.1,false),some (.int p.2,false)],rfl,by unfold pT; rw [R7]; rfl,rfl,rfl⟩)
  simp
theorem a04 {d:Nat} {r:Rem} (hN:G7 N) (h:OkR N H d r):(bx r).length≤6:=by
  have:=hN.1
  cases h with
  | most h=>have:=h.1; simp only [bx,List.length_map]; omega
  | rest h _ _=>have:=h.1; simp only [bx,List.length_map]; omega
  | _=>simp [bx]
theorem aam {d:Nat} {r:Rem} (h:OkR N H d r):∀ x∈bx r,x∈N:=by
  intro x hx
  cases h with
  | most h=>simp only [bx,List.mem_map] at hx; obtain ⟨p,hp,rfl⟩:=hx; exact (h.2 p hp).1
  | rest h _ _=>simp only [bx,List.mem_map] at hx; obtain ⟨p,hp,rfl⟩:=hx; exact (h.2 p hp).1
  | _=>cases hx
theorem Nr:∀ (d:Nat) {r:Rem},OkR N H d r→∀ u∈pre d r,OkR N H d u
  | 0,r,h,u,hu=>by simp only [pre,List.mem_singleton] at hu; subst hu; exact h
  | d+1,r,h,u,hu=>by
    rw [pre] at hu
    rcases List.mem_cons.mp hu with rfl | hu
    · exact h
    · obtain ⟨v,hv,hu⟩:=List.mem_flatMap.mp hu
      exact (Nr d (h.kid v hv) u hu).up
theorem Xv {r:Rem} (hN:G7 N) (h:OkR N H 3 r):n6 [nj r] sto=some (.lst (((pre 3 r).flatMap bx).map T.str),sto):=by
  have hl:=Ko h
  have l1:(pre 3 r).length<lim:=by show _<1000000; omega
  unfold n6
  simp! [Wb h,l1]
  generalize hF:forL _ _ _ _=q
  obtain ⟨s',rfl,P⟩:=Bb hF (fun ts st=>∃ (l:List Rem) (acc:List Str) (o:Slot),ts=l.map nj∧(∀ u∈l,OkR N H 3 u)∧st=⟨[some (nj r,false),some (.lst (acc.map T.str),true),o],sto⟩∧acc++l.flatMap bx=(pre 3 r).flatMap bx∧acc.length+6 * l.length≤1000)
    ⟨pre 3 r,[],none,rfl,Nr 3 h,rfl,rfl,by simp only [List.length_nil]; omega⟩ (by
      rintro t q st ⟨l,acc,o,e1,e2,rfl,e3,e4⟩
      cases l with
      | nil=>cases e1
      | cons u l =>
        cases e1
        have hu:=e2 u List.mem_cons_self
        have hb:=a04 hN hu
        simp only [List.length_cons] at e4
        refine ⟨_,⟨[some (nj r,false),some (.lst ((acc++bx u).map T.str),true),some (nj u,false)],sto⟩,rfl,?_,l,acc++bx u,_,rfl,fun v hv=>e2 v (List.mem_cons_of_mem _ hv),rfl,?_,?_⟩
        · have l2:acc.length+(bx u).length<lim:=by show _<1000000; omega
          cases hu with
          | most h=>simp only [bx,List.length_map] at l2; unfold nj bx; simp! [vo,Ax,iw,j4,jx,j6,je,iz,iy,jy,jc,jf,jw,kh,uh,qj,pq,j9,jd,qg,ju,m5,j8,j7,qd,kj,jz,lg,lq,um,qb,qe,J2,Jb,J7,Jc,J8,Je,a5x,a6a,a6j,Qs,S8,Q5,Py,Ql,Rr,a5k,a6e,a5j,Og hN h,l2]
          | rest h _ _=>simp only [bx,List.length_map] at l2; unfold nj bx; simp! [vo,Ax,iw,j4,jx,j6,je,iz,iy,jy,jc,jf,jw,kh,uh,qj,pq,j9,jd,qg,ju,m5,j8,j7,qd,kj,jz,lg,lq,um,qb,qe,J2,Jb,J7,Jc,J8,Je,a5x,a6a,a6j,Qs,S8,Q5,Py,Ql,Rr,a5k,a6e,a5j,Og hN h,l2]
          | pl _ _ _=>unfold nj bx; simp! [vo,iw,j4,jx,j6,je,iz,iy,jy,jc,jf,jw,kh,uh,qj,pq,j9,jd,qg,ju,m5,j8,j7,qd,kj,jz,lg,lq,um,qb,qe,J2,Jb,J7,Jc,J8,Je,a5x,a6a,a6j,Qs,S8,Q5,Py,Ql,Rr,a5k,a6e,a5j]
          | all _ _=>unfold nj bx; simp! [vo,iw,j4,jx,j6,je,iz,iy,jy,jc,jf,jw,kh,uh,qj,pq,j9,jd,qg,ju,m5,j8,j7,qd,kj,jz,lg,lq,um,qb,qe,J2,Jb,J7,Jc,J8,Je,a5x,a6a,a6j,Qs,S8,Q5,Py,Ql,Rr,a5k,a6e,a5j]
          | any _ _=>unfold nj bx; simp! [vo,iw,j4,jx,j6,je,iz,iy,jy,jc,jf,jw,kh,uh,qj,pq,j9,jd,qg,ju,m5,j8,j7,qd,kj,jz,lg,lq,um,qb,qe,J2,Jb,J7,Jc,J8,Je,a5x,a6a,a6j,Qs,S8,Q5,Py,Ql,Rr,a5k,a6e,a5j]
          | no _=>unfold nj bx; simp! [vo,iw,j4,jx,j6,je,iz,iy,jy,jc,jf,jw,kh,uh,qj,pq,j9,jd,qg,ju,m5,j8,j7,qd,kj,jz,lg,lq,um,qb,qe,J2,Jb,J7,Jc,J8,Je,a5x,a6a,a6j,Qs,S8,Q5,Py,Ql,Rr,a5k,a6e,a5j]
        · rw [List.append_assoc,← List.flatMap_cons]; exact e3
        · rw [List.length_append]; omega)
  obtain ⟨l,acc,o,e1,e2,rfl,e3,e4⟩:=P
  cases l with
  | cons _ _=>cases e1
  | nil =>
    simp only [List.flatMap_nil,List.append_nil] at e3
    simp! [e3]
theorem a4y {r:Rem} (h:OkR N H 3 r):m9 [nj r] sto=some (.lst (((pre 3 r).filter isAt).map nj),sto):=by
  have hl:=Ko h
  have l1:(pre 3 r).length<lim:=by show _<1000000; omega
  unfold m9
  simp! []
  generalize hF:ou _ _ _ _ _ _ _=q
  obtain rfl:=Ed hF nj nj isAt (pre 3 r) ⟨[some (nj r,false)],sto⟩ [some (nj r,false)] []
    (by simp! [Wb h,l1]) rfl rfl rfl (Nat.le_of_lt l1) (by
      intro u hu pre hpre
      obtain ⟨a,rfl⟩:∃ a,pre=[a]:=by
        match pre,hpre with
        | [a],_=>exact ⟨a,rfl⟩
      refine ⟨[some (nj u,false)],rfl,rfl,?_,fun _=>rfl⟩
      cases u <;> unfold nj isAt <;> simp! [vo,iw,j4,jx,j6,je,iz,iy,jy,jc,jf,jw,kh,uh,qj,pq,j9,jd,qg,ju,m5,j8,j7,qd,kj,jz,lg,lq,um,qb,qe,J2,Jb,J7,Jc,J8,Je,a5x,a6a,a6j,Qs,S8,Q5,Py,Ql,Rr,a5k,a6e,a5j])
  rfl
theorem a1e {r:Rem} (h:OkR N H 3 r) {s:Sta} (env:List Slot) (hs:s=⟨env,sto⟩) (he:env=[some (nj r,false)]):ou 1 [] (hName 0) (Ab (fu m9 (ao (bw 0) g8))) yw (mOp d9 (bw 0) (aq (.int 1))) s=some (.lst ((((pre 3 r).filter isAt).map hnd).map T.str),s):=by
  have hl:=Ko h
  have l0:=List.length_filter_le isAt (pre 3 r)
  have l1:((pre 3 r).filter isAt).length<lim:=by show _<1000000; omega
  subst hs he
  have:=zj nj (fun u=>.str (hnd u)) ((pre 3 r).filter isAt) (g:=hName 0) (c:=yw) (e:=mOp d9 (bw 0) (aq (.int 1))) (nv:=1) (ci:=[]) (it:=Ab (fu m9 (ao (bw 0) g8))) (s:=⟨[some (nj r,false)],sto⟩) (s1:=⟨[some (nj r,false)],sto⟩) [some (nj r,false)] [] (by simp! [a4y h,l1]) rfl rfl rfl (Nat.le_of_lt l1) (by
      intro u hu pre hpre
      obtain ⟨a,rfl⟩:∃ a,pre=[a]:=by
        match pre,hpre with
        | [a],_=>exact ⟨a,rfl⟩
      refine ⟨[some (nj u,false)],rfl,rfl,rfl,?_⟩
      have hq:=(List.mem_filter.mp hu).2
      cases u with
      | pl h p=>unfold nj hnd; simp! [Ax]
      | _=>cases hq)
  rw [this,List.map_map]; rfl
theorem W9:∀ (l M:List Str),l.Nodup→(∀ x∈l,x∈M)→l.length≤M.length
  | [],M,_,_=>by simp
  | x::l,M,hn,hm=>by
    have hx:=hm x List.mem_cons_self
    rw [List.nodup_cons] at hn
    have:=W9 l (M.erase x) hn.2 fun y hy=>(List.mem_erase_of_ne (fun (e:y=x)=>hn.1 (e ▸ hy))).mpr (hm y (List.mem_cons_of_mem _ hy))
    rw [List.length_erase_of_mem hx] at this
    have:0<M.length:=List.length_pos_of_mem hx
    simp only [List.length_cons]
    omega
theorem N5 {x:Str}:∀ {l:List Str},x∈dedup l→x∈l
  | [],h=>h
  | y::l,h=>by
    unfold dedup at h
    split at h
    · exact List.mem_cons_of_mem _ (N5 h)
    · rcases List.mem_cons.mp h with rfl | h -- here
      · exact List.mem_cons_self
      · exact List.mem_cons_of_mem _ (N5 h)
theorem Z1:∀ l:List Str,(dedup l).Nodup
  | []=>List.nodup_nil
  | y::l=>by
    unfold dedup
    split
    · exact Z1 l
    · rename_i h
      exact List.nodup_cons.mpr ⟨fun z=>h (N5 z),Z1 l⟩
theorem sset {M l:List Str} (hM:M.length≤6) (hl:l.length≤1000) (h:∀ x∈l,x∈M):Af [.lst (l.map T.str)]=some (.lst ((xu (dedup l)).map T.str)):=by
  have h1:=W9 (dedup l) M (Z1 l) fun x hx=>h x (N5 hx)
  have l1:l.length<lim:=by show _<1000000; omega
  have l2:(dedup l).length<64:=by omega
  simp [Af,strs_map,l1,l2]
theorem Rz {r:Rem} (hN:G7 N) (h:OkR N H 3 r):((pre 3 r).flatMap bx).length≤1000∧∀ x∈(pre 3 r).flatMap bx,x∈N:=by
  have h1:=Nf (f:=bx) (m:=6) (l:=pre 3 r) fun u hu=>a04 hN (Nr 3 h u hu)
  have h2:=Ko h
  refine ⟨by omega,fun x hx=>?_⟩
  obtain ⟨u,hu,hx⟩:=List.mem_flatMap.mp hx
  exact aam (Nr 3 h u hu) x hx
theorem Tn {r:Rem} (h:OkR N H 3 r):(((pre 3 r).filter isAt).map hnd).length≤1000∧∀ x∈((pre 3 r).filter isAt).map hnd,x∈H.map (·.1):=by
  have h2:=Ko h
  have l0:=List.length_filter_le isAt (pre 3 r)
  refine ⟨by rw [List.length_map]; omega,fun x hx=>?_⟩
  obtain ⟨u,hu,rfl⟩:=List.mem_map.mp hx
  obtain ⟨hu,hq⟩:=List.mem_filter.mp hu
  have:=Nr 3 h u hu
  cases this with
  | pl h _ _=>exact List.mem_map.mpr ⟨_,h,rfl⟩
  | _=>cases hq
def Fy (r:Rem):List Str:=xu (dedup ((pre 3 r).flatMap bx))
def Fv (r:Rem):List Str:=xu (dedup (((pre 3 r).filter isAt).map hnd))
theorem a2w {r:Rem} (hN:G7 N) (h:OkR N H 3 r):Ag [nj r] sto=some (.lst ((Fy r).map T.str),sto):=by
  obtain ⟨h1,h2⟩:=Rz hN h
  unfold Ag
  simp! [Xv hN h,sset (Nat.le_trans hN.1 (by decide)) h1 h2,Fy]
theorem a4c {r:Rem} (hH:M7 H) (h:OkR N H 3 r):Ad [nj r] sto=some (.lst ((Fv r).map T.str),sto):=by
  obtain ⟨h1,h2⟩:=Tn h
  have:=hH.2.1
  unfold Ad
  have hs:=sset (M:=H.map (·.1)) (by rw [List.length_map]; omega) h1 h2
  rw [List.map_map] at hs
  simp! [a1e h (sto:=sto) _ rfl rfl,hs,Fv]
end
end K
end
section
namespace K
open C PySem
theorem yg:eqO (.str "most") (.str "or")=some (.bl false):=eqC (by decide +kernel)
theorem yd:eqO (.str "rest") (.str "or")=some (.bl false):=eqC (by decide +kernel)
theorem Cq:eqO (.str "at") (.str "or")=some (.bl false):=eqC (by decide +kernel)
theorem Am:eqO (.str "not") (.str "or")=some (.bl false):=eqC (by decide +kernel)
theorem Ao:eqO (.str "and") (.str "or")=some (.bl false):=eqC (by decide +kernel)
theorem Cp:eqO (.str "or") (.str "or")=some (.bl true):=eqC (by decide +kernel)
def ah:Rem→List Str
  | .pl h _=>[h]
  | _=>[]
theorem aa9 (r:Rem):(ah r).length≤6:=by cases r <;> simp [ah]
theorem Wc:∀ l:List Rem,(l.filter isAt).map hnd=l.flatMap ah
  | []=>rfl
  | r::l=>by
    rw [List.filter_cons,List.flatMap_cons,← Wc l]
    cases r <;> simp [isAt,ah,hnd]
theorem Hi {x y:Str}:∀ {l:List Str},(y=x∨y∈l)→y∈M6 x l
  | [],h=>by rcases h with h | h; simp [M6,h]; cases h
  | z::l,h=>by
    unfold M6
    split
    · rcases h with h | h
      · simp [h]
      · exact List.mem_cons_of_mem _ h
    · rcases h with h | h
      · exact List.mem_cons_of_mem _ (Hi (.inl h))
      · rcases List.mem_cons.mp h with h | h
        · simp [h]
        · exact List.mem_cons_of_mem _ (Hi (.inr h))
theorem Gs {y:Str} {l:List Str}:y∈xu l↔y∈l:=by
  refine ⟨Kw,fun h=>?_⟩
  have go:∀ (l acc:List Str),(y∈l∨y∈acc)→y∈l.foldl (fun acc x=>M6 x acc) acc:=by
    intro l
    induction l with
    | nil=>intro acc h; rcases h with h | h; cases h; exact h
    | cons x l ih =>
      intro acc h
      rw [List.foldl_cons]
      apply ih
      rcases h with h | h
      · rcases List.mem_cons.mp h with h | h
        · exact .inr (Hi (.inl h))
        · exact .inl h
      · exact .inr (Hi (.inr h))
  exact go l [] (.inl h)
theorem Cu {y:Str}:∀ {l:List Str},y∈dedup l↔y∈l
  | []=>Iff.rfl
  | x::l=>by
    unfold dedup
    split
    · rename_i hx
      rw [Cu,List.mem_cons]
      exact ⟨.inr,fun h=>h.elim (fun e=>e ▸ hx) id⟩
    · rw [List.mem_cons,List.mem_cons,Cu]
section
variable {N:List Str} {H:List Hd} {sto:List SO}
theorem Mt {f:Rem→List Str} (hf:∀ r,aar r=true→f r=[]) {d:Nat} {r:Rem} (hl:aar r=true):(pre (d+1) r).flatMap f=(kids r).flatMap fun u=>(pre d u).flatMap f:=by
  rw [pre,List.flatMap_cons,hf r hl,List.nil_append,List.flatMap_assoc]
theorem Ib {f:Rem→List Str} {d:Nat} {r:Rem} (hl:kids r=[]):(pre d r).flatMap f=f r:=by
  cases d <;> simp [pre,hl]
theorem aa5 {f:Rem→List Str} (hf:∀ u d,OkR N H d u→(f u).length≤6) {d:Nat} (hd:d≤2) {r:Rem} (h:OkR N H d r):((pre d r).flatMap f).length≤186:=by
  have h1:=Nf (f:=f) (m:=6) (l:=pre d r) fun u hu=>hf u d (Nr d h u hu)
  have h2:=Pn d h
  have ht:top d≤31:=by
    match d,hd with
    | 0,_=>decide
    | 1,_=>decide
    | 2,_=>decide
  omega
theorem N8 {s:Sm} {r:T} {e1 e2:Slot} {m:M T} (hl:s.2.length<lim) (hm:m ⟨[some (r,false),e1,e2],sto⟩=some (.tup (s.2.map pT),⟨[some (r,false),e1,e2],sto⟩)):ou 2 [] (M5 [0,1]) (Ab m) yw (bw 0) ⟨[some (r,false),e1,e2],sto⟩=some (.lst ((s.2.map (·.1)).map T.str),⟨[some (r,false),e1,e2],sto⟩):=by
  have e:=zj pT (fun p=>T.str p.1) s.2 (g:=M5 [0,1]) (nv:=2) (ci:=[]) (c:=yw) (it:=Ab m) (e:=bw 0) (s:=⟨[some (r,false),e1,e2],sto⟩) (s1:=⟨[some (r,false),e1,e2],sto⟩) [some (r,false),e1,e2] []
    (by unfold Ab; rw [hm]; simp [hl]) rfl rfl rfl (Nat.le_of_lt hl) (by
      intro p hp pre hpre
      obtain ⟨a,b,rfl⟩:=C.p2 pre hpre
      exact ⟨[some (.str p.1,false),some (.int p.2,false)],rfl,by unfold pT; rw [R7]; rfl,rfl,rfl⟩)
  rw [e,List.map_map]; rfl
theorem a1s (hN:G7 N) {d:Nat} {r:Rem} (h:OkR N H d r) (hd:d≤3):∀ k,d<k→fj k [nj r] sto=some (.lst (((pre d r).flatMap bx).map T.str),sto):=by
  have many:∀ {k d:Nat} {w:Str} {l:List Rem} {o:Slot},d≤2→l.length≤5→(∀ r∈l,OkR N H d r)→(∀ r∈l,fj k [nj r] sto=some (.lst (((pre d r).flatMap bx).map T.str),sto)) →
      ∃ o',forL (hName 2) (Ai 1 (fu (fj k) (ao (bw 2) g8))) (l.map nj) ⟨[some (.tup [.str w,.tup (l.map nj)],false),some (.lst [],true),o],sto⟩=some (.next,⟨[some (.tup [.str w,.tup (l.map nj)],false),some (.lst ((l.flatMap fun u=>(pre d u).flatMap bx).map T.str),true),o'],sto⟩):=by
    intro k d w l o hd hl ho hh
    generalize hF:forL _ _ _ _=q
    obtain ⟨s',rfl,P⟩:=Bb hF (fun ts st=>∃ (m:List Rem) (acc:List Str) (o:Slot),ts=m.map nj∧(∀ u∈m,u∈l)∧st=⟨[some (.tup [.str w,.tup (l.map nj)],false),some (.lst (acc.map T.str),true),o],sto⟩∧acc++m.flatMap (fun u=>(pre d u).flatMap bx)=l.flatMap (fun u=>(pre d u).flatMap bx)∧acc.length+186 * m.length≤930)
      ⟨l,[],o,rfl,fun u hu=>hu,rfl,rfl,by simp only [List.length_nil]; omega⟩ (by
        rintro t q st ⟨m,acc,o,e1,e2,rfl,e3,e4⟩
        cases m with
        | nil=>cases e1
        | cons u m =>
          cases e1
          have hu:=e2 u List.mem_cons_self
          have hb:=aa5 (f:=bx) (fun u d h=>a04 hN h) hd (ho u hu)
          have hx:=hh u hu
          generalize hG:(pre d u).flatMap bx=g at *
          simp only [List.length_cons] at e4
          have l2:acc.length+g.length<lim:=by show _<1000000; omega
          refine ⟨_,⟨[some (.tup [.str w,.tup (l.map nj)],false),some (.lst ((acc++g).map T.str),true),some (nj u,false)],sto⟩,rfl,?_,m,acc++g,_,rfl,fun v hv=>e2 v (List.mem_cons_of_mem _ hv),rfl,?_,?_⟩
          · simp! [hx,l2]
          · rw [← e3,List.flatMap_cons,hG,List.append_assoc]
          · rw [List.length_append]; omega)
    obtain ⟨m,acc,o,e1,e2,rfl,e3,e4⟩:=P
    cases m with
    | cons _ _=>cases e1
    | nil =>
      simp only [List.flatMap_nil,List.append_nil] at e3
      exact ⟨o,by rw [e3]⟩
  induction h with
  | most h =>
    intro k hk
    obtain ⟨k,rfl⟩:∃ j,k=j+1:=⟨k - 1,by omega⟩
    rename_i d s
    rw [Ib rfl]
    unfold fj nj bx
    have hl:=X7 hN h
    have nc:=fun (r:T) (m:M T) hm=>N8 (sto:=sto) (r:=r) (e1:=none) (e2:=none) (m:=m) hl hm
    have n1:=nc (.tup [.str "most",smT s]) (mOp d9 (mOp d9 (bw 0) (aq (.int 1))) (aq (.int 1))) (by unfold smT; simp! [Ax])
    simp! [vo,iw,j4,jx,j6,je,iz,iy,jy,jc,jf,jw,kh,uh,qj,pq,j9,jd,qg,ju,m5,j8,j7,qd,kj,jz,lg,lq,um,qb,qe,n1]
  | rest h a b =>
    intro k hk
    obtain ⟨k,rfl⟩:∃ j,k=j+1:=⟨k - 1,by omega⟩
    rename_i d s m
    rw [Ib rfl]
    unfold fj nj bx
    have hl:=X7 hN h
    have nc:=fun (r:T) (m:M T) hm=>N8 (sto:=sto) (r:=r) (e1:=none) (e2:=none) (m:=m) hl hm
    have n1:=nc (.tup [.str "rest",smT s,.int m]) (mOp d9 (mOp d9 (bw 0) (aq (.int 1))) (aq (.int 1))) (by unfold smT; simp! [Ax])
    simp! [vo,iw,j4,jx,j6,je,iz,iy,jy,jc,jf,jw,kh,uh,qj,pq,j9,jd,qg,ju,m5,j8,j7,qd,kj,jz,lg,lq,um,qb,qe,n1]
  | pl h a b =>
    intro k hk
    obtain ⟨k,rfl⟩:∃ j,k=j+1:=⟨k - 1,by omega⟩
    rename_i d s m
    rw [Ib rfl]
    unfold fj nj bx
    simp! [vo,iw,j4,jx,j6,je,iz,iy,jy,jc,jf,jw,kh,uh,qj,pq,j9,jd,qg,ju,m5,j8,j7,qd,kj,jz,lg,lq,um,qb,qe,yg,yd,Cq,Am,Ao,Cp]
  | all hl ho ih =>
    intro k hk
    obtain ⟨k,rfl⟩:∃ j,k=j+1:=⟨k - 1,by omega⟩
    rename_i d l
    obtain ⟨o',e⟩:=many (w := "and") (o:=none) (by omega) hl ho fun r hr=>ih r hr (by omega) k (by omega)
    have lm:l.length<lim:=by show _<1000000; omega
    rw [Mt (fun r hr=>by cases r <;> first | rfl | cases hr) rfl]
    show _=some (T.lst ((l.flatMap fun u=>(pre d u).flatMap bx).map T.str),sto)
    generalize (l.flatMap fun u=>(pre d u).flatMap bx)=g at *
    unfold fj nj
    simp! [vo,Ax,iw,j4,jx,j6,je,iz,iy,jy,jc,jf,jw,kh,uh,qj,pq,j9,jd,qg,ju,m5,j8,j7,qd,kj,jz,lg,lq,um,qb,qe,yg,yd,Cq,Am,Ao,Cp,zm,lm,e]
  | any hl ho ih =>
    intro k hk
    obtain ⟨k,rfl⟩:∃ j,k=j+1:=⟨k - 1,by omega⟩
    rename_i d l
    obtain ⟨o',e⟩:=many (w := "or") (o:=none) (by omega) hl ho fun r hr=>ih r hr (by omega) k (by omega)
    have lm:l.length<lim:=by show _<1000000; omega
    rw [Mt (fun r hr=>by cases r <;> first | rfl | cases hr) rfl]
    show _=some (T.lst ((l.flatMap fun u=>(pre d u).flatMap bx).map T.str),sto)
    generalize (l.flatMap fun u=>(pre d u).flatMap bx)=g at *
    unfold fj nj
    simp! [vo,Ax,iw,j4,jx,j6,je,iz,iy,jy,jc,jf,jw,kh,uh,qj,pq,j9,jd,qg,ju,m5,j8,j7,qd,kj,jz,lg,lq,um,qb,qe,yg,yd,Cq,Am,Ao,Cp,zm,lm,e]
  | no h ih =>
    intro k hk
    obtain ⟨k,rfl⟩:∃ j,k=j+1:=⟨k - 1,by omega⟩
    rename_i d r
    have e:=ih (by omega) k (by omega)
    rw [Mt (fun r hr=>by cases r <;> first | rfl | cases hr) rfl]
    show _=some (T.lst (([r].flatMap fun u=>(pre d u).flatMap bx).map T.str),sto)
    rw [List.flatMap_singleton]
    generalize ((pre d r).flatMap bx)=g at *
    unfold fj nj
    simp! [vo,Ax,iw,j4,jx,j6,je,iz,iy,jy,jc,jf,jw,kh,uh,qj,pq,j9,jd,qg,ju,m5,j8,j7,qd,kj,jz,lg,lq,um,qb,qe,yg,yd,Cq,Am,Ao,Cp,e]
theorem a8g (hN:G7 N) {d:Nat} {r:Rem} (h:OkR N H d r) (hd:d≤3):∀ k,d<k→gq k [nj r] sto=some (.lst (((pre d r).flatMap ah).map T.str),sto):=by
  have many:∀ {k d:Nat} {w:Str} {l:List Rem} {o:Slot},d≤2→l.length≤5→(∀ r∈l,OkR N H d r)→(∀ r∈l,gq k [nj r] sto=some (.lst (((pre d r).flatMap ah).map T.str),sto)) →
      ∃ o',forL (hName 2) (Ai 1 (fu (gq k) (ao (bw 2) g8))) (l.map nj) ⟨[some (.tup [.str w,.tup (l.map nj)],false),some (.lst [],true),o],sto⟩=some (.next,⟨[some (.tup [.str w,.tup (l.map nj)],false),some (.lst ((l.flatMap fun u=>(pre d u).flatMap ah).map T.str),true),o'],sto⟩):=by
    intro k d w l o hd hl ho hh
    generalize hF:forL _ _ _ _=q
    obtain ⟨s',rfl,P⟩:=Bb hF (fun ts st=>∃ (m:List Rem) (acc:List Str) (o:Slot),ts=m.map nj∧(∀ u∈m,u∈l)∧st=⟨[some (.tup [.str w,.tup (l.map nj)],false),some (.lst (acc.map T.str),true),o],sto⟩∧acc++m.flatMap (fun u=>(pre d u).flatMap ah)=l.flatMap (fun u=>(pre d u).flatMap ah)∧acc.length+186 * m.length≤930)
      ⟨l,[],o,rfl,fun u hu=>hu,rfl,rfl,by simp only [List.length_nil]; omega⟩ (by
        rintro t q st ⟨m,acc,o,e1,e2,rfl,e3,e4⟩
        cases m with
        | nil=>cases e1
        | cons u m =>
          cases e1
          have hu:=e2 u List.mem_cons_self
          have hb:=aa5 (f:=ah) (fun u d _=>aa9 u) hd (ho u hu)
          have hx:=hh u hu
          generalize hG:(pre d u).flatMap ah=g at *
          simp only [List.length_cons] at e4
          have l2:acc.length+g.length<lim:=by show _<1000000; omega
          refine ⟨_,⟨[some (.tup [.str w,.tup (l.map nj)],false),some (.lst ((acc++g).map T.str),true),some (nj u,false)],sto⟩,rfl,?_,m,acc++g,_,rfl,fun v hv=>e2 v (List.mem_cons_of_mem _ hv),rfl,?_,?_⟩
          · simp! [hx,l2]
          · rw [← e3,List.flatMap_cons,hG,List.append_assoc]
          · rw [List.length_append]; omega)
    obtain ⟨m,acc,o,e1,e2,rfl,e3,e4⟩:=P
    cases m with
    | cons _ _=>cases e1
    | nil =>
      simp only [List.flatMap_nil,List.append_nil] at e3
      exact ⟨o,by rw [e3]⟩
  induction h with
  | most h =>
    intro k hk
    obtain ⟨k,rfl⟩:∃ j,k=j+1:=⟨k - 1,by omega⟩
    rename_i d s
    rw [Ib rfl]
    unfold gq nj ah
    simp! [vo,iw,j4,jx,j6,je,iz,iy,jy,jc,jf,jw,kh,uh,qj,pq,j9,jd,qg,ju,m5,j8,j7,qd,kj,jz,lg,lq,um,qb,qe,yg,yd,Cq,Am,Ao,Cp]
  | rest h a b =>
    intro k hk
    obtain ⟨k,rfl⟩:∃ j,k=j+1:=⟨k - 1,by omega⟩
    rename_i d s m
    rw [Ib rfl]
    unfold gq nj ah
    simp! [vo,iw,j4,jx,j6,je,iz,iy,jy,jc,jf,jw,kh,uh,qj,pq,j9,jd,qg,ju,m5,j8,j7,qd,kj,jz,lg,lq,um,qb,qe,yg,yd,Cq,Am,Ao,Cp]
  | pl h a b =>
    intro k hk
    obtain ⟨k,rfl⟩:∃ j,k=j+1:=⟨k - 1,by omega⟩
    rename_i d s m
    rw [Ib rfl]
    unfold gq nj ah
    simp! [vo,Ax,iw,j4,jx,j6,je,iz,iy,jy,jc,jf,jw,kh,uh,qj,pq,j9,jd,qg,ju,m5,j8,j7,qd,kj,jz,lg,lq,um,qb,qe,yg,yd,Cq,Am,Ao,Cp]
  | all hl ho ih =>
    intro k hk
    obtain ⟨k,rfl⟩:∃ j,k=j+1:=⟨k - 1,by omega⟩
    rename_i d l
    obtain ⟨o',e⟩:=many (w := "and") (o:=none) (by omega) hl ho fun r hr=>ih r hr (by omega) k (by omega)
    have lm:l.length<lim:=by show _<1000000; omega
    rw [Mt (fun r hr=>by cases r <;> first | rfl | cases hr) rfl]
    show _=some (T.lst ((l.flatMap fun u=>(pre d u).flatMap ah).map T.str),sto)
    generalize (l.flatMap fun u=>(pre d u).flatMap ah)=g at *
    unfold gq nj
    simp! [vo,Ax,iw,j4,jx,j6,je,iz,iy,jy,jc,jf,jw,kh,uh,qj,pq,j9,jd,qg,ju,m5,j8,j7,qd,kj,jz,lg,lq,um,qb,qe,yg,yd,Cq,Am,Ao,Cp,zm,lm,e]
  | any hl ho ih =>
    intro k hk
    obtain ⟨k,rfl⟩:∃ j,k=j+1:=⟨k - 1,by omega⟩
    rename_i d l
    obtain ⟨o',e⟩:=many (w := "or") (o:=none) (by omega) hl ho fun r hr=>ih r hr (by omega) k (by omega)
    have lm:l.length<lim:=by show _<1000000; omega
    rw [Mt (fun r hr=>by cases r <;> first | rfl | cases hr) rfl]
    show _=some (T.lst ((l.flatMap fun u=>(pre d u).flatMap ah).map T.str),sto)
    generalize (l.flatMap fun u=>(pre d u).flatMap ah)=g at *
    unfold gq nj
    simp! [vo,Ax,iw,j4,jx,j6,je,iz,iy,jy,jc,jf,jw,kh,uh,qj,pq,j9,jd,qg,ju,m5,j8,j7,qd,kj,jz,lg,lq,um,qb,qe,yg,yd,Cq,Am,Ao,Cp,zm,lm,e]
  | no h ih =>
    intro k hk
    obtain ⟨k,rfl⟩:∃ j,k=j+1:=⟨k - 1,by omega⟩
    rename_i d r
    have e:=ih (by omega) k (by omega)
    rw [Mt (fun r hr=>by cases r <;> first | rfl | cases hr) rfl]
    show _=some (T.lst (([r].flatMap fun u=>(pre d u).flatMap ah).map T.str),sto)
    rw [List.flatMap_singleton]
    generalize ((pre d r).flatMap ah)=g at *
    unfold gq nj
    simp! [vo,Ax,iw,j4,jx,j6,je,iz,iy,jy,jc,jf,jw,kh,uh,qj,pq,j9,jd,qg,ju,m5,j8,j7,qd,kj,jz,lg,lq,um,qb,qe,yg,yd,Cq,Am,Ao,Cp,e]
end
end K
end
section
namespace K
open C PySem
def AT (o:Sp):List Str:=(pre 3 o.guard).flatMap ah
def NM (o:Sp):List Str:=(pre 3 o.guard).flatMap bx++o.sets.flatMap fun p=>p.1::p.2.2.map (·.1)
def Mz (s o:Sp):Bool:=s.hand==o.hand||decide (s.hand∈AT o)||s.sets.any fun p=>decide (p.1∈NM o)
abbrev Q2:=Str × Str
def qT (q:Q2):T:=.tup [.str q.1,.str q.2]
def CH (s:Sp):List Q2:=("hand",s.hand)::s.sets.map fun p=>("box",p.1)
def NB (o:Sp):List Q2:=CH o++(Fv o.guard).map (fun h=>(("hand",h):Q2))++(Fy o.guard++o.sets.flatMap fun p=>p.2.2.map (·.1)).map fun b=>(("box",b):Q2)
def mts (s o:Sp):Bool:=(CH s).any fun q=>decide (q∈NB o)
theorem a2y:¬ (("hand" : Str) = "box"):=by decide +kernel
theorem a3s (s o:Sp):mts s o=Mz s o:=by
  have h1:∀ x:Str,(("hand",x):Q2)∈NB o↔x=o.hand∨x∈AT o:=by
    intro x
    unfold NB CH AT
    simp only [List.mem_append,List.mem_cons,List.mem_map,Prod.mk.injEq,a2y,Ne.symm a2y,false_and,and_false,exists_false,or_false,true_and,exists_eq_right]
    have e:x∈Fv o.guard↔x∈(pre 3 o.guard).flatMap ah:=by
      unfold Fv
      rw [Gs,Cu,Wc]
    rw [e]
  have h2:∀ x:Str,(("box",x):Q2)∈NB o↔x∈NM o:=by
    intro x
    unfold NB CH NM
    have e:x∈Fy o.guard↔x∈(pre 3 o.guard).flatMap bx:=by
      unfold Fy
      rw [Gs,Cu]
    simp only [List.mem_append,List.mem_cons,List.mem_map,Prod.mk.injEq,true_and,exists_eq_right,e,List.mem_flatMap]
    constructor
    · rintro (((⟨h,_⟩ | ⟨p,hp,h⟩) | ⟨_,_,h,_⟩) | h)
      · exact absurd h.symm a2y
      · exact .inr ⟨p,hp,.inl h.symm⟩
      · exact absurd h a2y
      · rcases h with h | ⟨p,hp,h⟩
        · exact .inl h
        · exact .inr ⟨p,hp,.inr h⟩
    · rintro (h | ⟨p,hp,h | h⟩)
      · exact .inr (.inl h)
      · exact .inl (.inl (.inr ⟨p,hp,h.symm⟩))
      · exact .inr (.inr ⟨p,hp,h⟩)
  rw [Bool.eq_iff_iff]
  unfold mts Mz
  simp only [List.any_eq_true,decide_eq_true_eq,Bool.or_eq_true,beq_iff_eq]
  constructor
  · rintro ⟨q,hq,hn⟩
    unfold CH at hq
    rcases List.mem_cons.mp hq with rfl | hq -- here
    · exact .inl ((h1 _).mp hn)
    · obtain ⟨p,hp,rfl⟩:=List.mem_map.mp hq
      exact .inr ⟨p,hp,(h2 _).mp hn⟩
  · rintro (h | ⟨p,hp,h⟩)
    · exact ⟨_,List.mem_cons_self,(h1 _).mpr h⟩
    · exact ⟨_,List.mem_cons_of_mem _ (List.mem_map.mpr ⟨p,hp,rfl⟩),(h2 _).mpr h⟩
theorem Tv:okS "hand" := by unfold okS; decide +kernel
theorem Zj:okS "box" := by unfold okS; decide +kernel
theorem ac8 {a b:Q2} (h1:okS a.1) (h2:okS a.2) (h3:okS b.1) (h4:okS b.2):eqD (qT a) (qT b)=some (a==b):=by
  obtain ⟨a1,a2⟩:=a
  obtain ⟨b1,b2⟩:=b
  simp only at h1 h2 h3 h4
  have e:dat (qT (a1,a2))=some (.tuple [.str a1,.str a2]):=by simp [qT,dat,Dw,Bm h1,Bm h2,show PyData.canLay0 (.str a1)=true from h1,show PyData.canLay0 (.str a2)=true from h2]
  have f:dat (qT (b1,b2))=some (.tuple [.str b1,.str b2]):=by simp [qT,dat,Dw,show PyData.canLay0 (.str b1)=true from h3,show PyData.canLay0 (.str b2)=true from h4]
  unfold eqD
  rw [e,f]
  dsimp only
  rw [if_pos (by simp [PyData.depth,PyData.depthAll])]
  simp only [PyData.eqv,PyData.eqvAll,Bool.and_true]
  rfl
theorem a9j {x:Q2} (h1:okS x.1) (h2:okS x.2):∀ m:List Q2,(∀ y∈m,okS y.1∧okS y.2)→inL (qT x) (m.map qT)=some (decide (x∈m))
  | [],_=>by simp [inL]
  | y::m,h=>by
    have ih:=a9j h1 h2 m fun z hz=>h z (List.mem_cons_of_mem _ hz)
    have hy:=h y List.mem_cons_self
    rw [List.map_cons,inL,ac8 hy.1 hy.2 h1 h2]
    dsimp only
    rw [ih,Option.map_some]
    congr 1
    rw [Bool.eq_iff_iff]
    simp only [Bool.or_eq_true,beq_iff_eq,decide_eq_true_eq,List.mem_cons]
    exact ⟨fun z=>z.imp_left Eq.symm,fun z=>z.imp_left Eq.symm⟩
theorem adf {x:Q2} {m:List Q2} (h1:okS x.1) (h2:okS x.2) (h:∀ y∈m,okS y.1∧okS y.2):inT (qT x) (.lst (m.map qT))=some (.bl (decide (x∈m))):=by
  have d:(dat (qT x)).isSome=true:=by
    unfold okS at h1 h2
    simp [qT,dat,Dw,h1,h2]
  simp [inT,d,a9j h1 h2 m h]
theorem a5i {x:Str} (hx:okS x):∀ m:List Str,(∀ y∈m,okS y)→inL (.str x) (m.map T.str)=some (decide (x∈m))
  | [],_=>by simp [inL]
  | y::m,h=>by
    have ih:=a5i hx m fun z hz=>h z (List.mem_cons_of_mem _ hz)
    rw [List.map_cons,inL,a7z (h y List.mem_cons_self) hx]
    dsimp only
    rw [ih,Option.map_some]
    congr 1
    rw [Bool.eq_iff_iff]
    simp only [Bool.or_eq_true,beq_iff_eq,decide_eq_true_eq,List.mem_cons]
    exact ⟨fun z=>z.imp_left Eq.symm,fun z=>z.imp_left Eq.symm⟩
theorem acz {x:Str} {m:List Str} (hx:okS x) (h:∀ y∈m,okS y):inT (.str x) (.lst (m.map T.str))=some (.bl (decide (x∈m))):=by
  simp [inT,Bm hx,a5i hx m h]
theorem ne_nil {l:List Str} (h:∀ x∈l,okS x):neO (.lst (l.map T.str)) (.lst [])=some (.bl (!l.isEmpty)):=by
  cases l with
  | nil=>simp [neO,eqT,eqD,dat,Dw,PyData.depth,PyData.depthAll,PyData.eqv,PyData.eqvAll]
  | cons x l =>
    obtain ⟨ds,e1,e2⟩:=pls (n:=0) ((x::l).map T.str) fun t ht=>by
      obtain ⟨y,hy,rfl⟩:=List.mem_map.mp ht
      exact Ek 0 (h y hy)
    have hd:∃ d r,ds=d::r:=by
      have hx:=Bm (h x List.mem_cons_self)
      rw [List.map_cons,Dw,hx] at e1
      dsimp only at e1
      cases q:Dw (l.map T.str) with
      | none=>rw [q] at e1; cases e1
      | some r=>rw [q] at e1; cases e1; exact ⟨_,_,rfl⟩
    obtain ⟨d,r,rfl⟩:=hd
    have dl:dat (.lst ((x::l).map T.str))=some (.list (d::r)):=by rw [dat,e1]; rfl
    have dn:dat (.lst [])=some (.list []):=by simp [dat,Dw]
    have dp:(PyData.list (d::r)).depth≤40:=by simp only [PyData.depth]; omega
    simp only [neO,eqT,eqD,dl,dn,if_pos dp,PyData.eqv,PyData.eqvAll]
    rfl
section
variable {N:List Str} {H:List Hd} {sto:List SO} {s o:Sp}
theorem a95 (hH:M7 H) (ho:OkP N H o):∀ x∈AT o,okS x:=fun x hx=>by
  have:=(Tn ho.gd).2 x (by rw [Wc]; exact hx)
  obtain ⟨h,hh,rfl⟩:=List.mem_map.mp this
  exact (hH.2.2 h hh).1.1
theorem a5y (ho:OkP N H o):∀ x∈o.sets.flatMap (fun p=>p.1::p.2.2.map (·.1)),x∈N:=fun x hx=>by
  obtain ⟨p,hp,hx⟩:=List.mem_flatMap.mp hx
  obtain ⟨h1,h2⟩:=ho.set p hp
  rcases List.mem_cons.mp hx with rfl | hx -- here
  · exact h1
  · obtain ⟨q,hq,rfl⟩:=List.mem_map.mp hx
    exact (h2.2 q hq).1
theorem ac6 (hN:G7 N) (ho:OkP N H o):∀ x∈NM o,okS x:=fun x hx=>by
  have:x∈N:=by
    rcases List.mem_append.mp hx with h | h
    · exact (Rz hN ho.gd).2 x h
    · exact a5y ho x h
  exact (hN.2 x this).1
theorem aaj (hN:G7 N) (ho:OkP N H o):(NM o).length≤1100:=by
  have h1:=(Rz hN ho.gd).1
  have h2:=Nf (f:=fun p:Str × Sm=>p.1::p.2.2.map (·.1)) (m:=3) (l:=o.sets) fun p hp=>by
    have:=(ho.set p hp).2.1
    have:=hN.1
    simp only [List.length_cons,List.length_map]
    omega
  have:=ho.len
  unfold NM
  rw [List.length_append]
  omega
theorem Pa (ho:OkP N H o):o.sets.length<lim:=by have:=ho.len; show _<1000000; omega
theorem a2f (hN:G7 N) (hH:M7 H) (hs:OkP N H s) (ho:OkP N H o):u9 [spT s,spT o] sto=some (.bl (Mz s o),sto):=by
  have la:=a8g (sto:=sto) hN ho.gd (by decide) 40 (by decide)
  have lb:=a1s (sto:=sto) hN ho.gd (by decide) 40 (by decide)
  have i0:∀ x:Sp,d9 (spT x) (.int 0)=some (.str x.hand):=fun x=>vo
  have i2:∀ x:Sp,d9 (spT x) (.int 2)=some (nj x.guard):=fun x=>Sh
  have i3:∀ x:Sp,d9 (spT x) (.int 3)=some (.tup (x.sets.map seT)):=fun x=>a0b
  have e0:=Z8 hs.hd.1 ho.hd.1
  have e1:=acz (m:=AT o) hs.hd.1 (a95 hH ho)
  unfold u9 su
  rw [show ([spT s,spT o].map (fun t=>some (t,false))++List.replicate (5 - [spT s,spT o].length) none:List Slot)=[some (spT s,false),some (spT o,false),none,none,none] from rfl]
  by_cases hh:(s.hand==o.hand)=true
  · have:Mz s o=true:=by unfold Mz; rw [hh]; rfl
    rw [this]
    rw [hh] at e0
    simp! [i0,e0]
  have hh':(s.hand==o.hand)=false:=eq_false_of_ne_true hh
  rw [hh'] at e0
  by_cases ha:s.hand∈AT o
  · have:Mz s o=true:=by unfold Mz; rw [decide_eq_true ha]; simp
    rw [this]
    rw [decide_eq_true ha] at e1
    unfold AT at e1
    simp! [i0,i2,e0,la,e1]
  have em:Mz s o=s.sets.any fun p=>decide (p.1∈NM o):=by unfold Mz; rw [hh',decide_eq_false ha]; rfl
  rw [em]
  rw [decide_eq_false ha] at e1
  unfold AT at e1
  rw [gj (s':=⟨[some (spT s,false),some (spT o,false),none,none,none],sto⟩) (ac9 (by simp! [i0,i2,e0,la,e1]))]
  rw [gj (s':=⟨[some (spT s,false),some (spT o,false),some (.lst (((pre 3 o.guard).flatMap bx).map T.str),false),none,none],sto⟩) (by simp! [i2,lb])]
  obtain ⟨o3,o4,eF⟩:∃ o3 o4:Slot,G6 (M5 [3,4]) (Ab (mOp d9 (bw 1) (aq (.int 3))))
      (zp 2 (mOp Gk (mOp Gk (bw 2) (nu (fun l=>some (.lst l)) (ao (bw 3) g8))) (ou 2 [] (M5 [0,1]) (Ab (mOp d9 (bw 4) (aq (.int 1)))) yw (bw 0))))
      ⟨[some (spT s,false),some (spT o,false),some (.lst (((pre 3 o.guard).flatMap bx).map T.str),false),none,none],sto⟩=some (.next,⟨[some (spT s,false),some (spT o,false),some (.lst ((NM o).map T.str),false),o3,o4],sto⟩):=by
    have sl:=Pa ho
    have lN:=aaj hN ho
    have it:Ab (mOp d9 (bw 1) (aq (.int 3))) ⟨[some (spT s,false),some (spT o,false),some (.lst (((pre 3 o.guard).flatMap bx).map T.str),false),none,none],sto⟩=some (o.sets.map seT,⟨[some (spT s,false),some (spT o,false),some (.lst (((pre 3 o.guard).flatMap bx).map T.str),false),none,none],sto⟩):=by simp! [i3,sl]
    unfold G6
    rw [it]
    dsimp only
    generalize hF:forL _ _ _ _=q
    obtain ⟨s',rfl,P⟩:=Bb hF (fun ts st=>∃ (m:List (Str × Sm)) (acc:List Str) (o3 o4:Slot),ts=m.map seT∧(∀ p∈m,p∈o.sets)∧st=⟨[some (spT s,false),some (spT o,false),some (.lst (acc.map T.str),false),o3,o4],sto⟩∧acc++m.flatMap (fun p=>p.1::p.2.2.map (·.1))=NM o)
      ⟨o.sets,(pre 3 o.guard).flatMap bx,none,none,rfl,fun p hp=>hp,rfl,rfl⟩ (by
        rintro t q st ⟨m,acc,o3,o4,e1,e2,rfl,e3⟩
        cases m with
        | nil=>cases e1
        | cons p m =>
          cases e1
          have ok:=(ho.set p (e2 p List.mem_cons_self)).2
          have pl:=X7 hN ok
          have ll:acc.length+(1+p.2.2.length)≤1100:=by
            have:=congrArg List.length e3
            simp only [List.length_append,List.flatMap_cons,List.length_cons,List.length_map] at this
            omega
          have l1:acc.length+1<lim:=by show _<1000000; omega
          have l2:acc.length+1+p.2.2.length<lim:=by show _<1000000; omega
          have c:=zj pT (fun p=>T.str p.1) p.2.2 (g:=M5 [0,1]) (nv:=2) (ci:=[]) (c:=yw) (it:=Ab (mOp d9 (bw 4) (aq (.int 1)))) (e:=bw 0) (s:=⟨[some (spT s,false),some (spT o,false),some (.lst (acc.map T.str),false),some (.str p.1,false),some (smT p.2,false)],sto⟩) (s1:=⟨[some (spT s,false),some (spT o,false),some (.lst (acc.map T.str),false),some (.str p.1,false),some (smT p.2,false)],sto⟩) [some (spT s,false),some (spT o,false),some (.lst (acc.map T.str),false),some (.str p.1,false),some (smT p.2,false)] []
            (by unfold smT; simp! [Ax,pl]) rfl rfl rfl (Nat.le_of_lt pl) (by
              intro p hp pre hpre
              obtain ⟨a,b,rfl⟩:=C.p2 pre hpre
              exact ⟨[some (.str p.1,false),some (.int p.2,false)],rfl,by unfold pT; rw [R7]; rfl,rfl,rfl⟩)
          refine ⟨_,⟨[some (spT s,false),some (spT o,false),some (.lst ((acc++(p.1::p.2.2.map (·.1))).map T.str),false),some (.str p.1,false),some (smT p.2,false)],sto⟩,by unfold seT; exact R7,?_,m,acc++(p.1::p.2.2.map (·.1)),_,_,rfl,fun v hv=>e2 v (List.mem_cons_of_mem _ hv),rfl,?_⟩
          · simp! [l1,c,l2]
          · rw [← e3,List.flatMap_cons,List.append_assoc])
    obtain ⟨m,acc,o3,o4,e1,e2,rfl,e3⟩:=P
    cases m with
    | cons _ _=>cases e1
    | nil =>
      simp only [List.flatMap_nil,List.append_nil] at e3
      subst e3
      exact ⟨o3,o4,rfl⟩
  rw [gj eF]
  have sl:=Pa hs
  have okb:∀ p∈s.sets,okS p.1:=fun p hp=>(hN.2 _ (hs.set p hp).1).1
  simp! []
  generalize hF:ou _ _ _ _ _ _ _=r
  obtain rfl:=Ed hF seT (fun p=>.str p.1) (fun p=>decide (p.1∈NM o)) s.sets ⟨[some (spT s,false),some (spT o,false),some (.lst ((NM o).map T.str),false),o3,o4],sto⟩ [some (spT s,false),some (spT o,false),some (.lst ((NM o).map T.str),false),o3,o4] [some (.lst ((NM o).map T.str),false)]
    (by simp! [i3,sl]) rfl rfl rfl (Nat.le_of_lt sl) (by
      intro p hp pre hpre
      obtain ⟨a,b,rfl⟩:=C.p2 pre hpre
      have ei:=acz (m:=NM o) (okb p hp) (ac6 hN ho)
      exact ⟨[some (.str p.1,false),some (smT p.2,false)],rfl,by unfold seT; rw [R7]; rfl,by simp! [ei],fun _=>rfl⟩)
  have en:(s.sets.filter fun p=>decide (p.1∈NM o)).map (fun p=>T.str p.1)=((s.sets.filter fun p=>decide (p.1∈NM o)).map (·.1)).map T.str:=by rw [List.map_map]; rfl
  have nn:=ne_nil (l:=(s.sets.filter fun p=>decide (p.1∈NM o)).map (·.1)) fun x hx=>by
    obtain ⟨p,hp,rfl⟩:=List.mem_map.mp hx
    exact okb p (List.mem_filter.mp hp).1
  have ee:(!((s.sets.filter fun p=>decide (p.1∈NM o)).map (·.1)).isEmpty)=s.sets.any fun p=>decide (p.1∈NM o):=by
    generalize s.sets=l
    induction l with
    | nil=>rfl
    | cons p l ih =>
      rw [List.filter_cons,List.any_cons]
      by_cases h:p.1∈NM o
      · simp [h]
      · simp only [h,decide_false,Bool.false_eq_true,if_false,Bool.false_or]; exact ih
  rw [ee] at nn
  rw [← en] at nn
  dsimp only
  rw [nn]
theorem Y7 (hN:G7 N) (hH:M7 H) {bs:List Bx} {ss:List Sp} (ok:∀ s∈ss,OkP N H s) {i j:Nat} (hi:i<ss.length) (hj:j<ss.length) :
    qt [prT bs H ss,.int (i:Int),.int (j:Int)] sto=some (.bl (!Mz ss[i] ss[j] && !Mz ss[j] ss[i]),sto):=by
  have i2:d9 (prT bs H ss) (.int 2)=some (.lst (ss.map spT)):=Sh
  have a1:=Js spT ss hi
  have a2:=Js spT ss hj
  have m1:=a2f (sto:=sto) hN hH (ok _ (List.getElem_mem hi)) (ok _ (List.getElem_mem hj))
  have m2:=a2f (sto:=sto) hN hH (ok _ (List.getElem_mem hj)) (ok _ (List.getElem_mem hi))
  generalize ss[i]=a at *
  generalize ss[j]=b at *
  unfold qt
  cases h1:Mz a b <;> rw [h1] at m1 <;> simp! [i2,a1,a2,m1,m2]
theorem changed:mj [spT s] sto=some (.lst ((CH s).map qT),sto)∨¬ s.sets.length<1000:=by
  by_cases hl:s.sets.length<1000
  · left
    have sl:s.sets.length<lim:=by show _<1000000; omega
    have i0:d9 (spT s) (.int 0)=some (.str s.hand):=vo
    have i3:d9 (spT s) (.int 3)=some (.tup (s.sets.map seT)):=a0b
    have c:=zj seT (fun p=>qT ("box",p.1)) s.sets (g:=M5 [0,1]) (nv:=2) (ci:=[]) (c:=yw) (it:=Ab (mOp d9 (bw 0) (aq (.int 3)))) (e:=nu (fun l=>some (.tup l)) (ao (aq (.str "box")) (ao (bw 0) g8))) (s:=⟨[some (spT s,false)],sto⟩) (s1:=⟨[some (spT s,false)],sto⟩) [some (spT s,false)] []
      (by simp! [i3,sl]) rfl rfl rfl (Nat.le_of_lt sl) (by
        intro p hp pre hpre
        obtain ⟨a,b,rfl⟩:=C.p2 pre hpre
        exact ⟨[some (.str p.1,false),some (smT p.2,false)],rfl,by unfold seT; rw [R7]; rfl,rfl,rfl⟩)
    have l1:1+s.sets.length<lim:=by show _<1000000; omega
    unfold mj
    simp! [i0,c,l1,CH,qT]
  · exact .inr hl
theorem Iu (hs:OkP N H s):mj [spT s] sto=some (.lst ((CH s).map qT),sto):=by
  rcases changed (s:=s) (sto:=sto) with h | h
  · exact h
  · exact absurd (by have:=hs.len; omega) h
end
end K
end
section
namespace K
open C PySem
theorem Zu {n m:Nat} {t:T} (h:Pl n t) (hm:n≤m):Pl m t:=by
  obtain ⟨d,e1,e2⟩:=h
  exact ⟨d,e1,Nat.le_trans e2 hm⟩
section
variable {N:List Str} {H:List Hd} {sto:List SO} {s o:Sp}
theorem abv (hN:G7 N) (hH:M7 H) (ho:OkP N H o):∀ y∈NB o,okS y.1∧okS y.2:=by
  intro y hy
  unfold NB CH at hy
  have okb:∀ x,x∈N→okS x:=fun x hx=>(hN.2 x hx).1
  rcases List.mem_append.mp hy with hy | hy
  · rcases List.mem_append.mp hy with hy | hy
    · rcases List.mem_cons.mp hy with rfl | hy -- here
      · exact ⟨Tv,ho.hd.1⟩
      · obtain ⟨p,hp,rfl⟩:=List.mem_map.mp hy
        exact ⟨Zj,okb _ (ho.set p hp).1⟩
    · obtain ⟨h,hh,rfl⟩:=List.mem_map.mp hy
      refine ⟨Tv,a95 hH ho h ?_⟩
      unfold Fv at hh
      rw [Gs,Cu,Wc] at hh
      exact hh
  · obtain ⟨b,hb,rfl⟩:=List.mem_map.mp hy
    refine ⟨Zj,okb _ ?_⟩
    rcases List.mem_append.mp hb with hb | hb -- here
    · unfold Fy at hb
      rw [Gs,Cu] at hb
      exact (Rz hN ho.gd).2 b hb
    · obtain ⟨p,hp,hb⟩:=List.mem_flatMap.mp hb
      exact a5y ho b (List.mem_flatMap.mpr ⟨p,hp,List.mem_cons_of_mem _ hb⟩)
theorem abg (hN:G7 N) (ho:OkP N H o):∀ y∈CH o,okS y.1∧okS y.2:=by
  intro y hy
  unfold CH at hy
  rcases List.mem_cons.mp hy with rfl | hy -- here
  · exact ⟨Tv,ho.hd.1⟩
  · obtain ⟨p,hp,rfl⟩:=List.mem_map.mp hy
    exact ⟨Zj,(hN.2 _ (ho.set p hp).1).1⟩
theorem a3q {α:Type} {s:Sta} {i:Nat} {w:Str} {l:List Str} (hl:l.length<lim) (hi:bw i s=some (.lst (l.map T.str),s)) :
    ou 1 [] (hName 0) (Ab (bw i)) yw (nu (fun l=>some (.tup l)) (ao (aq (.str w)) (ao (bw 0) g8))) s=some (.lst ((l.map fun x=>((w,x):Q2)).map qT),s):=by
  have e:=zj T.str (fun x=>qT (w,x)) l (g:=hName 0) (nv:=1) (ci:=[]) (c:=yw) (it:=Ab (bw i)) (e:=nu (fun l=>some (.tup l)) (ao (aq (.str w)) (ao (bw 0) g8))) (s:=s) (s1:=s) s.env []
    (by unfold Ab; rw [hi]; simp [hl]) rfl rfl rfl (Nat.le_of_lt hl) (by
      intro p hp pre hpre
      obtain ⟨a,rfl⟩:=C.p1 pre hpre
      exact ⟨[some (.str p,false)],rfl,rfl,rfl,rfl⟩)
  rw [e,List.map_map]; rfl
theorem Vt (hN:G7 N) (hH:M7 H) (ho:OkP N H o):yt [spT o] sto=some (.lst ((NB o).map qT),sto):=by
  have i2:d9 (spT o) (.int 2)=some (nj o.guard):=Sh
  have i3:d9 (spT o) (.int 3)=some (.tup (o.sets.map seT)):=a0b
  have eh:=a4c (sto:=sto) hH ho.gd
  have eb:=a2w (sto:=sto) hN ho.gd
  have sl:=Pa ho
  have s2:=ho.len
  have hn:=hN.1
  have lb:(Fy o.guard).length≤1000:=by
    have h1:=W9 (dedup ((pre 3 o.guard).flatMap bx)) N (Z1 _) fun x hx=>(Rz hN ho.gd).2 x (N5 hx)
    unfold Fy
    rw [Ht]; omega
  have lh:(Fv o.guard).length≤1000:=by
    have h1:=W9 (dedup (((pre 3 o.guard).filter isAt).map hnd)) (H.map (·.1)) (Z1 _) fun x hx=>(Tn ho.gd).2 x (N5 hx)
    have:=hH.2.1
    rw [List.length_map] at h1
    unfold Fv
    rw [Ht]; omega
  have ch:=Iu (sto:=sto) ho
  have ll1:=Nf (f:=fun p:Str × Sm=>p.2.2.map (·.1)) (m:=2) (l:=o.sets) fun p hp=>by
    have:=(ho.set p hp).2.1
    rw [List.length_map]; omega
  have eN:NB o=CH o++(Fv o.guard).map (fun h=>(("hand",h):Q2))++(Fy o.guard++o.sets.flatMap fun p=>p.2.2.map (·.1)).map fun b=>(("box",b):Q2):=rfl
  have lc:(CH o).length≤3:=by unfold CH; rw [List.length_cons,List.length_map]; omega
  generalize hHL:Fv o.guard=hl at *
  generalize hBL:Fy o.guard=bl at *
  unfold yt su
  rw [show ([spT o].map (fun t=>some (t,false))++List.replicate (5 - [spT o].length) none:List Slot)=[some (spT o,false),none,none,none,none] from rfl]
  rw [gj (s':=⟨[some (spT o,false),some (.lst (hl.map T.str),false),none,none,none],sto⟩) (by simp! [i2,eh])]
  rw [gj (s':=⟨[some (spT o,false),some (.lst (hl.map T.str),false),some (.lst (bl.map T.str),true),none,none],sto⟩) (by simp! [i2,eb])]
  obtain ⟨o3,o4,eF⟩:∃ o3 o4:Slot,G6 (M5 [3,4]) (Ab (mOp d9 (bw 0) (aq (.int 3)))) (Ai 2 (fu uo (ao (bw 4) g8)))
      ⟨[some (spT o,false),some (.lst (hl.map T.str),false),some (.lst (bl.map T.str),true),none,none],sto⟩=some (.next,⟨[some (spT o,false),some (.lst (hl.map T.str),false),some (.lst ((bl++o.sets.flatMap fun p=>p.2.2.map (·.1)).map T.str),true),o3,o4],sto⟩):=by
    have it:Ab (mOp d9 (bw 0) (aq (.int 3))) ⟨[some (spT o,false),some (.lst (hl.map T.str),false),some (.lst (bl.map T.str),true),none,none],sto⟩=some (o.sets.map seT,⟨[some (spT o,false),some (.lst (hl.map T.str),false),some (.lst (bl.map T.str),true),none,none],sto⟩):=by simp! [i3,sl]
    unfold G6
    rw [it]
    dsimp only
    generalize hF:forL _ _ _ _=q
    obtain ⟨s',rfl,P⟩:=Bb hF (fun ts st=>∃ (m:List (Str × Sm)) (acc:List Str) (o3 o4:Slot),ts=m.map seT∧(∀ p∈m,p∈o.sets)∧st=⟨[some (spT o,false),some (.lst (hl.map T.str),false),some (.lst (acc.map T.str),true),o3,o4],sto⟩∧acc++m.flatMap (fun p=>p.2.2.map (·.1))=bl++o.sets.flatMap fun p=>p.2.2.map (·.1))
      ⟨o.sets,bl,none,none,rfl,fun p hp=>hp,rfl,rfl⟩ (by
        rintro t q st ⟨m,acc,o3,o4,e1,e2,rfl,e3⟩
        cases m with
        | nil=>cases e1
        | cons p m =>
          cases e1
          have ok:=(ho.set p (e2 p List.mem_cons_self)).2
          have bo:=Og (sto:=sto) hN ok
          have l2:acc.length+p.2.2.length<lim:=by
            have:=congrArg List.length e3
            simp only [List.length_append,List.flatMap_cons,List.length_map] at this
            show _<1000000
            omega
          refine ⟨_,⟨[some (spT o,false),some (.lst (hl.map T.str),false),some (.lst ((acc++p.2.2.map (·.1)).map T.str),true),some (.str p.1,false),some (smT p.2,false)],sto⟩,by unfold seT; exact R7,?_,m,acc++p.2.2.map (·.1),_,_,rfl,fun v hv=>e2 v (List.mem_cons_of_mem _ hv),rfl,?_⟩
          · simp! [bo,l2]
          · rw [← e3,List.flatMap_cons,List.append_assoc])
    obtain ⟨m,acc,o3,o4,e1,e2,rfl,e3⟩:=P
    cases m with
    | cons _ _=>cases e1
    | nil =>
      simp only [List.flatMap_nil,List.append_nil] at e3
      subst e3
      exact ⟨o3,o4,rfl⟩
  rw [gj eF]
  generalize hB2:(bl++o.sets.flatMap fun p=>p.2.2.map (·.1))=b2 at *
  have l2:b2.length≤1100:=by rw [← hB2,List.length_append]; omega
  have b2l:b2.length<lim:=by show _<1000000; omega
  have hll:hl.length<lim:=by show _<1000000; omega
  have c1:=a3q (α:=Nat) (i:=1) (w := "hand") (l:=hl) (s:=⟨[some (spT o,false),some (.lst (hl.map T.str),false),some (.lst (b2.map T.str),true),o3,o4],sto⟩) hll rfl
  have c2:=zj T.str (fun x=>qT ("box",x)) b2 (g:=hName 0) (nv:=1) (ci:=[]) (c:=yw) (it:=Ab (bw 2)) (e:=nu (fun l=>some (.tup l)) (ao (aq (.str "box")) (ao (bw 0) g8))) (s:=⟨[some (spT o,false),some (.lst (hl.map T.str),false),some (.lst (b2.map T.str),true),o3,o4],sto⟩) (s1:=⟨[some (spT o,false),some (.lst (hl.map T.str),false),some (.lst (b2.map T.str),false),o3,o4],sto⟩) [some (spT o,false),some (.lst (hl.map T.str),false),some (.lst (b2.map T.str),false),o3,o4] []
    (by simp! [b2l]) rfl rfl rfl (Nat.le_of_lt b2l) (by
      intro p hp pre hpre
      obtain ⟨a,rfl⟩:=C.p1 pre hpre
      exact ⟨[some (.str p,false)],rfl,rfl,rfl,rfl⟩)
  have ec:b2.map (fun x=>qT (("box",x):Q2))=(b2.map fun x=>(("box",x):Q2)).map qT:=by rw [List.map_map]; rfl
  rw [ec] at c2
  rw [eN,List.map_append,List.map_append]
  generalize hC1:(hl.map fun x=>(("hand",x):Q2))=m1 at *
  generalize hC2:(b2.map fun x=>(("box",x):Q2))=m2 at *
  have k1:m1.length≤1000:=by rw [← hC1,List.length_map]; exact lh
  have k2:m2.length≤1100:=by rw [← hC2,List.length_map]; exact l2
  have x1:(CH o).length+m1.length<lim:=by show _<1000000; omega
  have x2:(CH o).length+m1.length+m2.length<lim:=by show _<1000000; omega
  simp! [ch,c1,c2,x1,x2]
theorem meets (hN:G7 N) (hH:M7 H) (hs:OkP N H s) (ho:OkP N H o):Dv [.lst ((CH s).map qT),.lst ((NB o).map qT)] sto=some (.bl (mts s o),sto):=by
  have lc:(CH s).length<lim:=by have:=hs.len; unfold CH; rw [List.length_cons,List.length_map]; show _<1000000; omega
  have okn:=abv hN hH ho
  have okc:=abg hN hs
  unfold mts
  generalize NB o=nb at *
  generalize CH s=ch at *
  have c:=zj qT (fun q=>T.bl (decide (q∈nb))) ch (g:=hName 0) (nv:=1) (ci:=[1]) (c:=yw) (it:=Ab (bw 0)) (e:=mOp inT (bw 0) (bw 1)) (s:=⟨[some (.lst (ch.map qT),false),some (.lst (nb.map qT),false)],sto⟩) (s1:=⟨[some (.lst (ch.map qT),false),some (.lst (nb.map qT),false)],sto⟩) [some (.lst (ch.map qT),false),some (.lst (nb.map qT),false)] [some (.lst (nb.map qT),false)]
    (by simp! [lc]) rfl rfl rfl (Nat.le_of_lt lc) (by
      intro q hq pre hpre
      obtain ⟨a,rfl⟩:=C.p1 pre hpre
      have e:=adf (okc q hq).1 (okc q hq).2 okn
      exact ⟨[some (qT q,false)],rfl,rfl,rfl,by simp! [e]⟩)
  have bm:∀ l:List Q2,Hq (l.map fun q=>T.bl (decide (q∈nb)))=some (l.map fun q=>decide (q∈nb)):=by
    intro l
    induction l with
    | nil=>rfl
    | cons a l ih=>simp [Hq,ih]
  unfold Dv
  simp! [c,acd,bm]
theorem parted (hN:G7 N) (hH:M7 H) {bs:List Bx} {ss:List Sp} (ok:∀ s∈ss,OkP N H s) {i j:Nat} (hi:i<ss.length) (hj:j<ss.length) :
    Cg [prT bs H ss,.int (i:Int),.int (j:Int)] sto=some (.bl (!Mz ss[i] ss[j] && !Mz ss[j] ss[i]),sto):=by
  have i2:d9 (prT bs H ss) (.int 2)=some (.lst (ss.map spT)):=Sh
  have a1:=Js spT ss hi
  have a2:=Js spT ss hj
  have ok1:=ok _ (List.getElem_mem hi)
  have ok2:=ok _ (List.getElem_mem hj)
  have m1:=meets (sto:=sto) hN hH ok1 ok2
  have m2:=meets (sto:=sto) hN hH ok2 ok1
  have c1:=Iu (sto:=sto) ok1
  have c2:=Iu (sto:=sto) ok2
  have n1:=Vt (sto:=sto) hN hH ok1
  have n2:=Vt (sto:=sto) hN hH ok2
  rw [a3s] at m1 m2
  generalize ss[i]=a at *
  generalize ss[j]=b at *
  unfold Cg
  cases h1:Mz a b <;> rw [h1] at m1 <;> simp! [i2,a1,a2,c1,c2,n1,n2,m1,m2]
theorem a6o (hN:G7 N) {x:Sm} (h:a5q N x):Pl 3 (smT x):=Cd (n:=2) fun t ht=>by
  simp only [List.mem_cons,List.not_mem_nil,or_false] at ht
  rcases ht with rfl | rfl
  · exact Nk 2 _
  · exact Cd (n:=1) fun t ht=>by
      obtain ⟨p,hp,rfl⟩:=List.mem_map.mp ht
      exact Cd (n:=0) fun t ht=>by
        simp only [List.mem_cons,List.not_mem_nil,or_false] at ht
        rcases ht with rfl | rfl
        · exact Ek 0 (hN.2 _ (h.2 p hp).1).1
        · exact Nk 0 _
theorem ade:okS "most" ∧ okS "rest" ∧ okS "at" ∧ okS "and" ∧ okS "or" ∧ okS "not" ∧ okS "" := by unfold okS; decide +kernel
theorem aa4 (hN:G7 N) (hH:M7 H) {d:Nat} {r:Rem} (h:OkR N H d r):Pl (2 * d+4) (nj r):=by
  obtain ⟨w1,w2,w3,w4,w5,w6,_⟩:=ade
  induction h with
  | most h =>
    unfold nj
    exact Cd fun t ht=>by
      simp only [List.mem_cons,List.not_mem_nil,or_false] at ht
      rcases ht with rfl | rfl
      · exact Ek _ w1
      · exact Zu (a6o hN h) (by omega)
  | rest h _ _ =>
    unfold nj
    exact Cd fun t ht=>by
      simp only [List.mem_cons,List.not_mem_nil,or_false] at ht
      rcases ht with rfl | rfl | rfl
      · exact Ek _ w2
      · exact Zu (a6o hN h) (by omega)
      · exact Nk _ _
  | pl h _ _ =>
    unfold nj
    exact Cd fun t ht=>by
      simp only [List.mem_cons,List.not_mem_nil,or_false] at ht
      rcases ht with rfl | rfl | rfl
      · exact Ek _ w3
      · exact Ek _ (hH.2.2 _ h).1.1
      · exact Nk _ _
  | all _ _ ih =>
    unfold nj
    rw [zm]
    exact Cd fun t ht=>by
      simp only [List.mem_cons,List.not_mem_nil,or_false] at ht
      rcases ht with rfl | rfl
      · exact Ek _ w4
      · exact Cd fun t ht=>by
          obtain ⟨r,hr,rfl⟩:=List.mem_map.mp ht
          exact ih r hr
  | any _ _ ih =>
    unfold nj
    rw [zm]
    exact Cd fun t ht=>by
      simp only [List.mem_cons,List.not_mem_nil,or_false] at ht
      rcases ht with rfl | rfl
      · exact Ek _ w5
      · exact Cd fun t ht=>by
          obtain ⟨r,hr,rfl⟩:=List.mem_map.mp ht
          exact ih r hr
  | no _ ih =>
    unfold nj
    exact Cd fun t ht=>by
      simp only [List.mem_cons,List.not_mem_nil,or_false] at ht
      rcases ht with rfl | rfl
      · exact Ek _ w6
      · exact Zu ih (by omega)
end
end K
end
section
namespace K
section
variable (cl:Nat→Nat→Bool)
def Fre (L:List Nat) (x:Nat):Bool:=(L.takeWhile fun y=>decide (y≠x)).all fun k=>!cl k x
def best (L:List Nat):Nat:=((L.filter (Fre cl L)).min?).getD 0
def Oz:Nat→List Nat→List Nat
  | 0,_=>[]
  | _+1,[]=>[]
  | n+1,x::L=>best cl (x::L)::Oz n ((x::L).erase (best cl (x::L)))
variable {cl}
theorem a6h {x:Nat} {L:List Nat}:Fre cl (x::L) x=true:=by simp [Fre]
theorem Aw {L:List Nat} (h:L≠[]):best cl L∈L∧Fre cl L (best cl L)=true∧∀ x∈L,Fre cl L x=true→best cl L≤x:=by
  cases L with
  | nil=>exact absurd rfl h
  | cons a r =>
    unfold best
    cases q:((a::r).filter (Fre cl (a::r))).min? with
    | none =>
      rw [List.min?_eq_none_iff] at q
      have:a∈(a::r).filter (Fre cl (a::r)):=List.mem_filter.mpr ⟨List.mem_cons_self,a6h⟩
      rw [q] at this; cases this
    | some m =>
      obtain ⟨h1,h2⟩:=List.min?_eq_some_iff.mp q
      obtain ⟨h3,h4⟩:=List.mem_filter.mp h1
      exact ⟨h3,h4,fun x hx hf=>h2 x (List.mem_filter.mpr ⟨hx,hf⟩)⟩
theorem Zw {L:List Nat} {m:Nat} (h:m∈L) (hf:Fre cl L m=true) (hm:∀ x∈L,Fre cl L x=true→m≤x):best cl L=m:=by
  have hn:L≠[]:=fun e=>by rw [e] at h; cases h
  obtain ⟨a,b,c⟩:=Aw (cl:=cl) hn
  exact Nat.le_antisymm (c m h hf) (hm _ a b)
theorem Dg {n:Nat} {L:List Nat} (h:L≠[]):Oz cl (n+1) L=best cl L::Oz cl n (L.erase (best cl L)):=by
  cases L with
  | nil=>exact absurd rfl h
  | cons a r=>rfl
theorem Qa {L:List Nat} (h:L≠[]):(L.erase (best cl L)).length+1=L.length:=by
  have:=List.length_erase_of_mem (Aw (cl:=cl) h).1
  have:0<L.length:=List.length_pos_iff.mpr h
  omega
theorem Kq:∀ (n:Nat) {L:List Nat},L.length≤n→(Oz cl n L).Perm L
  | 0,L,h=>by
    have:L=[]:=List.length_eq_zero_iff.mp (by omega)
    subst this; exact .refl _
  | n+1,L,h=>by
    by_cases e:L=[]
    · subst e; exact .refl _
    · rw [Dg e]
      have hl:=Qa (cl:=cl) e
      exact ((Kq n (L:=L.erase (best cl L)) (by omega)).cons _).trans (List.perm_cons_erase (Aw e).1).symm
theorem Vj {m x:Nat} (ne:x≠m):∀ {L:List Nat} {k:Nat},k∈L.takeWhile (fun y=>decide (y≠x))→k=m∨k∈(L.erase m).takeWhile fun y=>decide (y≠x)
  | [],k,h=>by cases h
  | a::L,k,h=>by
    by_cases ea:a=x
    · subst ea
      rw [List.takeWhile_cons] at h
      simp at h
    · rw [List.takeWhile_cons_of_pos (by simpa using ea)] at h
      by_cases em:a=m
      · subst em
        rw [List.erase_cons_head]
        rcases List.mem_cons.mp h with rfl | h -- here
        · exact .inl rfl
        · exact .inr h
      · rw [List.erase_cons_tail (by simpa using em),List.takeWhile_cons_of_pos (by simpa using ea)]
        rcases List.mem_cons.mp h with rfl | h -- here
        · exact .inr List.mem_cons_self
        · rcases Vj ne h with z | z
          · exact .inl z
          · exact .inr (List.mem_cons_of_mem _ z)
theorem Wf:∀ (n:Nat) {L:List Nat} {x:Nat},L.length≤n→x∈L→Fre cl (Oz cl n L) x=true→Fre cl L x=true
  | 0,L,x,h,hx,_=>by
    have:L=[]:=List.length_eq_zero_iff.mp (by omega)
    subst this; cases hx
  | n+1,L,x,h,hx,hf=>by
    have e:L≠[]:=fun e=>by subst e; cases hx
    rw [Dg e] at hf
    have hl:=Qa (cl:=cl) e
    obtain ⟨b1,b2,b3⟩:=Aw (cl:=cl) e
    by_cases z:x=best cl L
    · rw [z]; exact b2
    · have ne:best cl L≠x:=fun w=>z w.symm
      unfold Fre at hf
      rw [List.takeWhile_cons_of_pos (by simpa using ne),List.all_cons,Bool.and_eq_true] at hf
      have ih:=Wf n (L:=L.erase (best cl L)) (x:=x) (by omega) ((List.mem_erase_of_ne z).mpr hx) hf.2
      unfold Fre at ih ⊢
      rw [List.all_eq_true] at ih ⊢
      intro k hk
      rcases Vj z hk with rfl | hk
      · exact hf.1
      · exact ih k hk
theorem Qf:∀ (n:Nat) {L:List Nat},L.length≤n→Oz cl n (Oz cl n L)=Oz cl n L
  | 0,L,_=>rfl
  | n+1,L,h=>by
    by_cases e:L=[]
    · subst e; rfl
    · have hl:=Qa (cl:=cl) e
      obtain ⟨b1,b2,b3⟩:=Aw (cl:=cl) e
      have hp:=Kq (cl:=cl) (n+1) h
      have hs:=Dg (cl:=cl) (n:=n) e
      have hb:best cl (Oz cl (n+1) L)=best cl L:=by
        apply Zw
        · rw [hs]; exact List.mem_cons_self
        · rw [hs]; exact a6h
        · intro x hx hf
          exact b3 x (hp.mem_iff.mp hx) (Wf (n+1) h (hp.mem_iff.mp hx) hf)
      rw [Dg (L:=Oz cl (n+1) L) (by rw [hs]; exact List.cons_ne_nil _ _),hb]
      rw [hs,List.erase_cons_head,Qf n (L:=L.erase (best cl L)) (by omega)]
end
end K
end
section
namespace K
open C PySem
abbrev nT (k:Nat):T:=.int (k:Int)
def cls (ss:List Sp) (i j:Nat):Bool:=match ss[i]?,ss[j]? with
  | some a,some b=>Mz a b||Mz b a
  | _,_=>true
theorem a5g {ss:List Sp} (i:Nat):cls ss i i=true:=by
  unfold cls
  cases ss[i]? with
  | none=>rfl
  | some a=>simp [Mz]
theorem a67 {ss:List Sp} {i j:Nat} (hi:i<ss.length) (hj:j<ss.length):(!Mz ss[i] ss[j] && !Mz ss[j] ss[i])=!cls ss i j:=by
  unfold cls
  rw [List.getElem?_eq_getElem hi,List.getElem?_eq_getElem hj]
  simp
theorem O4:∀ l:List Nat,flats (l.map nT)=true
  | []=>rfl
  | _::l=>by simp [flats,flat,O4 l]
section
variable {cl:Nat→Nat→Bool}
def a2u (cl:Nat→Nat→Bool) (L:List Nat) (p:Nat):Bool:=(L.take p).all fun k=>!cl k (L.getD p 0)
def zu (cl:Nat→Nat→Bool) (L:List Nat) (b p:Nat):Nat:=if a2u cl L p&&decide (L.getD p 0<L.getD b 0) then p else b
theorem a1z {L:List Nat} (hL:L≠[]):∀ (p:Nat),p≤L.length→((List.range p).foldl (zu cl L) 0)<L.length∧a2u cl L ((List.range p).foldl (zu cl L) 0)=true∧∀ q<p,a2u cl L q=true→L.getD ((List.range p).foldl (zu cl L) 0) 0≤L.getD q 0
  | 0,_=>by
    refine ⟨List.length_pos_iff.mpr hL,by simp [a2u],fun q hq=>by omega⟩
  | p+1,hp=>by
    obtain ⟨h1,h2,h3⟩:=a1z hL p (by omega)
    rw [List.range_succ,List.foldl_append,List.foldl_cons,List.foldl_nil]
    generalize (List.range p).foldl (zu cl L) 0=b at *
    unfold zu
    split
    · rename_i h
      rw [Bool.and_eq_true,decide_eq_true_eq] at h
      refine ⟨by omega,h.1,fun q hq hf=>?_⟩
      by_cases e:q=p
      · subst e; exact Nat.le_refl _
      · exact Nat.le_trans (Nat.le_of_lt h.2) (h3 q (by omega) hf)
    · rename_i h
      refine ⟨h1,h2,fun q hq hf=>?_⟩
      by_cases e:q=p
      · subst e
        rw [Bool.and_eq_true,decide_eq_true_eq] at h
        apply Nat.le_of_not_lt
        intro z
        exact h ⟨hf,z⟩
      · exact h3 q (by omega) hf
theorem Zf {x:Nat}:∀ L:List Nat,L.takeWhile (fun y=>decide (y≠x))=L.take (L.idxOf x)
  | []=>rfl
  | a::L=>by
    by_cases e:a=x
    · subst e; simp
    · rw [List.takeWhile_cons_of_pos (by simpa using e),List.idxOf_cons,show (a==x)=false from by simpa using e,Zf L]
      rfl
theorem a5l {L:List Nat} {x:Nat} (h:x∈L):Fre cl L x=a2u cl L (L.idxOf x):=by
  have hi:=List.idxOf_lt_length_of_mem h
  have e:L.getD (L.idxOf x) 0=x:=by
    rw [List.getD_eq_getElem?_getD,List.getElem?_eq_getElem hi] -- here
    simp
  unfold Fre a2u
  rw [Zf,e]
theorem a4q {L:List Nat} (rf:∀ x,cl x x=true) {b:Nat} (hb:b<L.length) (hf:a2u cl L b=true):L.idxOf (L.getD b 0)=b:=by
  have e:L.getD b 0=L[b]:=by rw [List.getD_eq_getElem?_getD,List.getElem?_eq_getElem hb]; rfl
  have hm:L.getD b 0∈L:=by rw [e]; exact List.getElem_mem hb
  have hi:=List.idxOf_lt_length_of_mem hm
  have le:L.idxOf (L.getD b 0)≤b:=by
    apply Nat.le_of_not_lt
    intro z
    have:=List.not_of_lt_findIdx (p:=fun y=>y==L.getD b 0) (xs:=L) (i:=b) z
    exact beq_eq_false_iff_ne.mp this e.symm
  apply Nat.le_antisymm le
  apply Nat.le_of_not_lt
  intro lt
  unfold a2u at hf
  rw [List.all_eq_true] at hf
  have q:L[L.idxOf (L.getD b 0)]=L.getD b 0:=by simp
  have:=hf (L.getD b 0) (List.mem_take_iff_getElem.mpr ⟨L.idxOf (L.getD b 0),by omega,q⟩)
  rw [rf] at this
  cases this
theorem a71 {L:List Nat} (rf:∀ x,cl x x=true) (hL:L≠[]):((List.range L.length).foldl (zu cl L) 0)<L.length∧L.getD ((List.range L.length).foldl (zu cl L) 0) 0=best cl L∧L.eraseIdx ((List.range L.length).foldl (zu cl L) 0)=L.erase (best cl L):=by
  obtain ⟨h1,h2,h3⟩:=a1z (cl:=cl) hL L.length (Nat.le_refl _)
  generalize (List.range L.length).foldl (zu cl L) 0=b at *
  have e:L.getD b 0=L[b]:=by rw [List.getD_eq_getElem?_getD,List.getElem?_eq_getElem h1]; rfl
  have hm:L.getD b 0∈L:=by rw [e]; exact List.getElem_mem h1
  have hx:=a4q rf h1 h2
  have eb:best cl L=L.getD b 0:=by
    apply Zw hm
    · rw [a5l hm,hx]; exact h2
    · intro x hx' hf
      rw [a5l hx'] at hf
      have hi:=List.idxOf_lt_length_of_mem hx'
      have:=h3 _ hi hf
      have ex:L.getD (L.idxOf x) 0=x:=by
        rw [List.getD_eq_getElem?_getD,List.getElem?_eq_getElem hi] -- here
        simp
      rw [ex] at this
      exact this
  refine ⟨h1,eb.symm,?_⟩
  rw [eb,List.erase_eq_eraseIdx_of_idxOf hx]
end
end K
end
section
namespace K
open C PySem
theorem a8l.flat {so:SO} (h:a8l so):zx so=true:=by
  rcases h with ⟨a,b,rfl⟩ | ⟨a,b,c,rfl⟩ <;> rfl
theorem StO.flat {sto:List SO} (h:StO sto):sto.all zx=true:=List.all_eq_true.mpr fun x hx=>(h x hx).flat
theorem a90 {L:List Nat} {p:Nat} (h:p<L.length):(L.map nT)[p]? = some (nT (L.getD p 0)):=by
  rw [List.getElem?_map,List.getD_eq_getElem?_getD,List.getElem?_eq_getElem h]; rfl
theorem acu {L:List Nat} {p:Nat} (h:p<L.length):L[p]? = some (L.getD p 0):=by
  rw [List.getD_eq_getElem?_getD,List.getElem?_eq_getElem h]; rfl -- here
theorem U9:∀ l:List Nat,Dw (l.map nT)=some (l.map fun (k:Nat)=>PyData.int (k:Int))
  | []=>by simp [Dw]
  | k::l=>by simp [Dw,dat,U9 l]
theorem Ny:∀ l:List Nat,PyData.depthAll (l.map fun (k:Nat)=>PyData.int (k:Int))≤1
  | []=>by simp [PyData.depthAll] -- here
  | k::l=>by have:=Ny l; simp [PyData.depthAll,PyData.depth]; omega
theorem a00:∀ a b:List Nat,PyData.eqvAll (a.map fun (k:Nat)=>PyData.int (k:Int)) (b.map fun (k:Nat)=>PyData.int (k:Int))=decide (a=b)
  | [],[]=>by simp [PyData.eqvAll] -- here
  | [],_::_=>by simp [PyData.eqvAll] -- here
  | _::_,[]=>by simp [PyData.eqvAll] -- here
  | x::a,y::b=>by
    have:=a00 a b
    simp only [List.map_cons,PyData.eqvAll,this]
    by_cases h:x=y
    · subst h; simp [PyData.eqv]
    · have h2:¬ ((x:Int)=(y:Int)):=by omega
      simp [PyData.eqv,h,h2]
theorem a0n (a b:List Nat):eqO (.lst (a.map nT)) (.lst (b.map nT))=some (.bl (decide (a=b))):=by
  have d1:=Ny a
  have dp:(PyData.list (a.map fun (k:Nat)=>PyData.int (k:Int))).depth≤40:=by simp only [PyData.depth]; omega
  simp only [eqO,eqT,eqD,dat,U9,Option.map_some,if_pos dp,PyData.eqv,a00]
theorem Wv (a b:List Nat):neO (.lst (a.map nT)) (.lst (b.map nT))=some (.bl (!decide (a=b))):=by
  have d1:=Ny a
  have dp:(PyData.list (a.map fun (k:Nat)=>PyData.int (k:Int))).depth≤40:=by simp only [PyData.depth]; omega
  simp only [neO,eqT,eqD,dat,U9,Option.map_some,if_pos dp,PyData.eqv,a00]
theorem Rk {f:Nat→T}:∀ (L:List Nat) (b:Nat),(L.map f).eraseIdx b=(L.eraseIdx b).map f
  | [],_=>rfl
  | _::_,0=>rfl
  | _::L,b+1=>by simp [Rk L b]
theorem fold_fst {α β γ:Type} {f:α→γ→α} {g:α→γ→β}:∀ (l:List γ) (x:α × β),(l.foldl (fun x p=>(f x.1 p,g x.1 p)) x).1=l.foldl f x.1
  | [],_=>rfl
  | _::l,x=>fold_fst l _
section
variable {N:List Str} {H:List Hd} {bs:List Bx} {ss:List Sp} {sto:List SO} {L:List Nat}
theorem Xf (hN:G7 N) (hH:M7 H) (ok:∀ s∈ss,OkP N H s) (hL:∀ k∈L,k<ss.length) (hl:L.length≤18) (hs:sto.all zx=true) {p:Nat} (hp:p<L.length) {n:T} {f:List T} {b:Int} {o6:Slot} (h6:Gu o6=o6) :
    K8 [2] (ou 1 [0,2,5] (hName 0) (Ab (Ja 2 Xd (En (bw 5)))) (V4 (gb (fu qt (ao (bw 1) (ao (bw 0) (ao (mOp d9 (bw 2) (bw 3)) g8)))))) (bw 0))
      ⟨[some (prT bs H ss,false),some (n,false),some (.lst (L.map nT),true),some (.lst f,true),some (.int b,false),some (nT p,false),o6],sto⟩
      = some (.lst (((L.take p).filter fun k=>cls ss k (L.getD p 0)).map nT),⟨[some (prT bs H ss,false),some (n,false),some (.lst (L.map nT),true),some (.lst f,true),some (.int b,false),some (nT p,false),o6],sto⟩):=by
  have hpm:L.getD p 0∈L:=by rw [List.getD_eq_getElem?_getD,List.getElem?_eq_getElem hp]; exact List.getElem_mem hp
  have hpk:=hL _ hpm
  have ll:(L.take p).length<lim:=by rw [List.length_take]; show _<1000000; omega
  have ll':min p L.length<lim:=by show _<1000000; omega
  have it5:d9 (.lst (L.map nT)) (nT p)=some (nT (L.getD p 0)):=a7d (a90 hp)
  clear hpm
  generalize L.getD p 0=x at hpk it5 ⊢
  have le:lend [2] [some (prT bs H ss,false),some (n,false),some (.lst (L.map nT),true),some (.lst f,true),some (.int b,false),some (nT p,false),o6]=[some (prT bs H ss,false),some (n,false),some (.lst (L.map nT),false),none,some (.int b,false),some (nT p,false),o6]:=by
    cases o6 with
    | none=>rfl
    | some x=>obtain ⟨t,g⟩:=x; cases g with
      | false=>rfl
      | true=>cases h6
  have cut:a2v (L.map nT) none (some (p:Int))=(L.take p).map nT:=by
    unfold a2v
    have h0:¬ ((p:Int)<0):=by omega
    have h1:min p L.length=p:=by omega
    simp [sIx,h0,h1,List.map_take]
  unfold K8
  dsimp only
  rw [le]
  generalize hF:ou 1 [0,2,5] _ _ _ _ _=r
  have:=Ed hF nT nT (fun k=>cls ss k x) (L.take p) ⟨[some (prT bs H ss,false),some (n,false),some (.lst (L.map nT),false),none,some (.int b,false),some (nT p,false),o6],sto⟩ [some (prT bs H ss,false),some (n,false),some (.lst (L.map nT),false),none,some (.int b,false),some (nT p,false),o6] [some (prT bs H ss,false),some (.lst (L.map nT),false),some (nT p,false)]
    (by simp! [Ja,Xd,En,cut,ll'])  rfl rfl rfl (Nat.le_of_lt ll) (by
      intro k hk pre hp'
      obtain ⟨a,rfl⟩:=C.p1 pre hp'
      have hk':=hL k (List.mem_of_mem_take hk)
      have lp:=Y7 (sto:=sto) (bs:=bs) hN hH ok hk' hpk
      rw [a67 hk' hpk] at lp
      exact ⟨[some (nT k,false)],rfl,rfl,by simp! [it5,lp],fun _=>by simp! []⟩)
  rw [this]
  dsimp only
  rw [hs,O4]
  rfl
abbrev Ia (P n:T) (L:List Nat) (f:List Nat) (o4 o5 o6:Slot):List Slot:=[some (P,false),some (n,false),some (.lst (L.map nT),true),some (.lst (f.map nT),true),o4,o5,o6]
theorem inner (hN:G7 N) (hH:M7 H) (ok:∀ s∈ss,OkP N H s) (hL:∀ k∈L,k<ss.length) (hl:L.length≤18) (hs:sto.all zx=true) {n:T} {f:List Nat} (o5 o6:Slot) (h5:Gu o5=o5) (h6:Gu o6=o6) :
    ∃ o5' o6',Gu o5'=o5'∧Gu o6'=o6'∧G6 (hName 5) (Bs (vh 2))
      (jl (zp 6 (K8 [2] (ou 1 [0,2,5] (hName 0) (Ab (Ja 2 Xd (En (bw 5)))) (V4 (gb (fu qt (ao (bw 1) (ao (bw 0) (ao (mOp d9 (bw 2) (bw 3)) g8)))))) (bw 0))))
      (sIf (Yu (gb (mOp eqO (bw 6) (nu (fun l=>some (.lst l)) g8))) (gb (mOp ltT (Dz 2 (bw 5)) (Dz 2 (bw 4)))))
      (zp 4 (bw 5))
      Dl)) ⟨Ia (prT bs H ss) n L f (some (nT 0,false)) o5 o6,sto⟩=some (.next,⟨Ia (prT bs H ss) n L f (some (nT ((List.range L.length).foldl (zu (cls ss) L) 0),false)) o5' o6',sto⟩):=by
  have ll:L.length<lim:=by show _<1000000; omega
  have it:Bs (vh 2) ⟨Ia (prT bs H ss) n L f (some (nT 0,false)) o5 o6,sto⟩=some (rangeT L.length,⟨Ia (prT bs H ss) n L f (some (nT 0,false)) o5 o6,sto⟩):=by simp! [vh,ll]
  unfold G6
  rw [it]
  dsimp only
  generalize hF:forL _ _ _ _=r
  obtain ⟨rfl,b1,b2,b3⟩:=a5c hF nT (List.range L.length) (fun x:Nat × Slot × Slot=>⟨Ia (prT bs H ss) n L f (some (nT x.1,false)) x.2.1 x.2.2,sto⟩) (0,o5,o6) (fun x p=>(zu (cls ss) L x.1 p,some (nT p,false),some (.lst (((L.take p).filter fun k=>cls ss k (L.getD p 0)).map nT),false)))
    (fun l x=>(∀ p∈l,p<L.length)∧(L≠[]→x.1<L.length)∧Gu x.2.1=x.2.1∧Gu x.2.2=x.2.2) rfl rfl ⟨fun p hp=>List.mem_range.mp hp,fun h=>List.length_pos_iff.mpr h,h5,h6⟩ (by
      rintro p l ⟨b,x5,x6⟩ ⟨g1,g2,g3,g4⟩
      have hp:=g1 p List.mem_cons_self
      have hne:L≠[]:=fun e=>by rw [e] at hp; cases hp
      have hb:b<L.length:=g2 hne
      have ac:=Xf (bs:=bs) (sto:=sto) hN hH ok hL hl hs hp (n:=n) (f:=f.map nT) (b:=(b:Int)) (o6:=x6) g4
      have ap:=acu (L:=L) hp
      have ab:=acu (L:=L) hb
      have xp:ixI L.length (p:Int)=some p:=by unfold ixI; simp; omega
      have xb:ixI L.length (b:Int)=some b:=by unfold ixI; simp; omega
      refine ⟨⟨⟨Ia (prT bs H ss) n L f (some (nT b,false)) (some (nT p,false)) x6,sto⟩,rfl,?_⟩,fun q hq=>g1 q (List.mem_cons_of_mem _ hq),fun _=>?_,rfl,rfl⟩
      · rw [gj (s':=⟨Ia (prT bs H ss) n L f (some (nT b,false)) (some (nT p,false)) (some (.lst (((L.take p).filter fun k=>cls ss k (L.getD p 0)).map nT),false)),sto⟩) (Ni ac)]
        have fr:a2u (cls ss) L p=((L.take p).filter fun k=>cls ss k (L.getD p 0)).isEmpty:=by
          unfold a2u
          rw [Bool.eq_iff_iff,List.all_eq_true,List.isEmpty_iff,List.filter_eq_nil_iff]
          constructor
          · intro h a ha; have:=h a ha; simpa using this
          · intro h a ha; have:=h a ha; simpa using this
        generalize ((L.take p).filter fun k=>cls ss k (L.getD p 0))=A at *
        have eA:eqO (.lst (A.map nT)) (.lst [])=some (.bl A.isEmpty):=by
          have:=a0n A []
          rw [List.map_nil] at this
          rw [this]
          cases A <;> rfl
        unfold zu
        rw [fr]
        generalize L.getD p 0=u at *
        generalize L.getD b 0=v at *
        cases hA:A.isEmpty <;> rw [hA] at eA
        · simp! [Ia,eA]
        · by_cases uv:u<v
          · have uv':((u:Nat):Int)<(v:Int):=by omega
            simp! [Ia,eA,Dz,ap,ab,xp,xb,uv,uv']
          · have uv':¬ ((u:Nat):Int)<(v:Int):=by omega
            simp! [Ia,eA,Dz,ap,ab,xp,xb,uv,uv']
      · show zu (cls ss) L b p<L.length
        unfold zu
        split <;> assumption)
  have e1:=fold_fst (f:=zu (cls ss) L) (g:=fun (_:Nat) (p:Nat)=>((some (nT p,false):Slot),(some (.lst (((L.take p).filter fun k=>cls ss k (L.getD p 0)).map nT),false):Slot))) (List.range L.length) (0,o5,o6)
  generalize hX:(List.range L.length).foldl (fun (x:Nat × Slot × Slot) p=>(zu (cls ss) L x.1 p,(some (nT p,false):Slot),(some (.lst (((L.take p).filter fun k=>cls ss k (L.getD p 0)).map nT),false):Slot))) (0,o5,o6)=X at *
  refine ⟨X.2.1,X.2.2,b3.1,b3.2,?_⟩
  have e2:X.1=(List.range L.length).foldl (zu (cls ss) L) 0:=e1
  rw [← e2]
abbrev a79:S:=jl (zp 4 (aq (.int 0)))
  (jl (G6 (hName 5) (Bs (vh 2))
  (jl (zp 6 (K8 [2] (ou 1 [0,2,5] (hName 0) (Ab (Ja 2 Xd (En (bw 5)))) (V4 (gb (fu qt (ao (bw 1) (ao (bw 0) (ao (mOp d9 (bw 2) (bw 3)) g8)))))) (bw 0))))
  (sIf (Yu (gb (mOp eqO (bw 6) (nu (fun l=>some (.lst l)) g8))) (gb (mOp ltT (Dz 2 (bw 5)) (Dz 2 (bw 4)))))
  (zp 4 (bw 5))
  Dl)))
  (Gb 3 2 (bw 4)))
theorem Wk (hN:G7 N) (hH:M7 H) (ok:∀ s∈ss,OkP N H s) (hs:sto.all zx=true) {n:T}:∀ (m:Nat) (L f:List Nat) (o4 o5 o6:Slot),L.length=m→f.length+m≤18→(∀ k∈L,k<ss.length)→Gu o5=o5→Gu o6=o6 →
    ∃ o4' o5' o6',yc (1000 - f.length) (gb (Lk 2 (nu (fun l=>some (.lst l)) g8))) a79 ⟨Ia (prT bs H ss) n L f o4 o5 o6,sto⟩=some (.next,⟨Ia (prT bs H ss) n [] (f++Oz (cls ss) m L) o4' o5' o6',sto⟩)
  | 0,L,f,o4,o5,o6,hm,hl,_,_,_=>by
    have:L=[]:=List.length_eq_zero_iff.mp hm
    subst this
    have e:=Wv [] []
    rw [List.map_nil] at e
    refine ⟨o4,o5,o6,?_⟩
    rw [show 1000 - f.length=(999 - f.length)+1 by omega,Im (s1:=⟨Ia (prT bs H ss) n [] f o4 o5 o6,sto⟩) (by simp! [Ia,Lk,e])]
    simp [Oz]
  | m+1,L,f,o4,o5,o6,hm,hl,hL,h5,h6=>by
    have hne:L≠[]:=fun e=>by subst e; cases hm
    have e:=Wv L []
    rw [List.map_nil,show decide (L=[])=false from decide_eq_false hne] at e
    obtain ⟨o5',o6',g5,g6,ei⟩:=inner (bs:=bs) (n:=n) (f:=f) hN hH ok hL (by omega) hs o5 o6 h5 h6
    obtain ⟨c1,c2,c3⟩:=a71 (cl:=cls ss) a5g hne
    generalize hb:(List.range L.length).foldl (zu (cls ss) L) 0=b at *
    have el:=Qa (cl:=cls ss) hne
    obtain ⟨p4,p5,p6,ih⟩:=Wk hN hH ok hs (n:=n) m (L.erase (best (cls ss) L)) (f++[best (cls ss) L]) (some (nT b,false)) o5' o6' (by omega) (by rw [List.length_append,List.length_singleton]; omega) (fun k hk=>hL k (List.mem_of_mem_erase hk)) g5 g6
    refine ⟨p4,p5,p6,?_⟩
    have ab:=a90 (L:=L) c1
    rw [c2] at ab
    have fl:f.length<lim:=by show _<1000000; omega
    have b0:(0:Int)≤(b:Int):=by omega
    have b1:(b:Int)<1000000:=by omega
    have er:(L.map nT).eraseIdx b=(L.erase (best (cls ss) L)).map nT:=by rw [← c3,Rk]
    have ap:Gb 3 2 (bw 4) ⟨Ia (prT bs H ss) n L f (some (nT b,false)) o5' o6',sto⟩=some (.next,⟨Ia (prT bs H ss) n (L.erase (best (cls ss) L)) (f++[best (cls ss) L]) (some (nT b,false)) o5' o6',sto⟩):=by
      have k1:bw 4 (⟨Ia (prT bs H ss) n L f (some (nT b,false)) o5' o6',sto⟩:Sta)=some (.int (b:Int),⟨Ia (prT bs H ss) n L f (some (nT b,false)) o5' o6',sto⟩):=rfl
      unfold Gb
      rw [if_pos ⟨rfl,rfl⟩,k1]
      dsimp only
      rw [show (Ia (prT bs H ss) n L f (some (nT b,false)) o5' o6')[2]? = some (some (.lst (L.map nT),true)) from rfl]
      dsimp only
      rw [if_pos ⟨by decide,b0,b1⟩,show (b:Int).toNat=b from rfl,ab]
      dsimp only
      rw [show (Ia (prT bs H ss) n L f (some (nT b,false)) o5' o6')[3]? = some (some (.lst (f.map nT),true)) from rfl]
      dsimp only
      rw [List.length_map,if_pos fl,er]
      simp [iu,Ia]
    rw [show 1000 - f.length=(1000 - (f++[best (cls ss) L]).length)+1 by rw [List.length_append,List.length_singleton]; omega,Ip (s1:=⟨Ia (prT bs H ss) n L f o4 o5 o6,sto⟩) (s2:=⟨Ia (prT bs H ss) n (L.erase (best (cls ss) L)) (f++[best (cls ss) L]) (some (nT b,false)) o5' o6',sto⟩) (by simp! [Ia,Lk,e]) ?_,ih,Dg hne]
    · simp
    · unfold a79
      rw [gj (s':=⟨Ia (prT bs H ss) n L f (some (nT 0,false)) o5 o6,sto⟩) rfl,gj ei]
      exact ap
theorem Sg (hN:G7 N) (hH:M7 H) (ok:∀ s∈ss,OkP N H s) (hs:sto.all zx=true) (hl:L.length≤18) (hL:∀ k∈L,k<ss.length) :
    uy [prT bs H ss,.lst (L.map nT)] sto=some (.lst ((Oz (cls ss) L.length L).map nT),sto):=by
  obtain ⟨p4,p5,p6,e⟩:=Wk (bs:=bs) (n:=.lst (L.map nT)) hN hH ok hs L.length L [] none none none rfl (by simpa using hl) hL rfl rfl
  rw [show 1000 - ([]:List Nat).length=1000 from rfl] at e
  unfold a79 at e
  unfold uy su
  rw [show ([prT bs H ss,.lst (L.map nT)].map (fun t=>some (t,false))++List.replicate (7 - [prT bs H ss,T.lst (L.map nT)].length) none:List Slot)=[some (prT bs H ss,false),some (.lst (L.map nT),false),none,none,none,none,none] from rfl]
  rw [gj (s':=⟨[some (prT bs H ss,false),some (.lst (L.map nT),false),some (.lst (L.map nT),true),none,none,none,none],sto⟩) (by simp! [Hv])]
  rw [gj (s':=⟨Ia (prT bs H ss) (.lst (L.map nT)) L [] none none none,sto⟩) (by simp! [Ia])]
  rw [gj e]
  simp! [Ia]
end
end K
end
section
namespace K
theorem a1d {α:Type} {p:α→Bool} {a:α}:∀ {l:List α},a∈l.takeWhile p→p a=true
  | [],h=>by cases h
  | b::l,h=>by
    by_cases e:p b=true
    · rw [List.takeWhile_cons_of_pos e] at h
      rcases List.mem_cons.mp h with rfl | h -- here
      · exact e
      · exact a1d h
    · rw [List.takeWhile_cons_of_neg e] at h; cases h
def plc (R:List (Nat × Nat)) (x:Nat):List Nat:=(R.filter fun r=>r.2==x).map (·.1)
abbrev Asc (R:List (Nat × Nat)):Prop:=R.Pairwise fun a b=>a.1<b.1
section
variable {R:List (Nat × Nat)} {x y p:Nat} {t:List Nat}
theorem Bj {a:Nat × Nat} (e:a.2=x):plc (a::R) x=a.1::plc R x:=by simp [plc,e]
theorem Ak {a:Nat × Nat} (e:a.2≠x):plc (a::R) x=plc R x:=by
  unfold plc
  rw [List.filter_cons_of_neg (by simpa using e)]
theorem O2 {q:Nat} (h:q∈plc R x):(q,x)∈R:=by
  obtain ⟨r,hr,rfl⟩:=List.mem_map.mp h
  obtain ⟨h1,h2⟩:=List.mem_filter.mp hr
  have:r.2=x:=by simpa using h2
  obtain ⟨a,b⟩:=r
  simp at this; subst this; exact h1
theorem a80 {r:Nat × Nat} (h:r∈R):r.1∈plc R r.2:=List.mem_map.mpr ⟨r,List.mem_filter.mpr ⟨h,by simp⟩,rfl⟩
theorem Vz (h:x∈R.map (·.2)):plc R x≠[]:=by
  obtain ⟨r,hr,rfl⟩:=List.mem_map.mp h
  exact List.ne_nil_of_mem (a80 hr)
theorem T8 (h:x∉R.map (·.2)):plc R x=[]:=by
  apply List.eq_nil_iff_forall_not_mem.mpr
  intro q hq
  exact h (List.mem_map.mpr ⟨_,O2 hq,rfl⟩)
theorem a2j (R S:List (Nat × Nat)):plc (R++S) x=plc R x++plc S x:=by simp [plc]
theorem a4u:∀ {R:List (Nat × Nat)},Asc R→plc R x=p::t→∀ r∈R,(r∈R.takeWhile (fun r=>decide (r.2≠x))↔r.1<p)
  | [],_,h=>by simp [plc] at h
  | a::R,s,h=>by
    obtain ⟨s1,s2⟩:=List.pairwise_cons.mp s
    intro r hr
    by_cases e:a.2=x
    · rw [Bj e] at h
      have:a.1=p:=(List.cons.inj h).1
      subst this
      rw [List.takeWhile_cons_of_neg (by simpa using e)]
      constructor
      · intro z; cases z
      · intro z
        rcases List.mem_cons.mp hr with rfl | hr
        · omega
        · have:=s1 r hr; omega
    · rw [Ak e] at h
      have hp:(p,x)∈R:=O2 (by rw [h]; exact List.mem_cons_self)
      have ap:=s1 _ hp
      simp only at ap
      rw [List.takeWhile_cons_of_pos (by simpa using e)]
      rcases List.mem_cons.mp hr with rfl | hr
      · exact ⟨fun _=>ap,fun _=>List.mem_cons_self⟩
      · have ih:=a4u s2 h r hr
        have lt:=s1 r hr
        constructor
        · intro z
          rcases List.mem_cons.mp z with rfl | z
          · exact ap
          · exact ih.mp z
        · intro z
          exact List.mem_cons_of_mem _ (ih.mpr z)
theorem a5s:∀ R:List (Nat × Nat),(R.map (·.2)).takeWhile (fun y=>decide (y≠x))=(R.takeWhile fun r=>decide (r.2≠x)).map (·.2)
  | []=>rfl
  | a::R=>by
    rw [List.map_cons,List.takeWhile_cons,List.takeWhile_cons,a5s R]
    cases decide (a.2≠x) <;> rfl
theorem a6m:∀ {R:List (Nat × Nat)},Asc R→plc R x=p::t→∀ r∈R,r.2=x→p≤r.1
  | R,s,h,r,hr,e=>by
    apply Nat.le_of_not_lt
    intro z
    have:=(a4u s h r hr).mpr z
    have:=a1d this
    simp [e] at this
def isf (cl:Nat→Nat→Bool) (ks:List Nat) (R:List (Nat × Nat)) (x:Nat):Bool:=(ks.filter fun y=>decide (y≠x)&&cl x y).all fun y=>(plc R y).isEmpty||decide ((plc R x).headD 0<(plc R y).headD 0)
theorem a2h {cl:Nat→Nat→Bool} {ks:List Nat} (sy:∀ a b,cl a b=cl b a) (s:Asc R) (hk:∀ y∈R.map (·.2),y∈ks) (hx:x∈R.map (·.2)):isf cl ks R x=Fre cl (R.map (·.2)) x:=by
  cases h:plc R x with
  | nil=>exact absurd h (Vz hx)
  | cons p t =>
    have hp:(p,x)∈R:=O2 (by rw [h]; exact List.mem_cons_self)
    unfold isf Fre
    rw [a5s,h,Bool.eq_iff_iff,List.all_eq_true,List.all_eq_true]
    constructor
    · intro H k hk'
      obtain ⟨r,hr,rfl⟩:=List.mem_map.mp hk'
      have hm:r∈R:=(List.takeWhile_prefix _).subset hr
      have lt:=(a4u s h r hm).mp hr
      have nx:r.2≠x:=by simpa using a1d hr
      cases hc:cl r.2 x with
      | false=>rfl
      | true =>
        have:=H r.2 (List.mem_filter.mpr ⟨hk _ (List.mem_map.mpr ⟨r,hm,rfl⟩),by simp [nx,sy x r.2,hc]⟩)
        cases hq:plc R r.2 with
        | nil=>exact absurd hq (Vz (List.mem_map.mpr ⟨r,hm,rfl⟩))
        | cons q u =>
          rw [hq] at this
          simp at this
          have:=a6m s hq r hm rfl
          omega
    · intro H y hy
      obtain ⟨hy1,hy2⟩:=List.mem_filter.mp hy
      rw [Bool.and_eq_true,decide_eq_true_eq] at hy2
      cases hq:plc R y with
      | nil=>rfl
      | cons q u =>
        have hm:(q,y)∈R:=O2 (by rw [hq]; exact List.mem_cons_self)
        simp
        apply Nat.lt_of_le_of_ne
        · apply Nat.le_of_not_lt
          intro z
          have:=H y (List.mem_map.mpr ⟨(q,y),(a4u s h (q,y) hm).mpr z,rfl⟩)
          rw [sy y x,hy2.2] at this
          cases this
        · intro e
          subst e
          have:∀ {R:List (Nat × Nat)},Asc R→(p,x)∈R→(p,y)∈R→x=y:=by
            intro R s h1 h2
            induction R with
            | nil=>cases h1
            | cons a R ih =>
              obtain ⟨s1,s2⟩:=List.pairwise_cons.mp s
              rcases List.mem_cons.mp h1 with e1 | e1
              · rcases List.mem_cons.mp h2 with e2 | e2
                · rw [← e1] at e2; cases e2; rfl
                · have:=s1 _ e2; rw [← e1] at this; simp at this
              · rcases List.mem_cons.mp h2 with e2 | e2
                · have:=s1 _ e1; rw [← e2] at this; simp at this
                · exact ih s2 e1 e2
          exact hy2.1 (this s hp hm).symm
def drp (R:List (Nat × Nat)) (x:Nat):List (Nat × Nat):=R.eraseP fun r=>r.2==x
theorem Pr:∀ R:List (Nat × Nat),(drp R x).map (·.2)=(R.map (·.2)).erase x
  | []=>rfl
  | a::R=>by
    unfold drp
    by_cases e:a.2=x
    · rw [List.eraseP_cons_of_pos (by simpa using e),List.map_cons,e,List.erase_cons_head]
    · rw [List.eraseP_cons_of_neg (by simpa using e),List.map_cons,List.map_cons,List.erase_cons_tail (by simpa using e)]
      exact congrArg _ (Pr R)
theorem a7v (s:Asc R):Asc (drp R x):=List.Pairwise.sublist List.eraseP_sublist s
theorem Pj:∀ R:List (Nat × Nat),plc (drp R x) x=(plc R x).tail
  | []=>rfl
  | a::R=>by
    unfold drp
    by_cases e:a.2=x
    · rw [List.eraseP_cons_of_pos (by simpa using e),Bj e]; rfl
    · rw [List.eraseP_cons_of_neg (by simpa using e),Ak e,Ak e]; exact Pj R
theorem Cr (ne:y≠x):∀ R:List (Nat × Nat),plc (drp R x) y=plc R y
  | []=>rfl
  | a::R=>by
    unfold drp
    by_cases e:a.2=x
    · rw [List.eraseP_cons_of_pos (by simpa using e),Ak (fun z=>ne (z.symm.trans e))]
    · rw [List.eraseP_cons_of_neg (by simpa using e)]
      by_cases z:a.2=y
      · rw [Bj z,Bj z]; exact congrArg _ (Cr ne R)
      · rw [Ak z,Ak z]; exact Cr ne R
end
end K
end
section
namespace K
open C PySem
def kv (W:List (Nat × Nat)):List (C.Key × T):=W.map fun w=>((.inl (w.1:Int):C.Key),T.obj w.2)
def gt (W:List (Nat × Nat)) (x:Nat):Option Nat:=(W.find? fun w=>w.1==x).map (·.2)
theorem Ig (x:Nat):∀ W:List (Nat × Nat),Hz (.inl (x:Int)) (kv W)=(gt W x).map T.obj
  | []=>rfl
  | w::W=>by
    have ih:=Ig x W
    unfold kv gt at *
    rw [List.map_cons,Hz,List.find?_cons]
    by_cases e:w.1=x
    · subst e; simp
    · have e2:¬ ((Sum.inl (w.1:Int):C.Key)=Sum.inl (x:Int)):=fun z=>e (by have:=Sum.inl.inj z; omega)
      rw [if_neg e2,ih,show (w.1==x)=false from by simpa using e]
theorem Wn {W:List (Nat × Nat)} {x m:Nat} (h:gt W x=some m):(x,m)∈W:=by
  unfold gt at h
  obtain ⟨w,h1,h2⟩:=Option.map_eq_some_iff.mp h
  have a:=List.mem_of_find?_eq_some h1
  have b:=List.find?_some h1
  simp at b
  obtain ⟨u,v⟩:=w
  simp at b h2
  subst b h2
  exact a
theorem U8 {W:List (Nat × Nat)} {x:Nat} (h:gt W x=none):x∉W.map (·.1):=by
  unfold gt at h
  rw [Option.map_eq_none_iff,List.find?_eq_none] at h
  intro z
  obtain ⟨w,hw,rfl⟩:=List.mem_map.mp z
  exact h w hw (by simp)
structure Wt (W:List (Nat × Nat)) (sto:List SO) (R:List (Nat × Nat)):Prop where
  nd:(W.map (·.1)).Nodup
  ob:(W.map (·.2)).Nodup
  pl:∀ w∈W,sto[w.2]? = some (.lst ((plc R w.1).map nT))
  mem:∀ x,x∈W.map (·.1)↔x∈R.map (·.2)
  fl:sto.all zx=true
theorem a5n {W:List (Nat × Nat)} (h:(W.map (·.2)).Nodup) {a b m:Nat} (h1:(a,m)∈W) (h2:(b,m)∈W):a=b:=by
  induction W with
  | nil=>cases h1
  | cons w W ih =>
    rw [List.map_cons,List.nodup_cons] at h
    rcases List.mem_cons.mp h1 with e1 | e1
    · rcases List.mem_cons.mp h2 with e2 | e2
      · rw [← e1] at e2; cases e2; rfl
      · exact absurd (List.mem_map.mpr ⟨_,e2,by rw [← e1]⟩) h.1
    · rcases List.mem_cons.mp h2 with e2 | e2
      · exact absurd (List.mem_map.mpr ⟨_,e1,by rw [← e2]⟩) h.1
      · exact ih h.2 e1 e2
theorem Nx {sto:List SO} {m:Nat} {so:SO} (h:sto.all zx=true) (hs:zx so=true):(sto.set m so).all zx=true:=by
  rw [List.all_eq_true] at h ⊢
  intro x hx
  rcases List.mem_or_eq_of_mem_set hx with z | z
  · exact h x z
  · rw [z]; exact hs
theorem Pu (l:List Nat):zx (.lst (l.map nT))=true:=O4 l
theorem Wt.more {W R:List (Nat × Nat)} {sto:List SO} (h:Wt W sto R) {x m p:Nat} (g:(x,m)∈W):Wt W (sto.set m (.lst ((plc R x++[p]).map nT))) (R++[(p,x)]) where
  nd:=h.nd
  ob:=h.ob
  pl:=fun w hw=>by
    rw [a2j]
    by_cases e:w.2=m
    · have e2:w.1=x:=a5n h.ob (a:=w.1) (b:=x) (m:=m) (by rw [← e]; exact hw) g
      have hm:m<sto.length:=(List.getElem?_eq_some_iff.mp (h.pl _ g)).1
      rw [e,e2,List.getElem?_set_self hm]
      simp [plc]
    · have e2:¬ x=w.1:=fun z=>by
        subst z
        have:∀ {W:List (Nat × Nat)} {a b c:Nat},(W.map (·.1)).Nodup→(a,b)∈W→(a,c)∈W→b=c:=by
          intro W a b c hd h1 h2
          induction W with
          | nil=>cases h1
          | cons w W ih =>
            rw [List.map_cons,List.nodup_cons] at hd
            rcases List.mem_cons.mp h1 with e1 | e1
            · rcases List.mem_cons.mp h2 with e2 | e2
              · rw [← e1] at e2; cases e2; rfl
              · exact absurd (List.mem_map.mpr ⟨_,e2,by rw [← e1]⟩) hd.1
            · rcases List.mem_cons.mp h2 with e2 | e2
              · exact absurd (List.mem_map.mpr ⟨_,e1,by rw [← e2]⟩) hd.1
              · exact ih hd.2 e1 e2
        exact e (this h.nd (show (w.1,w.2)∈W from hw) g)
      rw [List.getElem?_set_ne (fun z=>e z.symm),h.pl w hw]
      simp [plc,e2]
  mem:=fun y=>by
    rw [h.mem y,List.map_append,List.mem_append]
    constructor
    · exact .inl
    · rintro (z | z)
      · exact z
      · simp at z; subst z; exact (h.mem y).mp (List.mem_map.mpr ⟨_,g,rfl⟩)
  fl:=Nx h.fl (Pu _)
theorem Wt.new {W R:List (Nat × Nat)} {sto:List SO} (h:Wt W sto R) {x p:Nat} (g:x∉W.map (·.1)):Wt (W++[(x,sto.length)]) (sto++[.lst [nT p]]) (R++[(p,x)]) where
  nd:=by
    rw [List.map_append,List.nodup_append] -- here
    exact ⟨h.nd,by simp,fun a ha b hb e=>by simp at hb; subst hb e; exact g ha⟩
  ob:=by
    rw [List.map_append,List.nodup_append] -- here
    refine ⟨h.ob,by simp,fun a ha b hb e=>?_⟩
    simp at hb; subst hb e
    obtain ⟨w,hw,e⟩:=List.mem_map.mp ha
    have:=(List.getElem?_eq_some_iff.mp (h.pl _ hw)).1
    omega
  pl:=fun w hw=>by
    rw [a2j]
    rcases List.mem_append.mp hw with z | z
    · have e2:¬ x=w.1:=fun e=>g (List.mem_map.mpr ⟨w,z,e.symm⟩)
      have:=(List.getElem?_eq_some_iff.mp (h.pl _ z)).1
      rw [List.getElem?_append_left this,h.pl w z]
      simp [plc,e2]
    · rw [List.mem_singleton] at z; subst z
      have:plc R x=[]:=T8 fun z=>g ((h.mem x).mpr z)
      show (sto++[SO.lst [nT p]])[sto.length]? = some (.lst ((plc R x++plc [(p,x)] x).map nT))
      rw [this,List.nil_append]
      simp [plc]
  mem:=fun y=>by
    rw [List.map_append,List.map_append,List.mem_append,List.mem_append,h.mem y]
    simp
  fl:=by
    rw [List.all_append,h.fl]
    rfl
def prs (L:List Nat):List (Nat × Nat):=L.zipIdx.map fun q=>(q.2,q.1)
theorem a0y (L:List Nat):(prs L).map (·.2)=L:=by
  unfold prs
  rw [List.map_map]
  have:∀ (L:List Nat) (k:Nat),(L.zipIdx k).map ((fun r:Nat × Nat=>r.2) ∘ fun q:Nat × Nat=>(q.2,q.1))=L:=by
    intro L
    induction L with
    | nil=>intro k; rfl
    | cons a L ih=>intro k; rw [List.zipIdx_cons,List.map_cons,ih]; rfl
  exact this L 0
theorem a7p (L:List Nat):Asc (prs L):=by
  unfold prs
  have:∀ (L:List Nat) (k:Nat),Asc ((L.zipIdx k).map fun q=>(q.2,q.1))∧∀ r∈(L.zipIdx k).map (fun q=>(q.2,q.1)),k≤r.1:=by
    intro L
    induction L with
    | nil=>intro k; exact ⟨.nil,fun r hr=>by cases hr⟩
    | cons a L ih =>
      intro k
      obtain ⟨h1,h2⟩:=ih (k+1)
      rw [List.zipIdx_cons,List.map_cons]
      refine ⟨List.pairwise_cons.mpr ⟨fun r hr=>by have:=h2 r hr; show k<r.1; omega,h1⟩,fun r hr=>?_⟩
      rcases List.mem_cons.mp hr with rfl | hr
      · exact Nat.le_refl _
      · have:=h2 r hr; omega
  exact (this L 0).1
theorem a4g (L:List Nat):Q8 (L.map nT)=(prs L).map fun r=>.tup [nT r.1,nT r.2]:=by
  unfold Q8 prs
  rw [List.zipIdx_map,List.map_map,List.map_map]
  rfl
theorem a7e {W:List (Nat × Nat)} {x m:Nat} (h:x∉W.map (·.1)):a0d (.inl (x:Int)) (.obj m) (kv W)=kv (W++[(x,m)]):=by
  unfold a0d kv
  rw [if_neg,List.map_append]
  · rfl
  · rw [List.any_eq_true]
    rintro ⟨q,hq,e⟩
    obtain ⟨w,hw,rfl⟩:=List.mem_map.mp hq
    rw [decide_eq_true_eq] at e
    have:=Sum.inl.inj e
    exact h (List.mem_map.mpr ⟨w,hw,by omega⟩)
theorem V2 {W R:List (Nat × Nat)} {sto:List SO} {p x:Nat} {n:T} (h:Wt W sto R) (hl:W.length≤18) (hr:R.length≤18):∃ W' sto',Bk 1 (bw 3) (bw 2) ⟨[some (n,false),some (.dic (kv W),true),some (nT p,false),some (nT x,false)],sto⟩=some (.next,⟨[some (n,false),some (.dic (kv W'),true),some (nT p,false),some (nT x,false)],sto'⟩)∧Wt W' sto' (R++[(p,x)])∧W'.length≤W.length+1:=by
  have kl:(kv W).length<lim:=by unfold kv; rw [List.length_map]; show _<1000000; omega
  have k3:bw 3 (⟨[some (n,false),some (.dic (kv W),true),some (nT p,false),some (nT x,false)],sto⟩:Sta)=some (nT x,⟨[some (n,false),some (.dic (kv W),true),some (nT p,false),some (nT x,false)],sto⟩):=rfl
  have dg:=Ig x W
  have od:a6d 1 (⟨[some (n,false),some (.dic (kv W),true),some (nT p,false),some (nT x,false)],sto⟩:Sta)=true:=rfl
  unfold Bk
  rw [if_pos od,k3]
  dsimp only
  rw [show ([some (n,false),some (.dic (kv W),true),some (nT p,false),some (nT x,false)]:List Slot)[1]? = some (some (.dic (kv W),true)) from rfl]
  dsimp only
  rw [show keyOf (nT x)=some (.inl (x:Int)) from rfl]
  dsimp only
  rw [if_pos kl,dg]
  cases hg:gt W x with
  | some m =>
    have hm:=Wn hg
    have hp:=h.pl _ hm
    have ln:((plc R x).map nT).length<lim:=by
      rw [List.length_map]
      have:(plc R x).length≤R.length:=by unfold plc; rw [List.length_map]; exact List.length_filter_le _ _
      show _<1000000; omega
    refine ⟨W,_,?_,h.more (p:=p) hm,by omega⟩
    simp only at hp
    show (if Gv sto[m]? = true then _ else none)=_
    rw [hp,if_pos (show Gv (some (SO.lst (List.map nT (plc R x))))=true from rfl)]
    unfold Mi
    rw [show bw 2 (⟨[some (n,false),some (.dic (kv W),true),some (nT p,false),some (nT x,false)],sto⟩:Sta)=some (nT p,⟨[some (n,false),some (.dic (kv W),true),some (nT p,false),some (nT x,false)],sto⟩) from rfl]
    dsimp only
    rw [hp]
    dsimp only
    rw [if_pos ln]
    simp
  | none =>
    have hn:=U8 hg
    refine ⟨W++[(x,sto.length)],sto++[.lst [nT p]],?_,h.new hn,by simp⟩
    show Mi sto.length (bw 2) _=_
    rw [a7e hn]
    unfold Mi
    rw [show bw 2 (iu 1 (.dic (kv (W++[(x,sto.length)]))) true ⟨[some (n,false),some (.dic (kv W),true),some (nT p,false),some (nT x,false)],sto++[SO.lst []]⟩)=some (nT p,⟨[some (n,false),some (.dic (kv (W++[(x,sto.length)])),true),some (nT p,false),some (nT x,false)],sto++[SO.lst []]⟩) from rfl]
    dsimp only
    rw [show (sto++[SO.lst []])[sto.length]? = some (.lst []) by simp]
    dsimp only
    rw [if_pos (by decide)]
    simp
theorem places {L:List Nat} {sto:List SO} (hl:L.length≤18) (hs:sto.all zx=true):∃ W sto',m8 [.lst (L.map nT)] sto=some (.dic (kv W),sto')∧Wt W sto' (prs L)∧W.length≤18:=by
  have ll:(L.map nT).length<lim:=by rw [List.length_map]; show _<1000000; omega
  unfold m8 su
  rw [show ([T.lst (L.map nT)].map (fun t=>some (t,false))++List.replicate (4 - [T.lst (L.map nT)].length) none:List Slot)=[some (.lst (L.map nT),false),none,none,none] from rfl]
  rw [gj (s':=⟨[some (.lst (L.map nT),false),some (.dic [],true),none,none],sto⟩) (by simp! [])]
  have it:Ue (bw 0) ⟨[some (.lst (L.map nT),false),some (.dic [],true),none,none],sto⟩=some ((prs L).map fun r=>.tup [nT r.1,nT r.2],⟨[some (.lst (L.map nT),false),some (.dic [],true),none,none],sto⟩):=by
    rw [← a4g]
    simp! [Ue]
    show L.length<1000000
    omega
  generalize hL:G6 (M5 [2,3]) _ _=loop
  obtain ⟨W,sto',o2,o3,el,h1,h2⟩:∃ W sto' o2 o3,loop ⟨[some (.lst (L.map nT),false),some (.dic [],true),none,none],sto⟩=some (.next,⟨[some (.lst (L.map nT),false),some (.dic (kv W),true),o2,o3],sto'⟩)∧Wt W sto' (prs L)∧W.length≤18:=by
    rw [← hL]
    unfold G6
    rw [it]
    dsimp only
    generalize hF:forL _ _ _ _=q
    obtain ⟨s',rfl,P⟩:=Bb hF (fun ts s=>∃ (W R Q:List (Nat × Nat)) (st:List SO) (o2 o3:Slot),ts=Q.map (fun r=>.tup [nT r.1,nT r.2])∧R++Q=prs L∧W.length≤R.length∧Wt W st R∧s=⟨[some (.lst (L.map nT),false),some (.dic (kv W),true),o2,o3],st⟩)
      ⟨[],[],prs L,sto,none,none,rfl,rfl,Nat.le_refl _,⟨.nil,.nil,fun w hw=>by (cases hw),fun x=>Iff.rfl,hs⟩,rfl⟩ (by
        rintro t r s ⟨W,R,Q,st,o2,o3,e1,e2,e3,e4,rfl⟩
        cases Q with
        | nil=>cases e1
        | cons c Q =>
          obtain ⟨p,x⟩:=c
          rw [List.map_cons] at e1
          obtain ⟨rfl,rfl⟩:=List.cons.inj e1
          have hlen:R.length+(Q.length+1)≤18:=by
            have:=congrArg List.length e2
            rw [List.length_append,List.length_cons] at this
            have pl:(prs L).length=L.length:=by unfold prs; simp
            omega
          obtain ⟨W',st',g1,g2,g3⟩:=V2 (n:=.lst (L.map nT)) (p:=p) (x:=x) e4 (by omega) (by omega)
          exact ⟨_,_,R7,g1,W',R++[(p,x)],Q,st',_,_,rfl,by rw [List.append_assoc]; exact e2,by rw [List.length_append,List.length_singleton]; omega,g2,rfl⟩)
    obtain ⟨W,R,Q,st,o2,o3,e1,e2,e3,e4,rfl⟩:=P
    have:Q=[]:=by cases Q with
      | nil=>rfl
      | cons _ _=>cases e1
    subst this
    rw [List.append_nil] at e2
    subst e2
    have pl:(prs L).length=L.length:=by unfold prs; simp
    exact ⟨W,st,o2,o3,rfl,e4,by omega⟩
  refine ⟨W,sto',?_,h1,h2⟩
  rw [gj (s':=⟨[some (.lst (L.map nT),false),some (.dic (kv W),true),o2,o3],sto'⟩) (by unfold sNx; rw [el])]
  simp! []
end K
end
section
namespace K
open C PySem
section
variable {N:List Str} {H:List Hd} {bs:List Bx} {ss:List Sp} {sto:List SO} {ks:List Nat}
theorem W6 (ss:List Sp) (a b:Nat):cls ss a b=cls ss b a:=by
  unfold cls
  cases ss[a]? <;> cases ss[b]? <;> simp [Bool.or_comm]
def cx (ss:List Sp) (ks:List Nat) (x:Nat):List Nat:=ks.filter fun y=>decide (y≠x)&&cls ss x y
def cd (ss:List Sp) (ks d:List Nat):List (C.Key × T):=d.map fun (x:Nat)=>((.inl (x:Int):C.Key),T.lst ((cx ss ks x).map nT))
theorem a6f (x:Nat):∀ d:List Nat,x∈d→Hz (.inl (x:Int)) (cd ss ks d)=some (.lst ((cx ss ks x).map nT))
  | [],h=>by cases h
  | w::d,h=>by
    unfold cd
    rw [List.map_cons,Hz]
    by_cases e:w=x
    · subst e; simp
    · have e2:¬ ((Sum.inl (w:Int):C.Key)=Sum.inl (x:Int)):=fun z=>e (by have:=Sum.inl.inj z; omega)
      rw [if_neg e2]
      rcases List.mem_cons.mp h with z | z
      · exact absurd z.symm e
      · exact a6f x d z
theorem a9z {d:List Nat} {x:Nat} (h:x∉d):a0d (.inl (x:Int)) (.lst ((cx ss ks x).map nT)) (cd ss ks d)=cd ss ks (d++[x]):=by
  unfold a0d cd
  rw [if_neg,List.map_append]
  · rfl
  · rw [List.any_eq_true]
    rintro ⟨q,hq,e⟩
    obtain ⟨w,hw,rfl⟩:=List.mem_map.mp hq
    rw [decide_eq_true_eq] at e
    have:=Sum.inl.inj e
    exact h (by rw [show x=w by omega]; exact hw)
theorem Xz (hN:G7 N) (hH:M7 H) (ok:∀ s∈ss,OkP N H s) (hk:∀ k∈ks,k<ss.length) (hl:ks.length≤18) {x:Nat} (hx:x<ss.length) {o2:Slot} :
    ou 1 [3,0] (hName 0) (Ab (bw 1)) (Yu (gb (mOp neO (bw 0) (bw 1))) (V4 (gb (fu Cg (ao (bw 2) (ao (bw 1) (ao (bw 0) g8))))))) (bw 0) ⟨[some (prT bs H ss,false),some (.lst (ks.map nT),false),o2,some (nT x,false)],sto⟩
      = some (.lst ((cx ss ks x).map nT),⟨[some (prT bs H ss,false),some (.lst (ks.map nT),false),o2,some (nT x,false)],sto⟩):=by
  have ll:(ks.map nT).length<lim:=by rw [List.length_map]; show _<1000000; omega
  have ll':ks.length<lim:=by show _<1000000; omega
  generalize hF:ou 1 [3,0] _ _ _ _ _=r
  exact Ed hF nT nT (fun y=>decide (y≠x)&&cls ss x y) ks ⟨[some (prT bs H ss,false),some (.lst (ks.map nT),false),o2,some (nT x,false)],sto⟩ [some (prT bs H ss,false),some (.lst (ks.map nT),false),o2,some (nT x,false)] [some (nT x,false),some (prT bs H ss,false)]
    (by simp! [ll']) rfl rfl rfl (by show _≤1000000; omega) (by
      intro y hy pre hp'
      obtain ⟨a,rfl⟩:=C.p1 pre hp'
      have hy':=hk y hy
      have lp:=parted (sto:=sto) (bs:=bs) hN hH ok hx hy'
      rw [a67 hx hy'] at lp
      have ne:=V6 (a:=(y:Int)) (b:=(x:Int))
      refine ⟨[some (nT y,false)],rfl,rfl,?_,fun _=>by simp! []⟩
      by_cases e:y=x
      · subst e; simp! [ne]
      · have e2:((y:Int)==(x:Int))=false:=beq_eq_false_iff_ne.mpr (by omega)
        rw [e2] at ne
        simp! [ne,e,lp])
theorem clashes (hN:G7 N) (hH:M7 H) (ok:∀ s∈ss,OkP N H s) (hk:∀ k∈ks,k<ss.length) (hl:ks.length≤18) (nd:ks.Nodup) :
    o8 [prT bs H ss,.lst (ks.map nT)] sto=some (.dic (cd ss ks ks),sto):=by
  have ll':ks.length<lim:=by show _<1000000; omega
  unfold o8 su
  rw [show ([prT bs H ss,T.lst (ks.map nT)].map (fun t=>some (t,false))++List.replicate (4 - [prT bs H ss,T.lst (ks.map nT)].length) none:List Slot)=[some (prT bs H ss,false),some (.lst (ks.map nT),false),none,none] from rfl]
  rw [gj (s':=⟨[some (prT bs H ss,false),some (.lst (ks.map nT),false),some (.dic [],true),none],sto⟩) (by simp! [])]
  have it:Ab (bw 1) ⟨[some (prT bs H ss,false),some (.lst (ks.map nT),false),some (.dic [],true),none],sto⟩=some (ks.map nT,⟨[some (prT bs H ss,false),some (.lst (ks.map nT),false),some (.dic [],true),none],sto⟩):=by simp! [ll']
  generalize hL:G6 (hName 3) _ _=loop
  obtain ⟨o3,el⟩:∃ o3,loop ⟨[some (prT bs H ss,false),some (.lst (ks.map nT),false),some (.dic [],true),none],sto⟩=some (.next,⟨[some (prT bs H ss,false),some (.lst (ks.map nT),false),some (.dic (cd ss ks ks),true),o3],sto⟩):=by
    rw [← hL]
    unfold G6
    rw [it]
    dsimp only
    generalize hF:forL _ _ _ _=q
    obtain ⟨s',rfl,P⟩:=Bb hF (fun ts s=>∃ (d r:List Nat) (o3:Slot),ts=r.map nT∧d++r=ks∧s=⟨[some (prT bs H ss,false),some (.lst (ks.map nT),false),some (.dic (cd ss ks d),true),o3],sto⟩)
      ⟨[],ks,none,rfl,rfl,rfl⟩ (by
        rintro t q s ⟨d,r,o3,e1,e2,rfl⟩
        cases r with
        | nil=>cases e1
        | cons x r =>
          rw [List.map_cons] at e1
          obtain ⟨rfl,rfl⟩:=List.cons.inj e1
          have hx:x∈ks:=by rw [← e2]; simp
          have hd:x∉d:=fun z=>by
            rw [← e2,List.nodup_append] at nd
            exact nd.2.2 x z x List.mem_cons_self rfl
          have cc:=Xz (bs:=bs) (sto:=sto) (o2:=some (.dic (cd ss ks d),true)) hN hH ok hk hl (hk x hx)
          have dl:(cd ss ks d).length<lim:=by
            unfold cd; rw [List.length_map]
            have:=congrArg List.length e2
            rw [List.length_append] at this
            show _<1000000; omega
          refine ⟨_,⟨[some (prT bs H ss,false),some (.lst (ks.map nT),false),some (.dic (cd ss ks (d++[x])),true),some (nT x,false)],sto⟩,rfl,?_,d++[x],r,_,rfl,by rw [List.append_assoc]; exact e2,rfl⟩
          unfold Lh
          rw [show (iu 3 (nT x) false ⟨[some (prT bs H ss,false),some (.lst (ks.map nT),false),some (.dic (cd ss ks d),true),o3],sto⟩:Sta)=⟨[some (prT bs H ss,false),some (.lst (ks.map nT),false),some (.dic (cd ss ks d),true),some (nT x,false)],sto⟩ from rfl,cc]
          dsimp only
          rw [if_pos (show Qo 2 (⟨[some (prT bs H ss,false),some (.lst (ks.map nT),false),some (.dic (cd ss ks d),true),some (nT x,false)],sto⟩:Sta)=true from rfl)]
          rw [show bw 3 (⟨[some (prT bs H ss,false),some (.lst (ks.map nT),false),some (.dic (cd ss ks d),true),some (nT x,false)],sto⟩:Sta)=some (nT x,⟨[some (prT bs H ss,false),some (.lst (ks.map nT),false),some (.dic (cd ss ks d),true),some (nT x,false)],sto⟩) from rfl]
          dsimp only
          rw [show ([some (prT bs H ss,false),some (.lst (ks.map nT),false),some (.dic (cd ss ks d),true),some (nT x,false)]:List Slot)[2]? = some (some (.dic (cd ss ks d),true)) from rfl,show keyOf (nT x)=some (.inl (x:Int)) from rfl]
          dsimp only
          rw [if_pos dl,a9z hd]
          rfl)
    obtain ⟨d,r,o3,e1,e2,rfl⟩:=P
    have:r=[]:=by cases r with
      | nil=>rfl
      | cons _ _=>cases e1
    subst this
    rw [List.append_nil] at e2
    subst e2
    exact ⟨o3,rfl⟩
  rw [gj el]
  simp! []
end
end K
end
section
namespace K
open C PySem
theorem adx {l:List Nat} (h:l≠[]):(ixI (l.map nT).length 0).bind ((l.map nT)[·]?)=some (nT (l.headD 0)):=by
  cases l with
  | nil=>exact absurd rfl h
  | cons a l =>
    have:ixI ((a::l).map nT).length 0=some 0:=by
      unfold ixI
      rw [if_pos (by decide),if_pos (by rw [List.length_map,List.length_cons]; omega)]; rfl
    rw [this]; rfl
theorem Vr {α:Type} (f:α→Bool):∀ l:List α,Hq (l.map fun a=>.bl (f a))=some (l.map f)
  | []=>rfl
  | a::l=>by simp [Hq,Vr f l]
section
variable {W R:List (Nat × Nat)} {sto:List SO} {ss:List Sp} {ks:List Nat} {x:Nat}
theorem a1j (h:x∈W.map (·.1)):∃ m,gt W x=some m:=by
  cases q:gt W x with
  | none=>exact absurd h (U8 q)
  | some m=>exact ⟨m,rfl⟩
theorem Jr (h:Wt W sto R) {m:Nat} (g:gt W x=some m):sto[m]? = some (.lst ((plc R x).map nT))∧plc R x≠[]:=by
  have hm:=Wn g
  exact ⟨h.pl _ hm,Vz ((h.mem x).mp (List.mem_map.mpr ⟨_,hm,rfl⟩))⟩
theorem Vw (h:Wt W sto R) {m:Nat} (g:gt W x=some m) {i j:Nat} {env:List Slot} (hi:bw i ⟨env,sto⟩=some (.dic (kv W),⟨env,sto⟩)) (hj:bw j ⟨env,sto⟩=some (nT x,⟨env,sto⟩)) :
    vd (mOp d9 (bw i) (bw j)) (aq (.int 0)) ⟨env,sto⟩=some (nT ((plc R x).headD 0),⟨env,sto⟩):=by
  obtain ⟨h1,h2⟩:=Jr h g
  have e:d9 (.dic (kv W)) (nT x)=some (.obj m):=by
    show (keyOf (nT x)).bind (Hz · (kv W))=_
    rw [show keyOf (nT x)=some (.inl (x:Int)) from rfl]
    show Hz (.inl (x:Int)) (kv W)=_
    rw [Ig,g]; rfl
  unfold vd mOp
  rw [hi]
  dsimp only
  rw [hj]
  dsimp only
  rw [e]
  dsimp only [aq]
  rw [h1]
  dsimp only
  rw [adx h2]
theorem a7b (h:Wt W sto R) (hl:ks.length≤18) (hw:x∈W.map (·.1)) (hx:x∈ks):uw [nT x,.dic (kv W),.dic (cd ss ks ks)] sto=some (.bl (isf (cls ss) ks R x),sto):=by
  obtain ⟨m,g⟩:=a1j hw
  have a1:=Vw h g (i:=1) (j:=0) (env:=[some (nT x,false),some (.dic (kv W),false),some (.dic (cd ss ks ks),false),none]) rfl rfl
  have ec:d9 (.dic (cd ss ks ks)) (nT x)=some (.lst ((cx ss ks x).map nT)):=by
    show (keyOf (nT x)).bind (Hz · (cd ss ks ks))=_
    rw [show keyOf (nT x)=some (.inl (x:Int)) from rfl]
    exact a6f x ks hx
  have cl':(cx ss ks x).length≤18:=Nat.le_trans (List.length_filter_le _ _) hl
  have ll':(cx ss ks x).length<lim:=by show _<1000000; omega
  have cc:ou 1 [1,3] (hName 0) (Ab (mOp d9 (bw 2) (bw 0))) yw (Fl (mOr (gb (mOp K1 (bw 0) (bw 1))) (gb (mOp gtT (vd (mOp d9 (bw 1) (bw 0)) (aq (.int 0))) (bw 2))))) ⟨[some (nT x,false),some (.dic (kv W),false),some (.dic (cd ss ks ks),false),some (nT ((plc R x).headD 0),false)],sto⟩
      = some (.lst ((cx ss ks x).map fun y=>.bl ((plc R y).isEmpty||decide ((plc R x).headD 0<(plc R y).headD 0))),⟨[some (nT x,false),some (.dic (kv W),false),some (.dic (cd ss ks ks),false),some (nT ((plc R x).headD 0),false)],sto⟩):=by
    generalize hF:ou 1 [1,3] _ _ _ _ _=r
    exact Ve hF nT (fun y=>.bl ((plc R y).isEmpty||decide ((plc R x).headD 0<(plc R y).headD 0))) (cx ss ks x) ⟨[some (nT x,false),some (.dic (kv W),false),some (.dic (cd ss ks ks),false),some (nT ((plc R x).headD 0),false)],sto⟩ [some (nT x,false),some (.dic (kv W),false),some (.dic (cd ss ks ks),false),some (nT ((plc R x).headD 0),false)] [some (.dic (kv W),false),some (nT ((plc R x).headD 0),false)]
      (by simp! [ec,ll']) rfl rfl rfl (Nat.le_of_lt ll') (by
        intro y hy pre hp
        obtain ⟨a,rfl⟩:=C.p1 pre hp
        refine ⟨[some (nT y,false)],rfl,rfl,rfl,?_⟩
        generalize hpx:(plc R x).headD 0=px
        have dg:=Ig y W
        show Fl _ (⟨[some (nT y,false),some (.dic (kv W),false),some (nT px,false)],sto⟩:Sta)=some (_,⟨[some (nT y,false),some (.dic (kv W),false),some (nT px,false)],sto⟩)
        cases gy:gt W y with
        | none =>
          have pe:plc R y=[]:=T8 fun z=>U8 gy ((h.mem y).mpr z)
          have ni:K1 (nT y) (.dic (kv W))=some (.bl true):=by
            show (match inT (nT y) (.dic (kv W)) with | some (.bl b)=>some (T.bl (!b)) | _=>none)=_
            rw [show inT (nT y) (.dic (kv W))=some (.bl (Hz (.inl (y:Int)) (kv W)).isSome) from rfl,dg,gy]; rfl
          rw [pe]
          simp! [ni]
        | some m' =>
          obtain ⟨f1,f2⟩:=Jr h gy
          have ni:K1 (nT y) (.dic (kv W))=some (.bl false):=by
            show (match inT (nT y) (.dic (kv W)) with | some (.bl b)=>some (T.bl (!b)) | _=>none)=_
            rw [show inT (nT y) (.dic (kv W))=some (.bl (Hz (.inl (y:Int)) (kv W)).isSome) from rfl,dg,gy]; rfl
          have a2:=Vw h gy (i:=1) (j:=0) (env:=[some (nT y,false),some (.dic (kv W),false),some (nT px,false)]) rfl rfl
          have pe:(plc R y).isEmpty=false:=by
            cases q:plc R y with
            | nil=>exact absurd q f2
            | cons _ _=>rfl
          rw [pe]
          generalize hd:(plc R y).headD 0=py at a2
          have c:gb (mOp gtT (vd (mOp d9 (bw 1) (bw 0)) (aq (.int 0))) (bw 2)) (⟨[some (nT y,false),some (.dic (kv W),false),some (nT px,false)],sto⟩:Sta)=some (decide (px<py),⟨[some (nT y,false),some (.dic (kv W),false),some (nT px,false)],sto⟩):=by
            unfold gb
            rw [show mOp gtT (vd (mOp d9 (bw 1) (bw 0)) (aq (.int 0))) (bw 2) (⟨[some (nT y,false),some (.dic (kv W),false),some (nT px,false)],sto⟩:Sta)=some (.bl (decide ((px:Int)<(py:Int))),⟨[some (nT y,false),some (.dic (kv W),false),some (nT px,false)],sto⟩) by
              generalize vd (mOp d9 (bw 1) (bw 0)) (aq (.int 0))=oo at a2 ⊢
              unfold mOp
              rw [a2]; rfl]
            simp
          have n0:gb (mOp K1 (bw 0) (bw 1)) (⟨[some (nT y,false),some (.dic (kv W),false),some (nT px,false)],sto⟩:Sta)=some (false,⟨[some (nT y,false),some (.dic (kv W),false),some (nT px,false)],sto⟩):=by simp! [ni]
          unfold Fl mOr
          rw [n0]
          dsimp only
          rw [c]
          simp [hd])
  have al:abu [.lst ((cx ss ks x).map fun y=>.bl ((plc R y).isEmpty||decide ((plc R x).headD 0<(plc R y).headD 0)))]=some (.bl (isf (cls ss) ks R x)):=by
    show (Hq _).map _=_
    rw [Vr]
    show some (T.bl _)=_
    unfold isf cx
    rw [List.all_map]
    rfl
  unfold uw su
  rw [show ([nT x,T.dic (kv W),T.dic (cd ss ks ks)].map (fun t=>some (t,false))++List.replicate (4 - [nT x,T.dic (kv W),T.dic (cd ss ks ks)].length) none:List Slot)=[some (nT x,false),some (.dic (kv W),false),some (.dic (cd ss ks ks),false),none] from rfl]
  rw [gj (s':=⟨[some (nT x,false),some (.dic (kv W),false),some (.dic (cd ss ks ks),false),some (nT ((plc R x).headD 0),false)],sto⟩) (Ni a1)]
  unfold Ah nu ao g8
  rw [cc]
  dsimp only
  rw [al]
end
end K
end
section
namespace K
open C PySem
theorem Ob {R:List (Nat × Nat)} {y:Nat}:y∈R.map (·.2)↔plc R y≠[]:=⟨Vz,fun h=>by
  by_cases z:y∈R.map (·.2)
  · exact z
  · exact absurd (T8 z) h⟩
theorem a7r {W:List (Nat × Nat)} {a b c:Nat} (hd:(W.map (·.1)).Nodup) (h1:(a,b)∈W) (h2:(a,c)∈W):b=c:=by
  induction W with
  | nil=>cases h1
  | cons w W ih =>
    rw [List.map_cons,List.nodup_cons] at hd
    rcases List.mem_cons.mp h1 with e1 | e1
    · rcases List.mem_cons.mp h2 with e2 | e2
      · rw [← e1] at e2; cases e2; rfl
      · exact absurd (List.mem_map.mpr ⟨_,e2,by rw [← e1]⟩) hd.1
    · rcases List.mem_cons.mp h2 with e2 | e2
      · exact absurd (List.mem_map.mpr ⟨_,e1,by rw [← e2]⟩) hd.1
      · exact ih hd.2 e1 e2
section
variable {W R:List (Nat × Nat)} {sto:List SO} {x m:Nat}
theorem Wt.aak (h:Wt W sto R) (g:(x,m)∈W) (w:Nat × Nat) (hw:w∈W):(sto.set m (.lst ((plc R x).tail.map nT)))[w.2]? = some (.lst ((plc (drp R x) w.1).map nT)):=by
  by_cases e:w.2=m
  · have e2:w.1=x:=a5n h.ob (a:=w.1) (b:=x) (m:=m) (by rw [← e]; exact hw) g
    have hm:m<sto.length:=(List.getElem?_eq_some_iff.mp (h.pl _ g)).1
    rw [e,e2,List.getElem?_set_self hm,Pj]
  · have e2:w.1≠x:=fun z=>e (a7r h.nd (a:=x) (by rw [← z]; exact hw) g)
    rw [List.getElem?_set_ne (fun z=>e z.symm),h.pl w hw,Cr e2]
theorem Wt.pop (h:Wt W sto R) (g:(x,m)∈W) (ne:(plc R x).tail≠[]):Wt W (sto.set m (.lst ((plc R x).tail.map nT))) (drp R x) where
  nd:=h.nd
  ob:=h.ob
  pl:=h.aak g
  mem:=fun y=>by
    rw [h.mem y,Ob,Ob]
    by_cases e:y=x
    · subst e
      rw [Pj]
      exact ⟨fun _=>ne,fun z w=>ne (by rw [w]; rfl)⟩
    · rw [Cr e]
  fl:=Nx h.fl (Pu _)
theorem Wt.gone (h:Wt W sto R) (g:(x,m)∈W) (ne:(plc R x).tail=[]):Wt (W.filter fun w=>decide (w.1≠x)) (sto.set m (.lst ((plc R x).tail.map nT))) (drp R x) where
  nd:=h.nd.sublist (List.filter_sublist.map _)
  ob:=h.ob.sublist (List.filter_sublist.map _)
  pl:=fun w hw=>h.aak g w (List.mem_filter.mp hw).1
  mem:=fun y=>by
    rw [Ob]
    by_cases e:y=x
    · subst e
      rw [Pj,ne]
      constructor
      · intro z
        obtain ⟨w,hw,e⟩:=List.mem_map.mp z
        have:=(List.mem_filter.mp hw).2
        simp [e] at this
      · intro z; exact absurd rfl z
    · rw [Cr e,← Ob,← h.mem y]
      constructor
      · intro z
        obtain ⟨w,hw,e⟩:=List.mem_map.mp z
        exact List.mem_map.mpr ⟨w,(List.mem_filter.mp hw).1,e⟩
      · intro z
        obtain ⟨w,hw,e2⟩:=List.mem_map.mp z
        exact List.mem_map.mpr ⟨w,List.mem_filter.mpr ⟨hw,by simp [e2,e]⟩,e2⟩
  fl:=Nx h.fl (Pu _)
theorem a9x (W:List (Nat × Nat)) (x:Nat):a8j (.inl (x:Int)) (kv W)=kv (W.filter fun w=>decide (w.1≠x)):=by
  unfold a8j kv
  rw [List.filter_map]
  congr 1
  apply List.filter_congr
  intro w _
  show decide (¬ ((Sum.inl (w.1:Int):C.Key)=Sum.inl (x:Int)))=decide (w.1≠x)
  rw [decide_eq_decide]
  constructor
  · intro h e; exact h (by rw [e])
  · intro h e; exact h (by have:=Sum.inl.inj e; omega)
theorem a2d:∀ l:List Nat,Yd (l.map nT)=some (l.map fun (k:Nat)=>(k:Int))
  | []=>rfl
  | k::l=>by simp [Yd,a2d l]
theorem a8o {l:List Nat} {m:Nat} (h1:m∈l) (h2:∀ a∈l,m≤a):V0 [.lst (l.map nT)]=some (nT m):=by
  show (Yd (l.map nT)).bind _=_
  rw [a2d]
  show (aax (l.map fun (k:Nat)=>(k:Int))).map T.int=_
  cases q:aax (l.map fun (k:Nat)=>(k:Int)) with
  | none=>cases l with
    | nil=>cases h1
    | cons _ _=>cases q
  | some i =>
    obtain ⟨g1,g2⟩:=Qk q
    obtain ⟨k,hk,rfl⟩:=List.mem_map.mp g1
    have a:=h2 k hk
    have b:=g2 (m:Int) (List.mem_map.mpr ⟨m,h1,rfl⟩)
    have:k=m:=by omega
    subst this; rfl
end
section
variable {W R:List (Nat × Nat)} {sto:List SO} {ss:List Sp} {ks:List Nat}
abbrev Ej (ss:List Sp) (ks:List Nat) (P n:T) (W:List (Nat × Nat)) (f:List Nat) (o5:Slot):List Slot:=[some (P,false),some (n,false),some (.dic (kv W),true),some (.dic (cd ss ks ks),false),some (.lst (f.map nT),true),o5]
theorem a0m (W:List (Nat × Nat)):(kv W).map (fun p=>Iw p.1)=(W.map (·.1)).map nT:=by
  unfold kv
  rw [List.map_map,List.map_map] -- here
  rfl
theorem a3z (h:Wt W sto R) (as:Asc R) (hR:R≠[]) (hl:ks.length≤18) (wl:W.length≤18) (hk:∀ y∈R.map (·.2),y∈ks) {P n:T} {f:List Nat} {o5:Slot} (h5:Gu o5=o5) :
    Nq [2] (nu V0 (ao (ou 1 [2,3] (hName 0) (Rn (bw 2)) (gb (fu uw (ao (bw 0) (ao (bw 1) (ao (bw 2) g8))))) (bw 0)) g8)) ⟨Ej ss ks P n W f o5,sto⟩
      = some (nT (best (cls ss) (R.map (·.2))),⟨Ej ss ks P n W f o5,sto⟩):=by
  have le:lend [2] (Ej ss ks P n W f o5)=[some (P,false),some (n,false),some (.dic (kv W),false),some (.dic (cd ss ks ks),false),none,o5]:=by
    cases o5 with
    | none=>rfl
    | some x=>obtain ⟨t,g⟩:=x; cases g with
      | false=>rfl
      | true=>cases h5
  have kl:(kv W).length<lim:=by unfold kv; rw [List.length_map]; show _<1000000; omega
  have cc:ou 1 [2,3] (hName 0) (Rn (bw 2)) (gb (fu uw (ao (bw 0) (ao (bw 1) (ao (bw 2) g8))))) (bw 0) ⟨[some (P,false),some (n,false),some (.dic (kv W),false),some (.dic (cd ss ks ks),false),none,o5],sto⟩
      = some (.lst (((W.map (·.1)).filter (isf (cls ss) ks R)).map nT),⟨[some (P,false),some (n,false),some (.dic (kv W),false),some (.dic (cd ss ks ks),false),none,o5],sto⟩):=by
    generalize hF:ou 1 [2,3] _ _ _ _ _=r
    exact Ed hF nT nT (isf (cls ss) ks R) (W.map (·.1)) ⟨[some (P,false),some (n,false),some (.dic (kv W),false),some (.dic (cd ss ks ks),false),none,o5],sto⟩ [some (P,false),some (n,false),some (.dic (kv W),false),some (.dic (cd ss ks ks),false),none,o5] [some (.dic (kv W),false),some (.dic (cd ss ks ks),false)]
      (by
        rw [← a0m]
        unfold Rn
        try unfold ab0
        rw [show bw 2 (⟨[some (P,false),some (n,false),some (.dic (kv W),false),some (.dic (cd ss ks ks),false),none,o5],sto⟩:Sta)=some (.dic (kv W),⟨[some (P,false),some (n,false),some (.dic (kv W),false),some (.dic (cd ss ks ks),false),none,o5],sto⟩) from rfl]
        dsimp only
        rw [if_pos kl]) rfl rfl rfl (by rw [List.length_map]; show _≤1000000; omega) (by
        intro y hy pre hp
        obtain ⟨a,rfl⟩:=C.p1 pre hp
        have fr:=a7b (ss:=ss) (ks:=ks) h hl hy (hk y ((h.mem y).mp hy))
        exact ⟨[some (nT y,false)],rfl,rfl,by simp! [fr],fun _=>by simp! []⟩)
  have ne:R.map (·.2)≠[]:=fun e=>hR (List.map_eq_nil_iff.mp e)
  obtain ⟨b1,b2,b3⟩:=Aw (cl:=cls ss) ne
  have mm:V0 [.lst (((W.map (·.1)).filter (isf (cls ss) ks R)).map nT)]=some (nT (best (cls ss) (R.map (·.2)))):=by
    apply a8o
    · exact List.mem_filter.mpr ⟨(h.mem _).mpr b1,by rw [a2h (W6 ss) as hk b1]; exact b2⟩
    · intro a ha
      obtain ⟨h1,h2⟩:=List.mem_filter.mp ha
      have hm:=(h.mem a).mp h1
      rw [a2h (W6 ss) as hk hm] at h2
      exact b3 a hm h2
  unfold Nq
  dsimp only
  rw [le]
  rw [show nu V0 (ao (ou 1 [2,3] (hName 0) (Rn (bw 2)) (gb (fu uw (ao (bw 0) (ao (bw 1) (ao (bw 2) g8))))) (bw 0)) g8) (⟨[some (P,false),some (n,false),some (.dic (kv W),false),some (.dic (cd ss ks ks),false),none,o5],sto⟩:Sta)=some (nT (best (cls ss) (R.map (·.2))),⟨[some (P,false),some (n,false),some (.dic (kv W),false),some (.dic (cd ss ks ks),false),none,o5],sto⟩) by
    generalize ou 1 [2,3] (hName 0) (Rn (bw 2)) (gb (fu uw (ao (bw 0) (ao (bw 1) (ao (bw 2) g8))))) (bw 0)=cm at cc ⊢
    unfold nu ao g8
    rw [cc]
    dsimp only
    rw [mm]]
  dsimp only
  rw [h.fl]
  rfl
end
end K
end
section
namespace K
open C PySem
section
variable {W R:List (Nat × Nat)} {sto:List SO} {ss:List Sp} {ks:List Nat} {P n:T} {f:List Nat} {x m:Nat}
theorem Wu (g:gt W x=some m):vq 2 (bw 5) ⟨Ej ss ks P n W f (some (nT x,false)),sto⟩=some (.obj m,⟨Ej ss ks P n W f (some (nT x,false)),sto⟩):=by
  have e:(keyOf (nT x)).bind (Hz · (kv W))=some (.obj m):=by
    rw [show keyOf (nT x)=some (.inl (x:Int)) from rfl]
    show Hz (.inl (x:Int)) (kv W)=_
    rw [Ig,g]; rfl
  unfold vq
  rw [if_pos (show Qo 2 (⟨Ej ss ks P n W f (some (nT x,false)),sto⟩:Sta)=true from rfl)]
  rw [show bw 5 (⟨Ej ss ks P n W f (some (nT x,false)),sto⟩:Sta)=some (nT x,⟨Ej ss ks P n W f (some (nT x,false)),sto⟩) from rfl]
  dsimp only
  rw [show (Ej ss ks P n W f (some (nT x,false)))[2]? = some (some (.dic (kv W),true)) from rfl]
  dsimp only
  rw [e]
theorem a4v (h:Wt W sto R) (g:gt W x=some m):Uc (vq 2 (bw 5)) ⟨Ej ss ks P n W f (some (nT x,false)),sto⟩=some (.next,⟨Ej ss ks P n W f (some (nT x,false)),sto.set m (.lst ((plc R x).tail.map nT))⟩):=by
  obtain ⟨h1,h2⟩:=Jr h g
  unfold Uc
  rw [Wu g]
  dsimp only
  rw [h1]
  cases q:plc R x with
  | nil=>exact absurd q h2
  | cons a l=>rfl
theorem a3e (h:Wt W sto R) (g:gt W x=some m):gb (mOp eqO (zq (vq 2 (bw 5))) (aq (.int 0))) ⟨Ej ss ks P n W f (some (nT x,false)),sto.set m (.lst ((plc R x).tail.map nT))⟩=some ((plc R x).tail.isEmpty,⟨Ej ss ks P n W f (some (nT x,false)),sto.set m (.lst ((plc R x).tail.map nT))⟩):=by
  have hm:m<sto.length:=(List.getElem?_eq_some_iff.mp (Jr h g).1).1
  have e:zq (vq 2 (bw 5)) ⟨Ej ss ks P n W f (some (nT x,false)),sto.set m (.lst ((plc R x).tail.map nT))⟩=some (.int ((plc R x).tail.length:Int),⟨Ej ss ks P n W f (some (nT x,false)),sto.set m (.lst ((plc R x).tail.map nT))⟩):=by
    unfold zq
    rw [Wu g]
    dsimp only
    rw [List.getElem?_set_self hm]
    dsimp only
    rw [List.length_map]
  generalize zq (vq 2 (bw 5))=oo at e ⊢
  generalize (plc R x).tail=l at e ⊢
  unfold gb mOp aq
  rw [e]
  dsimp only
  rw [tu]
  cases l with
  | nil=>rfl
  | cons a l =>
    have:(((a::l).length:Int)==0)=false:=beq_eq_false_iff_ne.mpr (by rw [List.length_cons]; omega)
    rw [this]; rfl
abbrev a5f:S:=jl (zp 5 (Nq [2] (nu V0 (ao (ou 1 [2,3] (hName 0) (Rn (bw 2)) (gb (fu uw (ao (bw 0) (ao (bw 1) (ao (bw 2) g8))))) (bw 0)) g8))))
  (jl (xg 4 (bw 5))
  (jl (Uc (vq 2 (bw 5)))
  (sIf (gb (mOp eqO (zq (vq 2 (bw 5))) (aq (.int 0))))
  (Ga 2 (bw 5))
  Dl)))
theorem turn (h:Wt W sto R) (as:Asc R) (hR:R≠[]) (hl:ks.length≤18) (wl:W.length≤18) (fl:f.length≤18) (hk:∀ y∈R.map (·.2),y∈ks) {o5:Slot} (h5:Gu o5=o5) :
    ∃ W' sto',a5f ⟨Ej ss ks P n W f o5,sto⟩=some (.next,⟨Ej ss ks P n W' (f++[best (cls ss) (R.map (·.2))]) (some (nT (best (cls ss) (R.map (·.2))),false)),sto'⟩)∧Wt W' sto' (drp R (best (cls ss) (R.map (·.2))))∧W'.length≤W.length:=by
  have ms:=a3z (ss:=ss) (P:=P) (n:=n) (f:=f) h as hR hl wl hk h5
  have ne:R.map (·.2)≠[]:=fun e=>hR (List.map_eq_nil_iff.mp e)
  obtain ⟨b1,_,_⟩:=Aw (cl:=cls ss) ne
  obtain ⟨m,g⟩:=a1j ((h.mem _).mpr b1)
  generalize best (cls ss) (R.map (·.2))=x at *
  have fl':f.length<lim:=by show _<1000000; omega
  have ap:xg 4 (bw 5) ⟨Ej ss ks P n W f (some (nT x,false)),sto⟩=some (.next,⟨Ej ss ks P n W (f++[x]) (some (nT x,false)),sto⟩):=by simp! [Ej,fl']
  have s1:=Ni (i:=5) ms
  rw [show iu 5 (nT x) false (⟨Ej ss ks P n W f o5,sto⟩:Sta)=⟨Ej ss ks P n W f (some (nT x,false)),sto⟩ from rfl] at s1
  unfold a5f
  rw [gj s1,gj ap,gj (a4v (f:=f++[x]) h g)]
  have ln:=a3e (ss:=ss) (ks:=ks) (P:=P) (n:=n) (f:=f++[x]) h g
  by_cases q:(plc R x).tail=[]
  · refine ⟨W.filter fun w=>decide (w.1≠x),sto.set m (.lst ((plc R x).tail.map nT)),?_,h.gone (Wn g) q,List.length_filter_le _ _⟩
    unfold sIf
    rw [ln,show (plc R x).tail.isEmpty=true by rw [q]; rfl]
    generalize sto.set m (.lst ((plc R x).tail.map nT))=st2
    show Ga 2 (bw 5) _=_
    unfold Ga
    rw [if_pos (show a6d 2 (⟨Ej ss ks P n W (f++[x]) (some (nT x,false)),st2⟩:Sta)=true from rfl)]
    rw [show bw 5 (⟨Ej ss ks P n W (f++[x]) (some (nT x,false)),st2⟩:Sta)=some (nT x,⟨Ej ss ks P n W (f++[x]) (some (nT x,false)),st2⟩) from rfl]
    dsimp only
    rw [show (Ej ss ks P n W (f++[x]) (some (nT x,false)))[2]? = some (some (.dic (kv W),true)) from rfl]
    dsimp only
    rw [show keyOf (nT x)=some (.inl (x:Int)) from rfl]
    dsimp only
    rw [if_pos (by rw [Ig,g]; rfl),a9x]
    rfl
  · refine ⟨W,sto.set m (.lst ((plc R x).tail.map nT)),?_,h.pop (Wn g) q,Nat.le_refl _⟩
    unfold sIf
    rw [ln,show (plc R x).tail.isEmpty=false by cases z:(plc R x).tail with | nil=>exact absurd z q | cons _ _=>rfl]
    rfl
theorem loop (hl:ks.length≤18):∀ (k:Nat) (R W:List (Nat × Nat)) (sto:List SO) (f:List Nat) (o5:Slot),R.length=k→f.length+k≤18→Wt W sto R→Asc R→W.length≤18→(∀ y∈R.map (·.2),y∈ks)→Gu o5=o5 →
    ∃ sto' o5',yc (1000 - f.length) (gb (mOp gtT (vh 2) (aq (.int 0)))) a5f ⟨Ej ss ks P n W f o5,sto⟩=some (.next,⟨Ej ss ks P n [] (f++Oz (cls ss) k (R.map (·.2))) o5',sto'⟩)∧sto'.all zx=true
  | 0,R,W,sto,f,o5,hk,hf,h,as,wl,hks,h5=>by
    have:R=[]:=List.length_eq_zero_iff.mp hk
    subst this
    have:W=[]:=by
      cases W with
      | nil=>rfl
      | cons w W=>have:=(h.mem w.1).mp (by simp); cases this
    subst this
    refine ⟨sto,o5,?_,h.fl⟩
    rw [show 1000 - f.length=(999 - f.length)+1 by omega,Im (s1:=⟨Ej ss ks P n [] f o5,sto⟩) (by simp! [Ej,vh,gtT,kv])]
    simp [Oz]
  | k+1,R,W,sto,f,o5,hk,hf,h,as,wl,hks,h5=>by
    have hR:R≠[]:=fun e=>by subst e; cases hk
    have ne:R.map (·.2)≠[]:=fun e=>hR (List.map_eq_nil_iff.mp e)
    have hb:=(Aw (cl:=cls ss) ne).1
    have wp:0<W.length:=by
      cases W with
      | nil=>have:=(h.mem _).mpr hb; cases this
      | cons _ _=>simp
    obtain ⟨W',sto1,e1,h1,l1⟩:=turn (ss:=ss) (P:=P) (n:=n) (f:=f) h as hR hl wl (by omega) hks h5
    have dl:(drp R (best (cls ss) (R.map (·.2)))).length=k:=by
      have a:=congrArg List.length (Pr (x:=best (cls ss) (R.map (·.2))) R)
      have b:=Qa (cl:=cls ss) ne
      rw [List.length_map] at a b
      omega
    obtain ⟨sto',o5',e2,fl2⟩:=loop hl k (drp R (best (cls ss) (R.map (·.2)))) W' sto1 (f++[best (cls ss) (R.map (·.2))]) (some (nT (best (cls ss) (R.map (·.2))),false)) dl (by rw [List.length_append,List.length_singleton]; omega) h1 (a7v as) (by omega) (fun y hy=>hks y (by rw [Pr] at hy; exact List.mem_of_mem_erase hy)) rfl
    refine ⟨sto',o5',?_,fl2⟩
    have lw:(kv W).length=W.length:=by unfold kv; rw [List.length_map]
    have cond:gb (mOp gtT (vh 2) (aq (.int 0))) (⟨Ej ss ks P n W f o5,sto⟩:Sta)=some (true,⟨Ej ss ks P n W f o5,sto⟩):=by
      have:(0:Int)<(W.length:Int):=by omega
      simp! [Ej,vh,gtT,lw,this,wp]
    rw [show 1000 - f.length=(1000 - (f++[best (cls ss) (R.map (·.2))]).length)+1 by rw [List.length_append,List.length_singleton]; omega,Ip cond e1,e2,Dg ne,Pr]
    simp
end
end K
end
section
namespace K
open C PySem
section
variable {N:List Str} {H:List Hd} {bs:List Bx} {ss:List Sp} {sto:List SO} {L:List Nat}
theorem straight (hN:G7 N) (hH:M7 H) (ok:∀ s∈ss,OkP N H s) (hs:sto.all zx=true) (hl:L.length≤18) (hL:∀ k∈L,k<ss.length) :
    ∃ sto',yr [prT bs H ss,.lst (L.map nT)] sto=some (.lst ((Oz (cls ss) L.length L).map nT),sto')∧sto'.all zx=true:=by
  obtain ⟨W,sto1,e1,h1,l1⟩:=places hl hs
  have hks:∀ k∈W.map (·.1),k<ss.length:=fun k hk=>hL k (by have:=(h1.mem k).mp hk; rw [a0y] at this; exact this)
  have e2:=clashes (bs:=bs) (sto:=sto1) (ks:=W.map (·.1)) hN hH ok hks (by rw [List.length_map]; exact l1) h1.nd
  obtain ⟨sto',o5',e3,f3⟩:=loop (ss:=ss) (ks:=W.map (·.1)) (P:=prT bs H ss) (n:=.lst (L.map nT)) (by rw [List.length_map]; exact l1) L.length (prs L) W sto1 [] none (by unfold prs; simp) (by simpa using hl) h1 (a7p L) l1 (fun y hy=>(h1.mem y).mpr hy) rfl
  rw [a0y] at e3
  refine ⟨sto',?_,f3⟩
  have kl:(kv W).length<lim:=by unfold kv; rw [List.length_map]; show _<1000000; omega
  rw [show 1000 - ([]:List Nat).length=1000 from rfl] at e3
  unfold a5f at e3
  unfold yr su
  rw [show ([prT bs H ss,.lst (L.map nT)].map (fun t=>some (t,false))++List.replicate (6 - [prT bs H ss,T.lst (L.map nT)].length) none:List Slot)=[some (prT bs H ss,false),some (.lst (L.map nT),false),none,none,none,none] from rfl]
  rw [gj (s':=⟨[some (prT bs H ss,false),some (.lst (L.map nT),false),some (.dic (kv W),true),none,none,none],sto1⟩) (by simp! [e1])]
  have k2:Dk 2 (⟨[some (prT bs H ss,false),some (.lst (L.map nT),false),some (.dic (kv W),true),none,none,none],sto1⟩:Sta)=some (.lst ((W.map (·.1)).map nT),⟨[some (prT bs H ss,false),some (.lst (L.map nT),false),some (.dic (kv W),true),none,none,none],sto1⟩):=by
    unfold Dk
    rw [show ([some (prT bs H ss,false),some (.lst (L.map nT),false),some (.dic (kv W),true),none,none,none]:List Slot)[2]? = some (some (.dic (kv W),true)) from rfl]
    dsimp only
    rw [if_pos kl,a0m]
  have c2:fu o8 (ao (bw 0) (ao (Dk 2) g8)) (⟨[some (prT bs H ss,false),some (.lst (L.map nT),false),some (.dic (kv W),true),none,none,none],sto1⟩:Sta)=some (.dic (cd ss (W.map (·.1)) (W.map (·.1))),⟨[some (prT bs H ss,false),some (.lst (L.map nT),false),some (.dic (kv W),true),none,none,none],sto1⟩):=by
    unfold fu ao g8
    rw [show bw 0 (⟨[some (prT bs H ss,false),some (.lst (L.map nT),false),some (.dic (kv W),true),none,none,none],sto1⟩:Sta)=some (prT bs H ss,⟨[some (prT bs H ss,false),some (.lst (L.map nT),false),some (.dic (kv W),true),none,none,none],sto1⟩) from rfl]
    dsimp only
    rw [k2]
    dsimp only
    rw [e2]
  rw [gj (Ni c2)]
  rw [gj (s':=⟨Ej ss (W.map (·.1)) (prT bs H ss) (.lst (L.map nT)) W [] none,sto1⟩) rfl]
  rw [gj e3]
  simp! [Ej]
theorem a3v (ok:acn bs H ss):∀ t∈ss.map spT,Pl 12 t:=by
  intro t ht
  obtain ⟨s,hs,rfl⟩:=List.mem_map.mp ht
  have o:=ok.ss s hs
  exact Cd (n:=11) fun t ht=>by
    simp only [List.mem_cons,List.not_mem_nil,or_false] at ht
    rcases ht with rfl | rfl | rfl | rfl | rfl
    · exact Ek _ o.hd.1
    · exact Nk _ _
    · exact Zu (aa4 ok.ns ok.hs o.gd) (by decide)
    · exact Cd (n:=10) fun t ht=>by
        obtain ⟨p,hp,rfl⟩:=List.mem_map.mp ht
        exact Cd (n:=9) fun t ht=>by
          simp only [List.mem_cons,List.not_mem_nil,or_false] at ht
          rcases ht with rfl | rfl
          · exact Ek _ (ok.ns.2 _ (o.set p hp).1).1
          · exact Zu (a6o ok.ns (o.set p hp).2) (by decide)
    · exact Nk _ _
theorem a4o (ok:acn bs H ss):neO (.lst (ss.map spT)) (.lst [])=some (.bl (!ss.isEmpty)):=by
  have ps:=a3v ok
  cases ss with
  | nil=>simp [neO,eqT,eqD,dat,Dw,PyData.depth,PyData.depthAll,PyData.eqv,PyData.eqvAll]
  | cons x l =>
    obtain ⟨ds,e1,e2⟩:=pls (n:=12) ((x::l).map spT) ps
    have hd:∃ d r,ds=d::r:=by
      rw [List.map_cons,Dw] at e1
      cases q1:dat (spT x) with
      | none=>rw [q1] at e1; cases e1
      | some a =>
        rw [q1] at e1
        dsimp only at e1
        cases q:Dw (l.map spT) with
        | none=>rw [q] at e1; cases e1
        | some r=>rw [q] at e1; cases e1; exact ⟨_,_,rfl⟩
    obtain ⟨d,r,rfl⟩:=hd
    have dl:dat (.lst ((x::l).map spT))=some (.list (d::r)):=by rw [dat,e1]; rfl
    have dn:dat (.lst [])=some (.list []):=by simp [dat,Dw]
    have dp:(PyData.list (d::r)).depth≤40:=by simp only [PyData.depth]; omega
    simp only [neO,eqT,eqD,dl,dn,if_pos dp,PyData.eqv,PyData.eqvAll]
    rfl
end
theorem a4t {cs:List Int} (hc:cs.length≤63):∃ st,Yr [scr cs] []=some (.bl true,st):=by
  obtain ⟨t,st,ep,bs,H,ss,rfl,ok,hl,so⟩:=program (cs:=cs) (k:=12) hc
  rw [show ((12:Nat):Int)=12 from rfl] at ep
  have i2:d9 (prT bs H ss) (.int 2)=some (.lst (ss.map spT)):=Sh
  have ns:=a4o ok
  obtain ⟨m,hm,cx'⟩:∃ m:List Int,m.length≤18∧a5o (some 15) (some 33) (scr cs)=some (.lst (m.map T.int)):=by
    refine ⟨(cs.drop (sIx cs.length 0 (some 15))).take (sIx cs.length cs.length (some 33) - sIx cs.length 0 (some 15)),?_,?_⟩
    · rw [List.length_take,List.length_drop]
      have a:sIx cs.length cs.length (some 33)=min 33 cs.length:=rfl
      have b:sIx cs.length 0 (some 15)=min 15 cs.length:=rfl
      omega
    · simp only [a5o,a2v,List.length_map,← List.map_drop,← List.map_take]
  have mll:m.length<lim:=by show _<1000000; omega
  unfold Yr su
  rw [show ([scr cs].map (fun t=>some (t,false))++List.replicate (6 - [scr cs].length) none:List Slot)=[some (scr cs,false),none,none,none,none,none] from rfl]
  rw [gj (s':=⟨[some (scr cs,false),some (prT bs H ss,false),none,none,none,none],st⟩) (by simp! [ep])]
  rw [gj (s':=⟨[some (scr cs,false),some (prT bs H ss,false),some (.lst [],true),none,none,none],st⟩) (by simp! [])]
  have it:Ab (Hj (bw 0) (En (aq (.int 15))) (En (aq (.int 33)))) ⟨[some (scr cs,false),some (prT bs H ss,false),some (.lst [],true),none,none,none],st⟩=some (m.map T.int,⟨[some (scr cs,false),some (prT bs H ss,false),some (.lst [],true),none,none,none],st⟩):=by
    simp! [Hj,En,cx',mll]
  generalize hLp:G6 (hName 3) _ _=lp
  obtain ⟨L,o3,el,hL1,hL2⟩:∃ (L:List Nat) (o3:Slot),lp ⟨[some (scr cs,false),some (prT bs H ss,false),some (.lst [],true),none,none,none],st⟩=some (.next,⟨[some (scr cs,false),some (prT bs H ss,false),some (.lst (L.map nT),true),o3,none,none],st⟩)∧L.length≤18∧∀ k∈L,k<ss.length:=by
    rw [← hLp]
    unfold G6
    rw [it]
    dsimp only
    generalize hF:forL _ _ _ _=q
    obtain ⟨s',rfl,P⟩:=Bb hF (fun ts s=>∃ (r:List Int) (L:List Nat) (o3:Slot),ts=r.map T.int∧r.length+L.length≤18∧(∀ k∈L,k<ss.length)∧s=⟨[some (scr cs,false),some (prT bs H ss,false),some (.lst (L.map nT),true),o3,none,none],st⟩)
      ⟨m,[],none,rfl,by simpa using hm,(fun k hk=>by cases hk),rfl⟩ (by
        rintro t q s ⟨r,L,o3,e1,e2,e3,rfl⟩
        cases r with
        | nil=>cases e1
        | cons c r =>
          rw [List.map_cons] at e1
          obtain ⟨rfl,rfl⟩:=List.cons.inj e1
          rw [List.length_cons] at e2
          cases hs:ss.isEmpty with
          | true =>
            rw [hs] at ns
            exact ⟨_,⟨[some (scr cs,false),some (prT bs H ss,false),some (.lst (L.map nT),true),some (.int c,false),none,none],st⟩,rfl,by simp! [i2,ns],r,L,_,rfl,by omega,e3,rfl⟩
          | false =>
            rw [hs] at ns
            have hp0:0<ss.length:=by
              cases ss with
              | nil=>cases hs
              | cons _ _=>simp
            have hp:(0:Int)<(ss.length:Int):=by omega
            obtain ⟨j,hj,ej⟩:∃ j:Nat,j<ss.length∧c%(ss.length:Int)=(j:Int):=⟨(c%(ss.length:Int)).toNat,by
              have:=Int.emod_nonneg c (show (ss.length:Int)≠0 by omega)
              have:=Int.emod_lt_of_pos c hp
              omega,by
              have:=Int.emod_nonneg c (show (ss.length:Int)≠0 by omega)
              omega⟩
            have ll:L.length<lim:=by show _<1000000; omega
            have sl:ss.length<lim:=by show _<1000000; omega
            refine ⟨_,⟨[some (scr cs,false),some (prT bs H ss,false),some (.lst ((L++[j]).map nT),true),some (.int c,false),none,none],st⟩,rfl,?_,r,L++[j],_,rfl,by rw [List.length_append,List.length_singleton]; omega,fun k hk=>?_,rfl⟩
            · simp! [i2,ns,hp,hp0,ej,ll]
            · rcases List.mem_append.mp hk with z | z
              · exact e3 k z
              · rw [List.mem_singleton] at z; subst z; exact hj)
    obtain ⟨r,L,o3,e1,e2,e3,rfl⟩:=P
    exact ⟨L,o3,rfl,by omega,e3⟩
  rw [gj el]
  rw [gj (s':=⟨[some (scr cs,false),some (prT bs H ss,false),some (.lst (L.map nT),false),o3,some (.lst (L.map nT),false),none],st⟩) (by simp! [Hv])]
  obtain ⟨st1,s1,f1⟩:=straight (bs:=bs) (sto:=st) ok.ns ok.hs ok.ss so.flat hL1 hL2
  have ls:=Sg (bs:=bs) (sto:=st1) ok.ns ok.hs ok.ss f1 hL1 hL2
  have hp:=Kq (cl:=cls ss) L.length (Nat.le_refl L.length)
  have hlen:=hp.length_eq
  have hid:=Qf (cl:=cls ss) L.length (Nat.le_refl L.length)
  have hmem:∀ k∈Oz (cls ss) L.length L,k<ss.length:=fun k hk=>hL2 k (hp.mem_iff.mp hk)
  generalize Oz (cls ss) L.length L=M at *
  obtain ⟨st2,s2,f2⟩:=straight (bs:=bs) (sto:=st1) (L:=M) ok.ns ok.hs ok.ss f1 (by omega) hmem
  rw [hlen,hid] at s2
  obtain ⟨st3,s3,f3⟩:=straight (bs:=bs) (sto:=st2) (L:=[]) ok.ns ok.hs ok.ss f2 (by simp) (fun k hk=>by cases hk)
  rw [show Oz (cls ss) ([]:List Nat).length []=[] from rfl,List.map_nil] at s3
  have nL:=Wv L L
  have nM:=Wv M M
  have eM:=a0n M M
  have e0:=a0n [] []
  rw [List.map_nil] at e0
  have il:Sy [.lst (M.map nT)]=some (.bl true):=by simp [Sy]
  simp only [decide_true,Bool.not_true] at nL nM eM e0
  rw [gj (s':=⟨[some (scr cs,false),some (prT bs H ss,false),some (.lst (L.map nT),false),o3,some (.lst (L.map nT),false),some (.lst (M.map nT),false)],st1⟩) (by simp! [s1])]
  refine ⟨st3,?_⟩
  rw [gj (s':=⟨[some (scr cs,false),some (prT bs H ss,false),some (.lst (L.map nT),false),o3,some (.lst (L.map nT),false),some (.lst (M.map nT),false)],st1⟩) (by simp! [nL,il,ls,nM])]
  simp! [s2,eM,s3,e0]
end K
end
section
namespace D
open PySem L2 C
structure FA (K:PySem.W.Frag) (x:Str) (st:Stmt) (f:Addr) (fd:FuncData):Prop where
  a:PySem.W.nsIn K mainGlobals x=some (some (.ref f))
  F:Fun K x x st f fd
theorem abz {K:PySem.W.Frag} {x:Str} {st:Stmt} {f:Addr} {oc:Value} {od an:Option Addr} {osl:Array (Option Value)} {kV doc pm cdv ct:Value} (a:PySem.W.nsIn K mainGlobals x=some (some (.ref f)))
    (l:K.lookup f=some ⟨oc,od,.func (PySem.W.fnOf x x (Eh st) (Bp st) (dh st) .none kV doc pm an cdv ct),osl⟩) (c:PySem.W.codeIn K cdv x=true) (k:PySem.W.keepIn K (.ref f)=true):FA K x st f (PySem.W.fnOf x x (Eh st) (Bp st) (dh st) .none kV doc pm an cdv ct):=⟨a,a6b l c k⟩
theorem FA.m {K:PySem.W.Frag} {x:Str} {st:Stmt} {f:Addr} {fd:FuncData} {hp:Heap} {mg:Str→Option Value} (h:FA K x st f fd) (X:K.In hp) (G:hp.Ns mainGlobals mg):mg x=some (.ref f):=PySem.W.mg_of X G h.a
theorem all_mk {l:PySem.W.OpenLaw} {w:World} {K:PySem.W.Frag} {h:Heap} {mg:Str→Option Value} {fa f1 f2 f3 f4 f5 f6 f7 f8 f9 f10 f11 f12 f13 f14 f15 f16 f17 f18 f19 f20 f21 f22 f23 f24 f25 f26 f27 f28 f29 f30:Addr} {fd1 fd2 fd3 fd4 fd5 fd6 fd7 fd8 fd9 fd10 fd11 fd12 fd13 fd14 fd15 fd16 fd17 fd18 fd19 fd20 fd21 fd22 fd23 fd24 fd25 fd26 fd27 fd28 fd29:FuncData} (X:K.In h) (G:h.Ns mainGlobals mg) (hfa:mg "law" = some (.ref fa))
    {od30 an30:Option Addr} {sl30:Array (Option Value)} {oc30 kV30 dc30 pm30 cd30 ct30:Value}
    (h1:FA K "boxes_of" Ew f1 fd1)
    (h2:FA K "members_of" Bu f2 fd2)
    (h3:FA K "parts_of" Ey f3 fd3)
    (h4:FA K "boxes_from_left" wj f4 fd4)
    (h5:FA K "ats_from_left" za f5 fd5)
    (h6:FA K "boxes_in" Ez f6 fd6)
    (h7:FA K "hands_in" Fe f7 fd7)
    (h8:FA K "meets" Oa f8 fd8)
    (h9:FA K "changed_by" Bt f9 fd9)
    (h10:FA K "named_by" Et f10 fd10)
    (h11:FA K "parted" Jy f11 fd11)
    (h12:FA K "places_by_number" v9 f12 fd12)
    (h13:FA K "clashes_among" zf f13 fd13)
    (h14:FA K "is_free" Hx f14 fd14)
    (h15:FA K "straight" Fj f15 fd15)
    (h16:FA K "_law_cell_at" Bc f16 fd16)
    (h17:FA K "_law_pick" Fi f17 fd17)
    (h18:FA K "_law_name" Fd f18 fd18)
    (h19:FA K "_law_sum" Hw f19 fd19)
    (h20:FA K "_law_simple" Ce f20 fd20)
    (h21:FA K "_law_remark" Bv f21 fd21)
    (h22:FA K "_law_boxes" Dj f22 fd22)
    (h23:FA K "_law_step" Es f23 fd23)
    (h24:FA K "_law_program" Bh f24 fd24)
    (h25:FA K "_law_boxes_of" xq f25 fd25)
    (h26:FA K "_law_ats_of" Ay f26 fd26)
    (h27:FA K "_law_meddles" Bd f27 fd27)
    (h28:FA K "_law_parted" Ci f28 fd28)
    (h29:FA K "_law_straight" Al f29 fd29)
    (a30:PySem.W.nsIn K mainGlobals "law" = some (some (.ref f30))) (l30:K.lookup f30=some ⟨oc30,od30,.func (PySem.W.fnOf "law" "law" (Eh Nv) (Bp Nv) (dh Nv) .none kV30 dc30 pm30 an30 cd30 ct30),sl30⟩) (c30:PySem.W.codeIn K cd30 "law" = true) (k30:PySem.W.keepIn K (.ref f30)=true)
    (z_all:PySem.W.nsIn K mainGlobals "all" = some none)
    (z_any:PySem.W.nsIn K mainGlobals "any" = some none)
    (z_enumerate:PySem.W.nsIn K mainGlobals "enumerate" = some none)
    (z_isinstance:PySem.W.nsIn K mainGlobals "isinstance" = some none)
    (z_len:PySem.W.nsIn K mainGlobals "len" = some none)
    (z_list:PySem.W.nsIn K mainGlobals "list" = some none)
    (z_min:PySem.W.nsIn K mainGlobals "min" = some none)
    (z_range:PySem.W.nsIn K mainGlobals "range" = some none)
    (z_set:PySem.W.nsIn K mainGlobals "set" = some none)
    (z_sorted:PySem.W.nsIn K mainGlobals "sorted" = some none)
    (z_tuple:PySem.W.nsIn K mainGlobals "tuple" = some none)
    : ∃ fd:FuncData,(∀ (s:Shared) (v:Value),BindsTo s fd ⟨[v],[]⟩ [("_law_script",v)])∧∀ base:Heap,K.In base→base.Ns mainGlobals mg→Bf l.prog w K mg base CX0 44 fa fd ["_law_script"] (spF K 1 _root_.K.Yr):=by
  have e:=hfa.symm.trans (PySem.W.mg_of X G a30)
  cases e
  have F30:=a6b (st:=Nv) l30 c30 k30
  have b_all:=PySem.W.mg_none_of X G z_all
  have b_any:=PySem.W.mg_none_of X G z_any
  have b_enumerate:=PySem.W.mg_none_of X G z_enumerate
  have b_isinstance:=PySem.W.mg_none_of X G z_isinstance
  have b_len:=PySem.W.mg_none_of X G z_len
  have b_list:=PySem.W.mg_none_of X G z_list
  have b_min:=PySem.W.mg_none_of X G z_min
  have b_range:=PySem.W.mg_none_of X G z_range
  have b_set:=PySem.W.mg_none_of X G z_set
  have b_sorted:=PySem.W.mg_none_of X G z_sorted
  have b_tuple:=PySem.W.mg_none_of X G z_tuple
  refine ⟨PySem.W.fnOf "law" "law" (Eh Nv) (Bp Nv) (dh Nv) .none kV30 dc30 pm30 an30 cd30 ct30,fun s v=>.of_eq rfl,fun base _ _=>?_⟩
  have d_boxes_of:=Uy (P:=l.prog) (w:=w) (base:=base) h1.F (h1.m X G)
  have d_members_of:=Ov (P:=l.prog) (w:=w) (base:=base) h2.F (h2.m X G)
  have d_parts_of:=Us (P:=l.prog) (w:=w) (base:=base) h3.F (h3.m X G) d_members_of b_len
  have d_boxes_from_left:=Hy (P:=l.prog) (w:=w) (base:=base) h4.F (h4.m X G) d_boxes_of d_parts_of
  have d_ats_from_left:=Jh (P:=l.prog) (w:=w) (base:=base) h5.F (h5.m X G) d_parts_of
  have d_boxes_in:=Uk (P:=l.prog) (w:=w) (base:=base) h6.F (h6.m X G) d_boxes_from_left b_set b_sorted
  have d_hands_in:=Uj (P:=l.prog) (w:=w) (base:=base) h7.F (h7.m X G) d_ats_from_left b_set b_sorted
  have d_meets:=a3o (P:=l.prog) (w:=w) (base:=base) h8.F (h8.m X G) b_any
  have d_changed_by:=Px (P:=l.prog) (w:=w) (base:=base) h9.F (h9.m X G)
  have d_named_by:=Ui (P:=l.prog) (w:=w) (base:=base) h10.F (h10.m X G) d_boxes_in d_boxes_of d_changed_by d_hands_in
  have d_parted:=a1l (P:=l.prog) (w:=w) (base:=base) h11.F (h11.m X G) d_changed_by d_meets d_named_by
  have d_places_by_number:=Gj (P:=l.prog) (w:=w) (base:=base) h12.F (h12.m X G) b_enumerate
  have d_clashes_among:=Jj (P:=l.prog) (w:=w) (base:=base) h13.F (h13.m X G) d_parted
  have d_is_free:=Yt (P:=l.prog) (w:=w) (base:=base) h14.F (h14.m X G) b_all
  have d_straight:=Ut (P:=l.prog) (w:=w) (base:=base) h15.F (h15.m X G) d_clashes_among d_is_free d_places_by_number b_len b_list b_min
  have d_law_cell_at:=Ml (P:=l.prog) (w:=w) (base:=base) h16.F (h16.m X G) b_len
  have d_law_pick:=Ti (P:=l.prog) (w:=w) (base:=base) h17.F (h17.m X G) b_len
  have d_law_name:=Tf (P:=l.prog) (w:=w) (base:=base) h18.F (h18.m X G)
  have d_law_sum:=Xq (P:=l.prog) (w:=w) (base:=base) h19.F (h19.m X G) d_law_pick b_sorted b_tuple
  have d_law_simple:=O1 (P:=l.prog) (w:=w) (base:=base) h20.F (h20.m X G) d_law_pick d_law_sum b_len
  have d_law_remark:=Om (P:=l.prog) (w:=w) (base:=base) h21.F (h21.m X G) d_law_pick d_law_simple b_range b_tuple
  have d_law_boxes:=Qz (P:=l.prog) (w:=w) (base:=base) h22.F (h22.m X G) d_law_name d_law_pick b_range
  have d_law_step:=T9 (P:=l.prog) (w:=w) (base:=base) h23.F (h23.m X G) d_law_pick d_law_remark d_law_sum b_len b_sorted b_tuple
  have d_law_program:=Mh (P:=l.prog) (w:=w) (base:=base) h24.F (h24.m X G) d_law_boxes d_law_cell_at d_law_name d_law_pick d_law_step b_range
  have g_law_boxes_of:=Dt (P:=l.prog) (w:=w) (base:=base) h25.F (h25.m X G) 40
  have d_law_boxes_of:=g_law_boxes_of
  have g_law_ats_of:=G8 (P:=l.prog) (w:=w) (base:=base) h26.F (h26.m X G) 40
  have d_law_ats_of:=g_law_ats_of
  have d_law_meddles:=Ma (P:=l.prog) (w:=w) (base:=base) h27.F (h27.m X G) d_law_ats_of d_law_boxes_of
  have d_law_parted:=O8 (P:=l.prog) (w:=w) (base:=base) h28.F (h28.m X G) d_law_meddles
  have d_law_straight:=Kp (P:=l.prog) (w:=w) (base:=base) h29.F (h29.m X G) d_law_parted b_len b_list b_range
  exact a9h F30 d_law_program d_law_straight d_straight b_isinstance b_len b_list
theorem walk {l:PySem.W.OpenLaw} {q:Program} {loose:List Str} {XP:(Str→Option Value)→Heap→Prop} {YP:World→Heap→Prop} {d:DefRec} {K:Params→PySem.W.Frag} (hn:l.most=some 63) (hdf:d.params.defaults=[])
    (hY:∀ (w:World) (h:Heap),YP w h→(K w.params).In h)
    (F:∀ (w:World) (mg:Str→Option Value) (fa:Addr) (h:Heap),(K w.params).In h→h.Ns mainGlobals mg→mg d.name=some (.ref fa) →
      ∃ fd:FuncData,(∀ (s:Shared) (u:Value),BindsTo s fd ⟨[u],[]⟩ [("_law_script",u)])∧∀ base:Heap,(K w.params).In base→base.Ns mainGlobals mg→Bf l.prog w (K w.params) mg base CX0 44 fa fd ["_law_script"] (spF (K w.params) 1 _root_.K.Yr)) :
    PySem.W.WalkO q loose XP YP l.row.toRowW d [] (fun f vs=>PySem.call f vs) :=
  L2.a84 (n:=63) (k:=44) (x := "_law_script") (CX:=fun _=>CX0) (sp:=fun w=>spF (K w.params) 1 _root_.K.Yr) hn (by decide) hdf ⟨rfl,by decide,by decide⟩ hY F (fun w H a ns hl _ hS=>a83 hS (_root_.K.a4t (cs:=ns) hl)) fun _ _ _ _ _ z=>z
end D
theorem PySem.W.Fast.tw13419818333366601696:True:=⟨⟩
theorem PySem.W.Fast.tw17216534235274680193:True:=⟨⟩
theorem PySem.W.Fast.tw11645169304446551780:True:=⟨⟩
theorem PySem.W.Fast.tw4038924606261540903:True:=⟨⟩
theorem PySem.W.Fast.tw4799368155771479207:True:=⟨⟩
theorem PySem.W.Fast.tw7458103134628489417:True:=⟨⟩
theorem PySem.W.Fast.tw11024720481578822416:True:=⟨⟩
theorem PySem.W.Fast.tw11925089708194146963:True:=⟨⟩
theorem PySem.W.Fast.tw5599845196036798813:True:=⟨⟩
theorem PySem.W.Fast.tw14901188420018272893:True:=⟨⟩
theorem PySem.W.Fast.tw9544196416272344670:True:=⟨⟩
theorem PySem.W.Fast.tw17103642483365315582:True:=⟨⟩
theorem PySem.W.Fast.tw14439755667347416171:True:=⟨⟩
theorem PySem.W.Fast.tw4368534434981566016:True:=⟨⟩
open PySem PySem.W PyProof.Rows
set_option maxRecDepth 100000 in
set_option maxHeartbeats 0 in
theorem PySem.Challenge.cw_calm_k32_straightened_holds : PySem.Challenge.rw_calm_k32_straightened.Holds := by
  w_on; o_law; k_head; (case hw=>w_witness2)
  k_fill
  refine D.walk (l:=PySem.Challenge.rw_calm_k32_straightened) rfl rfl (fun w h Y=>PySem.W.kIn_of Y) ?F
  case F =>
    intro w mg fa h KX G hmg
    refine' D.all_mk KX G hmg ?h1 ?h2 ?h3 ?h4 ?h5 ?h6 ?h7 ?h8 ?h9 ?h10 ?h11 ?h12 ?h13 ?h14 ?h15 ?h16 ?h17 ?h18 ?h19 ?h20 ?h21 ?h22 ?h23 ?h24 ?h25 ?h26 ?h27 ?h28 ?h29 ?a30 ?l30 ?c30 ?k30 ?z_all ?z_any ?z_enumerate ?z_isinstance ?z_len ?z_list ?z_min ?z_range ?z_set ?z_sorted ?z_tuple
    case h1 | h2 | h3 | h4 | h5 | h6 | h7 | h8 | h9 | h10 | h11 | h12 | h13 | h14 | h15 | h16 | h17 | h18 | h19 | h20 | h21 | h22 | h23 | h24 | h25 | h26 | h27 | h28 | h29=>refine' D.abz ?a ?l ?c ?k; (case a=>k_is); (case l=>k_is); (case c=>k_is); (case k=>k_is)
    case a30 | l30 | c30 | k30 | z_all | z_any | z_enumerate | z_isinstance | z_len | z_list | z_min | z_range | z_set | z_sorted | z_tuple=>k_is
#print axioms PySem.Challenge.cw_calm_k32_straightened_holds
end
