import PyProof.Rows.All
import Wide.All
import OpenK.AllK
import Wide.FinOn
import Lean
import PyProof.EqAt
import PyProof.EqKinds
import PyProof.TupleCall
import PyProof.P3Statements
import PyProof.Lay0
import PyProof.P3Eq
import PyProof.NeData
import KE.KEqDict
import PyProof.ListRange
import KE.KDictSum
import PyProof.AttrMissHeap
import PyProof.WalksS
import KE.KDictOf
import KE.KRevSl
import PyProof.ZipIter
import PyProof.WalksMore
import PyProof.Rows.FactsT2
import PyProof.Rows.SetFrom
import PyProof.Rows.SortStr
import KE.KDictList
import PyProof.FactsAll.set
import PyProof.CollectWalk
import KE.KSortTup
import PySem.Challenge.RW_calm_k04_refusals
set_option Elab.async false
set_option linter.all false
set_option maxRecDepth 100000
set_option maxHeartbeats 8000000
section
namespace L2
open PySem PySem.Spec PyProof.Rows
abbrev Key:=Sum Int Str
def Dw:Key→Value→Bool
  | .inl k,v=>Value.isInt k v
  | .inr x,v=>Value.isStrOf x v
def Sv (w:World):Key→Int
  | .inl k=>hashInt k
  | .inr x=>hashStr w x
theorem iw:∀ {k:Key} {v:Value},Dw k v=true→(∃ i t,k=Sum.inl i∧v=Value.int i t)∨(∃ x t,k=Sum.inr x∧v=Value.str x t)
  | .inl i,v,h=>by
    obtain ⟨t,e⟩:=Value.isInt_shape (k:=i) (v:=v) h
    exact .inl ⟨i,t,rfl,e⟩
  | .inr x,v,h=>by
    obtain ⟨t,e⟩:=Value.isStrOf_shape (x:=x) (v:=v) h
    exact .inr ⟨x,t,rfl,e⟩
theorem G4 (i:Int) (t:Tok):Dw (.inl i) (.int i t)=true:=by simp [Dw,Value.isInt]
theorem Gn (x:Str) (t:Tok):Dw (.inr x) (.str x t)=true:=by simp [Dw,Value.isStrOf]
theorem O6 (a b:Int):decide ((Sum.inl a:Key)=Sum.inl b)=(a==b):=by
  by_cases e:a=b
  · subst e; simp
  · have h:¬ (Sum.inl a:Key)=Sum.inl b:=fun q=>e (Sum.inl.inj q)
    rw [decide_eq_false h]
    exact (beq_eq_false_iff_ne.mpr e).symm
theorem Oc (a b:Str):decide ((Sum.inr a:Key)=Sum.inr b)=decide (a=b):=by
  by_cases e:a=b
  · subst e; simp
  · have h:¬ (Sum.inr a:Key)=Sum.inr b:=fun q=>e (Sum.inr.inj q)
    rw [decide_eq_false h,decide_eq_false e]
theorem Nf (a:Int) (b:Str):decide ((Sum.inl a:Key)=Sum.inr b)=false:=decide_eq_false (fun q=>nomatch q)
theorem Nv (a:Str) (b:Int):decide ((Sum.inr a:Key)=Sum.inl b)=false:=decide_eq_false (fun q=>nomatch q)
def jq (prog:Program) (w:World):PySem.KeyKind prog w Key where
  is:=Dw
  hash:=Sv w
  inj:=fun v a b ha hb=>by
    rcases iw ha with ⟨i,t,rfl,rfl⟩ | ⟨x,t,rfl,rfl⟩
    · rcases iw hb with ⟨j,u,rfl,e⟩ | ⟨y,u,rfl,e⟩
      · injection e with e1 _; rw [e1]
      · exact nomatch e
    · rcases iw hb with ⟨j,u,rfl,e⟩ | ⟨y,u,rfl,e⟩
      · exact nomatch e
      · injection e with e1 _; rw [e1]
  byValue:=fun k v h=>by
    rcases iw h with ⟨i,t,rfl,rfl⟩ | ⟨x,t,rfl,rfl⟩ <;> rfl
  pyHash:=fun hv h=>by
    rcases iw hv with ⟨i,t,rfl,rfl⟩ | ⟨x,t,rfl,rfl⟩
    · exact wpAny_pyHash_int h
    · exact wpAny_pyHash_str h
  eqBool:=fun hu hv h=>by
    rcases iw hu with ⟨i,t,rfl,rfl⟩ | ⟨x,t,rfl,rfl⟩
    · rcases iw hv with ⟨j,u,rfl,rfl⟩ | ⟨y,u,rfl,rfl⟩
      · rw [O6] at h; exact wpAny_eqBool_int h
      · rw [Nf] at h; exact SeqAt.EqAt.int_str i t y u _ _ _ _ h
    · rcases iw hv with ⟨j,u,rfl,rfl⟩ | ⟨y,u,rfl,rfl⟩
      · rw [Nv] at h; exact SeqAt.EqAt.str_int x t j u _ _ _ _ h
      · rw [Oc] at h; exact wpAny_eqBool_str h
  «strs»:=fun k x t v h=>by
    rcases iw h with ⟨i,u,rfl,e⟩ | ⟨y,u,rfl,e⟩
    · exact nomatch e
    · injection e with e1 _
      subst e1
      cases v <;> rfl
theorem Bs (prog:Program) (w:World) (i:Int) (t:Tok):(jq prog w).is (.inl i) (.int i t)=true:=G4 i t
theorem Bv (prog:Program) (w:World) (x:Str) (t:Tok):(jq prog w).is (.inr x) (.str x t)=true:=Gn x t
end L2
namespace L2
open PySem PySem.Spec PyProof.Rows
inductive V where
  | non | bl (b:Bool) | int (i:Int) | str (x:Str) | byt (b:Array UInt8) | flt (b:UInt64) | ref (a:Addr) | ty (n:String)
  deriving DecidableEq
def RelV:V→Value→Prop
  | .non,u=>u=Value.none
  | .bl b,u=>u=Value.bool b
  | .int i,u=>∃ t,u=Value.int i t
  | .str x,u=>∃ t,u=Value.str x t
  | .byt b,u=>∃ t,u=Value.bytes b t
  | .flt b,u=>∃ t,u=Value.float b t
  | .ref a,u=>u=Value.ref a
  | .ty n,u=>u=Value.type n
abbrev Vals:List V→List Value→Prop:=Paired RelV
theorem Vals.length {xs:List V} {us:List Value} (r:Vals xs us):xs.length=us.length:=Paired.length r
theorem Vals.get:∀ {xs:List V} {us:List Value} {i:Nat} {x:V},Vals xs us→xs[i]? = some x→∃ u,us[i]? = some u∧RelV x u
  | _,_,_,_,.nil,e=>by simp at e
  | _,_,0,_,.cons r _,e=>by simp at e; subst e; exact ⟨_,rfl,r⟩
  | _,_,i+1,x,.cons _ t,e=>by
    obtain ⟨u,h1,h2⟩:=Vals.get (i:=i) (x:=x) t (by simpa using e)
    exact ⟨u,by simpa using h1,h2⟩
theorem Vals.set {x:V} {u:Value} (r:RelV x u):∀ {xs:List V} {us:List Value} (i:Nat),Vals xs us→Vals (xs.set i x) (us.set i u)
  | _,_,_,.nil=>.nil
  | _,_,0,.cons _ t=>.cons r t
  | _,_,i+1,.cons q t=>.cons q (Vals.set r i t)
theorem Vals.append {xs ys:List V} {us ws:List Value} (r:Vals xs us) (s:Vals ys ws):Vals (xs++ys) (us++ws):=by
  induction r with
  | nil=>exact s
  | cons r _ ih=>exact .cons r ih
def Dh:Option V→Option Value→Prop
  | some v,some u=>RelV v u
  | none,none=>True
  | _,_=>False
def KV {κ:Type}:List (κ × V)→List (κ × Value)→Prop:=Paired fun (p:κ × V) (q:κ × Value)=>p.1=q.1∧RelV p.2 q.2
def kV:Key→V
  | .inl i=>.int i
  | .inr x=>.str x
inductive HO where
  /-- a list -/
  | lst (xs:List V)
  /-- a tuple (never changes) -/
  | tup (xs:List V)
  /-- a dict whose keys are ints and texts; one whose keys are tuples of ints and texts (the empty one is both) -/
  | dK (kvs:List (Key × V)) | dT (kvs:List (List Key × V))
  /-- a set of ints: its members,its size -/
  | set (S:Int→Bool) (n:Nat)
  /-- an instance of the class at C,its dict at dx,its attributes -/
  | ins (C dx:Addr) (fs:List (Str × V))
  /-- the dict of the instance at x -/
  | own (x:Addr)
  /-- the dict of an exception -/
  | xd (fs:List (Str × V))
  /-- a bound method,f of x -/
  | met (f x:Addr)
  /-- a range object lo,lo+1,.. below hi -/
  | rng (lo hi:Int)
  /-- a thing that is known to the object (the script; a dict while a loop walks it): read,never written while it is so -/
  | frz (o:Obj) (u:HO)
  /-- a code object's table -/
  | tbl (ps:Array Value)
  /-- any other thing,by what is true of its one object (a def of one's own: SetO a S n:=HO.ext fun h=>..) -/
  | ext (φ:Heap→Prop)
abbrev Hp:=Addr→Option HO
def upd (H:Hp) (a:Addr) (o:HO):Hp:=fun b=>if b=a then some o else H b
theorem aq {H:Hp} {a:Addr} {o:HO}:upd H a o a=some o:=by unfold upd; rw [if_pos rfl]
theorem ao {H:Hp} {a b:Addr} {o:HO} (h:b≠a):upd H a o b=H b:=by unfold upd; rw [if_neg h]
theorem jc {H:Hp} {a b:Addr} {o:HO} (h:H a=some o) (h':H b=none):a≠b:=by
  intro e; subst e; rw [h] at h'; cases h'
def Mq (h:Heap) (a:Addr) (items:Array Value):Prop:=∃ o,h.get? a=some o∧o.cls=.type "tuple" ∧ o.dict=none∧∃ n,o.data=.seq items n
theorem Mq.is {h:Heap} {a:Addr} {items:Array Value} (x:Mq h a items):IsTup h a items:=let ⟨o,e,c,_,d⟩:=x; ⟨o,e,c,d⟩
theorem Mq.new (h:Heap) (items:Array Value):Mq (h.push { cls:=.type "tuple",data:=.seq items }) h.objs.size items:=⟨_,Heap.get?_push_size _ rfl,rfl,rfl,0,rfl⟩
section
variable (P:Program) (w:World)
def jy (H:Hp) (h:Heap) (a:Addr):HO→Prop
  | .lst xs=>xs.length≤sizeLine∧∃ (its:List Value) (n:Nat),Vals xs its∧h.get? a=some { cls:=.type "list",data:=.seq its.toArray n }
  | .tup xs=>xs.length≤sizeLine∧∃ its:List Value,Vals xs its∧Mq h a its.toArray
  | .dK kvs=>kvs.length≤sizeLine∧(a==sysModules)=false∧∃ vs,KV kvs vs∧h.DictOf (jq P w) a vs
  | .dT kvs=>kvs.length≤sizeLine∧(a==sysModules)=false∧∃ xs:List (List Key × Addr × Value),
      Paired (fun (p:List Key × V) (q:List Key × Addr × Value)=>p.1=q.1∧H q.2.1=some (.tup (p.1.map kV))∧RelV p.2 q.2.2) kvs xs ∧
      ∃ o es ep,h.get? a=some o∧o.ExactDict∧o.data=.dict es ep∧es.toList=xs.map (entryOfKey (tupleKind (jq P w)))∧(xs.map (·.1)).Nodup
  | .set S n=>h.SetOf (intKind P w) a S n
  | .ins C dx fs=>H dx=some (.own a)∧fs.length≤1000∧dx≠a∧h.get? a=some (PySem.W.instObj C dx) ∧
      ∃ mA,h.Ns1 dx mA∧(∀ f,Dh (fs.lookup f) (mA f))∧PySem.Within mA (fs.map (·.1))
  | .own _=>∃ o,h.get? a=some o
  | .xd fs=>∃ mA,h.Ns1 a mA∧∀ f,Dh (fs.lookup f) (mA f)
  | .rng lo hi=>∃ t u v,h.get? a=some { cls:=.type "range",data:=.fields #[.int lo t,.int hi u,.int 1 v] }
  | .frz o u=>h.get? a=some o∧jy H h a u
  | .tbl ps=>h.get? a=some { cls:=.none,data:=.fields ps }
  | .met f x=>h.get? a=some (PySem.W.methodObj (.ref f) (.ref x))
  | .ext φ=>φ h∧(∃ o,h.get? a=some o)∧∀ h1 h2:Heap,φ h1→(∀ o,h1.get? a=some o→h2.get? a=some o)→φ h2
def HOk (H:Hp) (h:Heap):Prop:=∀ a o,H a=some o→jy P w H h a o
end
section
variable {P:Program} {w:World} {H H':Hp} {h h':Heap} {a:Addr} {o:HO}
theorem jy.lt (x:jy P w H h a o):a<h.objs.size:=by
  cases o with
  | lst xs=>obtain ⟨_,_,_,_,e⟩:=x; exact Heap.lt_size e
  | tup xs=>obtain ⟨_,_,_,p⟩:=x; exact p.is.lt
  | dK kvs=>obtain ⟨_,_,_,_,o,_,_,e,_⟩:=x; exact Heap.lt_size e
  | dT kvs=>obtain ⟨_,_,_,_,o,_,_,e,_⟩:=x; exact Heap.lt_size e
  | set S n=>obtain ⟨o,_,_,_,e,_⟩:=x; exact Heap.lt_size e
  | ins C dx fs=>obtain ⟨_,_,_,e,_⟩:=x; exact Heap.lt_size e
  | own y=>obtain ⟨_,e⟩:=x; exact Heap.lt_size e
  | xd fs=>obtain ⟨_,⟨_,_,_,e,_⟩,_⟩:=x; exact Heap.lt_size e
  | rng lo hi=>obtain ⟨_,_,_,e⟩:=x; exact Heap.lt_size e
  | frz ob u=>obtain ⟨e,_⟩:=x; exact Heap.lt_size e
  | tbl ps=>exact Heap.lt_size (show h.get? a=some _ from x)
  | met f y=>exact Heap.lt_size (show h.get? a=some _ from x)
  | ext φ=>obtain ⟨_,⟨_,e⟩,_⟩:=x; exact Heap.lt_size e
theorem Paired.T5 {α β:Type} {F G:α→β→Prop} {l₁:List α} {l₂:List β} (r:Paired F l₁ l₂) (f:∀ a b,F a b→G a b):Paired G l₁ l₂:=by
  induction r with
  | nil=>exact .nil
  | cons r _ ih=>exact .cons (f _ _ r) ih
theorem jy.stay (x:jy P w H h a o) (k:∀ b u,(b=a∨H b=some (.own a))→h.get? b=some u→h'.get? b=some u)
    (ho:∀ b,H b=some (.own a)→H' b=some (.own a)) (ht:∀ b xs,H b=some (.tup xs)→H' b=some (.tup xs)):jy P w H' h' a o:=by
  induction o with
  | lst xs=>obtain ⟨z,its,n,r,e⟩:=x; exact ⟨z,its,n,r,k _ _ (.inl rfl) e⟩
  | tup xs=>obtain ⟨z,its,r,ob,e,c⟩:=x; exact ⟨z,its,r,ob,k _ _ (.inl rfl) e,c⟩
  | dK kvs=>obtain ⟨z,y,vs,r,ob,es,ep,e,c⟩:=x; exact ⟨z,y,vs,r,ob,es,ep,k _ _ (.inl rfl) e,c⟩
  | dT kvs =>
    obtain ⟨z,y,xs,r,ob,es,ep,e,c⟩:=x
    exact ⟨z,y,xs,Paired.T5 r fun p q z=>⟨z.1,ht _ _ z.2.1,z.2.2⟩,ob,es,ep,k _ _ (.inl rfl) e,c⟩
  | set S n=>obtain ⟨ob,es,ep,t,e,c⟩:=x; exact ⟨ob,es,ep,t,k _ _ (.inl rfl) e,c⟩
  | ins C dx fs =>
    obtain ⟨d,z,ne,e,mA,⟨od,es,ep,e2,c⟩,r⟩:=x
    exact ⟨ho _ d,z,ne,k _ _ (.inl rfl) e,mA,⟨od,es,ep,k _ _ (.inr d) e2,c⟩,r⟩
  | own y=>obtain ⟨ob,e⟩:=x; exact ⟨ob,k _ _ (.inl rfl) e⟩
  | xd fs=>obtain ⟨mA,⟨od,es,ep,e,c⟩,r⟩:=x; exact ⟨mA,⟨od,es,ep,k _ _ (.inl rfl) e,c⟩,r⟩
  | rng lo hi=>obtain ⟨t,u,v,e⟩:=x; exact ⟨t,u,v,k _ _ (.inl rfl) e⟩
  | frz ob u ih=>obtain ⟨e,q⟩:=x; exact ⟨k _ _ (.inl rfl) e,ih q⟩
  | tbl ps =>
    have e:h.get? a=some { cls:=.none,data:=.fields ps }:=x
    show h'.get? a=some { cls:=.none,data:=.fields ps }
    exact k a _ (.inl rfl) e
  | met f y =>
    have e:h.get? a=some (PySem.W.methodObj (.ref f) (.ref y)):=x
    show h'.get? a=some (PySem.W.methodObj (.ref f) (.ref y))
    exact k a _ (.inl rfl) e
  | ext φ=>obtain ⟨p,⟨o,e⟩,st⟩:=x; exact ⟨st _ _ p fun o q=>k _ _ (.inl rfl) q,⟨o,k _ _ (.inl rfl) e⟩,st⟩
theorem HOk.lt (x:HOk P w H h) (e:H a=some o):a<h.objs.size:=(x a o e).lt
theorem HOk.fresh (x:HOk P w H h) (e:h.objs.size≤a):H a=none:=by
  cases q:H a with
  | none=>rfl
  | some u=>exact absurd (Nat.lt_of_lt_of_le (x.lt q) e) (Nat.lt_irrefl _)
theorem HOk.kept (x:HOk P w H h) (k:∀ b u,h.get? b=some u→h'.get? b=some u):HOk P w H h':=fun a o e =>
  (x a o e).stay (fun b u _ q=>k b u q) (fun _ q=>q) fun _ _ q=>q
theorem HOk.laid (x:HOk P w H h) (k:∀ b u,h.get? b=some u→h'.get? b=some u) (hp:h.objs.size≤a) (new:jy P w (upd H a o) h' a o):HOk P w (upd H a o) h':=fun b u e=>by
  have hn:=x.fresh hp
  by_cases hb:b=a
  · subst hb; rw [aq] at e; cases e; exact new
  · rw [ao hb] at e
    exact (x b u e).stay (fun c v _ q=>k c v q) (fun c q=>by rw [ao (jc q hn)]; exact q) fun c xs q=>by rw [ao (jc q hn)]; exact q
end
def Rd (H:Hp) (a:Addr) (u:HO):Prop:=H a=some u∨∃ o,H a=some (.frz o u)
theorem Rd.of {H:Hp} {a:Addr} {u:HO} (h:H a=some u):Rd H a u:=.inl h
theorem Rd.ok {P:Program} {w:World} {H:Hp} {h:Heap} {a:Addr} {u:HO} (r:Rd H a u) (x:HOk P w H h):jy P w H h a u:=by
  rcases r with r | ⟨o,r⟩
  · exact x a u r
  · obtain ⟨_,q⟩:=x a _ r
    exact q
def Mut:Option HO→Prop
  | some (.lst _)=>True
  | some (.dK _)=>True
  | some (.dT _)=>True
  | some (.set _ _)=>True
  | some (.ins _ _ _)=>True
  | some (.ext _)=>True
  | _=>False
section
variable {P:Program} {w:World} {H:Hp} {h h':Heap} {x e:Addr} {o':HO}
theorem HOk.write (ok:HOk P w H h) (mu:Mut (H x)) (he:e=x∨H e=some (.own x)) (k:∀ b u,b≠e→h.get? b=some u→h'.get? b=some u) (heo:∃ u,h'.get? e=some u)
    (new:jy P w (upd H x o') h' x o'):HOk P w (upd H x o') h':=fun b u q=>by
  have nown:∀ c y,H c=some (.own y)→c≠x:=fun c y r z=>by subst z; rw [r] at mu; exact mu
  have ntup:∀ c xs,H c=some (.tup xs)→c≠x:=fun c xs r z=>by subst z; rw [r] at mu; exact mu
  by_cases hb:b=x
  · subst hb; rw [aq] at q; cases q; exact new
  · rw [ao hb] at q
    by_cases hbe:b=e
    · have q':H b=some (.own x):=by
        rcases he with z | z
        · exact absurd (hbe.trans z) hb
        · rw [hbe]; exact z
      rw [q] at q'; cases q'
      obtain ⟨v,hv⟩:=heo
      exact ⟨v,by rw [hbe]; exact hv⟩
    · refine (ok b u q).stay (fun c v hc r=>k c v ?_ r) (fun c r=>by rw [ao (nown c b r)]; exact r) fun c xs r=>by rw [ao (ntup c xs r)]; exact r
      rcases hc with rfl | hc
      · exact hbe
      · rintro rfl
        rcases he with z | z
        · exact nown c b hc z
        · rw [hc] at z; cases z; exact hb rfl
end
structure Un (fs ex:List Addr) (H H':Hp) (h h':Heap):Prop where
  keep:∀ b o,h.get? b=some o→H b=none→b∉fs→b∉ex→h'.get? b=some o
  slot:∀ b o,h.get? b=some o→H b=none→b∈fs→b∉ex→∃ sl,h'.get? b=some { o with slots:=sl }
  free:∀ b o,h.get? b=some o→H b=none→b∉ex→H' b=none
  there:∀ b o,h.get? b=some o→b∉ex→∃ o',h'.get? b=some o'
  tups:∀ b xs,H b=some (.tup xs)→H' b=some (.tup xs)
  frzs:∀ b o u,H b=some (.frz o u)→H' b=some (.frz o u)
  tbls:∀ b ps,H b=some (.tbl ps)→∃ more,H' b=some (.tbl (ps++more))
section
variable {fs fs' ex ex':List Addr} {H H1 H2:Hp} {h h1 h2 h':Heap} {a x e:Addr} {o:HO}
theorem Un.any (u:Un fs ex H H1 h h1) {b:Addr} {ob:Obj} (q:h.get? b=some ob) (n:H b=none) (hx:b∉ex):∃ sl,h1.get? b=some { ob with slots:=sl }:=by
  by_cases hb:b∈fs
  · exact u.slot b ob q n hb hx
  · exact ⟨ob.slots,u.keep b ob q n hb hx⟩
theorem Un.trans (a:Un fs ex H H1 h h1) (b:Un fs ex H1 H2 h1 h2):Un fs ex H H2 h h2 where
  keep:=fun c ob q n hc hx=>b.keep c ob (a.keep c ob q n hc hx) (a.free c ob q n hx) hc hx
  slot:=fun c ob q n hc hx=>by
    obtain ⟨sl,e1⟩:=a.slot c ob q n hc hx
    obtain ⟨sl',e2⟩:=b.slot c _ e1 (a.free c ob q n hx) hc hx
    exact ⟨sl',e2⟩
  free:=fun c ob q n hx=>by
    obtain ⟨o',e1⟩:=a.there c ob q hx
    exact b.free c o' e1 (a.free c ob q n hx) hx
  there:=fun c ob q hx=>by
    obtain ⟨o',e1⟩:=a.there c ob q hx
    exact b.there c o' e1 hx
  tups:=fun c xs q=>b.tups c xs (a.tups c xs q)
  frzs:=fun c ob xs q=>b.frzs c ob xs (a.frzs c ob xs q)
  tbls:=fun c ps q=>by
    obtain ⟨m1,e1⟩:=a.tbls c ps q
    obtain ⟨m2,e2⟩:=b.tbls c _ e1
    exact ⟨m1++m2,by rw [e2,Array.append_assoc]⟩
theorem Un.kept (k:∀ b u,h.get? b=some u→h'.get? b=some u):Un fs ex H H h h' :=
  ⟨fun b ob q _ _ _=>k b ob q,fun b ob q _ _ _=>⟨ob.slots,k b ob q⟩,fun _ _ _ n _=>n,fun b ob q _=>⟨ob,k b ob q⟩,fun _ _ q=>q,fun _ _ _ q=>q,fun _ ps q=>⟨#[],by rw [q]; simp⟩⟩
theorem Un.refl:Un fs ex H H h h:=Un.kept fun _ _ q=>q
theorem Un.laid (k:∀ b u,h.get? b=some u→h'.get? b=some u) (hp:h.objs.size≤a) (hn:H a=none):Un fs ex H (upd H a o) h h' where
  keep:=fun b u q _ _ _=>k b u q
  slot:=fun b u q _ _ _=>⟨u.slots,k b u q⟩
  free:=fun b u q n _=>by rw [ao (Nat.ne_of_lt (Nat.lt_of_lt_of_le (Heap.lt_size q) hp))]; exact n
  there:=fun b u q _=>⟨u,k b u q⟩
  tups:=fun b xs q=>by rw [ao (jc q hn)]; exact q
  frzs:=fun b u xs q=>by rw [ao (jc q hn)]; exact q
  tbls:=fun b ps q=>⟨#[],by rw [ao (jc q hn),q]; simp⟩
theorem Un.write (mu:Mut (H x)) (he:e=x∨H e=some (.own x)) (k:∀ b u,b≠e→h.get? b=some u→h'.get? b=some u) (heo:∃ u,h'.get? e=some u):Un fs ex H (upd H x o) h h':=by
  have hx:∀ b,H b=none→b≠x:=fun b n z=>by subst z; rw [n] at mu; exact mu
  have hb:∀ b,H b=none→b≠e:=fun b n z=>by
    subst z
    rcases he with r | r
    · exact hx b n r
    · rw [n] at r; cases r
  have hm:∀ b u,H b=some u→¬ Mut (some u)→b≠x:=fun b u q nm z=>by subst z; rw [q] at mu; exact nm mu
  refine ⟨fun b u q n _ _=>k b u (hb b n) q,fun b u q n _ _=>⟨u.slots,k b u (hb b n) q⟩,fun b u q n _=>by rw [ao (hx b n)]; exact n,fun b u q _=>?_,
    fun b xs q=>by rw [ao (hm b _ q fun z=>z)]; exact q,fun b u xs q=>by rw [ao (hm b _ q fun z=>z)]; exact q,fun b ps q=>⟨#[],by rw [ao (hm b _ q fun z=>z),q]; simp⟩⟩
  by_cases hbe:b=e
  · subst hbe; exact heo
  · exact ⟨u,k b u hbe q⟩
theorem Un.mono (u:Un fs ex H H1 h h1) (hs:∀ b∈fs,b∈fs') (hx:∀ b∈ex,b∈ex'):Un fs' ex' H H1 h h1 :=
  ⟨fun b ob q n hb he=>u.keep b ob q n (fun z=>hb (hs b z)) fun z=>he (hx b z),fun _ _ q n _ he=>u.any q n fun z=>he (hx _ z),fun b ob q n he=>u.free b ob q n fun z=>he (hx b z),fun b ob q he=>u.there b ob q fun z=>he (hx b z),u.tups,u.frzs,u.tbls⟩
end
def trk (h:Heap) (H:Hp):List Addr:=(List.range h.objs.size).filter fun a=>(H a).isSome
def Jk (h:Heap) (H:Hp):Heap:=PySem.W.hideAll h (trk h H)
theorem Em (h:Heap) (H:Hp):(Jk h H).objs.size=h.objs.size:=PySem.W.hideAll_size _ _
theorem Ji {h:Heap} {H:Hp} {b:Addr} {o:Obj} (e:h.get? b=some o) (n:H b=none):(Jk h H).get? b=some o :=
  PySem.W.hideAll_get _ e fun hm=>by
    have q:(H b).isSome=true:=(List.mem_filter.mp hm).2
    rw [n] at q; simp at q
theorem Mj {h:Heap} {H:Hp} {b:Addr} {o:Obj} (e:(Jk h H).get? b=some o):h.get? b=some o∧H b=none:=by
  have e':h.get? b=some o:=PySem.W.of_hideAll (trk h H) e
  refine ⟨e',?_⟩
  cases q:H b with
  | none=>rfl
  | some x =>
    have hm:b∈trk h H:=List.mem_filter.mpr ⟨List.mem_range.mpr (Heap.lt_size e'),by simp [q]⟩
    have z:(Jk h H).get? b=none:=PySem.W.hideAll_none (trk h H) hm
    rw [z] at e; cases e
def Lp (g h:Heap) (L:Addr):List (Addr × Obj):=(List.range h.objs.size).filterMap fun a=>if a=L∨(g.get? a).isSome=true then none else (h.get? a).map fun o=>(a,o)
def rest (g h:Heap) (L d:Addr):List (Addr × Obj):=(Lp g h L).filter fun p=>decide (p.1≠d)
end L2
namespace L2
open PySem PySem.Spec PyProof.Rows
structure Mod (K:PySem.W.Frag) (mg:Str→Option Value) (base:Heap):Prop where
  kin:K.In base
  glob:base.Ns mainGlobals mg
  blt:∃ mb,base.Ns builtinsNs mb∧∀ x:Str,x ≠ "__name__" → mb x=bootBuiltins x
  nolimit:base.NoLimit
structure Cx where
  prog:Program
  w:World
  K:PySem.W.Frag
  mg:Str→Option Value
  base:Heap
  A:Around
  N:List Str
  s₀:Shared
  H₀:Hp
  env:Env
  outer:List Env
  stack:List Env
  ex:List Addr
  fn:Str→Bool
  calm:Bool
  pn:List (Addr × Obj)
  xe:Value→Shared→Prop
def frs (l:List Env):List Addr:=l.filterMap (·.frame)
abbrev Cx.fs (X:Cx):List Addr:=frs X.outer
def Vis (sc:Scope) (x:Str):Prop:=sc.names.lookup x=some .local∨sc.names.lookup x=some .cell∨sc.names.lookup x=some .free
def Loc (sc:Scope) (x:Str):Prop:=sc.names.lookup x=some .local∨sc.names.lookup x=some .cell
def Look (env:Env) (h:Heap) (m:Str→Option Value) (x:Str) (u:Value):Prop :=
  (env.kindOf x=some .local∧m x=some u)∨((env.kindOf x=some .cell∨env.kindOf x=some .free)∧∃ c,env.cells.lookup x=some c∧h.IsCell c (some u))
structure Cx.Ok (X:Cx):Prop where
  mod:Mod X.K X.mg X.base
  kind:X.env.scope.kind=.function
  glob:X.env.globals=mainGlobals
  blt:X.env.builtins=builtinsNs
  above:X.s₀.heap.objs.size≤X.env.locals
  inj:∀ x y c,X.env.cells.lookup x=some c→X.env.cells.lookup y=some c→x=y
  has:∀ x,(X.env.kindOf x=some .cell∨X.env.kindOf x=some .free)→∃ c,X.env.cells.lookup x=some c
  cab:∀ x c,X.fn x=true→X.env.cells.lookup x=some c→X.s₀.heap.objs.size≤c
  hd:X.calm=true→X.A.handled=none
  frames:X.A.frames=some X.stack
  stk:X.stack=X.outer∨(X.stack=X.env::X.outer∧X.env.frame=some X.env.locals)
  exf:∀ b∈X.ex,b≠X.env.locals∧∀ x c,X.env.cells.lookup x=some c→c≠b
  bs:∀ b o,X.base.get? b=some o→X.s₀.heap.get? b=some o∧X.H₀ b=none
  bsz:X.base.objs.size≤X.s₀.heap.objs.size
  noex:∀ b o,X.base.get? b=some o→b∉X.ex
  exfs:∀ b∈X.ex,b∉X.fs
  Cq:X.s₀.heap.FunFrames X.base X.outer
  frf:∀ b∈X.fs,X.H₀ b=none
structure Inv (X:Cx) (pins:List (Addr × Obj)) (σ:List (Option V)) (H:Hp) (s:Shared):Prop where
  ok:X.Ok
  os:s.os=X.s₀.os
  bare:AllBare s.gens
  base:Un X.fs X.ex X.H₀ H X.s₀.heap s.heap
  loc:∃ m,s.heap.Ns X.env.locals m∧∀ (i:Nat) (x:Str) (v:V),X.N[i]? = some x→σ[i]? = some (some v)→Vis X.env.scope x→∃ u,RelV v u∧Look X.env s.heap m x u
  cell:∀ x c,X.env.cells.lookup x=some c→∃ v,s.heap.IsCell c v
  free:H X.env.locals=none
  freeC:∀ x c,X.env.cells.lookup x=some c→H c=none
  pin:∀ p∈X.pn++pins,s.heap.get? p.1=some p.2∧H p.1=none∧p.1≠X.env.locals∧p.1∉X.fs∧∀ v,p.2.data≠.cell v
  hok:HOk X.prog X.w H s.heap
  len:σ.length=X.N.length
section
variable {X:Cx} {pins:List (Addr × Obj)} {σ:List (Option V)} {H H':Hp} {s:Shared} {h':Heap}
theorem Cx.Ok.Sy (ok:X.Ok) {b:Addr} {o:Obj} (e:X.base.get? b=some o):b∉X.fs:=fun hb=>by
  have:=(ok.Cq.mem hb).1
  rw [e] at this; cases this
theorem Inv.bs (I:Inv X pins σ H s):∀ b o,X.base.get? b=some o→s.heap.get? b=some o∧H b=none:=fun b o e =>
  ⟨I.base.keep b o (I.ok.bs b o e).1 (I.ok.bs b o e).2 (I.ok.Sy e) (I.ok.noex b o e),I.base.free b o (I.ok.bs b o e).1 (I.ok.bs b o e).2 (I.ok.noex b o e)⟩
theorem Inv.bk (I:Inv X pins σ H s):∀ b o,X.base.get? b=some o→s.heap.get? b=some o:=fun b o e=>(I.bs b o e).1
theorem Inv.mod (I:Inv X pins σ H s):Mod X.K X.mg X.base:=I.ok.mod
theorem Inv.kIn (I:Inv X pins σ H s):X.K.In s.heap:=I.ok.mod.kin.keeps I.bk
theorem Inv.fr (I:Inv X pins σ H s):∃ m,Fr X.base X.env.locals s.heap m :=
  let ⟨m,hn,_⟩:=I.loc
  ⟨m,hn,I.bk,Nat.le_trans I.ok.bsz I.ok.above⟩
theorem Inv.lt (I:Inv X pins σ H s):X.env.locals<s.heap.objs.size:=let ⟨_,hn,_⟩:=I.loc; hn.lt
theorem Inv.sz (I:Inv X pins σ H s):X.s₀.heap.objs.size≤s.heap.objs.size:=Nat.le_trans I.ok.above (Nat.le_of_lt I.lt)
theorem Inv.Sd (I:Inv X pins σ H s) {a:Addr} (h:s.heap.objs.size≤a):a∉X.fs:=fun hb=>by
  obtain ⟨_,o,ho,_⟩:=I.ok.Cq.mem hb
  exact absurd (Nat.lt_of_lt_of_le (Heap.lt_size ho) (Nat.le_trans I.sz h)) (Nat.lt_irrefl _)
theorem Inv.cne (I:Inv X pins σ H s):∀ x c,X.env.cells.lookup x=some c→c≠X.env.locals:=fun x c e z=>by
  obtain ⟨v,o,ho,hd⟩:=I.cell x c e
  obtain ⟨m,⟨o',es,ep,ho',hd',_⟩,_⟩:=I.loc
  rw [z,ho'] at ho; cases ho; rw [hd'] at hd; cases hd
theorem Inv.Cq (I:Inv X pins σ H s):s.heap.FunFrames X.base X.outer:=by
  have all:∀ (l:List Env),(∀ b∈frs l,b∈X.fs)→X.s₀.heap.FunFrames X.base l→s.heap.FunFrames X.base l:=by
    intro l
    induction l with
    | nil=>intro _ _; trivial
    | cons env r ih =>
      intro hs hl
      obtain ⟨hk,⟨L,o,hf,hn,ho,hd⟩,hr⟩:=hl
      have hL:L∈X.fs:=hs L (by unfold frs; rw [List.filterMap_cons,hf]; exact List.mem_cons_self)
      obtain ⟨sl,e⟩:=I.base.slot L o ho (I.ok.frf L hL) hL fun z=>I.ok.exfs L z hL
      exact ⟨hk,⟨L,_,hf,hn,e,hd⟩,ih (fun b hb=>hs b (by unfold frs; rw [List.filterMap_cons,hf]; exact List.mem_cons_of_mem _ hb)) hr⟩
  exact all X.outer (fun _ hb=>hb) I.ok.Cq
theorem Inv.stack (I:Inv X pins σ H s):s.heap.FunFrames X.base X.stack:=by
  rcases I.ok.stk with e | ⟨e,hf⟩
  · rw [e]; exact I.Cq
  · rw [e]
    obtain ⟨m,hn,_⟩:=I.loc
    refine .cons (by rw [I.ok.kind]; decide) hf hn ?_ I.Cq
    exact Heap.get?_none_of_le (Nat.le_trans I.ok.bsz I.ok.above)
theorem Inv.Bc (I:Inv X pins σ H s):∀ b∈frs X.stack,b∈X.env.locals::X.fs:=fun b hb=>by
  rcases I.ok.stk with e | ⟨e,hf⟩
  · rw [e] at hb; exact List.mem_cons_of_mem _ hb
  · rw [e] at hb
    unfold frs at hb
    rw [List.filterMap_cons,hf] at hb
    exact hb
theorem Inv.Bq (I:Inv X pins σ H s):∀ b∈frs X.stack,H b=none:=fun b hb=>by
  rcases List.mem_cons.mp (I.Bc b hb) with e | hb
  · rw [e]; exact I.free
  · obtain ⟨_,o,ho,_⟩:=I.ok.Cq.mem hb
    exact I.base.free b o ho (I.ok.frf b hb) fun z=>I.ok.exfs b z hb
theorem Inv.step {g':Array GenState} {t':Nat} {d':Drawn} {ch:List Addr} (I:Inv X pins σ H s)
    (hch:∀ b∈ch,(b∈X.ex∨X.s₀.heap.objs.size≤b)∧b≠X.env.locals∧(∀ x c,X.env.cells.lookup x=some c→c≠b)∧∀ p∈X.pn++pins,p.1≠b)
    (keep:∀ b o,b≠X.env.locals→b∉X.fs→b∉ch→s.heap.get? b=some o→H b=none→h'.get? b=some o)
    (slot:∀ b o,b≠X.env.locals→b∈X.fs→b∉ch→s.heap.get? b=some o→H b=none→∃ sl,h'.get? b=some { o with slots:=sl }) (free:∀ b o,b∉ch→s.heap.get? b=some o→H b=none→H' b=none)
    (there:∀ b o,b∉ch→s.heap.get? b=some o→∃ o',h'.get? b=some o')
    (tups:∀ b xs,H b=some (.tup xs)→H' b=some (.tup xs)) (frzs:∀ b o u,H b=some (.frz o u)→H' b=some (.frz o u)) (tbls:∀ b ps,H b=some (.tbl ps)→∃ more,H' b=some (.tbl (ps++more)))
    (ns:∀ m,s.heap.Ns X.env.locals m→h'.Ns X.env.locals m) (hok:HOk X.prog X.w H' h') (hg:AllBare g') :
    Inv X pins σ H' { s with heap:=h',gens:=g',drawn:=d',toks:=t' }:=by
  have neL:∀ b o,X.s₀.heap.get? b=some o→b≠X.env.locals:=fun b o e=>Nat.ne_of_lt (Nat.lt_of_lt_of_le (Heap.lt_size e) I.ok.above)
  have neC:∀ b o,X.s₀.heap.get? b=some o→b∉X.ex→b∉ch:=fun b o e hx hb=>by
    rcases (hch b hb).1 with z | z
    · exact hx z
    · exact absurd (Nat.lt_of_lt_of_le (Heap.lt_size e) z) (Nat.lt_irrefl _)
  have cellK:∀ x c,X.env.cells.lookup x=some c→∀ v,s.heap.IsCell c v→h'.IsCell c v:=fun x c e v z9=>by
    obtain ⟨o,ho,hd⟩:=z9
    have nch:c∉ch:=fun z=>(hch c z).2.2.1 x c e rfl
    by_cases hc:c∈X.fs
    · obtain ⟨sl,q⟩:=slot c o (I.cne x c e) hc nch ho (I.freeC x c e)
      exact ⟨_,q,hd⟩
    · exact ⟨o,keep c o (I.cne x c e) hc nch ho (I.freeC x c e),hd⟩
  refine ⟨I.ok,I.os,hg,⟨fun b o e n hb hx=>?_,fun b o e n hb hx=>?_,fun b o e n hx=>?_,fun b o e hx=>?_,fun b xs e=>tups b xs (I.base.tups b xs e),fun b o xs e=>frzs b o xs (I.base.frzs b o xs e),fun b ps e=>?_⟩,?_,fun x c e=>?_,?_,fun x c e=>?_,fun p hp=>?_,hok,I.len⟩
  · exact keep b o (neL b o e) hb (neC b o e hx) (I.base.keep b o e n hb hx) (I.base.free b o e n hx)
  · obtain ⟨sl,e1⟩:=I.base.slot b o e n hb hx
    obtain ⟨sl',e2⟩:=slot b _ (neL b o e) hb (neC b o e hx) e1 (I.base.free b o e n hx)
    exact ⟨sl',e2⟩
  · obtain ⟨o',e1⟩:=I.base.there b o e hx
    exact free b o' (neC b o e hx) e1 (I.base.free b o e n hx)
  · obtain ⟨o',e1⟩:=I.base.there b o e hx
    exact there b o' (neC b o e hx) e1
  · obtain ⟨m1,e1⟩:=I.base.tbls b ps e
    obtain ⟨m2,e2⟩:=tbls b _ e1
    exact ⟨m1++m2,by rw [e2,Array.append_assoc]⟩
  · obtain ⟨m,hn,hl⟩:=I.loc
    refine ⟨m,ns m hn,fun i x v e1 e2 e3=>?_⟩
    obtain ⟨u,r,l⟩:=hl i x v e1 e2 e3
    refine ⟨u,r,?_⟩
    rcases l with l | ⟨k,c,e,z⟩
    · exact .inl l
    · exact .inr ⟨k,c,e,cellK x c e _ z⟩
  · obtain ⟨v,z⟩:=I.cell x c e
    exact ⟨v,cellK x c e v z⟩
  · obtain ⟨m,⟨o,_,_,ho,_⟩,_⟩:=I.loc
    exact free _ o (fun z=>(hch _ z).2.1 rfl) ho I.free
  · obtain ⟨v,o,ho,hd⟩:=I.cell x c e
    exact free c o (fun z=>(hch c z).2.2.1 x c e rfl) ho (I.freeC x c e)
  · obtain ⟨e,n,ne,nf,d⟩:=I.pin p hp
    have nch:p.1∉ch:=fun z=>(hch p.1 z).2.2.2 p hp rfl
    exact ⟨keep p.1 p.2 ne nf nch e n,free p.1 p.2 nch e n,ne,nf,d⟩
theorem Inv.un {t':Nat} (I:Inv X pins σ H s) (u:Un X.fs [] H H' s.heap h') (hok:HOk X.prog X.w H' h'):Inv X pins σ H' { s with heap:=h',toks:=t' }:=by
  obtain ⟨m,⟨o,es,ep,ho,r⟩,_⟩:=id I.loc
  obtain ⟨sl,hL⟩:=u.any ho I.free (by simp)
  exact I.step (g':=s.gens) (d':=s.drawn) (ch:=[]) (fun _ z=>nomatch z) (fun b o _ hb _ e n=>u.keep b o e n hb (by simp)) (fun b o _ hb _ e n=>u.slot b o e n hb (by simp)) (fun b o _ e n=>u.free b o e n (by simp)) (fun b o _ e=>u.there b o e (by simp)) u.tups u.frzs u.tbls (fun m' hm=>by
    obtain ⟨o',es',ep',ho',r'⟩:=hm
    rw [ho] at ho'; cases ho'
    exact ⟨_,es',ep',hL,r'⟩) hok I.bare
theorem Inv.call {g':Array GenState} {t':Nat} {d':Drawn} {ch:List Addr} (I:Inv X pins σ H s) (u:Un (frs X.stack) ch H H' s.heap h') (hok:HOk X.prog X.w H' h') (hg:AllBare g')
    (hch:∀ b∈ch,(b∈X.ex∨X.s₀.heap.objs.size≤b)∧b≠X.env.locals∧(∀ x c,X.env.cells.lookup x=some c→c≠b)∧∀ p∈X.pn++pins,p.1≠b) :
    Inv X pins σ H' { s with heap:=h',gens:=g',drawn:=d',toks:=t' }:=by
  obtain ⟨m,⟨o,es,ep,ho,r⟩,_⟩:=id I.loc
  obtain ⟨sl,hL⟩:=u.any ho I.free fun z=>(hch _ z).2.1 rfl
  exact I.step (ch:=ch) hch (fun b o hL hb hc e n=>u.keep b o e n (fun z=>(List.mem_cons.mp (I.Bc b z)).elim hL hb) hc) (fun b o _ _ hc e n=>u.any e n hc) (fun b o hc e n=>u.free b o e n hc) (fun b o hc e=>u.there b o e hc) u.tups u.frzs u.tbls (fun m' hm=>by
    obtain ⟨o',es',ep',ho',r'⟩:=hm
    rw [ho] at ho'; cases ho'
    exact ⟨_,es',ep',hL,r'⟩) hok hg
theorem Inv.turned {t':Nat} {it:Addr} (I:Inv X pins σ H s) (k:∀ b o,b≠it→s.heap.get? b=some o→h'.get? b=some o) (hn:H it=none) (hL:it≠X.env.locals)
    (h1:it∈X.ex∨X.s₀.heap.objs.size≤it) (h2:∀ x c,X.env.cells.lookup x=some c→c≠it) (h3:∀ p∈X.pn++pins,p.1≠it):Inv X pins σ H { s with heap:=h',toks:=t' }:=by
  have nit:∀ b u,H b=some u→b≠it:=fun b u e z=>by rw [z,hn] at e; cases e
  refine I.step (g':=s.gens) (d':=s.drawn) (ch:=[it]) (fun b hb=>?_) (fun b o _ _ hc e _=>k b o (fun z=>hc (by simp [z])) e) (fun b o _ _ hc e _=>⟨o.slots,k b o (fun z=>hc (by simp [z])) e⟩) (fun _ _ _ _ n=>n)
    (fun b o hc e=>⟨o,k b o (fun z=>hc (by simp [z])) e⟩) (fun _ _ e=>e) (fun _ _ _ e=>e) (fun b ps e=>⟨#[],by rw [e]; simp⟩) (fun m hm=>?_) (fun b u e=>?_) I.bare
  · have e:b=it:=by simpa using hb
    subst e
    exact ⟨h1,hL,h2,h3⟩
  · obtain ⟨o,es,ep,ho,r⟩:=hm
    exact ⟨o,es,ep,k _ o (Ne.symm hL) ho,r⟩
  · refine (I.hok b u e).stay (fun c v hc q=>k c v ?_ q) (fun _ q=>q) fun _ _ q=>q
    rcases hc with z | z
    · rw [z]; exact nit b u e
    · exact nit c _ z
theorem Inv.tok (I:Inv X pins σ H s) (t:Nat):Inv X pins σ H { s with toks:=t }:=I.un (h':=s.heap) (t':=t) Un.refl I.hok
theorem Inv.kept {t':Nat} (I:Inv X pins σ H s) (k:∀ b u,s.heap.get? b=some u→h'.get? b=some u):Inv X pins σ H { s with heap:=h',toks:=t' }:=I.un (Un.kept k) (I.hok.kept k)
theorem Inv.laid {a:Addr} {o:HO} {t':Nat} (I:Inv X pins σ H s) (k:∀ b u,s.heap.get? b=some u→h'.get? b=some u) (hp:s.heap.objs.size≤a) (new:jy X.prog X.w (upd H a o) h' a o) :
    Inv X pins σ (upd H a o) { s with heap:=h',toks:=t' }:=I.un (Un.laid k hp (I.hok.fresh hp)) (I.hok.laid k hp new)
theorem Inv.write {x e:Addr} {o:HO} {t':Nat} (I:Inv X pins σ H s) (mu:Mut (H x)) (he:e=x∨H e=some (.own x)) (k:∀ b u,b≠e→s.heap.get? b=some u→h'.get? b=some u) (heo:∃ u,h'.get? e=some u)
    (new:jy X.prog X.w (upd H x o) h' x o):Inv X pins σ (upd H x o) { s with heap:=h',toks:=t' }:=I.un (Un.write mu he k heo) (I.hok.write mu he k heo new)
theorem Inv.uw {pins':List (Addr × Obj)} (I:Inv X pins σ H s) (h:∀ p∈pins',s.heap.get? p.1=some p.2∧H p.1=none∧p.1≠X.env.locals∧p.1∉X.fs∧∀ v,p.2.data≠.cell v):Inv X pins' σ H s :=
  ⟨I.ok,I.os,I.bare,I.base,I.loc,I.cell,I.free,I.freeC,fun p hp=>(List.mem_append.mp hp).elim (fun z=>I.pin p (List.mem_append_left _ z)) (h p),I.hok,I.len⟩
theorem Ac {N:List Str} (hN:N.Nodup) {i j:Nat} {x:Str} (a:N[i]? = some x) (b:N[j]? = some x):i=j:=by
  obtain ⟨h1,e1⟩:=List.getElem?_eq_some_iff.mp a
  obtain ⟨h2,e2⟩:=List.getElem?_eq_some_iff.mp b
  exact (List.getElem_inj hN).mp (e1.trans e2.symm)
theorem Hs {M:Model} {A:Around} {E:Value→Shared→Prop} {i:Nat} {x:Str} {v:V} {u:Value} {Q:Unit→Shared→Prop} (I:Inv X pins σ H s) (hN:X.N.Nodup) (hi:X.N[i]? = some x) (hx:Loc X.env.scope x) (r:RelV v u)
    (h:∀ s',Inv X pins (σ.set i (some v)) H s'→(∃ a,Heap.SameBut a s.heap s'.heap∧(a=X.env.locals∨X.env.cells.lookup x=some a))→Q () s') (hf:X.fn x=true∨X.env.scope.names.lookup x=some .local:=by first | exact .inl rfl | exact .inr rfl | assumption):wpAny M A (storeName X.env x u) Q E s:=by
  obtain ⟨m,hn,hl⟩:=id I.loc
  have hcls:(X.env.scope.kind == .class||(X.env.scope.kind == .module&&X.env.locals != X.env.globals))=false:=by rw [I.ok.kind]; rfl
  have hiσ:i<σ.length:=by rw [I.len]; exact (List.getElem?_eq_some_iff.mp hi).1
  have cne:=I.cne
  have tracked:∀ {a:Addr} {h':Heap},(∃ o,s.heap.get? a=some o∧H a=none)→Heap.SameBut a s.heap h'→HOk X.prog X.w H h':=fun {a h'} ha hs b ob e=>by
    obtain ⟨_,_,hfree⟩:=ha
    refine (I.hok b ob e).stay (fun c w' hc q=>(hs.2 c ?_).trans q) (fun _ q=>q) fun _ _ q=>q
    rintro rfl
    rcases hc with rfl | hc
    · rw [hfree] at e; cases e
    · rw [hfree] at hc; cases hc
  rcases hx with hk | hk
  · refine wpAny_storeName_local hk hn (fun h' hn' hs=>?_) hcls
    obtain ⟨oL,_,_,hoL,_⟩:=id hn
    refine h _ ⟨I.ok,I.os,I.bare,⟨fun b o e n hb hx=>?_,fun b o e n hb hx=>?_,I.base.free,fun b o e hx=>?_,I.base.tups,I.base.frzs,I.base.tbls⟩,⟨_,hn',fun j y v' e1 e2 e3=>?_⟩,fun y c e=>?_,I.free,I.freeC,fun p hp=>?_,tracked ⟨oL,hoL,I.free⟩ hs,by simpa using I.len⟩ ⟨_,hs,.inl rfl⟩
    · exact (hs.2 b (Nat.ne_of_lt (Nat.lt_of_lt_of_le (Heap.lt_size e) I.ok.above))).trans (I.base.keep b o e n hb hx)
    · obtain ⟨sl,e1⟩:=I.base.slot b o e n hb hx
      exact ⟨sl,(hs.2 b (Nat.ne_of_lt (Nat.lt_of_lt_of_le (Heap.lt_size e) I.ok.above))).trans e1⟩
    · obtain ⟨o',e1⟩:=I.base.there b o e hx
      exact ⟨o',(hs.2 b (Nat.ne_of_lt (Nat.lt_of_lt_of_le (Heap.lt_size e) I.ok.above))).trans e1⟩
    · by_cases hj:j=i
      · subst hj
        rw [hi] at e1; cases e1
        rw [List.getElem?_set_self hiσ] at e2
        cases e2
        exact ⟨u,r,.inl ⟨hk,by simp⟩⟩
      · rw [List.getElem?_set_ne (Ne.symm hj)] at e2
        obtain ⟨u',r',q⟩:=hl j y v' e1 e2 e3
        refine ⟨u',r',?_⟩
        rcases q with ⟨k,e⟩ | ⟨k,c,e,z⟩
        · refine .inl ⟨k,?_⟩
          have:y≠x:=fun e=>hj (Ac hN e1 (e ▸ hi))
          simp [this,e]
        · exact .inr ⟨k,c,e,z.sameBut hs (cne y c e)⟩
    · obtain ⟨w',z⟩:=I.cell y c e
      exact ⟨w',z.sameBut hs (cne y c e)⟩
    · obtain ⟨e,n,ne,nf,d⟩:=I.pin p hp
      exact ⟨(hs.2 p.1 ne).trans e,n,ne,nf,d⟩
  · have hfn:X.fn x=true:=by
      rcases hf with z | z
      · exact z
      · rw [z] at hk; cases hk
    obtain ⟨c,hc⟩:=I.ok.has x (.inl hk)
    obtain ⟨w',z⟩:=I.cell x c hc
    refine wpAny_storeName_cell I.ok.kind hk hc z (fun h' hc' hs=>?_)
    obtain ⟨oc,hoc,hocd⟩:=id z
    refine h { s with heap:=h' } ⟨I.ok,I.os,I.bare,⟨fun b o e n hb hx=>?_,fun b o e n hb hx=>?_,I.base.free,fun b o e hx=>?_,I.base.tups,I.base.frzs,I.base.tbls⟩,⟨m,hn.sameBut hs (Ne.symm (cne x c hc)),fun j y v' e1 e2 e3=>?_⟩,fun y c' e=>?_,I.free,I.freeC,fun p hp=>?_,tracked ⟨oc,hoc,I.freeC x c hc⟩ hs,by simpa using I.len⟩ ⟨c,hs,.inr hc⟩
    · exact (hs.2 b (Nat.ne_of_lt (Nat.lt_of_lt_of_le (Heap.lt_size e) (I.ok.cab x c hfn hc)))).trans (I.base.keep b o e n hb hx)
    · obtain ⟨sl,e1⟩:=I.base.slot b o e n hb hx
      exact ⟨sl,(hs.2 b (Nat.ne_of_lt (Nat.lt_of_lt_of_le (Heap.lt_size e) (I.ok.cab x c hfn hc)))).trans e1⟩
    · obtain ⟨o',e1⟩:=I.base.there b o e hx
      exact ⟨o',(hs.2 b (Nat.ne_of_lt (Nat.lt_of_lt_of_le (Heap.lt_size e) (I.ok.cab x c hfn hc)))).trans e1⟩
    · by_cases hj:j=i
      · subst hj
        rw [hi] at e1; cases e1
        rw [List.getElem?_set_self hiσ] at e2
        cases e2
        exact ⟨u,r,.inr ⟨.inl hk,c,hc,hc'⟩⟩
      · rw [List.getElem?_set_ne (Ne.symm hj)] at e2
        obtain ⟨u',r',q⟩:=hl j y v' e1 e2 e3
        refine ⟨u',r',?_⟩
        rcases q with q | ⟨k,c',e,z'⟩
        · exact .inl q
        · refine .inr ⟨k,c',e,z'.sameBut hs ?_⟩
          rintro rfl
          exact hj (Ac hN e1 (I.ok.inj _ _ _ e hc ▸ hi))
    · by_cases hcc:c'=c
      · subst hcc; exact ⟨_,hc'⟩
      · obtain ⟨w2,z2⟩:=I.cell y c' e
        exact ⟨w2,z2.sameBut hs hcc⟩
    · obtain ⟨e,n,ne,nf,d⟩:=I.pin p hp
      refine ⟨(hs.2 p.1 ?_).trans e,n,ne,nf,d⟩
      intro q
      rw [q,hoc] at e
      have q':oc=p.2:=Option.some.inj e
      exact d w' (by rw [← q']; exact hocd)
theorem Ag {M:Model} {A:Around} {E:Value→Shared→Prop} {i:Nat} {x:Str} {v:V} {u:Value} {Q:Unit→Shared→Prop} (I:Inv X pins σ H s) (hN:X.N.Nodup) (hi:X.N[i]? = some x) (hx:Loc X.env.scope x) (r:RelV v u)
    (h:∀ s',Inv X pins (σ.set i (some v)) H s'→Q () s') (hf:X.fn x=true∨X.env.scope.names.lookup x=some .local:=by first | exact .inl rfl | exact .inr rfl | assumption):wpAny M A (storeName X.env x u) Q E s :=
  Hs I hN hi hx r (fun s' I' _=>h s' I') hf
theorem Inv.call' {s':Shared} {ch:List Addr} (I:Inv X pins σ H s) (ho:s'.os=s.os) (u:Un (frs X.stack) ch H H' s.heap s'.heap) (hok:HOk X.prog X.w H' s'.heap) (hg:AllBare s'.gens)
    (hch:∀ b∈ch,(b∈X.ex∨X.s₀.heap.objs.size≤b)∧b≠X.env.locals∧(∀ x c,X.env.cells.lookup x=some c→c≠b)∧∀ p∈X.pn++pins,p.1≠b):Inv X pins σ H' s':=by
  obtain ⟨h',g',d',t',o'⟩:=s'
  have e:o'=s.os:=ho
  subst e
  exact I.call (g':=g') (t':=t') (d':=d') u hok hg hch
end
abbrev XK:=Value→Option Addr→Hp→Prop
abbrev St:=List (Option V)
abbrev VK:=V→Hp→Prop
abbrev TE:=St→Hp→VK→Prop
abbrev TT:=St→Hp→(Bool→Hp→Prop)→Prop
abbrev TA:=St→Hp→(List V→Hp→Prop)→Prop
structure Ends where
  nx:St→Hp→Prop
  rt:VK
  bk:St→Hp→Prop:=fun _ _=>False
  ct:St→Hp→Prop:=fun _ _=>False
abbrev TS:=Ends→St→Hp→Prop
inductive EP (X:Cx) (pins:List (Addr × Obj)) (σ:St) (Q:VK) (u:Value) (s':Shared):Prop
  | mk (v:V) (H':Hp) (I:Inv X pins σ H' s') (r:RelV v u) (q:Q v H')
def TP (X:Cx) (pins:List (Addr × Obj)) (σ:St) (Q:Bool→Hp→Prop) (b:Bool) (s':Shared):Prop:=∃ H',Inv X pins σ H' s'∧Q b H'
inductive AP (X:Cx) (pins:List (Addr × Obj)) (σ:St) (Q:List V→Hp→Prop) (us:List Value) (s':Shared):Prop
  | mk (vs:List V) (H':Hp) (I:Inv X pins σ H' s') (r:Vals vs us) (q:Q vs H')
def SP (X:Cx) (pins:List (Addr × Obj)) (D:Ends) (f:Flow) (s':Shared):Prop :=
  match f with
  | .next=>∃ σ' H',Inv X pins σ' H' s'∧D.nx σ' H'
  | .brk=>∃ σ' H',Inv X pins σ' H' s'∧D.bk σ' H'
  | .cont=>∃ σ' H',Inv X pins σ' H' s'∧D.ct σ' H'
  | .ret u=>∃ v σ' H',Inv X pins σ' H' s'∧RelV v u∧D.rt v H'
def PE (X:Cx) (e:Expr) (t:TE):Prop :=
  ∀ (pins:List (Addr × Obj)) (s:Shared) (σ:St) (H:Hp) (Q:VK),Inv X pins σ H s→t σ H Q→wpAny (model X.prog X.w) X.A (eval e X.env) (EP X pins σ Q) X.xe s
def PT (X:Cx) (e:Expr) (t:TT):Prop :=
  ∀ (pins:List (Addr × Obj)) (s:Shared) (σ:St) (H:Hp) (Q:Bool→Hp→Prop),Inv X pins σ H s→t σ H Q→wpAny (model X.prog X.w) X.A (isTrue e X.env (eval e X.env)) (TP X pins σ Q) X.xe s
def PW (X:Cx) (e:Expr) (t:TT):Prop :=
  ∀ (whole:Sem Value) (pins:List (Addr × Obj)) (s:Shared) (σ:St) (H:Hp) (Q:Bool→Hp→Prop),Inv X pins σ H s→t σ H Q→wpAny (model X.prog X.w) X.A (isTrue e X.env whole) (TP X pins σ Q) X.xe s
theorem PW.pt {X:Cx} {e:Expr} {t:TT} (h:PW X e t):PT X e t:=h _
def PA (X:Cx) (es:List Expr) (t:TA):Prop :=
  ∀ (pos:Pos) (pins:List (Addr × Obj)) (s:Shared) (σ:St) (H:Hp) (Q:List V→Hp→Prop),Inv X pins σ H s→t σ H Q→wpAny (model X.prog X.w) X.A (spliced (backTo pos (starEach es X.env))) (AP X pins σ Q) X.xe s
def PS (X:Cx) (st:Stmt) (t:TS):Prop :=
  ∀ (pins:List (Addr × Obj)) (s:Shared) (σ:St) (H:Hp) (D:Ends),Inv X pins σ H s→t D σ H→wpAny (model X.prog X.w) X.A (exec st X.env) (SP X pins D) X.xe s
def PSs (X:Cx) (st:List Stmt) (t:TS):Prop :=
  ∀ (pins:List (Addr × Obj)) (s:Shared) (σ:St) (H:Hp) (D:Ends),Inv X pins σ H s→t D σ H→wpAny (model X.prog X.w) X.A (execs st X.env) (SP X pins D) X.xe s
theorem thn {α:Type} {t:Sem α} {Q Q':α→Shared→Prop} {M:Model} {A:Around} {E:Value→Shared→Prop} {s:Shared} (h:wpAny M A t Q E s) (hQ:∀ a s,Q a s→Q' a s):wpAny M A t Q' E s:=wpAny_mono h hQ fun _ _ x=>x
end L2
namespace L2
open PySem PySem.Spec PyProof.Rows
section
variable {X:Cx}
def P0 (i:Nat):TE:=fun σ H Q=>∃ v,σ[i]? = some (some v)∧Q v H
def tC (v:V):TE:=fun _ H Q=>Q v H
theorem Ga {i:Nat} {x:Str} {pos:Pos} (hN:X.N[i]? = some x) (hv:Vis X.env.scope x) (hd:(x==("__debug__" : Str))=false:=by decide) (hcd:(x==("__classdict__" : Str))=false:=by decide):PE X (.Name x pos) (P0 i):=by
  intro pins s σ H Q I h
  obtain ⟨v,e,h⟩:=h
  obtain ⟨m,hn,hl⟩:=I.loc
  obtain ⟨u,r,l⟩:=hl i x v hN e hv
  have fin:EP X pins σ Q u s:=⟨v,H,I,r,h⟩
  rcases l with ⟨hk,hm⟩ | ⟨hk,c,hc,hcell⟩
  · exact wpAny_Name (wpAny_loadName_local I.ok.kind hk hn hm fin) hd
  · rcases hk with hk | hk
    · exact wpAny_Name (wpAny_loadName_cell I.ok.kind hk hc hcell fin) hd
    · exact wpAny_Name (wpAny_loadName_free I.ok.kind hk hc hcell fin hcd) hd
theorem Od {i j pos}:PE X (.Constant (.int i) j pos) (tC (.int i)):=fun _ _ _ H _ I h=>wpAny_Constant_int ⟨.int i,H,I.tok _,⟨_,rfl⟩,h⟩
theorem Qf {b j pos}:PE X (.Constant (.bool b) j pos) (tC (.bl b)):=fun _ _ _ H _ I h=>Constant_bool ⟨.bl b,H,I,rfl,h⟩
theorem Ob {j pos}:PE X (.Constant .none j pos) (tC .non):=fun _ _ _ H _ I h=>Constant_none ⟨.non,H,I,rfl,h⟩
theorem Mt {x j pos}:PE X (.Constant (.str x) j pos) (tC (.str x)):=fun _ _ _ H _ I h=>Calls.Constant_str ⟨.str x,H,I.tok _,⟨_,rfl⟩,h⟩
def Gl (X:Cx) (x:Str):Prop:=X.env.kindOf x=some .globalImplicit
theorem uz {E:Value→Shared→Prop} {pins:List (Addr × Obj)} {s:Shared} {σ:St} {H:Hp} {x:Str} {u:Value} {pos:Pos} {Q:Value→Shared→Prop} (I:Inv X pins σ H s) (hg:Gl X x) (hm:X.mg x=some u) (h:Q u s)
    (hd:(x==("__debug__" : Str))=false:=by decide):wpAny (model X.prog X.w) X.A (eval (.Name x pos) X.env) Q E s :=
  Calls.Name_function_global I.ok.kind hg (Calls.loadGlobal_global (by rw [I.ok.glob]; exact I.mod.glob.keeps I.bk) hm h) hd
theorem Ew {E:Value→Shared→Prop} {pins:List (Addr × Obj)} {s:Shared} {σ:St} {H:Hp} {x:Str} {u:Value} {pos:Pos} {Q:Value→Shared→Prop} (I:Inv X pins σ H s) (hg:Gl X x) (hm:X.mg x=none) (hv:bootBuiltins x=some u) (h:Q u s)
    (hn:x ≠ "__name__" := by decide) (hd:(x==("__debug__" : Str))=false:=by decide):wpAny (model X.prog X.w) X.A (eval (.Name x pos) X.env) Q E s:=by
  obtain ⟨mb,h1,h2⟩:=I.mod.blt
  exact Calls.Name_function_global I.ok.kind hg (Calls.loadGlobal_builtin (by rw [I.ok.glob]; exact I.mod.glob.keeps I.bk) hm (by rw [I.ok.blt]; exact h1.keeps I.bk) ((h2 x hn).trans hv) h) hd
theorem mj {x:Str} {v:V} {u:Value} {pos:Pos} (hg:Gl X x) (hm:X.mg x=some u) (r:RelV v u) (hd:(x==("__debug__" : Str))=false:=by decide):PE X (.Name x pos) (tC v) :=
  fun _ _ _ H _ I h=>uz I hg hm ⟨v,H,I,r,h⟩ hd
theorem M4 {x:Str} {v:V} {u:Value} {pos:Pos} (hg:Gl X x) (hm:X.mg x=none) (hv:bootBuiltins x=some u) (r:RelV v u) (hn:x ≠ "__name__" := by decide) (hd:(x==("__debug__" : Str))=false:=by decide):PE X (.Name x pos) (tC v) :=
  fun _ _ _ H _ I h=>Ew I hg hm hv ⟨v,H,I,r,h⟩ hn hd
variable {a b:Expr} {ta tb:TE} {pos:Pos}
def tB (t:TE):TT:=fun σ H Q=>t σ H fun x H1=>∃ c,x=.bl c∧Q c H1
theorem Mw {e:Expr} {t:TE} (h:PE X e t) (he:∀ whole,isTrue e X.env whole=(do let v ← whole; standAt e.pos; holding [v] (truthy v)):=by intro _; rfl):PT X e (tB t):=by
  intro pins s σ H Q I hw
  refine isTrue_plain (thn (h pins s σ H _ I hw) fun v s1 z0=>?_) (he _)
  obtain ⟨x,H1,I1,r1,q1⟩:=z0
  obtain ⟨d,rfl,q⟩:=q1
  cases r1
  exact wpAny_truthy_bool ⟨H1,I1,q⟩
variable {tA tB':TT} {rest:List Expr}
def tOr (t u:TT):TT:=fun σ H Q=>t σ H fun c H1=>if c=true then Q true H1 else u σ H1 Q
def Ru (t:TT):TT:=fun σ H Q=>t σ H fun c H1=>Q (!c) H1
theorem pw_or1 (ha:PT X a tA):PW X (.BoolOp .Or [a] pos) tA:=by
  intro wh pins s σ H Q I h
  refine isTrue_or (thn (ha pins s σ H Q I h) fun c s1 e=>?_)
  cases c with
  | false=>exact isTrue_or_nil e
  | true=>exact e
theorem pw_or (ha:PT X a tA) (hb:PW X (.BoolOp .Or (b::rest) pos) tB'):PW X (.BoolOp .Or (a::b::rest) pos) (tOr tA tB'):=by
  intro wh pins s σ H Q I h
  refine isTrue_or (thn (ha pins s σ H _ I h) fun c s1 z0=>?_)
  obtain ⟨H1,I1,q1⟩:=z0
  cases c with
  | true=>exact ⟨H1,I1,q1⟩
  | false=>exact hb wh pins s1 σ H1 Q I1 q1
theorem Ow (ha:PT X a tA):PT X (.UnaryOp .Not a pos) (Ru tA):=by
  intro pins s σ H Q I h
  exact isTrue_not (ha pins s σ H (fun c H1=>Q (!c) H1) I h)
end
end L2
namespace L2
open PySem PySem.Spec PyProof.Rows
def SqL (K:PySem.W.Frag) (H:Hp) (a:Addr) (xs:List V):Prop :=
  Rd H a (.lst xs) ∨
    ∃ (o:Obj) (its:Array Value) (n:Nat),K.lookup a=some o∧o.cls=.type "list" ∧ o.dict=none∧o.data=.seq its n∧its.size≤sizeLine∧Vals xs its.toList
def SqT (K:PySem.W.Frag) (H:Hp) (a:Addr) (xs:List V):Prop :=
  Rd H a (.tup xs) ∨
    ∃ (o:Obj) (its:Array Value) (n:Nat),K.lookup a=some o∧o.cls=.type "tuple" ∧ o.dict=none∧o.data=.seq its n∧its.size≤sizeLine∧Vals xs its.toList
section
variable {X:Cx} {pins:List (Addr × Obj)} {σ:St} {H:Hp} {s:Shared} {a:Addr} {xs ys:List V}
theorem SqL.of {K:PySem.W.Frag} (h:H a=some (.lst xs)):SqL K H a xs:=.inl (.inl h)
theorem SqT.of {K:PySem.W.Frag} (h:H a=some (.tup xs)):SqT K H a xs:=.inl (.inl h)
theorem Inv.list (I:Inv X pins σ H s) (h:SqL X.K H a xs):∃ its:List Value,Vals xs its∧PlainL s.heap a its.toArray∧xs.length≤sizeLine:=by
  rcases h with h | ⟨o,its,n,hk,hc,hd,hs,hz,r⟩
  · obtain ⟨z,its,n,r,e⟩:=h.ok I.hok
    exact ⟨its,r,⟨_,n,e,rfl,rfl,rfl⟩,z⟩
  · refine ⟨its.toList,r,⟨o,n,I.kIn a o hk,hc,hd,by simpa using hs⟩,?_⟩
    have e:=r.length
    simp only [Array.length_toList] at e
    omega
theorem Inv.tuple (I:Inv X pins σ H s) (h:SqT X.K H a xs):∃ its:List Value,Vals xs its∧IsTup s.heap a its.toArray∧xs.length≤sizeLine:=by
  rcases h with h | ⟨o,its,n,hk,hc,hdn,hs,hz,r⟩
  · obtain ⟨z,its,r,p⟩:=h.ok I.hok
    exact ⟨its,r,p.is,z⟩
  · refine ⟨its.toList,r,⟨o,I.kIn a o hk,hc,n,by simpa using hs⟩,?_⟩
    have e:=r.length
    simp only [Array.length_toList] at e
    omega
end
abbrev Cx.wish (X:Cx) (E:Value→Shared→Prop):Cx:={ X with xe:=E }
abbrev Cx.nox (X:Cx):Cx:=X.wish fun _ _=>False
theorem Cx.Ok.wish {X:Cx} (ok:X.Ok) (E:Value→Shared→Prop):(X.wish E).Ok :=
  ⟨ok.mod,ok.kind,ok.glob,ok.blt,ok.above,ok.inj,ok.has,ok.cab,ok.hd,ok.frames,ok.stk,ok.exf,ok.bs,ok.bsz,ok.noex,ok.exfs,ok.Cq,ok.frf⟩
theorem Cx.Ok.m9 {X:Cx} {E:Value→Shared→Prop} (ok:(X.wish E).Ok):X.Ok :=
  ⟨ok.mod,ok.kind,ok.glob,ok.blt,ok.above,ok.inj,ok.has,ok.cab,ok.hd,ok.frames,ok.stk,ok.exf,ok.bs,ok.bsz,ok.noex,ok.exfs,ok.Cq,ok.frf⟩
section
variable {X:Cx} {pins:List (Addr × Obj)} {σ:St} {H:Hp} {s:Shared} {E:Value→Shared→Prop}
theorem Inv.wish (I:Inv X pins σ H s) (E:Value→Shared→Prop):Inv (X.wish E) pins σ H s:=⟨I.ok.wish E,I.os,I.bare,I.base,I.loc,I.cell,I.free,I.freeC,I.pin,I.hok,I.len⟩
theorem Inv.m9 (I:Inv (X.wish E) pins σ H s):Inv X pins σ H s:=⟨I.ok.m9,I.os,I.bare,I.base,I.loc,I.cell,I.free,I.freeC,I.pin,I.hok,I.len⟩
theorem SP.m9 {D:Ends} {f:Flow} {s':Shared} (h:SP (X.wish E) pins D f s'):SP X pins D f s':=by
  cases f with
  | next=>obtain ⟨σ',H',I,q⟩:=h; exact ⟨σ',H',I.m9,q⟩
  | brk=>obtain ⟨σ',H',I,q⟩:=h; exact ⟨σ',H',I.m9,q⟩
  | cont=>obtain ⟨σ',H',I,q⟩:=h; exact ⟨σ',H',I.m9,q⟩
  | ret u=>obtain ⟨v,σ',H',I,r,q⟩:=h; exact ⟨v,σ',H',I.m9,r,q⟩
theorem PE.nox {e:Expr} {t:TE} (h:PE X.nox e t):PE X e t:=fun pins s σ H Q I hw =>
  wpAny_mono (h pins s σ H Q (I.wish _) hw) (fun _ _ z7=>by obtain ⟨v,H',I',r,q⟩:=z7; exact ⟨v,H',I'.m9,r,q⟩) fun _ _ z=>False.elim z
theorem PT.nox {e:Expr} {t:TT} (h:PT X.nox e t):PT X e t:=fun pins s σ H Q I hw =>
  wpAny_mono (h pins s σ H Q (I.wish _) hw) (fun _ _ z7=>by obtain ⟨H',I',q⟩:=z7; exact ⟨H',I'.m9,q⟩) fun _ _ z=>False.elim z
theorem PSs.nox {st:List Stmt} {t:TS} (h:PSs X.nox st t):PSs X st t:=fun pins s σ H D I hw =>
  wpAny_mono (h pins s σ H D (I.wish _) hw) (fun _ _ q=>q.m9) fun _ _ z=>False.elim z
end
section
variable {X:Cx} {st:Stmt} {rest:List Stmt} {t u:TS} {e:Expr} {te:TE} {pos:Pos}
def Qm:TS:=fun D σ H=>D.nx σ H
def T3 (t u:TS):TS:=fun D σ H=>t { D with nx:=u D } σ H
theorem M8:PSs X [] Qm:=fun _ _ σ H _ I h=>wpAny_execs_nil ⟨σ,H,I,h⟩
theorem Cv (h1:PS X st t) (h2:PSs X rest u):PSs X (st::rest) (T3 t u):=by
  intro pins s σ H D I h
  refine wpAny_execs_cons (thn (h1 pins s σ H { D with nx:=u D } I h) fun f s1 q=>?_)
  cases f with
  | next =>
    obtain ⟨σ',H',I',q⟩:=q
    exact h2 pins s1 σ' H' D I' q
  | ret v=>exact q
  | brk=>exact q
  | cont=>exact q
theorem m5 (h1:PS X st t):PSs X [st] t:=by
  intro pins s σ H D I h
  refine wpAny_execs_cons (thn (h1 pins s σ H D I h) fun f s1 q=>?_)
  cases f with
  | next=>exact wpAny_execs_nil q
  | ret v=>exact q
  | brk=>exact q
  | cont=>exact q
theorem Inv.quiet {pins:List (Addr × Obj)} {σ:St} {H:Hp} {s:Shared} (I:Inv X pins σ H s):interactive X.env=false:=by simp [interactive,I.ok.kind]
def Rc (te:TE):TS:=fun D σ H=>te σ H D.rt
theorem N6 (he:PE X e te):PS X (.Return (some e) pos) (Rc te):=by
  intro pins s σ H D I h
  exact wpAny_Return_some (thn (he pins s σ H _ I h) fun v s1 z7=>by obtain ⟨x,H1,I1,r1,q1⟩:=z7; exact ⟨x,σ,H1,I1,r1,q1⟩)
def S9 (c:TT) (t u:TS):TS:=fun D σ H=>c σ H fun b H1=>if b=true then t D σ H1 else u D σ H1
theorem Oa {c:Expr} {a b:List Stmt} {tc:TT} (hc:PT X c tc) (ha:PSs X a t) (hb:PSs X b u):PS X (.If c a b pos) (S9 tc t u):=by
  intro pins s σ H D I h
  refine wpAny_If (thn (hc pins s σ H _ I h) fun d s1 z0=>?_)
  obtain ⟨H1,I1,q1⟩:=z0
  cases d with
  | true=>exact ha pins s1 σ H1 D I1 q1
  | false=>exact hb pins s1 σ H1 D I1 q1
end
abbrev TG:=V→St→Hp→(St→Hp→Prop)→Prop
def PG (X:Cx) (target:Expr) (t:TG):Prop :=
  ∀ (pins:List (Addr × Obj)) (s:Shared) (σ:St) (H:Hp) (v:V) (u:Value) (Q:St→Hp→Prop),Inv X pins σ H s→RelV v u→t v σ H Q →
    wpAny (model X.prog X.w) X.A (assign target X.env u) (fun _ s'=>∃ σ' H',Inv X pins σ' H' s'∧Q σ' H') X.xe s
section
variable {X:Cx} {pos:Pos}
def Fq (i:Nat):TG:=fun v σ H Q=>Q (σ.set i (some v)) H
theorem Hi {i:Nat} {x:Str} (hN:X.N.Nodup) (hi:X.N[i]? = some x) (hx:Loc X.env.scope x) (hf:X.fn x=true∨X.env.scope.names.lookup x=some .local:=by first | exact .inl rfl | exact .inr rfl | assumption):PG X (.Name x pos) (Fq i):=by
  intro pins s σ H v u Q I r h
  exact wpAny_assign_Name (Ag I hN hi hx r (fun s' I'=>⟨_,H,I',h⟩) hf)
def Qs (te:TE) (g:TG):TS:=fun D σ H=>te σ H fun x H1=>g x σ H1 D.nx
theorem je {i:Nat} {x:Str} {e:Expr} {te:TE} {pos':Pos} (hN:X.N.Nodup) (hi:X.N[i]? = some x) (hx:Loc X.env.scope x) (he:PE X e te) (hs:swapsWith e (some (.Name x pos')) pos.line X.env=pure false:=by rfl) (hf:X.fn x=true∨X.env.scope.names.lookup x=some .local:=by first | exact .inl rfl | exact .inr rfl | assumption) :
    PS X (.Assign [.Name x pos'] e pos) (Qs te (Fq i)):=by
  intro pins s σ H D I h
  refine wpAny_Assign_Name (thn (he pins s σ H _ I h) fun v s1 z0=>?_) hs
  obtain ⟨y,H1,I1,r1,q1⟩:=z0
  exact Ag I1 hN hi hx r1 (fun s2 I2=>⟨_,H1,I2,q1⟩) hf
end
section
variable {X:Cx} {pos:Pos}
end
structure It where
  go:Nat→Hp→Prop
  yld:Nat→Hp→V→Hp→Prop
  stop:Nat→Hp→Prop
def Ec (X:Cx) (pins:List (Addr × Obj)) (H:Hp) (b:Addr):Prop :=
  H b=none∧b≠X.env.locals∧b∉X.fs∧(b∈X.ex∨X.s₀.heap.objs.size≤b)∧(∀ x c,X.env.cells.lookup x=some c→c≠b)∧∀ p∈X.pn++pins,p.1≠b
theorem Inv.S7 {X:Cx} {pins:List (Addr × Obj)} {σ:St} {H H':Hp} {s:Shared} {b:Addr} (I:Inv X pins σ H s) (hb:s.heap.objs.size≤b) (hn:H' b=none):Ec X pins H' b:=by
  refine ⟨hn,Nat.ne_of_gt (Nat.lt_of_lt_of_le I.lt hb),I.Sd hb,.inr (Nat.le_trans I.sz hb),fun x c e z=>?_,fun p hp z=>?_⟩
  · obtain ⟨v,q⟩:=I.cell x c e
    exact absurd (Nat.lt_of_lt_of_le q.lt (by rw [z]; exact hb)) (Nat.lt_irrefl _)
  · exact absurd (Nat.lt_of_lt_of_le (Heap.lt_size (I.pin p hp).1) (by rw [z]; exact hb)) (Nat.lt_irrefl _)
structure Turn (P:Program) (w:World) (K:PySem.W.Frag) (tg:Expr) (J:It) (fp:List Addr) (it:Addr) (tn:Nat→Heap→Prop):Prop where
  mem:it∈fp
  obj:∀ i h,tn i h→∀ b∈fp,∃ o,h.get? b=some o∧∀ v,o.data≠.cell v
  keep:∀ i h h',tn i h→(∀ b∈fp,∀ o,h.get? b=some o→h'.get? b=some o)→tn i h'
  item:∀ (X:Cx),X.prog=P→X.w=w→X.K=K→X.calm=true→∀ (i:Nat) (pins:List (Addr × Obj)) (s:Shared) (σ:St) (H:Hp) (E:Value→Shared→Prop),Inv X pins σ H s→(∀ b∈fp,Ec X pins H b)→tn i s.heap→J.go i H →
    wpAny (model P w) X.A (pyNext (.ref it)) (fun r s1=>∃ u,r=some u ∧
      wpAny (model P w) X.A (letOwnedTupleGo tg (.ref it) u) (fun _ s2=>∃ x H',Inv X pins σ H' s2∧RelV x u∧J.yld i H x H'∧tn (i+1) s2.heap∧∀ b∈fp,H' b=none) E s1) E s
  done:∀ (X:Cx),X.prog=P→X.w=w→X.K=K→X.calm=true→∀ (i:Nat) (pins:List (Addr × Obj)) (s:Shared) (σ:St) (H:Hp) (E:Value→Shared→Prop),Inv X pins σ H s→(∀ b∈fp,Ec X pins H b)→tn i s.heap→J.stop i H →
    wpAny (model P w) X.A (pyNext (.ref it)) (fun r s1=>r=none∧Inv X pins σ H s1) E s
  self:∀ (A:Around) (i:Nat) (s:Shared) (Q:Value→Shared→Prop) (E:Value→Shared→Prop),tn i s.heap→Q (.ref it) s→wpAny (model P w) A (pyIter (.ref it)) Q E s
abbrev TI:=St→Hp→(It→Hp→Prop)→Prop
def PIE (X:Cx) (pins:List (Addr × Obj)) (σ:St) (tg:Expr) (R:It→Hp→Prop) (itv:Value) (s2:Shared):Prop :=
  ∃ (it:Addr) (fp:List Addr) (tn:Nat→Heap→Prop) (J:It) (H':Hp),itv=.ref it∧Inv X pins σ H' s2∧Turn X.prog X.w X.K tg J fp it tn∧tn 0 s2.heap∧(∀ b∈fp,Ec X pins H' b)∧R J H'
def PI (X:Cx) (tg iter:Expr) (wi:TI):Prop :=
  ∀ (pins:List (Addr × Obj)) (s:Shared) (σ:St) (H:Hp) (R:It→Hp→Prop),Inv X pins σ H s→wi σ H R →
    wpAny (model X.prog X.w) X.A (eval iter X.env) (fun v s1=>wpAny (model X.prog X.w) X.A (pyIter v) (PIE X pins σ tg R) X.xe s1) X.xe s
theorem Qg {M:Model} {A:Around} {E:Value→Shared→Prop} {s:Shared} {tg:Expr} {it:Addr} {u:Value} {o:Obj} {n:String} {vs:Array Value} {Q:Unit→Shared→Prop} (ho:s.heap.get? it=some o) (hc:o.cls=.type n) (hd:o.data=.fields vs)
    (hn:["enumerate","zip","dict_itemiterator","dict_reverseitemiterator","odict_iterator","itertools.zip_longest","itertools.pairwise"].contains n=false) (hQ:Q () s):wpAny M A (letOwnedTupleGo tg (.ref it) u) Q E s:=by
  unfold letOwnedTupleGo
  cases tg <;> first
    | exact wpAny_pure hQ
    | (cases u <;> first
        | exact wpAny_pure hQ
        | (refine wpAny_bind (wpAny_load ho ?_)
           rw [hc,hd]
           show wpAny M A (if (["enumerate","zip","dict_itemiterator","dict_reverseitemiterator","odict_iterator","itertools.zip_longest","itertools.pairwise"].contains n&&vs[0]? == some (rawInt _))=true then _ else _) Q E s
           rw [if_neg (by intro h; rw [hn,Bool.false_and] at h; cases h)]
           exact wpAny_pure hQ))
def Itr (lo:Int) (n:Nat):It:=⟨fun i _=>i<n,fun i H x H'=>H'=H∧x=.int (lo+i),fun i _=>n≤i⟩
theorem Dy {P:Program} {w:World} {K:PySem.W.Frag} {tg:Expr} (it:Addr) (lo:Int) (n:Nat):Turn P w K tg (Itr lo n) [it] it (fun i h=>IsRangeIter h it (lo+(i:Nat) * 1) ((n:Int) - (i:Nat)) 1) where
  mem:=by simp
  obj:=fun i h st b hb=>by
    have e:b=it:=by simpa using hb
    subst e
    exact ⟨_,st,fun v z=>by
      have z':Data.fields _=Data.cell v:=z
      cases z'⟩
  keep:=fun i h h' st k=>k it (by simp) _ st
  item:=by
    intro X hP hw hK hc i pins s σ H E I hf st hg
    subst hP hw hK
    obtain ⟨f0,f1,f2,f3,f4,f5⟩:=hf it (by simp)
    have W:=Walks.range (prog:=X.prog) (w:=X.w) (I.ok.hd hc) it lo 1 n
    refine W.item i s _ _ hg st fun v h' tk hv st' kk=>?_
    obtain ⟨t,rfl⟩:=hv
    have I1:Inv X pins σ H { s with heap:=h',toks:=tk }:=I.turned (fun b o hb e=>kk b o (by simpa using hb) e) f0 f1 f3 f4 f5
    refine ⟨_,rfl,Qg (s:={ s with heap:=h',toks:=tk }) (n := "range_iterator") st' rfl rfl (by decide) ⟨.int (lo+i),H,I1,⟨t,?_⟩,⟨rfl,rfl⟩,st',fun b hb=>(hf b hb).1⟩⟩
    rw [Int.mul_one]
  done:=by
    intro X hP hw hK hc i pins s σ H E I hf st hg
    subst hP hw hK
    obtain ⟨f0,f1,f2,f3,f4,f5⟩:=hf it (by simp)
    exact wpAny_pyNext_range_end (I.ok.hd hc) st (by have:n≤i:=hg; omega) fun h' eb=>⟨rfl,I.turned (t':=s.toks) (fun b o hb e=>eb b o hb e) f0 f1 f3 f4 f5⟩
  self:=fun _ _ _ _ _ st h=>wpAny_pyIter_rangeiter st h
end L2
namespace L2
open PySem PySem.Spec PyProof.Rows
section
variable {X:Cx} {tg:Expr}
theorem Ia {pins:List (Addr × Obj)} {σ:St} {H:Hp} {s:Shared} {R:It→Hp→Prop} {E:Value→Shared→Prop} {lo hi:Int} {t u v:Tok} {tk:Nat} (I:Inv X pins σ H s) (h1:-(2 ^ 62)≤lo) (h2:lo<2 ^ 62) (h3:-(2 ^ 62)≤hi) (h4:hi<2 ^ 62)
    (q:R (Itr lo (hi - lo).toNat) H):wpAny (model X.prog X.w) X.A (pyIter (.ref s.heap.objs.size)) (PIE X pins σ tg R) E { s with heap:=s.heap.push { cls:=.type "range",data:=.fields #[.int lo t,.int hi u,.int 1 v] },toks:=tk }:=by
  refine wpAny_pyIter_range (IsRange.new ..) (small_one h1 h2 h3 h4) ?_
  have I1:Inv X pins σ H { s with heap:=s.heap.push { cls:=.type "range",data:=.fields #[.int lo t,.int hi u,.int 1 v] },toks:=tk }:=I.kept fun b o e=>Heap.get?_push_of_some _ e
  refine ⟨(s.heap.push { cls:=.type "range",data:=.fields #[.int lo t,.int hi u,.int 1 v] }).objs.size,[(s.heap.push { cls:=.type "range",data:=.fields #[.int lo t,.int hi u,.int 1 v] }).objs.size],_,_,H,rfl,
    I1.kept (t':=tk) fun b o e=>Heap.get?_push_of_some _ e,Dy _ lo (hi - lo).toNat,?_,fun b hb=>?_,q⟩
  · have e1:lo+((0:Nat):Int) * 1=lo:=by simp
    have e2:(((hi - lo).toNat:Nat):Int) - ((0:Nat):Int)=Builtin.Range.rangeSize lo hi 1:=by rw [rangeSize_one]; split <;> omega
    show IsRangeIter _ _ (lo+((0:Nat):Int) * 1) ((((hi - lo).toNat:Nat):Int) - ((0:Nat):Int)) 1
    rw [e1,e2]
    exact Heap.get?_push_size _ rfl
  · have e:b=(s.heap.push { cls:=.type "range",data:=.fields #[.int lo t,.int hi u,.int 1 v] }).objs.size:=by simpa using hb
    subst e
    exact I1.S7 (Nat.le_refl _) (I1.hok.fresh (Nat.le_refl _))
def Qh (ta:TA):TI:=fun σ H R=>ta σ H fun vs H1=>∃ j:Int,vs=[.int j]∧-(2 ^ 62)≤j∧j<2 ^ 62∧R (Itr 0 j.toNat) H1
theorem Gk {a:Expr} {ta:TA} {p pos:Pos} (hg:Gl X "range") (hm:X.mg "range" = none) (ha:PA X [a] ta) (hs:starEach [a] X.env=[(false,eval a X.env)]:=by rfl):PI X tg (.Call (.Name "range" p) [a] [] pos) (Qh ta):=by
  intro pins s σ H R I h
  refine Call_ (Ew I hg hm boot_range (PyProof.Rows.callWith_type1 (thn (ha pos pins s σ H _ I h) fun us s1 z0=>?_) hs rfl))
  obtain ⟨vs,H1,I1,r1,q1⟩:=z0
  obtain ⟨j,e,q1,q2,q⟩:=q1
  subst e
  cases r1 with
  | cons r rr =>
    cases rr
    obtain ⟨t,rfl⟩:=r
    exact call_range_1 (Ia I1 (by omega) (by omega) q1 q2 (by simpa using q))
def Rb (wi:TI) (g:TG) (tb:TS):TS:=fun D σ H=>wi σ H fun J H1=>∃ W:Nat→Nat→St→Hp→Prop,(∃ m,W 0 m σ H1)∧∀ i m σ H,W i m σ H →
  (J.stop i H∧D.nx σ H)∨(J.go i H∧∃ N:St→Hp→Prop,(∀ σ' H',N σ' H'→∃ m',m'<m∧W (i+1) m' σ' H')∧∀ x H',J.yld i H x H'→g x σ H' fun σ2 H2=>tb { D with nx:=N,ct:=N,bk:=D.nx } σ2 H2)
def Ao (fp:List Addr) (h:Heap):List (Addr × Obj):=fp.filterMap fun b=>(h.get? b).map fun o=>(b,o)
theorem ou {fp:List Addr} {h:Heap} {b:Addr} {o:Obj} (hb:b∈fp) (e:h.get? b=some o):(b,o)∈Ao fp h:=List.mem_filterMap.mpr ⟨b,hb,by rw [e]; rfl⟩
theorem Gp {fp:List Addr} {h:Heap} {p:Addr × Obj} (hp:p∈Ao fp h):p.1∈fp∧h.get? p.1=some p.2:=by
  obtain ⟨b,hb,e⟩:=List.mem_filterMap.mp hp
  cases q:h.get? b with
  | none=>rw [q] at e; cases e
  | some o =>
    rw [q] at e
    have e':(b,o)=p:=Option.some.inj e
    subst e'
    exact ⟨hb,q⟩
theorem Inv.pinned {pins:List (Addr × Obj)} {σ:St} {H:Hp} {s:Shared} {fp:List Addr} (I:Inv X pins σ H s) (hf:∀ b∈fp,Ec X pins H b) (ho:∀ b∈fp,∃ o,s.heap.get? b=some o∧∀ v,o.data≠.cell v):Inv X (pins++Ao fp s.heap) σ H s :=
  I.uw fun p hp=>(List.mem_append.mp hp).elim (fun z=>I.pin p (List.mem_append_right _ z)) fun z=>by
    obtain ⟨hb,e⟩:=Gp z
    obtain ⟨f0,f1,f2,_⟩:=hf p.1 hb
    obtain ⟨o,e',d⟩:=ho p.1 hb
    rw [e] at e'; cases e'
    exact ⟨e,f0,f1,f2,d⟩
theorem Inv.u6 {pins pl:List (Addr × Obj)} {σ:St} {H:Hp} {s:Shared} (I:Inv X (pins++pl) σ H s):Inv X pins σ H s:=I.uw fun p hp=>I.pin p (List.mem_append_right _ (List.mem_append_left _ hp))
theorem Nb {iter:Expr} {body:List Stmt} {wi:TI} {g:TG} {tb:TS} {pos:Pos} (hp:PassesOwn (model X.prog X.w) X.A X.env X.xe) (hc:X.calm=true) (hi:PI X tg iter wi) (hg:PG X tg g) (hb:PSs X body tb)
    (hs:∀ x,foldedSetIterable iter X.env x=pure x:=by intro _; rfl):PS X (.For tg iter body [] pos) (Rb wi g tb):=by
  intro pins s σ H D I h
  refine wpAny_For (thn (hi pins s σ H _ I h) fun v s1 h1=>thn h1 fun itv s2 h2=>?_) hs
  obtain ⟨it,fp,tn,J,H2,e,I2,T,st2,f2,W,⟨m0,w0⟩,turn⟩:=h2
  subst e
  have stat:∀ {H':Hp},(∀ b∈fp,H' b=none)→∀ b∈fp,Ec X pins H' b:=fun hn b hb=>⟨hn b hb,(f2 b hb).2⟩
  refine codeAny_forLoop_any (fun n s'=>∃ i σ' H',Inv X pins σ' H' s'∧tn i s'.heap∧(∀ b∈fp,H' b=none)∧W i n σ' H') ?_ m0 ⟨0,σ,H2,I2,st2,fun b hb=>(f2 b hb).1,w0⟩
  rintro n s3 ⟨i,σ3,H3,I3,st3,fr3,w3⟩
  rcases turn i n σ3 H3 w3 with ⟨stop,qn⟩ | ⟨go,N,hN,step⟩
  · refine wpAny_passesOwn hp (thn (T.done X rfl rfl rfl hc i pins s3 σ3 H3 X.xe I3 (stat fr3) st3 stop) fun r s4 z0=>?_)
    obtain ⟨hr,I4⟩:=z0
    subst hr
    exact wpAny_execs_nil ⟨σ3,H3,I4,qn⟩
  · refine wpAny_passesOwn hp (thn (T.item X rfl rfl rfl hc i pins s3 σ3 H3 X.xe I3 (stat fr3) st3 go) fun r s4 z0=>?_)
    obtain ⟨u,hr,h4⟩:=z0
    subst hr
    refine wpAny_passesOwn hp (thn h4 fun _ s5 z0=>?_)
    obtain ⟨x,H5,I5,r5,y5,st5,fr5⟩:=z0
    have I5':=I5.pinned (stat fr5) (T.obj _ _ st5)
    refine wpAny_passesOwn hp (thn (hg _ s5 σ3 H5 x u _ I5' r5 (step x H5 y5)) fun _ s6 z0=>?_)
    obtain ⟨σ6,H6,I6,q6⟩:=z0
    refine wpAny_passesOwn hp (thn (hb _ s6 σ6 H6 _ I6 q6) fun f s7 q7=>?_)
    have again:∀ {σ7:St} {H7:Hp},Inv X (pins++Ao fp s5.heap) σ7 H7 s7→N σ7 H7→∃ m,m<n∧∃ i σ' H',Inv X pins σ' H' s7∧tn i s7.heap∧(∀ b∈fp,H' b=none)∧W i m σ' H':=fun {σ7 H7} I7 n7=>by
      obtain ⟨m',hm,w7⟩:=hN σ7 H7 n7
      refine ⟨m',hm,i+1,σ7,H7,I7.u6,T.keep _ _ _ st5 fun b hb o e=>(I7.pin (b,o) (List.mem_append_right _ (List.mem_append_right _ (ou hb e)))).1,fun b hb=>?_,w7⟩
      obtain ⟨o,e,d⟩:=T.obj _ _ st5 b hb
      exact (I7.pin (b,o) (List.mem_append_right _ (List.mem_append_right _ (ou hb e)))).2.1
    cases f with
    | next=>obtain ⟨σ7,H7,I7,n7⟩:=q7; exact again I7 n7
    | cont=>obtain ⟨σ7,H7,I7,n7⟩:=q7; exact again I7 n7
    | brk=>obtain ⟨σ7,H7,I7,q7⟩:=q7; exact ⟨σ7,H7,I7.u6,q7⟩
    | ret v=>obtain ⟨x7,σ7,H7,I7,r7,q7⟩:=q7; exact ⟨x7,σ7,H7,I7.u6,r7,q7⟩
end
end L2
namespace L2
open PySem PySem.Spec PyProof.Rows
abbrev R2:=V→V→Hp→VK→Prop
def OpR (X:Cx) (f:Value→Value→Sem Value) (r:R2):Prop :=
  ∀ (pins:List (Addr × Obj)) (s:Shared) (σ:St) (H:Hp) (x y:V) (v u:Value) (Q:VK),Inv X pins σ H s→RelV x v→RelV y u→r x y H Q →
    wpAny (model X.prog X.w) X.A (f v u) (EP X pins σ Q) X.xe s
def El (X:Cx) (f:Value) (r:List V→Hp→VK→Prop):Prop :=
  ∀ (pins:List (Addr × Obj)) (s:Shared) (σ:St) (H:Hp) (xs:List V) (us:List Value) (Q:VK),Inv X pins σ H s→Vals xs us→r xs H Q →
    wpAny (model X.prog X.w) X.A (call f us) (EP X pins σ Q) X.xe s
def tOp (r:R2) (ta tb:TE):TE:=fun σ H Q=>ta σ H fun x H1=>tb σ H1 fun y H2=>r x y H2 Q
def rI (C:Int→Int→Prop) (g:Int→Int→V):R2:=fun x y H Q=>∃ i j,x=.int i∧y=.int j∧C i j∧Q (g i j) H
def rI0 (g:Int→Int→V):R2:=fun x y H Q=>∃ i j,x=.int i∧y=.int j∧Q (g i j) H
section
variable {X:Cx} {a b c:Expr} {ta tb tc:TE} {pos:Pos}
theorem Qa (ha:PE X a ta) (hb:PE X b tb) {pins:List (Addr × Obj)} {s:Shared} {σ:St} {H:Hp} {R:V→V→Hp→Prop} (I:Inv X pins σ H s)
    (h:ta σ H fun x H1=>tb σ H1 fun y H2=>R x y H2) {Q:Value→Shared→Prop} {f:Value→Value→Sem Value}
    (hf:∀ v u s2 x y H2,Inv X pins σ H2 s2→RelV x v→RelV y u→R x y H2→wpAny (model X.prog X.w) X.A (f v u) Q X.xe s2) :
    wpAny (model X.prog X.w) X.A (eval a X.env) (fun v s₁=>wpAny (model X.prog X.w) X.A (eval b X.env) (fun u s₂=>wpAny (model X.prog X.w) X.A (f v u) Q X.xe s₂) X.xe s₁) X.xe s:=by
  refine thn (ha pins s σ H _ I h) fun v s1 z0=>?_
  obtain ⟨x,H1,I1,r1,q1⟩:=z0
  refine thn (hb pins s1 σ H1 _ I1 q1) fun u s2 z0=>?_
  obtain ⟨y,H2,I2,r2,q2⟩:=z0
  exact hf v u s2 x y H2 I2 r1 r2 q2
theorem Pk {op:Operator} {r:R2} (ho:OpR X (binaryOp op) r) (ha:PE X a ta) (hb:PE X b tb):PE X (.BinOp a op b pos) (tOp r ta tb):=by
  intro pins s σ H Q I h
  exact wpAny_BinOp (Qa ha hb I h fun v u s2 x y H2 I2 rx ry q=>ho pins s2 σ H2 x y v u Q I2 rx ry q)
theorem opI {f:Value→Value→Sem Value} {C:Int→Int→Prop} {g:Int→Int→Int}
    (rule:∀ (i j:Int) (t u:Tok) (s:Shared) (Q:Value→Shared→Prop) (E:Value→Shared→Prop),C i j→Q (.int (g i j) s.toks) { s with toks:=s.toks+1 }→wpAny (model X.prog X.w) X.A (f (.int i t) (.int j u)) Q E s) :
    OpR X f (rI C fun i j=>.int (g i j)):=by
  intro pins s σ H x y v u Q I rx ry h
  obtain ⟨i,j,rfl,rfl,hc,q⟩:=h
  obtain ⟨t,rfl⟩:=rx
  obtain ⟨t',rfl⟩:=ry
  exact rule i j t t' s _ _ hc ⟨.int (g i j),H,I.tok _,⟨_,rfl⟩,q⟩
theorem Rj {f:Value→Value→Sem Value} {g:Int→Int→Int}
    (rule:∀ (i j:Int) (t u:Tok) (s:Shared) (Q:Value→Shared→Prop) (E:Value→Shared→Prop),Q (.int (g i j) s.toks) { s with toks:=s.toks+1 }→wpAny (model X.prog X.w) X.A (f (.int i t) (.int j u)) Q E s) :
    OpR X f (rI0 fun i j=>.int (g i j)):=by
  intro pins s σ H x y v u Q I rx ry h
  obtain ⟨i,j,rfl,rfl,q⟩:=h
  obtain ⟨t,rfl⟩:=rx
  obtain ⟨t',rfl⟩:=ry
  exact rule i j t t' s _ _ ⟨.int (g i j),H,I.tok _,⟨_,rfl⟩,q⟩
theorem T6 {f:Value→Value→Sem Value} {g:Int→Int→Bool}
    (rule:∀ (i j:Int) (t u:Tok) (s:Shared) (Q:Value→Shared→Prop) (E:Value→Shared→Prop),Q (.bool (g i j)) s→wpAny (model X.prog X.w) X.A (f (.int i t) (.int j u)) Q E s) :
    OpR X f (rI0 fun i j=>.bl (g i j)):=by
  intro pins s σ H x y v u Q I rx ry h
  obtain ⟨i,j,rfl,rfl,q⟩:=h
  obtain ⟨t,rfl⟩:=rx
  obtain ⟨t',rfl⟩:=ry
  exact rule i j t t' s _ _ ⟨.bl (g i j),H,I,rfl,q⟩
def Rv (i j:Int):Prop:=0≤j∧j≤1000000∧i.natAbs<2 ^ 64
def Qz (i j:Int):Prop:=(-(2 ^ 64)<i∧i<2 ^ 64)∨(-(2 ^ 64)<j∧j<2 ^ 64)
theorem Qz.ok {i j:Int} (h:Qz i j):IntMulOk i j:=by
  rcases h with ⟨h1,h2⟩ | ⟨h1,h2⟩
  · exact .of_left (intBits_le_64 h1 h2)
  · exact .of_right (intBits_le_64 h1 h2)
theorem Mx:OpR X (binaryOp .Add) (rI0 fun i j=>.int (i+j)):=Rj fun _ _ _ _ _ _ _ q=>add_int q
theorem Oi:OpR X (binaryOp .Mod) (rI (fun _ j=>0<j) fun i j=>.int (i%j)):=opI fun i j _ _ _ _ _ hc q=>by
  have h1:(0:Int)<j:=hc
  exact mod_int' (by omega) (by rw [Int.fmod_eq_emod_of_nonneg i (by omega)]; exact q)
theorem Nh:OpR X (binaryOp .Pow) (rI Rv fun i j=>.int (i ^ j.toNat)):=opI fun _ _ _ _ _ _ _ hc q=>pow_int_small hc.1 hc.2.1 hc.2.2 q
end
section
variable {X:Cx} {a b c:Expr} {ta tb tc:TE} {pos:Pos}
theorem Pr:OpR X (compareOp .Lt) (rI0 fun i j=>.bl (decide (i<j))):=T6 fun _ _ _ _ _ _ _ q=>lt_int q
theorem dj (b:Expr) {op:CmpOp} (h:op≠.In:=by decide) (h2:op≠.NotIn:=by decide):behindInMarks op b=false:=by
  have e1:(op==CmpOp.In)=false:=by cases op <;> first | rfl | exact absurd rfl h
  have e2:(op==CmpOp.NotIn)=false:=by cases op <;> first | rfl | exact absurd rfl h2
  cases b <;> simp [behindInMarks,e1,e2]
theorem Ml {op:CmpOp} {r:R2} (ho:OpR X (compareOp op) r) (ha:PE X a ta) (hb:PE X b tb) (hm:behindInMarks op b=false):PE X (.Compare a [op] [b] pos) (tOp r ta tb):=by
  intro pins s σ H Q I h
  exact wpAny_Compare1 (Qa ha hb I h fun v u s2 x y H2 I2 rx ry q=>ho pins s2 σ H2 x y v u Q I2 rx ry q) hm
def Om (t:TE):TT:=fun σ H Q=>t σ H fun x H'=>∃ k,x=.bl k∧Q k H'
theorem Kz {op:CmpOp} {r:R2} (ho:OpR X (compareOp op) r) (ha:PE X a ta) (hb:PE X b tb) (hm:behindInMarks op b=false):PT X (.Compare a [op] [b] pos) (Om (tOp r ta tb)):=by
  intro pins s σ H Q I h
  refine wpAny_isTrue_Compare1 (thn (ha pins s σ H _ I h) fun v s1 ⟨x,H1,I1,r1,q1⟩=>thn (hb pins s1 σ H1 _ I1 q1) fun u s2 ⟨y,H2,I2,r2,q2⟩ =>
    thn (ho pins s2 σ H2 x y v u _ I2 r1 r2 q2) fun c s3 ⟨z,H3,I3,r3,k,e,q3⟩=>?_) hm
  subst e
  cases r3
  exact wpAny_truthy_bool ⟨H3,I3,q3⟩
theorem Bg:(sizeLine:Nat)<2 ^ 63:=by rw [sizeLine_eq]; decide
theorem Dm:OpR X (binaryOp .Add) (fun x y H Q=>∃ i j,x=.str i∧y=.str j∧i.length+j.length≤sizeLine∧Q (.str (i++j)) H):=by
  intro pins s σ H x y v u Q I rx ry h
  obtain ⟨i,j,rfl,rfl,hz,q⟩:=h
  obtain ⟨t,rfl⟩:=rx
  obtain ⟨t',rfl⟩:=ry
  exact add_str (fun t' tk=>⟨.str (i++j),H,I.tok _,⟨_,rfl⟩,q⟩) hz
theorem vals1 {x:V} {us:List Value} (r:Vals [x] us):∃ u,us=[u]∧RelV x u:=by
  cases r with
  | cons r1 r2=>cases r2; exact ⟨_,rfl,r1⟩
end
end L2
namespace L2
open PySem PySem.Spec PyProof.Rows
structure T7 (h:Heap) (x dx C:Addr) (mA:Str→Option Value):Prop where
  obj:h.get? x=some (PySem.W.instObj C dx)
  ns:h.Ns1 dx mA
  ne:dx≠x
section
variable {prog:Program} {w:World} {A:Around} {E:Value→Shared→Prop} {s:Shared} {K:PySem.W.Frag} {x dx C f:Addr} {mA:Str→Option Value} {name:Str} {v:Value}
end
theorem Dh.some_of {v:V} {o:Option Value} (r:Dh (some v) o):∃ u,o=some u∧RelV v u:=by
  cases o with
  | none=>exact (show False from r).elim
  | some u=>exact ⟨u,rfl,r⟩
theorem Dh.none_of {o:Option Value} (r:Dh none o):o=none:=by
  cases o with
  | none=>rfl
  | some u=>exact (show False from r).elim
section
variable {P:Program} {w:World} {H H':Hp} {h h':Heap} {a C dx:Addr} {fs fs':List (Str × V)}
end
structure Cls (K:PySem.W.Frag) (C:Addr):Prop where
  pg:PySem.W.plainGet K C Str.empty=true
  hd:PySem.W.hasDictIn K C=true
  po:PySem.W.plainOver K C=true
  sa:PySem.W.findIn K (.ref C) "__setattr__" = some (some (.builtin "object.__setattr__"))
theorem Cls.get {K:PySem.W.Frag} {C:Addr} (c:Cls K C) (f:Str):PySem.W.plainGet K C f=true:=c.pg
structure Con (K:PySem.W.Frag) (C:Addr) (f:Str) (v:V) (u:Value):Prop where
  at_:PySem.W.findIn K (.ref C) f=some (some u)
  rel:RelV v u
  get:PySem.W.specialIn K u "__get__" = some none
  cp:PySem.W.copiedNames.contains f=false
structure Meth (K:PySem.W.Frag) (C:Addr) (m:Str) (f:Addr):Prop where
  at_:PySem.W.findIn K (.ref C) m=some (some (.ref f))
  fn:PySem.W.isFn K (.ref f)=true
  kp:PySem.W.keepIn K (.ref f)=true
section
variable {X:Cx} {pins:List (Addr × Obj)} {σ:St} {H:Hp} {s:Shared} {a C dx:Addr} {fs:List (Str × V)} {f:Str} {v:V} {A:Around} {E:Value→Shared→Prop}
theorem Inv.made (I:Inv X pins σ H s):Inv X pins σ (upd (upd H s.heap.objs.size (.own (s.heap.objs.size+1))) (s.heap.objs.size+1) (.ins C s.heap.objs.size []))
    { s with heap:=(s.heap.push PySem.W.emptyDict).push (PySem.W.instObj C s.heap.objs.size) }:=by
  have e1:(s.heap.push PySem.W.emptyDict).get? s.heap.objs.size=some PySem.W.emptyDict:=Heap.get?_push_size s.heap rfl
  have e2:((s.heap.push PySem.W.emptyDict).push (PySem.W.instObj C s.heap.objs.size)).get? (s.heap.objs.size+1)=some (PySem.W.instObj C s.heap.objs.size):=by
    have:=Heap.get?_push_size (s.heap.push PySem.W.emptyDict) (o:=PySem.W.instObj C s.heap.objs.size) rfl
    rwa [Heap.size_push] at this
  have e3:(s.heap.push PySem.W.emptyDict).Ns s.heap.objs.size (fun _=>none):=⟨PySem.W.emptyDict,#[],_,e1,rfl,(fun e he=>absurd he (by simp)),fun _=>rfl⟩
  have I1:=I.laid (a:=s.heap.objs.size) (o:=.own (s.heap.objs.size+1)) (h':=s.heap.push PySem.W.emptyDict) (t':=s.toks) (fun b u q=>Heap.get?_push_of_some _ q) (Nat.le_refl _) ⟨_,e1⟩
  refine I1.laid (a:=s.heap.objs.size+1) (o:=.ins C s.heap.objs.size []) (t':=s.toks) (fun b u q=>Heap.get?_push_of_some _ q) (Nat.le_of_eq (Heap.size_push _ _)) ?_
  have ne:s.heap.objs.size≠s.heap.objs.size+1:=Nat.ne_of_lt (Nat.lt_succ_self _)
  refine ⟨by rw [ao ne,aq],Nat.zero_le _,ne,e2,fun _=>none,(Heap.Ns1.of_empty e3).at fun o q=>Heap.get?_push_of_some _ q,fun _=>True.intro,fun y hy=>absurd rfl hy⟩
theorem Kg {prog:Program} {w:World} {env:Env} {e:Expr} {f:Str} {pos:Pos} {s:Shared} {Q:Value→Shared→Prop} (hb:attributeBase e f env (eval e env)=eval e env)
    (h:wpAny (model prog w) A (eval e env) (fun o s₁=>wpAny (model prog w) A (getAttr o f true) Q E s₁) E s):wpAny (model prog w) A (eval (.Attribute e f pos) env) Q E s :=
  Attribute_any_ h (by rw [arm_eval_Attribute,hb])
end
section
variable {X:Cx} {o e value:Expr} {f:Str} {pos pos' tpos:Pos} {ta tv:TE}
end
section
variable {X:Cx} {pins:List (Addr × Obj)} {σ:St} {H:Hp} {s:Shared} {A:Around} {E:Value→Shared→Prop} {Q:Value→Shared→Prop} {c:Value} {b:Bool}
inductive Gz (K:PySem.W.Frag) (H:Hp):V→Value→Prop where
  | non:Gz K H .non (.type "NoneType")
  | bl (x:Bool):Gz K H (.bl x) (.type "bool")
  | int (i:Int):Gz K H (.int i) (.type "int")
  | str (x:Str):Gz K H (.str x) (.type "str")
  | flt (x:UInt64):Gz K H (.flt x) (.type "float")
  | lst {a:Addr} {xs:List V} (e:H a=some (.lst xs)):Gz K H (.ref a) (.type "list")
  | frz {a:Addr} {o:Obj} {xs:List V} (e:H a=some (.frz o (.lst xs))):Gz K H (.ref a) (.type "list")
  | tup {a:Addr} {xs:List V} (e:H a=some (.tup xs)):Gz K H (.ref a) (.type "tuple")
  | dK {a:Addr} {kvs:List (Key × V)} (e:H a=some (.dK kvs)):Gz K H (.ref a) (.type "dict")
  | dT {a:Addr} {kvs:List (List Key × V)} (e:H a=some (.dT kvs)):Gz K H (.ref a) (.type "dict")
  | ins {a C dx:Addr} {fs:List (Str × V)} (e:H a=some (.ins C dx fs)) (cl:Cls K C) (ha:PySem.W.findIn K (.ref C) "__class__" = some (some (.builtin "object.__class__")))
      (hn:PySem.W.specialIn K (.builtin "object.__class__") "__get__" = some (some (.builtin "getset_descriptor.__get__"))) (htk:PySem.W.takesIn K (.builtin "object.__class__")=some true)
      (hm:PySem.W.mroIn K C (.type "object")=some true):Gz K H (.ref a) (.ref C)
end
end L2
namespace L2
open PySem PySem.Spec PyProof.Rows
structure nu (k:Nat) (A:Around):Prop where
  hd:A.handled=none
  dp:A.depth+3 * k+5<recursionLimit
  un:A.units+16 * k+200<cLine
theorem nu.mono {j k:Nat} {A:Around} (r:nu k A) (h:j≤k):nu j A:=⟨r.hd,by have:=r.dp; omega,by have:=r.un; omega⟩
theorem nu.deeper {k:Nat} {A:Around} (r:nu (k+1) A) (env:Env):nu k (A.deeper env) :=
  ⟨r.hd,by have:=r.dp; show A.depth+1+3 * k+5<_; omega,by have:=r.un; show A.units+3+16 * k+200<_; omega⟩
theorem Ef {A:Around} {C:Addr} {us:List Value} {kw:List (Str × Value)}:(A.under (.builtin "type.__call__" ⟨.ref C::us,kw⟩)).depth=A.depth+1:=by
  first | rfl | simp [Around.under,Code.weight,Code.isCreation,Code.isGuard,Code.isCaller,Code.frames,Code.isFrame,guardIds]
theorem Dt {A:Around} {C:Addr} {us:List Value} {kw:List (Str × Value)}:(A.under (.builtin "type.__call__" ⟨.ref C::us,kw⟩)).units=A.units+1:=by
  first | rfl | simp [Around.under,Code.cUnits,Code.frames,Code.isFrame]
theorem nu.make {k:Nat} {A:Around} (r:nu (k+1) A) (C:Addr) (us:List Value) (kw:List (Str × Value)):nu k (A.under (.builtin "type.__call__" ⟨.ref C::us,kw⟩)) :=
  ⟨r.hd,by have:=r.dp; rw [Ef]; omega,by have:=r.un; rw [Dt]; omega⟩
theorem nu.depth {k:Nat} {A:Around} (r:nu k A):A.depth<recursionLimit:=by have:=r.dp; omega
theorem nu.units {k:Nat} {A:Around} (r:nu k A):A.units+64<cLine:=by have:=r.un; omega
def Qx:TA:=fun _ H Q=>Q [] H
def O2 (ta:TE) (tr:TA):TA:=fun σ H Q=>ta σ H fun x H1=>tr σ H1 fun xs H2=>Q (x::xs) H2
section
variable {X:Cx} {e:Expr} {es:List Expr} {te:TE} {t:TA} {pos:Pos}
theorem Al:PA X [] Qx:=fun _ _ _ _ H Q I h=>Calls.spliced_nil ⟨[],H,I,.nil,h⟩
theorem ql (ha:PE X e te) (hr:PA X es t) (hs:starEach (e::es) X.env=(false,eval e X.env)::starEach es X.env:=by rfl):PA X (e::es) (O2 te t):=by
  intro pos pins s σ H Q I h
  rw [hs]
  show wpAny _ _ (spliced ((false,eval e X.env)::backTo pos (starEach es X.env))) _ _ s
  refine Calls.spliced_cons (thn (ha pins s σ H _ I h) fun u s1 z0=>?_)
  obtain ⟨x,H1,I1,r1,q1⟩:=z0
  exact thn (hr pos pins s1 σ H1 _ I1 q1) fun us s2 ⟨xs,H2,I2,r2,q2⟩=>⟨x::xs,H2,I2,.cons r1 r2,q2⟩
def Rf (t:TA):TE:=fun σ H Q=>t σ H fun xs H1=>xs.length≤sizeLine∧∀ p,H1 p=none→Q (.ref p) (upd H1 p (.tup xs))
def Rt (t:TA):TE:=fun σ H Q=>t σ H fun xs H1=>xs.length≤sizeLine∧∀ p,H1 p=none→Q (.ref p) (upd H1 p (.lst xs))
theorem Oq {x1} (h:PA X es t):PE X (.Tuple es x1 pos) (Rf t):=by
  intro pins s σ H Q I hq
  refine wpAny_Tuple_spliced (thn (h pos pins s σ H _ I hq) fun us s1 ⟨xs,H1,I1,r,z,q⟩=>⟨by rw [← r.length]; exact z,?_⟩)
  have hf:H1 s1.heap.objs.size=none:=I1.hok.fresh (Nat.le_refl _)
  refine ⟨.ref s1.heap.objs.size,upd H1 s1.heap.objs.size (.tup xs),I1.laid (t':=s1.toks) (fun b u e=>Heap.get?_push_of_some _ e) (Nat.le_refl _) ?_,rfl,q _ hf⟩
  exact ⟨z,us,r,⟨_,Heap.get?_push_size _ rfl,rfl,rfl,_,rfl⟩⟩
theorem O7 (h:PA X es t):PE X (.List es pos) (Rt t):=by
  intro pins s σ H Q I hq
  refine wpAny_List_spliced (thn (h pos pins s σ H _ I hq) fun us s1 ⟨xs,H1,I1,r,z,q⟩=>⟨by rw [← r.length]; exact z,?_⟩)
  have hf:H1 s1.heap.objs.size=none:=I1.hok.fresh (Nat.le_refl _)
  refine ⟨.ref s1.heap.objs.size,upd H1 s1.heap.objs.size (.lst xs),I1.laid (t':=s1.toks) (fun b u e=>Heap.get?_push_of_some _ e) (Nat.le_refl _) ?_,rfl,q _ hf⟩
  exact ⟨z,us,0,r,Heap.get?_push_size _ rfl⟩
end
abbrev Sp:=List V→Hp→VK→XK→Prop
abbrev CXT:=List Env→Hp→Shared→XK→Value→Shared→Prop
structure Kv (P:Program) (w:World) (K:PySem.W.Frag) (mg:Str→Option Value) (base:Heap) (A:Around) (outer:List Env) (s:Shared) (H:Hp):Prop where
  frames:A.frames=some outer
  mod:Mod K mg base
  bs:∀ b o,base.get? b=some o→s.heap.get? b=some o∧H b=none
  bsz:base.objs.size≤s.heap.objs.size
  Cq:s.heap.FunFrames base outer
  frf:∀ b∈frs outer,H b=none
  hok:HOk P w H s.heap
  bare:AllBare s.gens
def CE (outer:List Env) (P:Program) (w:World) (H:Hp) (s:Shared) (Q:VK) (u:Value) (s':Shared):Prop :=
  ∃ v H',s'.os=s.os∧AllBare s'.gens∧Un (frs outer) [] H H' s.heap s'.heap∧HOk P w H' s'.heap∧RelV v u∧Q v H'
def CR (CX:CXT) (outer:List Env) (P:Program) (w:World) (H:Hp) (s:Shared) (Q:VK) (E:XK) (r:Result) (s':Shared):Prop :=
  match r with
  | .ok (.ret u)=>CE outer P w H s Q u s'
  | .ok _=>False
  | .error e=>CX outer H s E e s'
structure lq (P:Program) (w:World) (K:PySem.W.Frag) (mg:Str→Option Value) (base:Heap) (CX:CXT) (k:Nat) (f:Addr) (fd:FuncData) (ps:List Str) (sp:Sp):Prop where
  len:∀ vs H Q E,sp vs H Q E→vs.length=ps.length
  run:∀ (A:Around) (outer:List Env) (s:Shared) (H:Hp) (args:Args) (us:List Value) (vs:List V) (Q:VK) (E:XK),nu k A→Kv P w K mg base A outer s H→BindsTo s fd args (ps.zip us)→Vals vs us→sp vs H Q E →
    codeAny (model P w) A (.call (.ref f) args) (CR CX outer P w H s Q E) s
theorem lq.mono {P:Program} {w:World} {K:PySem.W.Frag} {mg:Str→Option Value} {base:Heap} {CX:CXT} {j k:Nat} {f:Addr} {fd:FuncData} {ps:List Str} {sp:Sp} (F:lq P w K mg base CX j f fd ps sp) (h:j≤k) :
    lq P w K mg base CX k f fd ps sp:=⟨F.len,fun A outer s H args us vs Q E hr=>F.run A outer s H args us vs Q E (hr.mono h)⟩
theorem lq.imp {P:Program} {w:World} {K:PySem.W.Frag} {mg:Str→Option Value} {base:Heap} {CX:CXT} {k:Nat} {f:Addr} {fd:FuncData} {ps:List Str} {sp sp':Sp} (F:lq P w K mg base CX k f fd ps sp)
    (h:∀ vs H Q E,sp' vs H Q E→sp vs H Q E):lq P w K mg base CX k f fd ps sp' :=
  ⟨fun vs H Q E q=>F.len vs H Q E (h _ _ _ _ q),fun A outer s H args us vs Q E hr he hb hv hs=>F.run A outer s H args us vs Q E hr he hb hv (h _ _ _ _ hs)⟩
theorem Kv.make {P:Program} {w:World} {K:PySem.W.Frag} {mg:Str→Option Value} {base:Heap} {A:Around} {outer:List Env} {s:Shared} {H:Hp} (e:Kv P w K mg base A outer s H) (C:Addr) (us:List Value) (kw:List (Str × Value)) :
    Kv P w K mg base (A.under (.builtin "type.__call__" ⟨.ref C::us,kw⟩)) outer s H:=⟨by first | exact e.frames | (simpa [Around.under,Code.envs,Code.isFrame,pushEnvs] using e.frames),e.mod,e.bs,e.bsz,e.Cq,e.frf,e.hok,e.bare⟩
section
variable {X:Cx} {pins:List (Addr × Obj)} {σ:St} {H:Hp} {s s':Shared}
theorem Inv.env0 (I:Inv X pins σ H s):Kv X.prog X.w X.K X.mg X.base X.A X.stack s H :=
  ⟨I.ok.frames,I.ok.mod,I.bs,Nat.le_trans I.ok.bsz I.sz,I.stack,I.Bq,I.hok,I.bare⟩
theorem Inv.after {Q:VK} {u:Value} (I:Inv X pins σ H s) (h:CE X.stack X.prog X.w H s Q u s'):EP X pins σ Q u s':=by
  obtain ⟨v,H',os,bare,un,hok,r,q⟩:=h
  obtain ⟨hh,g,d,t,os'⟩:=s'
  obtain rfl:os'=s.os:=os
  exact ⟨v,H',I.call (h':=hh) (g':=g) (d':=d) (t':=t) (ch:=[]) un hok bare (fun b z=>absurd z (by simp)),r,q⟩
end
def Pn (sp:Sp) (dvs:List V) (E:XK) (t:TA):TE:=fun σ H Q=>t σ H fun vs H1=>sp (vs++dvs) H1 Q E
def Binds (K:PySem.W.Frag) (fd:FuncData) (ps:List Str) (ds:List Value):Prop :=
  ∀ (s:Shared) (us:List Value),K.In s.heap→(us++ds).length=ps.length→BindsTo s fd ⟨us,[]⟩ (ps.zip (us++ds))
theorem Binds.all {K:PySem.W.Frag} {fd:FuncData} {ps:List Str} (h:∀ us:List Value,us.length=ps.length→bindArgs fd ⟨us,[]⟩=pure (ps.zip us)):Binds K fd ps []:=fun s us _ hl=>by
  rw [List.append_nil] at hl ⊢
  exact .of_eq (h us hl)
def Passes (CX:CXT) (X:Cx) (E:XK):Prop:=∀ (pins:List (Addr × Obj)) (σ:St) (H:Hp) (s:Shared) (e:Value) (s':Shared),Inv X pins σ H s→CX X.stack H s E e s'→X.xe e s'
section
variable {X:Cx} {CX:CXT} {k:Nat} {f C:Addr} {fd:FuncData} {ps:List Str} {sp:Sp} {dvs:List V} {ds:List Value} {E:XK} {x m:Str} {p pos apos:Pos} {e o:Expr} {es:List Expr} {ta:TE} {t:TA}
theorem Ou {pins:List (Addr × Obj)} {σ:St} {H:Hp} {s:Shared} {Q:VK} {us:List Value} {vs:List V} (F:lq X.prog X.w X.K X.mg X.base CX k f fd ps sp) (hr:nu k X.A) (hb:Binds X.K fd ps ds) (hd:Vals dvs ds) (hx:Passes CX X E)
    (I:Inv X pins σ H s) (r:Vals vs us) (h:sp (vs++dvs) H Q E):wpAny (model X.prog X.w) X.A (call (.ref f) us) (EP X pins σ Q) X.xe s:=by
  have r2:Vals (vs++dvs) (us++ds):=r.append hd
  have hl:(us++ds).length=ps.length:=by rw [← r2.length]; exact F.len _ _ _ _ h
  refine wpAny_call (codeAny_mono (F.run X.A X.stack s H ⟨us,[]⟩ (us++ds) (vs++dvs) Q E hr I.env0 (hb s us I.kIn hl) r2 h) fun r s' hq=>?_)
  cases r with
  | error e=>exact hx pins σ H s e s' I hq
  | ok fl =>
    cases fl with
    | ret u=>exact I.after hq
    | next=>exact False.elim hq
    | brk=>exact False.elim hq
    | cont=>exact False.elim hq
theorem K8 (F:lq X.prog X.w X.K X.mg X.base CX k f fd ps sp) (hr:nu k X.A) (hg:Gl X x) (hm:X.mg x=some (.ref f)) (hk:PySem.W.keepIn X.K (.ref f)=true) (hb:Binds X.K fd ps ds) (hd:Vals dvs ds) (hx:Passes CX X E)
    (ha:PA X (e::es) t) (hdb:(x==("__debug__" : Str))=false:=by decide) (he:starEach (e::es) X.env=(false,eval e X.env)::starEach es X.env:=by rfl) (hpl:(backTo pos (starEach es X.env)).any (·.1)=false:=by rfl) :
    PE X (.Call (.Name x p) (e::es) [] pos) (Pn sp dvs E t):=by
  intro pins s σ H Q I h
  refine wpAny_Call_Name_kw (uz I hg hm ?_ hdb)
  refine PySem.W.callWith_K (h₀:=X.base) I.ok.mod.kin hk (thn (ha pos pins s σ H _ I h) fun us s1 ⟨vs,H1,I1,r,q⟩=>⟨I1.kIn,?_⟩) he hpl
  exact Ou F hr hb hd hx I1 r q
structure Mk (K:PySem.W.Frag) (C f:Addr):Prop where
  makes:PySem.W.makesIn K C=true
  init:PySem.W.findIn K (.ref C) "__init__" = some (some (.ref f))
  fn:PySem.W.isFn K (.ref f)=true
  kp:PySem.W.keepIn K (.ref C)=true
end
section
variable {X:Cx} {CX:CXT} {k:Nat} {f C:Addr} {fd:FuncData} {ps ks:List Str} {sp:Sp} {E:XK} {x m:Str} {p pos apos kpos:Pos} {e o:Expr} {es:List Expr} {kws:List Keyword} {te ta:TE} {t tk:TA} {nm:Option Str}
structure Qy (K:PySem.W.Frag) (fd:FuncData) (ps ks:List Str) (g:List Value→List Value→List Value) (gV:List V→List V→List V):Prop where
  to:∀ (s:Shared) (us ws:List Value),K.In s.heap→(g us ws).length=ps.length→BindsTo s fd ⟨us,ks.zip ws⟩ (ps.zip (g us ws))
  rel:∀ {vs:List V} {us:List Value} {zs:List V} {ws:List Value},Vals vs us→Vals zs ws→Vals (gV vs zs) (g us ws)
variable {g:List Value→List Value→List Value} {gV:List V→List V→List V}
end
structure iz (N P:List Str) (sc:Scope):Prop where
  kind:sc.kind=.function
  co:sc.isCoroutine=false
  gen:sc.isGenerator=false
  nd:N.Nodup
  pre:N.take P.length=P
  par:∀ x∈P,sc.names.lookup x=some .local∨sc.names.lookup x=some .cell
  nofree:∀ y∈sc.names,y.2≠.free
theorem Ba {kindOf:Str→Option NameKind} {x:Str}:∀ {binds:List (Str × Value)} {m:Str→Option Value},(∀ v,(x,v)∉binds)→bindL kindOf binds m x=m x
  | [],_,_=>rfl
  | (n,v)::r,m,h=>by
    unfold bindL
    rw [Ba fun w hw=>h w (List.mem_cons_of_mem _ hw)]
    split
    · have:x≠n:=by rintro rfl; exact h v List.mem_cons_self
      simp [this]
    · rfl
theorem Bj {kindOf:Str→Option NameKind} {x:Str}:∀ {binds:List (Str × Value)} {m:Str→Option Value},(∀ v,(x,v)∉binds)→bindC kindOf binds m x=m x
  | [],_,_=>rfl
  | (n,v)::r,m,h=>by
    unfold bindC
    rw [Bj fun w hw=>h w (List.mem_cons_of_mem _ hw)]
    split
    · rfl
    · have:x≠n:=by rintro rfl; exact h v List.mem_cons_self
      simp [this]
theorem Bo {kindOf:Str→Option NameKind} {x:Str} {v:Value}:∀ {P:List Str} {vs:List Value} {i:Nat} {m:Str→Option Value},P.Nodup→P[i]? = some x→vs[i]? = some v→kindOf x=some .local →
    bindL kindOf (P.zip vs) m x=some v
  | [],_,_,_,_,h,_,_=>by simp at h
  | _::_,[],_,_,_,_,h,_=>by simp at h
  | p::P,w::vs,0,m,nd,h1,h2,hk=>by
    simp at h1 h2; subst h1; subst h2
    show bindL kindOf ((p,w)::P.zip vs) m p=_
    unfold bindL
    rw [Ba fun v hv=>(List.nodup_cons.mp nd).1 (List.of_mem_zip hv).1,if_pos hk]
    simp
  | p::P,w::vs,i+1,m,nd,h1,h2,hk=>by
    show bindL kindOf ((p,w)::P.zip vs) m x=_
    unfold bindL
    exact Bo (i:=i) (List.nodup_cons.mp nd).2 (by simpa using h1) (by simpa using h2) hk
theorem Bh {kindOf:Str→Option NameKind} {x:Str} {v:Value}:∀ {P:List Str} {vs:List Value} {i:Nat} {m:Str→Option Value},P.Nodup→P[i]? = some x→vs[i]? = some v→kindOf x≠some .local →
    bindC kindOf (P.zip vs) m x=some v
  | [],_,_,_,_,h,_,_=>by simp at h
  | _::_,[],_,_,_,_,h,_=>by simp at h
  | p::P,w::vs,0,m,nd,h1,h2,hk=>by
    simp at h1 h2; subst h1; subst h2
    show bindC kindOf ((p,w)::P.zip vs) m p=_
    unfold bindC
    rw [Bj fun v hv=>(List.nodup_cons.mp nd).1 (List.of_mem_zip hv).1,if_neg hk]
    simp
  | p::P,w::vs,i+1,m,nd,h1,h2,hk=>by
    show bindC kindOf ((p,w)::P.zip vs) m x=_
    unfold bindC
    exact Bh (i:=i) (List.nodup_cons.mp nd).2 (by simpa using h1) (by simpa using h2) hk
def start (N:List Str) (vs:List V):St:=vs.map some++List.replicate (N.length - vs.length) none
def Hh (CX:CXT) (P:Program) (w:World) (K:PySem.W.Frag) (mg:Str→Option Value) (base:Heap) (N:List Str) (qual:Str) (scope:Scope) (f:Addr) (cd:Value) (A:Around) (outer:List Env) (s:Shared) (H:Hp) (E:XK):Cx where
  prog:=P
  w:=w
  K:=K
  mg:=mg
  base:=base
  A:=A.deeper (envOfC qual scope s.heap.objs.size f cd)
  N:=N
  s₀:=s
  H₀:=H
  env:=envOfC qual scope s.heap.objs.size f cd
  outer:=outer
  stack:=envOfC qual scope s.heap.objs.size f cd::outer
  ex:=[]
  calm:=true
  fn:=fun _=>true
  pn:=[]
  xe:=fun e s'=>wpAny (model P w) (A.deeper (envOfC qual scope s.heap.objs.size f cd)) (leaving (envOfC qual scope s.heap.objs.size f cd) e) (fun _ s''=>CX outer H s E e s'') (fun e' s''=>CX outer H s E e' s'') s'
theorem Dg {sc:Scope} {n:Nat} {x:Str} (h:sc.names.lookup x=some .cell):∃ c,(cellsFrom n sc.names []).lookup x=some c:=by
  have q:=PySem.W.cellsFrom_some sc.names n [] (.inl h)
  exact Option.isSome_iff_exists.mp q
theorem Ho {CX:CXT} {P:Program} {w:World} {K:PySem.W.Frag} {mg:Str→Option Value} {base:Heap} {N ps:List Str} {qual:Str} {scope:Scope} {f:Addr} {cd:Value} {A:Around} {outer:List Env} {s s1:Shared} {H:Hp} {E:XK} {us:List Value} {vs:List V}
    (S:iz N ps scope) (hd:A.handled=none) (e0:Kv P w K mg base A outer s H) (hl:vs.length=ps.length) (r:Vals vs us)
    (x:InCallC s s.heap.objs.size (bindL (envOfC qual scope s.heap.objs.size f cd).kindOf (ps.zip us) fun _=>none) (cellsFrom (s.heap.objs.size+1) scope.names []) (bindC (envOfC qual scope s.heap.objs.size f cd).kindOf (ps.zip us) fun _=>none) s1) :
    Inv (Hh CX P w K mg base N qual scope f cd A outer s H E) [] (start N vs) H s1:=by
  have hpl:ps.length≤N.length:=by have:=congrArg List.length S.pre; rw [List.length_take] at this; omega
  obtain ⟨h1,tk,rfl,hk⟩:=x.done
  have noA:∀ b:Addr,b∉(Hh CX P w K mg base N qual scope f cd A outer s H E).ex:=fun b z=>absurd (show b∈([]:List Addr) from z) (by simp)
  refine ⟨⟨e0.mod,S.kind,rfl,rfl,Nat.le_refl _,fun y z c h1 h2=>?_,fun y hy=>?_,fun y c _ h=>?_,fun _=>hd,Around.frames_deeper e0.frames,.inr ⟨rfl,rfl⟩,fun b z=>absurd z (noA b),e0.bs,e0.bsz,fun b _ _=>noA b,fun b z=>absurd z (noA b),e0.Cq,e0.frf⟩,
    rfl,e0.bare,Un.kept hk,⟨_,x.toInCall.ns,fun i y v h1 h2 h3=>?_⟩,fun y c h=>⟨_,x.cell y c h⟩,e0.hok.fresh (Nat.le_refl _),fun y c h=>?_,fun p hp=>absurd (show p∈([]:List (Addr × Obj)) from hp) (by simp),e0.hok.kept hk,?_⟩
  · exact name_of_addr x.apart (PySem.mem_of_lookup h1) (PySem.mem_of_lookup h2)
  · have hy:scope.names.lookup y=some .cell∨scope.names.lookup y=some .free:=hy
    rcases hy with hy | hy
    · exact Dg hy
    · exact absurd rfl (S.nofree _ (PySem.mem_of_lookup hy))
  · exact Nat.le_of_lt (x.above y c (PySem.mem_of_lookup h))
  · have hi:i<vs.length:=by
      unfold start at h2
      by_cases hi:i<vs.length
      · exact hi
      · rw [List.getElem?_append_right (by simpa using hi)] at h2
        rw [List.getElem?_replicate] at h2
        split at h2 <;> cases h2
    have ha:vs[i]? = some v:=by
      unfold start at h2
      rw [List.getElem?_append_left (by simpa using hi),List.getElem?_map] at h2
      cases e:vs[i]? with
      | none=>rw [e] at h2; cases h2
      | some a=>rw [e] at h2; cases h2; rfl
    obtain ⟨u,hu,rv⟩:=r.get ha
    have hp:ps[i]? = some y:=by
      rw [← S.pre,List.getElem?_take_of_lt (by omega)]; exact h1
    have ndP:ps.Nodup:=by rw [← S.pre]; exact S.nd.sublist (List.take_sublist _ _)
    refine ⟨u,rv,?_⟩
    rcases S.par y (List.mem_of_getElem? hp) with k | k
    · exact .inl ⟨k,Bo ndP hp hu k⟩
    · obtain ⟨c,e⟩:=Dg (n:=s.heap.objs.size+1) k
      refine .inr ⟨.inl k,c,e,?_⟩
      have q:=x.cell y c e
      rw [Bh ndP hp hu (by show scope.names.lookup y≠_; rw [k]; decide)] at q
      exact q
  · exact e0.hok.fresh (Nat.le_of_lt (x.above y c (PySem.mem_of_lookup h)))
  · unfold start
    show _=N.length
    rw [List.length_append,List.length_map,List.length_replicate]
    omega
theorem Nj {CX:CXT} {P:Program} {w:World} {K:PySem.W.Frag} {mg:Str→Option Value} {base:Heap} {k:Nat} {f:Addr} {name qual:Str} {params:Arguments} {body:List Stmt} {scope:Scope} {dV kV doc pm cdv ct oc:Value} {an od:Option Addr}
    {osl:Array (Option Value)} {N ps:List Str} {sp:Sp} (lk:K.lookup f=some ⟨oc,od,.func (PySem.W.fnOf name qual params body scope dV kV doc pm an cdv ct),osl⟩) (hcd:PySem.W.codeIn K cdv qual=true) (S:iz N ps scope)
    (len:∀ vs H Q E,sp vs H Q E→vs.length=ps.length)
    (hbody:∀ (A:Around) (outer:List Env) (s:Shared) (H:Hp) (vs:List V) (Q:VK) (E:XK),nu k (A.deeper (envOfC qual scope s.heap.objs.size f cdv))→sp vs H Q E →
      ∃ t,PSs (Hh CX P w K mg base N qual scope f cdv A outer s H E) body t∧t { nx:=fun _ H'=>Q .non H',rt:=Q } (start N vs) H) :
    lq P w K mg base CX (k+1) f (PySem.W.fnOf name qual params body scope dV kV doc pm an cdv ct) ps sp:=by
  refine ⟨len,fun A outer s H args us vs Q E hr e0 hb r hsp=>?_⟩
  have hl:=len _ _ _ _ hsp
  have KX:K.In s.heap:=e0.mod.kin.keeps fun b o e=>(e0.bs b o e).1
  have lim:s.heap.NoLimit:=e0.mod.nolimit.keeps fun b o e=>(e0.bs b o e).1
  have hkind:∀ y∈ps.zip us,scope.names.lookup y.1=some .local∨(scope.names.lookup y.1=some .cell∧((cellsFrom (s.heap.objs.size+1) scope.names []).lookup y.1).isSome=true):=fun ⟨n,v⟩ hy=>by
    rcases S.par n (List.of_mem_zip hy).1 with q | q
    · exact .inl q
    · exact .inr ⟨q,PySem.W.cellsFrom_some _ _ _ (.inl q)⟩
  refine codeAny_call_function hr.depth (KX _ _ lk) rfl S.co S.gen rfl (PySem.W.codeRec_of KX hcd) (hb _ _ _ _ ?_)
  refine wpAny_newFunctionEnv_cells S.kind hkind fun env he s1 x=>?_
  subst he
  refine ⟨lim.keeps x.toInCall.keep,codeAny_func ?_⟩
  obtain ⟨t,ht,hq⟩:=hbody A outer s H vs Q E (hr.deeper _) hsp
  have I:Inv (Hh CX P w K mg base N qual scope f cdv A outer s H E) [] (start N vs) H s1:=Ho S hr.hd e0 hl r x
  refine wpAny_mono (ht [] s1 (start N vs) H _ I hq) (fun fl s' hs=>?_) fun e s' hs=>hs
  have fin:∀ {σ':St} {H':Hp} {v:V} {u:Value},Inv (Hh CX P w K mg base N qual scope f cdv A outer s H E) [] σ' H' s'→RelV v u→Q v H'→CE outer P w H s Q u s' :=
    fun {σ' H' v u} J rv q=>⟨v,H',J.os,J.bare,J.base,J.hok,rv,q⟩
  cases fl with
  | ret u =>
    obtain ⟨v,σ',H',J,rv,q⟩:=hs
    exact fin J rv q
  | next =>
    obtain ⟨σ',H',J,q⟩:=hs
    exact fin (v:=V.non) (u:=Value.none) J rfl q
  | brk =>
    obtain ⟨_,_,_,q⟩:=hs
    exact False.elim q
  | cont =>
    obtain ⟨_,_,_,q⟩:=hs
    exact False.elim q
end L2
namespace L2
open PySem PySem.Spec PyProof.Rows
section
variable {X:Cx} {x:Str} {p pos:Pos} {e:Expr} {es:List Expr} {t:TA} {id T:String} {r:List V→Hp→VK→Prop}
def tCB (r:List V→Hp→VK→Prop) (t:TA):TE:=fun σ H Q=>t σ H fun vs H1=>r vs H1 Q
theorem Dd (hc:El X (.builtin id) r) (hg:Gl X x) (hm:X.mg x=none) (hv:bootBuiltins x=some (.builtin id)) (ha:PA X (e::es) t) (hn:x ≠ "__name__" := by decide) (hdb:(x==("__debug__" : Str))=false:=by decide)
    (he:starEach (e::es) X.env=(false,eval e X.env)::starEach es X.env:=by rfl) (hpl:(backTo pos (starEach es X.env)).any (·.1)=false:=by rfl):PE X (.Call (.Name x p) (e::es) [] pos) (tCB r t):=by
  intro pins s σ H Q I h
  refine wpAny_Call_Name_kw (Ew I hg hm hv ?_ hn hdb)
  exact PyProof.Rows.callWith_builtin1 (thn (ha pos pins s σ H _ I h) fun us s1 z7=>by obtain ⟨vs,H1,I1,r1,q1⟩:=z7; exact hc pins s1 σ H1 vs us Q I1 r1 q1) he hpl
end
end L2
end
section
namespace HT
open PySem PyProof.Rows
section
open PySem.SeqAt
open PySem.AutoSeq1 (wpAny_loadPart')
open PySem.MeetsSeq PySem.MeetsSeq2 PySem.MeetsSeq3
end
section
variable {prog:Program} {w:World} {A:Around} {E:Value→Shared→Prop} {s:Shared}
theorem Kr {t b:Addr} {vs ws:List Value} {Q:Value→Shared→Prop} (ht:IsTup s.heap t vs.toArray) (hb:IsTup s.heap b ws.toArray) (hv:vs≠[])
    (h1:ws=[]→Q (.ref t) s) (h2:ws≠[]→Q (.ref s.heap.objs.size) { s with heap:=s.heap.push { cls:=.type "tuple",data:=.seq (vs++ws).toArray } })
    (hsz:vs.length+ws.length≤sizeLine):wpAny (model prog w) A (binaryOp .Add (.ref t) (.ref b)) Q E s:=by
  obtain ⟨⟨cls,dd,data,sl⟩,ho,hc,n,hd⟩:=id ht
  obtain ⟨⟨cls2,dd2,data2,sl2⟩,ho2,hc2,n2,hd2⟩:=id hb
  simp only at hc hd hc2 hd2
  subst hc hd hc2 hd2
  have e:vs.toArray++ws.toArray=(vs++ws).toArray:=by simp
  by_cases hw:ws=[]
  · exact concat_meets ⟨_,ho,rfl⟩ ⟨_,ho2,rfl⟩ noFill_tuple_add seq_tuple_add PySem.F.slot_tuple_add PySem.F.entry_tuple_add (PySem.F.args_tuple_add_2 _ _)
      (tuple_addW1 t b vs.toArray ws.toArray n n2 dd dd2 sl sl2 (by simpa using hv) (by simp [hw])) ⟨ho,ho2,h1 hw⟩
  · refine concat_meets ⟨_,ho,rfl⟩ ⟨_,ho2,rfl⟩ noFill_tuple_add seq_tuple_add PySem.F.slot_tuple_add PySem.F.entry_tuple_add (PySem.F.args_tuple_add_2 _ _)
      (tuple_addW2 t b vs.toArray ws.toArray n n2 dd dd2 sl sl2 (by simpa using hv) (by simpa using hw) (by rw [List.size_toArray,List.size_toArray]; exact hsz)) ⟨ho,ho2,?_⟩
    rw [e]
    exact h2 hw
end
end HT
namespace L2
open PySem PySem.Spec PyProof.Rows
abbrev TO:=St→Hp→(Option Int→Hp→Prop)→Prop
def PO (X:Cx) (e:Option Expr) (t:TO):Prop :=
  ∀ (pins:List (Addr × Obj)) (s:Shared) (σ:St) (H:Hp) (Q:Option Int→Hp→Prop),Inv X pins σ H s→t σ H Q →
    wpAny (model X.prog X.w) X.A (evalPart e X.env) (fun u s'=>∃ o H',Inv X pins σ H' s'∧IsPart u o∧Q o H') X.xe s
def Kd:TO:=fun _ H Q=>Q none H
def Pu (t:TE):TO:=fun σ H Q=>t σ H fun x H1=>∃ i,x=.int i∧Q (some i) H1
section
variable {X:Cx} {e:Expr} {te:TE} {lo hi:Option Expr} {tl th:TO} {pos p2:Pos}
theorem Lq:PO X none Kd:=by
  intro pins s σ H Q I h
  rw [evalPart_none]
  exact wpAny_pure ⟨none,H,I,.none,h⟩
theorem Kq (h:PE X e te):PO X (some e) (Pu te):=by
  intro pins s σ H Q I hw
  rw [evalPart_some]
  refine thn (h pins s σ H _ I hw) fun u s1 z0=>?_
  obtain ⟨x,H1,I1,r1,q1⟩:=z0
  obtain ⟨i,rfl,q⟩:=q1
  obtain ⟨t,rfl⟩:=r1
  exact ⟨some i,H1,I1,.int i t,q⟩
def SlR (X:Cx) (r:V→Option Int→Option Int→Hp→VK→Prop):Prop :=
  ∀ (pins:List (Addr × Obj)) (s:Shared) (σ:St) (H:Hp) (x:V) (v vl vu:Value) (lo hi:Option Int) (sl:Addr) (Q:VK),Inv X pins σ H s→RelV x v→s.heap.IsSliceOf sl vl vu .none→IsPart vl lo→IsPart vu hi→r x lo hi H Q →
    ∃ T id,typeLookup (.type T) "__getitem__" = pure (some (.builtin id))∧s.TypeIs v T∧wpAny (model X.prog X.w) X.A (getItem v (.ref sl)) (EP X pins σ Q) X.xe s
def tSl (r:V→Option Int→Option Int→Hp→VK→Prop) (te:TE) (tl th:TO):TE:=fun σ H Q=>te σ H fun x H1=>tl σ H1 fun l H2=>th σ H2 fun u H3=>r x l u H3 Q
theorem Hv {r:V→Option Int→Option Int→Hp→VK→Prop} (hr:SlR X r) (he:PE X e te) (hl:PO X lo tl) (hu:PO X hi th):PE X (.Subscript e (.Slice lo hi none p2) pos) (tSl r te tl th):=by
  intro pins s σ H Q I h
  refine Subscript_ (thn (he pins s σ H _ I h) fun v s1 z0=>?_)
  obtain ⟨x,H1,I1,r1,q1⟩:=z0
  refine wpAny_Slice (thn (hl pins s1 σ H1 _ I1 q1) fun vl s2 ⟨l,H2,I2,pl,q2⟩=>thn (hu pins s2 σ H2 _ I2 q2) fun vu s3 ⟨u,H3,I3,pu,q3⟩=>?_)
  rw [evalPart_none]
  refine wpAny_pure ?_
  have I4:Inv X pins σ H3 { s3 with heap:=s3.heap.push { cls:=.type "slice",data:=.fields #[vl,vu,.none] } }:=I3.kept (t':=s3.toks) fun b ob q=>Heap.get?_push_of_some _ q
  obtain ⟨T,id,hT,ht,hg⟩:=hr pins { s3 with heap:=s3.heap.push { cls:=.type "slice",data:=.fields #[vl,vu,.none] } } σ H3 x v vl vu l u s3.heap.objs.size Q I4 r1 (Heap.IsSliceOf.new ..) pl pu q3
  show wpAny (model X.prog X.w) X.A (subscriptTail e (.Slice lo hi none p2) v (.ref s3.heap.objs.size)) (EP X pins σ Q) X.xe { s3 with heap:=s3.heap.push { cls:=.type "slice",data:=.fields #[vl,vu,.none] } }
  exact tail_any (ops:=[.ref s3.heap.objs.size,v]) ht hT hg (by with_unfolding_all rfl)
def Pz (K:PySem.W.Frag):R2:=fun x y H Q=>∃ a b xs ys,x=.ref a∧y=.ref b∧SqT K H a xs∧SqT K H b ys∧xs≠[]∧xs.length+ys.length≤sizeLine ∧
  (ys=[]→Q (.ref a) H)∧(ys≠[]→∀ p,H p=none→Q (.ref p) (upd H p (.tup (xs++ys))))
theorem Vals.Ck {xs:List V} {us:List Value} (r:Vals xs us):us=[]↔xs=[]:=by
  cases r with
  | nil=>simp
  | cons _ _=>simp
theorem Ku:OpR X (binaryOp .Add) (Pz X.K):=by
  intro pins s σ H x y v u Q I rx ry h
  obtain ⟨a,b,xs,ys,rfl,rfl,ha,hb,hx,hz,q1,q2⟩:=h
  cases rx
  cases ry
  obtain ⟨its,r1,p1,_⟩:=I.tuple ha
  obtain ⟨its2,r2,p2,_⟩:=I.tuple hb
  refine HT.Kr p1 p2 (fun z=>hx (r1.Ck.mp z)) (fun z=>⟨.ref a,H,I,rfl,q1 (r2.Ck.mp z)⟩) (fun z=>?_) (by rw [← r1.length,← r2.length]; exact hz)
  refine ⟨.ref s.heap.objs.size,_,I.laid (t':=s.toks) (o:=.tup (xs++ys)) (fun b ob q=>Heap.get?_push_of_some _ q) (Nat.le_refl _) ?_,rfl,q2 (fun w=>z (r2.Ck.mpr w)) _ (I.hok.fresh (Nat.le_refl _))⟩
  exact ⟨by rw [List.length_append]; exact hz,_,r1.append r2,Mq.new _ _⟩
end
end L2
namespace L2
open PySem PySem.Spec PyProof.Rows
def ixN (n:Nat) (i:Int):Option Nat:=if 0≤i then (if i<n then some i.toNat else none) else if -(n:Int)≤i then some (i+n).toNat else none
def atI {α:Type} (xs:List α) (i:Int):Option α:=(ixN xs.length i).bind fun j=>xs[j]?
theorem Ka {n:Nat} {i:Int} {j:Nat} (h:ixN n i=some j):seqIndex? i n=some j∧j<n∧-(n:Int)≤i∧i<n:=by
  unfold ixN at h
  by_cases h0:0≤i
  · rw [if_pos h0] at h
    by_cases h1:i<n
    · rw [if_pos h1] at h
      have e:i.toNat=j:=Option.some.inj h
      exact ⟨by rw [seqIndex_of h0 h1,e],by omega,by omega,h1⟩
    · rw [if_neg h1] at h; cases h
  · rw [if_neg h0] at h
    by_cases h1:-(n:Int)≤i
    · rw [if_pos h1] at h
      have e:(i+n).toNat=j:=Option.some.inj h
      exact ⟨by rw [seqIndex_neg (by omega) h1,e],by omega,h1,by omega⟩
    · rw [if_neg h1] at h; cases h
theorem Cm {α:Type} {xs:List α} {i:Int} {v:α} (h:atI xs i=some v):∃ j,seqIndex? i xs.length=some j∧xs[j]? = some v∧j<xs.length∧-(xs.length:Int)≤i∧i<xs.length:=by
  unfold atI at h
  cases e:ixN xs.length i with
  | none=>rw [e] at h; cases h
  | some j =>
    rw [e] at h
    obtain ⟨h1,h2,h3,h4⟩:=Ka e
    exact ⟨j,h1,h,h2,h3,h4⟩
def Fj (b:Expr):Prop:=∀ o i,subscripted b false o i=operate [o,i] (getItem o i)
def IxR (X:Cx) (r:R2):Prop :=
  ∀ (value slice:Expr) (pins:List (Addr × Obj)) (s:Shared) (σ:St) (H:Hp) (x y:V) (v u:Value) (Q:VK),Inv X pins σ H s→RelV x v→RelV y u→r x y H Q →
    subscripted slice false v u=operate [v,u] (getItem v u)→wpAny (model X.prog X.w) X.A (subscriptTail value slice v u) (EP X pins σ Q) X.xe s
section
variable {X:Cx} {a b:Expr} {ta tb:TE} {pos:Pos}
theorem Qq {r:R2} (hr:IxR X r) (ha:PE X a ta) (hb:PE X b tb) (hs:Fj b):PE X (.Subscript a b pos) (tOp r ta tb):=by
  intro pins s σ H Q I h
  exact Subscript_ (Qa ha hb I h fun v u s2 x y H2 I2 rx ry q=>hr a b pins s2 σ H2 x y v u Q I2 rx ry q (hs _ _))
def Rx (K:PySem.W.Frag):R2:=fun x y H Q=>∃ p xs i v,x=.ref p∧y=.int i∧SqL K H p xs∧atI xs i=some v∧Q v H
def Rg (K:PySem.W.Frag):R2:=fun x y H Q=>∃ p xs i v,x=.ref p∧y=.int i∧SqT K H p xs∧atI xs i=some v∧Q v H
def Rr:R2:=fun x y H Q=>∃ z i c,x=.str z∧y=.int i∧z.length≤sizeLine∧atI z.cps.toList i=some c∧Q (.str ⟨#[c]⟩) H
theorem Ls:IxR X (Rx X.K):=by
  intro value slice pins s σ H x y v u Q I rx ry h hs
  obtain ⟨p,xs,i,z,rfl,rfl,hq,he,q⟩:=h
  cases rx
  obtain ⟨t,rfl⟩:=ry
  obtain ⟨its,r,pl,hz⟩:=I.list hq
  obtain ⟨j,h1,h2,h3,h4,h5⟩:=Cm he
  obtain ⟨w,ew,rw'⟩:=r.get h2
  have hl:=r.length
  have hn:=Bg
  have fin:EP X pins σ Q w s:=⟨z,H,I,rw',q⟩
  by_cases h0:0≤i
  · have hj:i.toNat=j:=by
      rw [seqIndex_of h0 h5] at h1
      exact Option.some.inj h1
    exact item_listR pl.isList h0 (by omega) (by rw [hj]; simpa using ew) fin hs
  · have hj:(i+(its.toArray.size:Int)).toNat=j:=by
      rw [seqIndex_neg (by omega) h4] at h1
      rw [List.size_toArray,← hl]
      exact Option.some.inj h1
    exact subscriptTail_builtinR (x:=w) pl.isList.typeIs slot_list_getitem.lookup
      (wpAny_getItem_list_neg (Q:=fun r s'=>r=w∧EP X pins σ Q r s') pl.isList (by omega) (by rw [List.size_toArray] <;> omega) (by omega) (by rw [hj]; simpa using ew) ⟨rfl,fin⟩) hs
theorem O4:IxR X (Rg X.K):=by
  intro value slice pins s σ H x y v u Q I rx ry h hs
  obtain ⟨p,xs,i,z,rfl,rfl,hq,he,q⟩:=h
  cases rx
  obtain ⟨t,rfl⟩:=ry
  obtain ⟨its,r,pl,hz⟩:=I.tuple hq
  obtain ⟨j,h1,h2,h3,h4,h5⟩:=Cm he
  obtain ⟨w,ew,rw'⟩:=r.get h2
  have hl:=r.length
  have hn:=Bg
  have fin:EP X pins σ Q w s:=⟨z,H,I,rw',q⟩
  exact subscriptTail_builtinR (x:=w) pl.typeIs slot_tuple_getitem.lookup
    (getItem_tuple (j:=j) (Q:=fun r s'=>r=w∧EP X pins σ Q r s') pl (by omega) (by omega) (by rw [List.size_toArray,← hl]; exact h1) (by simpa using ew) ⟨rfl,fin⟩) hs
theorem Mv:IxR X Rr:=by
  intro value slice pins s σ H x y v u Q I rx ry h hs
  obtain ⟨z,i,c,rfl,rfl,hz,he,q⟩:=h
  obtain ⟨t,rfl⟩:=rx
  obtain ⟨t',rfl⟩:=ry
  obtain ⟨j,h1,h2,h3,h4,h5⟩:=Cm he
  have hl:z.cps.toList.length=z.length:=by simp [Str.length]
  rw [hl] at h1 h4 h5
  have hn:=Bg
  exact tail_any (typeIs_str s z t) slot_str_getitem.lookup (getItem_str (c:=c) (by
    have e1:decide (i < -(2 ^ 63:Int))=false:=decide_eq_false (by omega)
    have e2:decide (i ≥ 2 ^ 63)=false:=decide_eq_false (by omega)
    rw [e1,e2,Bool.or_false]) (by rw [h1]; simpa using h2) ⟨.str ⟨#[c]⟩,H,I.tok _,⟨_,rfl⟩,q⟩) hs
theorem Inv.lst {pins:List (Addr × Obj)} {σ:St} {H:Hp} {s:Shared} {p:Addr} {xs:List V} (I:Inv X pins σ H s) (h:H p=some (.lst xs)) :
    ∃ (its:List Value) (n:Nat),Vals xs its∧s.heap.get? p=some { cls:=.type "list",data:=.seq its.toArray n }∧xs.length≤sizeLine:=by
  obtain ⟨z,its,n,r,e⟩:=I.hok p _ h
  exact ⟨its,n,r,e,z⟩
theorem su:El X (.builtin "len") (fun xs H Q=>∃ p ys,xs=[.ref p]∧(SqL X.K H p ys∨SqT X.K H p ys)∧Q (.int ys.length) H):=by
  intro pins s σ H xs us Q I r h
  obtain ⟨p,ys,rfl,hq,q⟩:=h
  obtain ⟨u,rfl,rx⟩:=vals1 r
  cases rx
  have hn:=Bg
  rcases hq with hq | hq
  · obtain ⟨its,r',pl,hz⟩:=I.list hq
    have hlen:=r'.length
    exact Calls.call_len_list pl.isList (by simp only [List.size_toArray] <;> omega) ⟨.int ys.length,H,I.tok _,⟨s.toks+1,by rw [List.size_toArray,hlen]⟩,q⟩
  · obtain ⟨its,r',pl,hz⟩:=I.tuple hq
    have hlen:=r'.length
    exact len_tuple pl (by simp only [List.size_toArray] <;> omega) ⟨.int ys.length,H,I.tok _,⟨s.toks+1,by rw [List.size_toArray,hlen]⟩,q⟩
theorem Bf:El X (.builtin "len") (fun xs H Q=>∃ z,xs=[.str z]∧z.length≤sizeLine∧Q (.int z.length) H):=by
  intro pins s σ H xs us Q I r h
  obtain ⟨z,rfl,hz,q⟩:=h
  obtain ⟨u,rfl,t,rfl⟩:=vals1 r
  have hn:=Bg
  exact len_str (by omega) ⟨.int z.length,H,I.tok _,⟨_,rfl⟩,q⟩
variable {o e:Expr} {es:List Expr} {to:TE} {t:TA} {name:Str} {apos cpos:Pos} {T id:String} {r:V→List V→Hp→VK→Prop}
end
end L2
namespace L2
open PySem PySem.Spec PyProof.Rows
def MtM (X:Cx) (id:String) (r:V→List V→Hp→VK→Prop):Prop :=
  ∀ (pins:List (Addr × Obj)) (s:Shared) (σ:St) (H:Hp) (x:V) (xs:List V) (v:Value) (us:List Value) (Q:VK),Inv X pins σ H s→RelV x v→Vals xs us→r x xs H Q →
    wpAny (model X.prog X.w) X.A (call (.builtin id) (v::us)) (EP X pins σ Q) X.xe s
theorem Vals.one {x:V} {us:List Value} (h:Vals [x] us):∃ u,us=[u]∧RelV x u:=by
  cases h with
  | cons r t=>cases t; exact ⟨_,rfl,r⟩
theorem Vals.two {x y:V} {us:List Value} (h:Vals [x,y] us):∃ u v,us=[u,v]∧RelV x u∧RelV y v:=by
  cases h with
  | cons r t=>obtain ⟨v,e,q⟩:=Vals.one t; exact ⟨_,v,congrArg _ e,r,q⟩
theorem Vals.rep {xs:List V} {us:List Value} (h:Vals xs us):∀ k:Nat,Vals (List.replicate k xs).flatten (List.replicate k us).flatten
  | 0=>.nil
  | k+1=>by
    rw [List.replicate_succ,List.replicate_succ,List.flatten_cons,List.flatten_cons]
    exact Vals.append h (Vals.rep h k)
section
variable {X:Cx} {pins:List (Addr × Obj)} {σ:St} {H:Hp} {s:Shared} {l b:Addr} {xs ys zs:List V}
theorem Inv.Sg {its its':List Value} {n:Nat} {f:Array Value→Array Value} {t':Nat} (I:Inv X pins σ H s) (hH:H l=some (.lst xs))
    (e:s.heap.get? l=some { cls:=.type "list",data:=.seq its.toArray n }) (hf:f its.toArray=its'.toArray) (hv:Vals ys its') (hz:ys.length≤sizeLine) :
    Inv X pins σ (upd H l (.lst ys)) { s with heap:=s.heap.update l (Obj.mapSeq f),toks:=t' }:=by
  have q:=PySem.IsL.update e f
  rw [hf] at q
  refine I.write (x:=l) (e:=l) (by rw [hH]; exact trivial) (.inl rfl) (fun b' u hb hu=>(Heap.get?_update_other s.heap (Obj.mapSeq f) (Ne.symm hb)).trans hu) ⟨_,q⟩ ?_
  exact ⟨hz,its',_,hv,q⟩
theorem Inv.T4 {its:List Value} {t':Nat} (I:Inv X pins σ H s) (hv:Vals ys its) (hz:ys.length≤sizeLine) :
    Inv X pins σ (upd H s.heap.objs.size (.lst ys)) { s with heap:=s.heap.push { cls:=.type "list",data:=.seq its.toArray },toks:=t' } :=
  I.laid (fun _ _ q=>Heap.get?_push_of_some _ q) (Nat.le_refl _) ⟨hz,its,0,hv,Heap.get?_push_size _ rfl⟩
theorem Inv.fresh (I:Inv X pins σ H s):H s.heap.objs.size=none:=I.hok.fresh (Nat.le_refl _)
theorem Inv.Rq (I:Inv X pins σ H s) (hH:H l=some (.lst xs)):xs.length≤sizeLine∧∃ (its:List Value) (n:Nat),Vals xs its∧xs.length=its.length∧s.heap.get? l=some { cls:=.type "list",data:=.seq its.toArray n }:=by
  obtain ⟨z,its,n,r,e⟩:=I.hok l _ hH
  exact ⟨z,its,n,r,r.length,e⟩
end
section
variable {X:Cx}
def Kl:V→List V→Hp→VK→Prop:=fun x vs H Q=>∃ l xs y,x=.ref l∧vs=[y]∧H l=some (.lst xs)∧xs.length<sizeLine∧Q .non (upd H l (.lst (xs++[y])))
theorem Fb:MtM X "list.append" Kl:=by
  intro pins s σ H x vs v us Q I rx rv h
  obtain ⟨l,xs,y,rfl,rfl,hH,hz,q⟩:=h
  cases rx
  obtain ⟨u,rfl,ru⟩:=rv.one
  obtain ⟨z,its,n,r,hl,e⟩:=I.Rq hH
  refine call_meets F.slot_list_append ⟨_,e,rfl⟩ F.entry_list_append (F.args_list_append_2 _ _) (PySem.list_append l its.toArray n u (by rw [List.size_toArray]; omega)) ⟨e,?_⟩
  refine ⟨.non,_,I.Sg (its':=its++[u]) hH e (by simp) (r.append (.cons ru .nil)) ?_,rfl,q⟩
  rw [List.length_append,List.length_singleton]
  omega
end
section
variable {prog:Program} {w:World} {A:Around} {E:Value→Shared→Prop} {s:Shared}
end
section
variable {X:Cx}
end
end L2
end
section
namespace L2
open PySem PySem.Spec PyProof.Rows
section
variable {κ:Type} [DecidableEq κ]
def Dl (kvs:List (κ × V)) (k:κ):Option V:=(kvs.find? fun kv=>decide (kv.1=k)).map (·.2)
def putK (kvs:List (κ × V)) (k:κ) (v:V):List (κ × V) :=
  if (kvs.any fun kv=>decide (kv.1=k))=true then kvs.map (fun kv=>if kv.1=k then (kv.1,v) else kv) else kvs++[(k,v)]
theorem Ai {p:κ × V} {r:List (κ × V)} {k:κ} (e:p.1=k):Dl (p::r) k=some p.2:=by simp [Dl,List.find?_cons,e]
theorem Aj {p:κ × V} {r:List (κ × V)} {k:κ} (e:¬ p.1=k):Dl (p::r) k=Dl r k:=by simp [Dl,List.find?_cons,e]
theorem Dh.getD {o:Option V} {u:Option Value} {d:V} {d':Value} (r:Dh o u) (rd:RelV d d'):RelV (o.getD d) (u.getD d'):=by
  cases o with
  | none=>cases u with
    | none=>exact rd
    | some _=>exact (show False from r).elim
  | some _=>cases u with
    | none=>exact (show False from r).elim
    | some _=>exact r
theorem KV.val {kvs:List (κ × V)} {vs:List (κ × Value)} (r:KV kvs vs) (k:κ):Dh (Dl kvs k) (valueAt vs k):=by
  unfold KV at r
  induction r with
  | nil=>exact True.intro
  | @cons p q ps qs h t ih =>
    obtain ⟨h1,h2⟩:=h
    by_cases e:p.1=k
    · have e':q.1=k:=h1.symm.trans e
      have b:valueAt (q::qs) k=some q.2:=by simp [valueAt,List.find?_cons,e']
      rw [Ai e,b]; exact h2
    · have e':¬ q.1=k:=fun z=>e (h1.trans z)
      have b:valueAt (q::qs) k=valueAt qs k:=by simp [valueAt,List.find?_cons,e']
      rw [Aj e,b]; exact ih
theorem KV.any {kvs:List (κ × V)} {vs:List (κ × Value)} (r:KV kvs vs) (k:κ):(kvs.any fun kv=>decide (kv.1=k))=vs.any fun kv=>decide (kv.1=k):=by
  unfold KV at r
  induction r with
  | nil=>rfl
  | cons h t ih=>rw [List.any_cons,List.any_cons,ih,h.1]
theorem KV.length {kvs:List (κ × V)} {vs:List (κ × Value)} (r:KV kvs vs):kvs.length=vs.length:=Paired.length r
end
theorem Oo {P:Program} {w:World} {k:Key} {u:Value} (r:RelV (kV k) u):(jq P w).is k u=true:=by
  cases k with
  | inl i=>obtain ⟨t,e⟩:=(show ∃ t,u=Value.int i t from r); subst e; exact Bs P w i t
  | inr x=>obtain ⟨t,e⟩:=(show ∃ t,u=Value.str x t from r); subst e; exact Bv P w x t
theorem Bm {P:Program} {w:World}:∀ {ks:List Key} {us:List Value},Vals (ks.map kV) us→ItemsAre (jq P w) ks us
  | [],_,r=>by rw [List.map_nil] at r; cases r; exact .nil
  | k::ks,_,r=>by
    rw [List.map_cons] at r
    cases r with
    | cons h t=>exact .cons (Oo h) (Bm t)
abbrev KT (H:Hp):List (List Key × V)→List (List Key × Addr × Value)→Prop:=Paired fun p q=>p.1=q.1∧H q.2.1=some (.tup (p.1.map kV))∧RelV p.2 q.2.2
theorem KT.val {H:Hp} {kvs:List (List Key × V)} {xs:List (List Key × Addr × Value)} (r:KT H kvs xs) (k:List Key):Dh (Dl kvs k) ((atKey xs k).map (·.2)):=by
  induction r with
  | nil=>exact True.intro
  | @cons p q ps qs h t ih =>
    obtain ⟨h1,_,h2⟩:=h
    by_cases e:p.1=k
    · have e':q.1=k:=h1.symm.trans e
      have b:atKey (q::qs) k=some q.2:=by simp [atKey,List.find?_cons,e']
      rw [Ai e,b]; exact h2
    · have e':¬ q.1=k:=fun z=>e (h1.trans z)
      have b:atKey (q::qs) k=atKey qs k:=by simp [atKey,List.find?_cons,e']
      rw [Aj e,b]; exact ih
section
variable {P:Program} {w:World} {H:Hp} {h:Heap} {a:Addr}
theorem Ot {u:HO} (ok:HOk P w H h) (e:Rd H a u):jy P w H h a u:=e.ok ok
theorem Gx {kvs:List (Key × V)} (ok:HOk P w H h) (e:Rd H a (.dK kvs)):kvs.length≤sizeLine∧(a==sysModules)=false∧∃ vs,KV kvs vs∧h.DictOf (jq P w) a vs :=
  show jy P w H h a (.dK kvs) from Ot ok e
theorem Jt {ks:List Key} (ok:HOk P w H h) (e:H a=some (.tup (ks.map kV))):(tupleKind (jq P w)).is h ks a:=by
  obtain ⟨_,its,r,o,h1,h2,_,n,h3⟩:=(show jy P w H h a (.tup (ks.map kV)) from ok a _ e)
  exact ⟨o,its.toArray,n,h1,h2,h3,by simpa using Bm r⟩
theorem Ny {kvs:List (List Key × V)} (ok:HOk P w H h) (e:Rd H a (.dT kvs)):kvs.length≤sizeLine∧(a==sysModules)=false ∧
    ∃ xs,KT H kvs xs∧h.DictOfH (tupleKind (jq P w)) a xs:=by
  obtain ⟨z,y,xs,r,o,es,ep,h1,h2,h3,h4,h5⟩:=(show jy P w H h a (.dT kvs) from Ot ok e)
  refine ⟨z,y,xs,r,o,es,ep,h1,h2,h3,h4,fun x hx=>?_,h5⟩
  have all:∀ {l:List (List Key × V)} {m:List (List Key × Addr × Value)},KT H l m→∀ x∈m,(tupleKind (jq P w)).is h x.1 x.2.1:=by
    intro l m q
    induction q with
    | nil=>intro x hx; exact nomatch hx
    | @cons p q ps qs hq t ih =>
      intro x hx
      rcases List.mem_cons.mp hx with e | hx
      · subst e
        exact Jt ok (by rw [← hq.1]; exact hq.2.1)
      · exact ih x hx
  exact all r x hx
end
def Jz (H:Hp) (a:Addr) (y:V) (r:Option V):Prop :=
  (∃ kvs k,Rd H a (.dK kvs)∧y=kV k∧r=Dl kvs k)∨∃ kvs k b,Rd H a (.dT kvs)∧y=.ref b∧H b=some (.tup (k.map kV))∧r=Dl kvs k
def Pj (H:Hp) (a:Addr) (y v:V) (H':Hp):Prop :=
  (∃ kvs k,H a=some (.dK kvs)∧y=kV k∧kvs.length<sizeLine∧H'=upd H a (.dK (putK kvs k v))) ∨
  ∃ kvs k b,H a=some (.dT kvs)∧y=.ref b∧H b=some (.tup (k.map kV))∧kvs.length<sizeLine∧H'=upd H a (.dT (putK kvs k v))
theorem Jz.k {H:Hp} {a:Addr} {kvs:List (Key × V)} {k:Key} (e:H a=some (.dK kvs)):Jz H a (kV k) (Dl kvs k):=.inl ⟨kvs,k,.inl e,rfl,rfl⟩
theorem Jz.t {H:Hp} {a b:Addr} {kvs:List (List Key × V)} {k:List Key} (e:H a=some (.dT kvs)) (eb:H b=some (.tup (k.map kV))):Jz H a (.ref b) (Dl kvs k):=.inr ⟨kvs,k,b,.inl e,rfl,eb,rfl⟩
theorem Pj.k {H:Hp} {a:Addr} {kvs:List (Key × V)} {k:Key} {v:V} (e:H a=some (.dK kvs)) (hl:kvs.length<sizeLine):Pj H a (kV k) v (upd H a (.dK (putK kvs k v))):=.inl ⟨kvs,k,e,rfl,hl,rfl⟩
theorem Pj.t {H:Hp} {a b:Addr} {kvs:List (List Key × V)} {k:List Key} {v:V} (e:H a=some (.dT kvs)) (eb:H b=some (.tup (k.map kV))) (hl:kvs.length<sizeLine) :
    Pj H a (.ref b) v (upd H a (.dT (putK kvs k v))):=.inr ⟨kvs,k,b,e,rfl,eb,hl,rfl⟩
section
variable {X:Cx} {pins:List (Addr × Obj)} {σ:St} {H:Hp} {s:Shared} {a:Addr} {y v:V} {u r:Value} {o:Option V} {A:Around} {E:Value→Shared→Prop}
theorem Ht {Q:Value→Shared→Prop} (hu:A.units+1<cLine) (I:Inv X pins σ H s) (g:Jz H a y (some v)) (ry:RelV y u) (h:∀ w' s',Inv X pins σ H s'→RelV v w'→Q w' s') :
    wpAny (model X.prog X.w) A (getItem (.ref a) u) Q E s:=by
  rcases g with ⟨kvs,k,e,ey,l⟩ | ⟨kvs,k,b,e,ey,eb,l⟩
  · subst ey
    obtain ⟨z,hd,vs,rel,dd⟩:=Gx I.hok e
    obtain ⟨w',hw,rw'⟩:=Dh.some_of (v:=v) (o:=valueAt vs k) (by rw [l]; exact rel.val k)
    exact wpAny_getItem_of (Oo ry) dd.mapOf hw (h w' _ (I.tok _) rw')
  · subst ey
    cases (show u=Value.ref b from ry)
    obtain ⟨z,hd,xs,rel,dd⟩:=Ny I.hok e
    obtain ⟨w',hw,rw'⟩:=Dh.some_of (v:=v) (o:=(atKey xs k).map (·.2)) (by rw [l]; exact rel.val k)
    obtain ⟨p,hp,hp2⟩:=Option.map_eq_some_iff.mp hw
    refine wpAny_getItem_heap (tupleKind_room_in1 hu) (Jt I.hok eb) dd hp ?_
    rw [hp2]
    exact h w' _ (I.tok _) rw'
end
section
variable {X:Cx} {pins:List (Addr × Obj)} {σ:St} {H:Hp} {s:Shared} {a:Addr} {kvs:List (Key × V)} {k:Key} {u:Value} {A:Around} {E:Value→Shared→Prop}
theorem Q5 {Q:Value→Shared→Prop} (I:Inv X pins σ H s) (e:Rd H a (.dK kvs)) (h:∀ t s',Inv X pins σ H s'→Q (.int kvs.length t) s'):wpAny (model X.prog X.w) A (call (.builtin "len") [.ref a]) Q E s:=by
  obtain ⟨z,hd,vs,rel,dd⟩:=Gx I.hok e
  refine call_len_dict hd dd (by rw [← rel.length]; rw [sizeLine_eq] at z; omega) ?_
  rw [← rel.length]
  exact h _ _ (I.tok _)
end
theorem Cr {X:Cx} {pins:List (Addr × Obj)} {σ:St} {H:Hp} {s:Shared} {a:Addr} {y:V} {o:Option V} (I:Inv X pins σ H s) (g:Jz H a y o):s.TypeIs (.ref a) "dict" := by
  rcases g with ⟨kvs,k,e,_,_⟩ | ⟨kvs,k,b,e,_,_,_⟩
  · obtain ⟨_,_,vs,_,dd⟩:=Gx I.hok e
    exact dd.typeIs
  · obtain ⟨_,_,xs,_,dd⟩:=Ny I.hok e
    exact dd.typeIs
section
variable {X:Cx} {o i e value:Expr} {pos pos' tpos:Pos} {td ty tv:TE}
end
section
variable {X:Cx} {pos:Pos}
end
structure M1 (X:Cx) (o:Expr) (m:Str) (apos:Pos) (e:Expr) (cpos:Pos):Prop where
  base:attributeBase o m X.env (eval o X.env)=eval o X.env
  few:((backTo cpos (starEach [e] X.env)).all (fun x=>!x.1)&&(backToKw cpos (keywordEach [] X.env)).all (fun x=>x.1.isSome)
    && decide (([e]:List Expr).length+([]:List Keyword).length+(if ([]:List Keyword).isEmpty then 0 else 1)<30))=true
  line:(apos.endLine==cpos.line)=true
  trees:backTo cpos (starEach [e] X.env)=[(false,eval e X.env)]
structure M2 (X:Cx) (o:Expr) (m:Str) (apos:Pos) (e f:Expr) (cpos:Pos):Prop where
  base:attributeBase o m X.env (eval o X.env)=eval o X.env
  few:((backTo cpos (starEach [e,f] X.env)).all (fun x=>!x.1)&&(backToKw cpos (keywordEach [] X.env)).all (fun x=>x.1.isSome)
    && decide (([e,f]:List Expr).length+([]:List Keyword).length+(if ([]:List Keyword).isEmpty then 0 else 1)<30))=true
  line:(apos.endLine==cpos.line)=true
  trees:backTo cpos (starEach [e,f] X.env)=[(false,eval e X.env),(false,eval f X.env)]
section
variable {X:Cx} {pins:List (Addr × Obj)} {σ:St} {H:Hp} {s:Shared} {a:Addr} {y d:V} {u r:Value} {o:Option V} {A:Around} {E:Value→Shared→Prop}
end
section
variable {X:Cx} {o e f:Expr} {apos cpos:Pos} {td ty tx:TE}
end
section
variable {X:Cx} {pins:List (Addr × Obj)} {σ:St} {H:Hp} {s:Shared} {a:Addr} {kvs:List (Key × V)} {A:Around} {E:Value→Shared→Prop}
end
section
variable {X:Cx} {pins:List (Addr × Obj)} {σ:St} {H:Hp} {s:Shared} {a:Addr} {y:V} {u:Value} {A:Around} {E:Value→Shared→Prop}
end
end L2
end
section
namespace Att
open PySem PySem.W PySem.Calls PyProof.Rows
theorem ud {P:Params} {h:Heap}:∀ (ns:List Int) (vs:List Value),WellAll P h vs (ns.map WData.int)→IntsAre vs ns:=by
  intro ns
  induction ns with
  | nil =>
    intro vs w
    rw [List.map_nil] at w
    cases w
    exact .nil
  | cons n ns ih =>
    intro vs w
    rw [List.map_cons] at w
    cases w with
    | cons a b =>
      cases a
      exact .cons _ _ (ih _ b)
theorem Gj {l:OpenLaw} {n:Nat} (hn:l.most=some n) {P:Params} {h:Heap} {args:List WData} {vals:List Value}
    (hpre:l.row.toRowW.claim.pre args=true) (hwl:WellAll P h vals args) :
    ∃ a vs ns,vals=[Value.ref a]∧args=[WData.list (ns.map WData.int)]∧h.get? a=some { cls:=.type "list",data:=.seq vs.toArray }∧IntsAre vs ns∧ns.length≤n:=by
  have hsh:WShape.hasAll [] args [.list .int]=true:=(pre_splitW hpre).1
  have hc:l.pre.holds [] { args:=args } = true:=(pre_splitW hpre).2
  obtain ⟨d,r,rfl,h1,h2⟩:=hasAllW_cons hsh
  obtain rfl:=hasAllW_nil h2
  obtain ⟨xs,rfl,h3⟩:=hasW_list h1
  obtain ⟨ns,rfl⟩:=items_int h3
  have hlen:ns.length≤n:=by
    unfold OpenLaw.pre at hc
    have h4:(WTm.not (.lt (.lit (.int (n:Int))) (.len (.arg 0)))).holds [] { args:=[.list (ns.map .int)] } = true:=by
      have h4:=(holds_andW hc).1
      rw [hn] at h4
      exact h4
    have h5:=condW_of h4 (w_not (w_lt w_lit (w_len_list (w_arg rfl))))
    rw [List.length_map] at h5
    refine Nat.le_of_not_lt fun q=>?_
    have q':(n:Int)<((ns.length:Nat):Int):=by omega
    first
      | (rw [decide_eq_true q'] at h5; exact absurd h5 (by decide))
      | (simp at h5; omega)
  cases hwl with
  | cons w1 w2 =>
    cases w2
    cases w1 with
    | list ho hall=>exact ⟨_,_,ns,rfl,rfl,ho,ud ns _ hall,hlen⟩
theorem Fi (l:OpenLaw) (args:List WData):l.row.toRowW.claim.post args (.bool true) args=true :=
  postW_of (r:=l.row.toRowW) (X:=(true==true))
    (show WShape.has [] (.bool true) .bool=true by first | rfl | decide | simp [WShape.has,WShape.arms,WShape.armsAll])
    (show (WTm.eq .res (.lit (.bool true))).value [] { args:=args,res:=some (.bool true),after:=args } = some (.bool (true==true)) from w_eq_bool (w_res rfl) w_lit) rfl
theorem Ci {l:OpenLaw} {n:Nat} {q:Program} {loose:List Str} {XP:(Str→Option Value)→Heap→Prop} {YP:World→Heap→Prop} {d:DefRec}
    (hn:l.most=some n) (hdf:d.params.defaults=[])
    (call:∀ (w:World) (s₀ s₁:Shared) (mg mb:Str→Option Value) (fa:Addr) (o:Obj) (pm cd doc:Value) (a:Addr) (vs:List Value) (ns:List Int),
      Ground q loose [] XP w s₀ mg mb s₁.heap→YP w s₁.heap →
      s₁.heap.get? fa=some o→o.data=.func (docDef d.name d.params d.body d.scope pm cd doc)→s₁.heap.CodeRec cd d.name→mg d.name=some (.ref fa) →
      s₁.heap.get? a=some { cls:=.type "list",data:=.seq vs.toArray }→IntsAre vs ns→ns.length≤n→s₁.gens = #[] →
      codeAny (model l.prog w) callerA (.call (.ref fa) ⟨[.ref a],[]⟩) (fun r s'=>r=.ok (.ret (.bool true))∧OldK s₁.heap s'.heap∧s'.os=s₁.os∧AllBare s'.gens) s₁) :
    WalkO q loose XP YP l.row.toRowW d [] (fun f vs=>PySem.call f vs):=by
  intro w s₀ s₁ mg mb G Y fa o pm cd doc dV kV ho hd hcd hD hmg hg args vals as hpre hlay hrd hwl hlo
  obtain rfl:dV=.none:=Dflts.none hD hdf
  obtain rfl:kV=.none:=Dflts.noKw hD
  obtain ⟨a,vs,ns,rfl,rfl,hobj,hints,hlen⟩:=Gj hn hpre hwl
  refine enter_call (codeAny_mono (call w s₀ s₁ mg mb fa o pm cd doc a vs ns G Y ho (fd_plain hd) hcd hmg hobj hints hlen hg) fun r s' hq=>?_)
  obtain ⟨rfl,h2,h3,h4⟩:=hq
  exact ⟨.inl ⟨.bool true,.bool true,[],rfl,fun _=>rfl,.bool true,Fi l _,fun _=>⟨List.Pairwise.nil,fun _ hm=>(nomatch hm)⟩⟩,h2,h3,h4⟩
section
variable {prog:Program} {w:World} {A:Around} {E:Value→Shared→Prop} {s:Shared} {K:Frag}
end
end Att
namespace L2
open PySem PySem.Spec PyProof.Rows
theorem Ax:∀ {vs:List Value} {ns:List Int},IntsAre vs ns→Vals (ns.map V.int) vs
  | _,_,.nil=>.nil
  | _,_,.cons n t h=>.cons ⟨t,rfl⟩ (Ax h)
def Only (H:Hp):Prop:=∀ b,H b=none∨∃ o xs,H b=some (.frz o (.lst xs))
theorem Ib {P:Program} {w:World} {K:PySem.W.Frag} {mg mb:Str→Option Value} {CX:CXT} {k:Nat} {fa a:Addr} {fd:FuncData} {x:Str} {sp:Sp} {s₁:Shared} {vs:List Value} {ns:List Int}
    (KX:K.In s₁.heap) (hns:s₁.heap.Ns mainGlobals mg) (hb:s₁.heap.Ns builtinsNs mb) (hbb:∀ x:Str,x ≠ "__name__" → mb x=bootBuiltins x) (hlim:s₁.heap.NoLimit) (hg:s₁.gens = #[])
    (ha:s₁.heap.get? a=some { cls:=.type "list",data:=.seq vs.toArray }) (hi:IntsAre vs ns) (hl:ns.length≤sizeLine) (hr:nu k callerA)
    (F:∀ base:Heap,K.In base→base.Ns mainGlobals mg→lq P w K mg base CX k fa fd [x] sp) (hbind:∀ (s:Shared) (u:Value),BindsTo s fd ⟨[u],[]⟩ [(x,u)])
    (hsp:∀ H:Hp,Only H→SqL K H a (ns.map V.int)→sp [.ref a] H (fun v _=>v=.bl true) fun _ _ _=>False)
    (hCX:∀ H e s',CX [] H s₁ (fun _ _ _=>False) e s'→False) :
    codeAny (model P w) callerA (.call (.ref fa) ⟨[.ref a],[]⟩) (fun r s'=>r=.ok (.ret (.bool true))∧OldK s₁.heap s'.heap∧s'.os=s₁.os∧AllBare s'.gens) s₁:=by
  have rv:=Ax hi
  have lenV:=hi.length
  have core:∀ H:Hp,Only H→SqL K H a (ns.map V.int)→HOk P w H s₁.heap→(∀ b,H b≠none→b=a)→(H a≠none→K.lookup a=none) →
      codeAny (model P w) callerA (.call (.ref fa) ⟨[.ref a],[]⟩) (fun r s'=>r=.ok (.ret (.bool true))∧OldK s₁.heap s'.heap∧s'.os=s₁.os∧AllBare s'.gens) s₁:=by
    intro H hO hS hok hA hK
    have base_of:∀ {b:Addr} {o:Obj},s₁.heap.get? b=some o→H b=none→(Jk s₁.heap H).get? b=some o:=fun e n=>Ji e n
    have noA:∀ {b:Addr} {o:Obj} {es:Array DictEntry} {ep:Nat},s₁.heap.get? b=some o→o.data=.dict es ep→H b=none:=fun {b o es ep} e d=>by
      cases q:H b with
      | none=>rfl
      | some u =>
        have e':b=a:=hA b (by rw [q]; simp)
        subst e'
        rw [ha] at e; cases e
        have d':Data.seq vs.toArray _=Data.dict es ep:=d
        cases d'
    have nsK:∀ {b:Addr} {m:Str→Option Value},s₁.heap.Ns b m→(Jk s₁.heap H).Ns b m:=fun {b m} ⟨o,es,ep,e,d,r⟩=>⟨o,es,ep,base_of e (noA e d),d,r⟩
    have hKb:K.In (Jk s₁.heap H):=fun b o e=>base_of (KX b o e) (by
      cases q:H b with
      | none=>rfl
      | some u =>
        have e':b=a:=hA b (by rw [q]; simp)
        subst e'
        rw [hK (by rw [q]; simp)] at e; cases e)
    have hM:Mod K mg (Jk s₁.heap H):=⟨hKb,nsK hns,⟨mb,nsK hb,hbb⟩,let ⟨mc,h1,h2⟩:=hlim; ⟨mc,nsK h1,h2⟩⟩
    have e0:Kv P w K mg (Jk s₁.heap H) callerA [] s₁ H:=⟨rfl,hM,fun b o e=>Mj e,Nat.le_of_eq (Em _ _),trivial,fun b hb=>absurd (show b∈([]:List Addr) from hb) (by simp),hok,.of_eq hg⟩
    refine codeAny_mono ((F _ hKb (nsK hns)).run callerA [] s₁ H ⟨[.ref a],[]⟩ [.ref a] [.ref a] _ _ hr e0 (hbind s₁ (.ref a)) (.cons rfl .nil) (hsp H hO hS)) fun r s' h=>?_
    cases r with
    | error e=>exact (hCX H e s' h).elim
    | ok fl =>
      cases fl with
      | next=>exact False.elim h
      | brk=>exact False.elim h
      | cont=>exact False.elim h
      | ret u =>
        obtain ⟨v,H',os,bare,un,hok',r',q⟩:=h
        have q':v=.bl true:=q
        subst q'
        obtain rfl:u=Value.bool true:=r'
        refine ⟨rfl,OldK.of_keep fun b o e=>?_,os,bare⟩
        cases q:H b with
        | none=>exact un.keep b o e q (by intro z; exact absurd (show b∈([]:List Addr) from z) (by simp)) (by simp)
        | some u =>
          rcases hO b with z | ⟨ob,xs,z⟩
          · rw [q] at z; cases z
          · have z2:=un.frzs b ob _ z
            obtain ⟨e1,_⟩:=hok b _ z
            obtain ⟨e2,_⟩:=hok' b _ z2
            rw [e] at e1; cases e1
            exact e2
  cases hk:K.lookup a with
  | some o =>
    have e:=KX a o hk
    rw [ha] at e
    cases e
    refine core (fun _=>none) (fun _=>.inl rfl) (.inr ⟨_,vs.toArray,_,hk,rfl,rfl,rfl,by rw [List.size_toArray,lenV]; exact hl,by simpa using rv⟩) (fun b u z=>by have z':(none:Option HO)=some u:=z; cases z') (fun b z=>absurd rfl z) fun z=>absurd rfl z
  | none =>
    refine core (fun b=>if b=a then some (.frz { cls:=.type "list",data:=.seq vs.toArray } (.lst (ns.map V.int))) else none) (fun b=>?_) (.inl (.inr ⟨{ cls:=.type "list",data:=.seq vs.toArray },if_pos rfl⟩)) (fun b u z=>?_) (fun b z=>?_) fun _=>hk
    · by_cases hb:b=a
      · exact .inr ⟨_,_,if_pos hb⟩
      · exact .inl (if_neg hb)
    · by_cases hb:b=a
      · have z':=(if_pos hb).symm.trans z
        cases z'
        subst hb
        exact ⟨ha,by rw [List.length_map]; exact hl,vs,_,rv,ha⟩
      · have z':=(if_neg hb).symm.trans z
        cases z'
    · by_cases hb:b=a
      · exact hb
      · exact absurd (if_neg hb) z
end L2
namespace L2
open PySem PySem.Spec PyProof.Rows
theorem Lj {l:PySem.W.OpenLaw} {n k:Nat} {q:Program} {loose:List Str} {XP:(Str→Option Value)→Heap→Prop} {YP:World→Heap→Prop} {d:DefRec} {K:Params→PySem.W.Frag} {CX:World→CXT} {sp:World→Sp} {x:Str}
    (hn:l.most=some n) (hn2:n≤sizeLine) (hdf:d.params.defaults=[]) (hr:nu k callerA)
    (hY:∀ (w:World) (h:Heap),YP w h→(K w.params).In h)
    (F:∀ (w:World) (mg:Str→Option Value) (fa:Addr) (h:Heap),(K w.params).In h→h.Ns mainGlobals mg→mg d.name=some (.ref fa) →
      ∃ fd:FuncData,(∀ (s:Shared) (u:Value),BindsTo s fd ⟨[u],[]⟩ [(x,u)]) ∧
        ∀ base:Heap,(K w.params).In base→base.Ns mainGlobals mg→lq l.prog w (K w.params) mg base (CX w) k fa fd [x] (sp w))
    (hsp:∀ (w:World) (H:Hp) (a:Addr) (ns:List Int),ns.length≤n→Only H→SqL (K w.params) H a (ns.map V.int)→sp w [.ref a] H (fun v _=>v=.bl true) fun _ _ _=>False)
    (hCX:∀ (w:World) (H:Hp) (s:Shared) (e:Value) (s':Shared),CX w [] H s (fun _ _ _=>False) e s'→False) :
    PySem.W.WalkO q loose XP YP l.row.toRowW d [] (fun f vs=>PySem.call f vs):=by
  refine Att.Ci hn hdf fun w s₀ s₁ mg mb fa o pm cd doc a vs ns G Y ho hd hcd hmg hobj hints hlen hg=>?_
  have KX:=hY w _ Y
  obtain ⟨fd,hb,hF⟩:=F w mg fa _ KX G.T.g hmg
  exact Ib KX G.T.g G.T.b G.T.builtins G.T.nolimit hg hobj hints (Nat.le_trans hlen hn2) hr hF hb (fun H hO hS=>hsp w H a ns hlen hO hS) fun H e s'=>hCX w H s₁ e s'
end L2
namespace L2
open PySem PySem.Spec PyProof.Rows
def nq (s:Stmt):Arguments:=match s with
  | .FunctionDef _ a _ _ _ _ _ _ _ _=>a
  | _=>{ posonlyargs:=[],args:=[],vararg:=none,kwonlyargs:=[],kw_defaults:=[],kwarg:=none,defaults:=[] }
def jh (s:Stmt):List Stmt:=match s with
  | .FunctionDef _ _ b _ _ _ _ _ _ _=>b
  | _=>[]
def bf (s:Stmt):Scope:=match s with
  | .FunctionDef _ _ _ _ _ _ sc _ _ _=>sc
  | _=>{ kind:=.function,names:=[],isGenerator:=false,isCoroutine:=false }
abbrev CX0:CXT:=fun _ _ _ _ _ _=>False
abbrev E0:XK:=fun _ _ _=>False
theorem Q6 {X:Cx}:Passes CX0 X E0:=fun _ _ _ _ _ _ _ h=>h.elim
structure Fun (K:PySem.W.Frag) (x qual:Str) (st:Stmt) (f:Addr) (fd:FuncData):Prop where
  ex:∃ (oc:Value) (od:Option Addr) (kV doc pm:Value) (an:Option Addr) (cdv ct:Value) (osl:Array (Option Value)),
    fd=PySem.W.fnOf x qual (nq st) (jh st) (bf st) .none kV doc pm an cdv ct∧K.lookup f=some ⟨oc,od,.func fd,osl⟩∧PySem.W.codeIn K cdv qual=true
  kp:PySem.W.keepIn K (.ref f)=true
section
variable {P:Program} {w:World} {K:PySem.W.Frag} {mg:Str→Option Value} {base:Heap}
theorem Fun.ok {x qual:Str} {st:Stmt} {f:Addr} {fd:FuncData} {N ps:List Str} {k:Nat} {sp:Sp} (F:Fun K x qual st f fd) (S:iz N ps (bf st)) (len:∀ vs H Q E,sp vs H Q E→vs.length=ps.length)
    (hbody:∀ (cdv:Value) (A:Around) (outer:List Env) (s:Shared) (H:Hp) (vs:List V) (Q:VK) (E:XK),nu k (A.deeper (envOfC qual (bf st) s.heap.objs.size f cdv))→sp vs H Q E →
      ∃ t,PSs (Hh CX0 P w K mg base N qual (bf st) f cdv A outer s H E).nox (jh st) t∧t { nx:=fun _ H'=>Q .non H',rt:=Q } (start N vs) H):lq P w K mg base CX0 (k+1) f fd ps sp:=by
  obtain ⟨oc,od,kV,doc,pm,an,cdv,ct,osl,rfl,lk,hcd⟩:=F.ex
  refine Nj lk hcd S len fun A outer s H vs Q E hr hsp=>?_
  obtain ⟨t,h,q⟩:=hbody cdv A outer s H vs Q E hr hsp
  exact ⟨t,h.nox,q⟩
theorem Fun.binds {x qual:Str} {st:Stmt} {f:Addr} {fd:FuncData} {ps:List Str} (F:Fun K x qual st f fd)
    (h:∀ (kV doc pm:Value) (an:Option Addr) (cdv ct:Value) (us:List Value),us.length=ps.length→bindArgs (PySem.W.fnOf x qual (nq st) (jh st) (bf st) .none kV doc pm an cdv ct) ⟨us,[]⟩=pure (ps.zip us)):Binds K fd ps []:=by
  obtain ⟨oc,od,kV,doc,pm,an,cdv,ct,osl,rfl,lk,hcd⟩:=F.ex
  exact .all (h kV doc pm an cdv ct)
theorem bd1 {fd:FuncData} {ps:List Str} (h:∀ a,bindArgs fd ⟨[a],[]⟩=pure (ps.zip [a])) (us:List Value) (hl:us.length=1):bindArgs fd ⟨us,[]⟩=pure (ps.zip us):=by
  cases us with
  | nil=>exact nomatch hl
  | cons a us =>
  cases us with
  | cons _ _=>simp at hl
  | nil=>exact h a
theorem bd2 {fd:FuncData} {ps:List Str} (h:∀ a b,bindArgs fd ⟨[a,b],[]⟩=pure (ps.zip [a,b])) (us:List Value) (hl:us.length=2):bindArgs fd ⟨us,[]⟩=pure (ps.zip us):=by
  cases us with
  | nil=>exact nomatch hl
  | cons a us =>
  cases us with
  | nil=>exact nomatch hl
  | cons b us =>
  cases us with
  | cons _ _=>simp at hl
  | nil=>exact h a b
theorem bd3 {fd:FuncData} {ps:List Str} (h:∀ a b c,bindArgs fd ⟨[a,b,c],[]⟩=pure (ps.zip [a,b,c])) (us:List Value) (hl:us.length=3):bindArgs fd ⟨us,[]⟩=pure (ps.zip us):=by
  cases us with
  | nil=>exact nomatch hl
  | cons a us =>
  cases us with
  | nil=>exact nomatch hl
  | cons b us =>
  cases us with
  | nil=>exact nomatch hl
  | cons c us =>
  cases us with
  | cons _ _=>simp at hl
  | nil=>exact h a b c
theorem bd4 {fd:FuncData} {ps:List Str} (h:∀ a b c d,bindArgs fd ⟨[a,b,c,d],[]⟩=pure (ps.zip [a,b,c,d])) (us:List Value) (hl:us.length=4):bindArgs fd ⟨us,[]⟩=pure (ps.zip us):=by
  cases us with
  | nil=>exact nomatch hl
  | cons a us =>
  cases us with
  | nil=>exact nomatch hl
  | cons b us =>
  cases us with
  | nil=>exact nomatch hl
  | cons c us =>
  cases us with
  | nil=>exact nomatch hl
  | cons d us =>
  cases us with
  | cons _ _=>simp at hl
  | nil=>exact h a b c d
theorem bd5 {fd:FuncData} {ps:List Str} (h:∀ a b c d e,bindArgs fd ⟨[a,b,c,d,e],[]⟩=pure (ps.zip [a,b,c,d,e])) (us:List Value) (hl:us.length=5):bindArgs fd ⟨us,[]⟩=pure (ps.zip us):=by
  cases us with
  | nil=>exact nomatch hl
  | cons a us =>
  cases us with
  | nil=>exact nomatch hl
  | cons b us =>
  cases us with
  | nil=>exact nomatch hl
  | cons c us =>
  cases us with
  | nil=>exact nomatch hl
  | cons d us =>
  cases us with
  | nil=>exact nomatch hl
  | cons e us =>
  cases us with
  | cons _ _=>simp at hl
  | nil=>exact h a b c d e
theorem qy {x qual:Str} {st:Stmt} {f:Addr} {oc:Value} {od an:Option Addr} {osl:Array (Option Value)} {kV doc pm cdv ct:Value} (l:K.lookup f=some ⟨oc,od,.func (PySem.W.fnOf x qual (nq st) (jh st) (bf st) .none kV doc pm an cdv ct),osl⟩)
    (c:PySem.W.codeIn K cdv qual=true) (k:PySem.W.keepIn K (.ref f)=true):Fun K x qual st f (PySem.W.fnOf x qual (nq st) (jh st) (bf st) .none kV doc pm an cdv ct):=⟨⟨oc,od,kV,doc,pm,an,cdv,ct,osl,rfl,l,c⟩,k⟩
end
theorem vf {A:Around} {k:Nat} (hr:nu k A):A.units+1<cLine:=Nat.lt_of_le_of_lt (Nat.add_le_add_left (by decide:1≤64) _) hr.units
theorem Bk {n:Nat} (h:n≤1000):n<sizeLine:=Nat.lt_of_le_of_lt h (by decide)
section
variable {X:Cx}
theorem pv (i:Nat) {x:Str} {pos:Pos} (hN:X.N[i]? = some x:=by rfl) (hv:Vis X.env.scope x:=by first | exact Or.inl rfl | exact Or.inr (Or.inl rfl) | exact Or.inr (Or.inr rfl)) (hd:(x==("__debug__" : Str))=false:=by decide)
    (hcd:(x==("__classdict__" : Str))=false:=by decide):PE X (.Name x pos) (P0 i):=Ga hN hv hd hcd
end
theorem Ox {A B:Prop} (h:B):if false=true then A else B:=by
  rw [if_neg Bool.false_ne_true]
  exact h
theorem Pg {A B:Prop} (h:A):if true=true then A else B:=by
  rw [if_pos rfl]
  exact h
def Same (H H':Hp):Prop:=∀ b o,H b=some o→H' b=some o
theorem Same.refl (H:Hp):Same H H:=fun _ _ h=>h
theorem Same.trans {H H1 H2:Hp} (a:Same H H1) (b:Same H1 H2):Same H H2:=fun c o h=>b c o (a c o h)
theorem Same.free {H H':Hp} (e:Same H H') {l:Addr} (h:H' l=Option.none):H l=Option.none:=by
  cases q:H l with
  | none=>rfl
  | some o =>
    rw [e l o q] at h
    cases h
theorem Same.seq {K:PySem.W.Frag} {H H':Hp} {a:Addr} {xs:List V} (e:Same H H') (h:SqL K H a xs):SqL K H' a xs:=by
  rcases h with (h | ⟨o,h⟩) | h
  · exact .inl (.inl (e _ _ h))
  · exact .inl (.inr ⟨o,e _ _ h⟩)
  · exact .inr h
end L2
end
section
namespace L2
open PySem PySem.Spec PyProof.Rows
section
variable {X:Cx}
end
section
variable {κ:Type} [DecidableEq κ]
end
end L2
end
section
namespace C
open PySem
theorem jd {α:Type} {w:α} {P:Prop} (h:none=some w):P:=nomatch h
theorem Ah {α:Type} {c:Prop} [Decidable c] {o:Option α} {w:α} (h:(if c then o else none)=some w):c∧o=some w:=by
  by_cases z:c
  · rw [if_pos z] at h; exact ⟨z,h⟩
  · rw [if_neg z] at h; exact jd h
abbrev Key:=Sum Int Str
inductive T where
  | non | bl (b:Bool) | int (i:Int) | str (x:Str)
  | tup (xs:List T) | lst (xs:List T) | dic (kvs:List (Key × T)) | obj (n:Nat)
instance:Inhabited T:=⟨.non⟩
inductive SO where
  | dic (kvs:List (Key × T)) | lst (xs:List T) | dit (kvs:List (List Key × T))
  /-- an exception of the class at C,what its field f holds -/
  | exc (C:Nat) (f:Str) (t:T)
abbrev Slot:=Option (T × Bool)
structure Sta where
  env:List Slot
  sto:List SO
abbrev M (α:Type):=Sta→Option (α × Sta)
def Ky (k:Key):List (Key × T)→Option T
  | []=>none
  | (q,t)::r=>if q=k then some t else Ky k r
def keyOf:T→Option Key
  | .int i=>some (.inl i)
  | .str x=>some (.inr x)
  | _=>none
mutual
def dat:T→Option PyData
  | .non=>some .none
  | .bl b=>some (.bool b)
  | .int i=>some (.int i)
  | .str x=>if PyData.canLay0 (.str x) then some (.str x) else none
  | .tup xs=>(yx xs).map .tuple
  | .lst xs=>(yx xs).map .list
  | .dic _=>none
  | .obj _=>none
def yx:List T→Option (List PyData)
  | []=>some []
  | x::r=>match dat x with
    | some a=>(yx r).map (a :: ·)
    | none=>none
end
def eqD (a b:T):Option Bool:=match dat a with
  | some x=>match dat b with
    | some y=>if x.depth≤40 then some (PyData.eqv x y) else none
    | none=>none
  | none=>none
def Ms:List (Key × T)→List (Key × T)→Option Bool
  | [],_=>some true
  | (k,x)::r,ys=>match Ky k ys with
    | none=>some false
    | some y=>match eqD x y with
      | some e=>(Ms r ys).map (e && ·)
      | none=>none
def eqT:T→T→Option Bool
  | .dic a,.dic b=>if a.length=b.length then Ms a b else some false
  | x,y=>eqD x y
def au (t:T):M T:=fun s=>some (t,s)
def cj (i:Nat):M T:=fun s=>match s.env[i]? with
  | some (some (t,false))=>some (t,s)
  | some (some (t,true))=>some (t,{ s with env:=s.env.set i (some (t,false)) })
  | _=>none
def qe:M (List T):=fun s=>some ([],s)
def c7 (a:M T) (r:M (List T)):M (List T):=fun s=>match a s with
  | some (t,s1)=>match r s1 with
    | some (ts,s2)=>some (t::ts,s2)
    | none=>none
  | none=>none
def Ov:List Str→M (List T)
  | []=>qe
  | x::r=>c7 (au (.str x)) (Ov r)
def Ak (f:List T→Option T) (a:M (List T)):M T:=fun s=>match a s with
  | some (ts,s1)=>match f ts with
    | some t=>some (t,s1)
    | none=>none
  | none=>none
def mUn (f:T→Option T) (a:M T):M T:=fun s=>match a s with
  | some (t,s1)=>match f t with
    | some u=>some (u,s1)
    | none=>none
  | none=>none
def mOp (f:T→T→Option T) (a b:M T):M T:=fun s=>match a s with
  | some (t,s1)=>match b s1 with
    | some (u,s2)=>match f t u with
      | some v=>some (v,s2)
      | none=>none
    | none=>none
  | none=>none
abbrev Fn:=List T→List SO→Option (T × List SO)
def m7 (F:Fn) (a:M (List T)):M T:=fun s=>match a s with
  | some (ts,s1)=>match F ts s1.sto with
    | some (t,sto)=>some (t,{ s1 with sto:=sto })
    | none=>none
  | none=>none
def dg (a:M T):M Bool:=fun s=>match a s with
  | some (.bl b,s1)=>some (b,s1)
  | _=>none
def Ek (a:M Bool):M Bool:=fun s=>match a s with
  | some (b,s1)=>some (!b,s1)
  | none=>none
def Sh (a b:M Bool):M Bool:=fun s=>match a s with
  | some (true,s1)=>b s1
  | some (false,s1)=>some (false,s1)
  | none=>none
def mOr (a b:M Bool):M Bool:=fun s=>match a s with
  | some (true,s1)=>some (true,s1)
  | some (false,s1)=>b s1
  | none=>none
def Qc (a:M Bool):M T:=fun s=>match a s with
  | some (b,s1)=>some (.bl b,s1)
  | none=>none
def mIf (c:M Bool) (a b:M T):M T:=fun s=>match c s with
  | some (true,s1)=>a s1
  | some (false,s1)=>b s1
  | none=>none
abbrev lim:Nat:=1000000
def Pa:T→T→Option T
  | .int i,.int j=>some (.int (i+j))
  | .str x,.str y=>if x.length+y.length<lim then some (.str (x++y)) else none
  | .tup x,.tup y=>if x.length+y.length<lim then some (.tup (x++y)) else none
  | .lst x,.lst y=>if x.length+y.length<lim then some (.lst (x++y)) else none
  | _,_=>none
def Rk:T→T→Option T
  | .int i,.int j=>some (.int (i - j))
  | _,_=>none
def Mp:T→T→Option T
  | .int i,.int j=>if 0<j then some (.int (i%j)) else none
  | _,_=>none
def fdl:Nat:=2 ^ 200
def Qk:T→T→Option T
  | .int i,.int j=>if 0<j∧(j<1073741824∨j.natAbs<fdl) then some (.int (i / j)) else none
  | _,_=>none
def Mz:T→T→Option T
  | .int i,.int j=>if 0≤j∧j≤1000∧i.natAbs<1000 then some (.int (i ^ j.toNat)) else none
  | _,_=>none
def Rz:T→Option T
  | .int i=>some (.int (-i))
  | _=>none
def ltT:T→T→Option T
  | .int i,.int j=>some (.bl (decide (i<j)))
  | _,_=>none
def leT:T→T→Option T
  | .int i,.int j=>some (.bl (decide (i≤j)))
  | _,_=>none
def eqO (x y:T):Option T:=match eqT x y with
  | some b=>some (.bl b)
  | none=>none
def neO (x y:T):Option T:=match eqT x y with
  | some b=>some (.bl (!b))
  | none=>none
def ixI (n:Nat) (i:Int):Option Nat:=if 0≤i then (if i<n then some i.toNat else none) else if -(n:Int)≤i then some (i+n).toNat else none
def jj:T→T→Option T
  | .tup xs,.int i=>(ixI xs.length i).bind (xs[·]?)
  | .lst xs,.int i=>(ixI xs.length i).bind (xs[·]?)
  | .str x,.int i=>if x.length<lim then (ixI x.cps.toList.length i).bind fun j=>(x.cps.toList[j]?).map fun c=>.str ⟨#[c]⟩ else none
  | .dic kvs,k=>(keyOf k).bind (Ky · kvs)
  | _,_=>none
def G3:List T→Option T
  | [.tup xs]=>some (.int xs.length)
  | [.lst xs]=>some (.int xs.length)
  | [.str x]=>if x.length<lim then some (.int x.length) else none
  | [.dic kvs]=>some (.int kvs.length)
  | _=>none
def Rh:List T→Option T
  | [.int i]=>some (.int (if i<0 then -i else i))
  | _=>none
def Ig (i:Nat) (s:Sta):Bool:=match s.env[i]? with
  | some (some (.lst _,_))=>true
  | _=>false
inductive Flow where
  | next | ret (t:T) | brk | cont
abbrev S:=Sta→Option (Flow × Sta)
def jg:S:=fun s=>some (.next,s)
def ni (a b:S):S:=fun s=>match a s with
  | some (.next,s1)=>b s1
  | r=>r
def v8 (e:M T):S:=fun s=>match e s with
  | some (t,s1)=>some (.ret t,s1)
  | none=>none
def sIf (c:M Bool) (a b:S):S:=fun s=>match c s with
  | some (true,s1)=>a s1
  | some (false,s1)=>b s1
  | none=>none
def j5 (i:Nat) (t:T) (own:Bool) (s:Sta):Sta:={ s with env:=s.env.set i (some (t,own)) }
def vh (i:Nat) (e:M T):S:=fun s=>match e s with
  | some (t,s1)=>some (.next,j5 i t false s1)
  | none=>none
def sNew (i:Nat) (e:M T):S:=fun s=>match e s with
  | some (t,s1)=>some (.next,j5 i t true s1)
  | none=>none
def Ke (i:Nat) (e:M T):S:=fun s=>if Ig i s then (match e s with
  | some (t,s1)=>match s1.env[i]? with
    | some (some (.lst xs,true))=>if xs.length<lim then some (.next,j5 i (.lst (xs++[t])) true s1) else none
    | _=>none
  | none=>none) else none
def O9:T→Option (List T)
  | .lst xs=>some xs
  | .tup xs=>some xs
  | _=>none
def Kw (i:Nat) (e:M T):S:=fun s=>if Ig i s then (match e s with
  | some (t,s1)=>match O9 t,s1.env[i]? with
    | some ys,some (some (.lst xs,true))=>if xs.length+ys.length<lim then some (.next,j5 i (.lst (xs++ys)) true s1) else none
    | _,_=>none
  | none=>none) else none
def J6 (i:Nat):S:=fun s=>match s.env[i]? with
  | some (some (.lst xs,true))=>some (.next,j5 i (.lst xs.reverse) true s)
  | _=>none
def sNx (u:S):S:=fun s=>match u s with
  | some (.next,s1)=>some (.next,s1)
  | _=>none
def Lb (i:Nat):S:=fun s=>match s.env[i]? with
  | some (some (t,true))=>some (.ret t,s)
  | _=>none
abbrev G:=T→Sta→Option Sta
def hName (i:Nat):G:=fun t s=>some (j5 i t false s)
def Rp (is:List Nat):G:=fun t s=>match t with
  | .tup xs=>if xs.length=is.length then some ((is.zip xs).foldl (fun s p=>j5 p.1 p.2 false s) s) else none
  | _=>none
def sGo (g:G) (m:M T):S:=fun s=>match m s with
  | some (t,s1)=>match g t s1 with
    | some s2=>some (.next,s2)
    | none=>none
  | none=>none
def forL (g:G) (b:S):List T→S
  | []=>fun s=>some (.next,s)
  | t::r=>fun s=>match g t s with
    | some s1=>match b s1 with
      | some (.next,s2)=>forL g b r s2
      | some (.cont,s2)=>forL g b r s2
      | some (.brk,s2)=>some (.next,s2)
      | some (.ret v,s2)=>some (.ret v,s2)
      | none=>none
    | none=>none
def K1 (g:G) (it:M (List T)) (b:S):S:=fun s=>match it s with
  | some (ts,s1)=>forL g b ts s1
  | none=>none
def rangeT (n:Nat):List T:=(List.range n).map fun (k:Nat)=>.int (k:Int)
def nj (a:M T):M (List T):=fun s=>match a s with
  | some (.int n,s1)=>if n.natAbs<lim then some (rangeT n.toNat,s1) else none
  | _=>none
def Rm (a:M T):M (List T):=fun s=>match a s with
  | some (.lst xs,s1)=>if xs.length<lim then some (xs,s1) else none
  | some (.tup xs,s1)=>if xs.length<lim then some (xs,s1) else none
  | _=>none
def Jj (s:Slot):Slot:=match s with
  | some (t,_)=>some (t,false)
  | none=>none
def iu (s:Sta):Sta:={ s with env:=s.env.map Jj }
def qw (g:G) (c:M Bool) (e:M T):List T→Sta→List T→Option (List T × Sta)
  | [],s,acc=>some (acc,s)
  | t::r,s,acc=>match g t s with
    | some s1=>match c s1 with
      | some (true,s2)=>match e s2 with
        | some (u,s3)=>if acc.length<lim then qw g c e r (iu s3) (acc++[u]) else none
        | none=>none
      | some (false,s2)=>qw g c e r (iu s2) acc
      | none=>none
    | none=>none
def Fd:M Bool:=fun s=>some (true,s)
def g8 (is:List Nat) (env:List Slot):List Slot:=is.foldl (fun e i=>match e[i]? with
  | some (some (t,_))=>e.set i (some (t,false))
  | _=>e) env
def zy (nv:Nat) (cap:List Nat) (g:G) (it:M (List T)) (c:M Bool) (e:M T):M T:=fun s=>match it s with
  | some (ts,s1) =>
    let env:=g8 cap s1.env
    match qw g c e ts ⟨List.replicate nv none++cap.map (fun i=>(env[i]?).getD none),s1.sto⟩ [] with
    | some (us,s2)=>some (.lst us,⟨env,s2.sto⟩)
    | none=>none
  | none=>none
def vp (n:Nat) (b:S):Fn:=fun ts sto=>match b ⟨ts.map (fun t=>some (t,false))++List.replicate (n - ts.length) none,sto⟩ with
  | some (.ret t,s)=>some (t,s.sto)
  | some (.next,s)=>some (.non,s.sto)
  | _=>none
section
variable {s s':Sta} {t v:T} {a b:M T}
theorem Ad {f:T→T→Option T} (h:mOp f a b s=some (v,s')):∃ t s1 u,a s=some (t,s1)∧b s1=some (u,s')∧f t u=some v:=by
  unfold mOp at h
  cases ha:a s with
  | none=>rw [ha] at h; cases h
  | some p =>
    obtain ⟨t,s1⟩:=p; rw [ha] at h; dsimp only at h
    cases hb:b s1 with
    | none=>rw [hb] at h; cases h -- here
    | some p =>
      obtain ⟨u,s2⟩:=p; rw [hb] at h; dsimp only at h
      cases hf:f t u with
      | none=>rw [hf] at h; cases h
      | some w=>rw [hf] at h; cases h; exact ⟨t,s1,u,rfl,hb,hf⟩
theorem zx {f:List T→Option T} {a:M (List T)} (h:Ak f a s=some (v,s')):∃ ts,a s=some (ts,s')∧f ts=some v:=by
  unfold Ak at h
  cases ha:a s with
  | none=>rw [ha] at h; cases h
  | some p =>
    obtain ⟨t,s1⟩:=p; rw [ha] at h; dsimp only at h
    cases hf:f t with
    | none=>rw [hf] at h; cases h
    | some w=>rw [hf] at h; cases h; exact ⟨t,rfl,hf⟩
theorem ux {r:M (List T)} {ts:List T} (h:c7 a r s=some (ts,s')):∃ t s1 us,a s=some (t,s1)∧r s1=some (us,s')∧ts=t::us:=by
  unfold c7 at h
  cases ha:a s with
  | none=>rw [ha] at h; cases h
  | some p =>
    obtain ⟨t,s1⟩:=p; rw [ha] at h; dsimp only at h
    cases hb:r s1 with
    | none=>rw [hb] at h; cases h -- here
    | some p=>obtain ⟨u,s2⟩:=p; rw [hb] at h; cases h; exact ⟨t,s1,u,rfl,hb,rfl⟩
theorem Hl {F:Fn} {a:M (List T)} (h:m7 F a s=some (v,s')):∃ ts s1 sto,a s=some (ts,s1)∧F ts s1.sto=some (v,sto)∧s' = { s1 with sto:=sto }:=by
  unfold m7 at h
  cases ha:a s with
  | none=>rw [ha] at h; cases h
  | some p =>
    obtain ⟨t,s1⟩:=p; rw [ha] at h; dsimp only at h
    cases hf:F t s1.sto with
    | none=>rw [hf] at h; cases h
    | some w=>obtain ⟨w,sto⟩:=w; rw [hf] at h; cases h; exact ⟨t,s1,sto,rfl,hf,rfl⟩
theorem En {b:Bool} (h:dg a s=some (b,s')):a s=some (.bl b,s'):=by
  unfold dg at h
  cases ha:a s with
  | none=>rw [ha] at h; cases h
  | some p =>
    obtain ⟨t,s1⟩:=p; rw [ha] at h
    cases t <;> first | (cases h; rfl) | (cases h)
theorem Hu {c:M Bool} {b:Bool} (h:Ek c s=some (b,s')):∃ k,c s=some (k,s')∧b=!k:=by
  unfold Ek at h
  cases ha:c s with
  | none=>rw [ha] at h; cases h
  | some p=>obtain ⟨t,s1⟩:=p; rw [ha] at h; cases h; exact ⟨t,rfl,rfl⟩
theorem Lx {c d:M Bool} {b:Bool} (h:mOr c d s=some (b,s')):(∃ s1,c s=some (false,s1)∧d s1=some (b,s'))∨(c s=some (true,s')∧b=true):=by
  unfold mOr at h
  cases ha:c s with
  | none=>rw [ha] at h; cases h
  | some p =>
    obtain ⟨k,s1⟩:=p; rw [ha] at h
    cases k with
    | false=>exact .inl ⟨s1,rfl,h⟩
    | true=>cases h; exact .inr ⟨rfl,rfl⟩
theorem Iw {i:Nat} (h:cj i s=some (v,s')):(s.env[i]? = some (some (v,false))∧s'=s)∨(s.env[i]? = some (some (v,true))∧s' = { s with env:=s.env.set i (some (v,false)) }):=by
  unfold cj at h
  split at h
  · rename_i t e; cases h; exact .inl ⟨e,rfl⟩
  · rename_i t e; cases h; exact .inr ⟨e,rfl⟩
  · cases h
end
end C
end
section
namespace L2
open PySem PySem.Spec PyProof.Rows
section
variable {pr:Program} {wd:World} {Ar:Around} {Rs:Result→Shared→Prop} {s:Shared}
theorem Bl {el tgt itr:Expr} {cs:List Expr} {scp:Scope} {ps:Pos} {itv accv:Value} {en:Env} (J:Nat→Shared→Prop)
    (turn:∀ n z,J n z→wpAny (model pr wd) Ar (pyNext itv) (fun nx z1=>match nx with
      | none=>Rs (.ok .next) z1
      | some v=>wpAny (model pr wd) Ar (letOwnedTupleGo tgt itv v) (fun _ z2=>wpAny (model pr wd) Ar (assign tgt en v) (fun _ z3 =>
          wpAny (model pr wd) Ar (forIn cs true fun c go=>if go=true then do let ok ← isTrue c en (eval c en); pure (ForInStep.yield ok) else pure (ForInStep.yield go)) (fun ok z4 =>
            if ok=true then wpAny (model pr wd) Ar (eval el en) (fun x z5 =>
              wpAny (model pr wd) Ar (call (.builtin "list.append") [accv,x]) (fun _ z6=>∃ m,m<n∧J m z6) (fun _ _=>False) z5) (fun _ _=>False) z4
            else ∃ m,m<n∧J m z4) (fun _ _=>False) z3) (fun _ _=>False) z2) (fun _ _=>False) z1) (fun _ _=>False) z)
    (n:Nat) (h:J n s) :
    codeAny (model pr wd) Ar (.compLoop (.ListComp el [⟨tgt,itr,cs,0⟩] scp ps) 0 itv accv en) Rs s:=by
  refine codeAny_loop rfl J (fun k z hz=>?_) n h
  show wpAny _ Ar ((compTurn (.ListComp el [⟨tgt,itr,cs,0⟩] scp ps) 0 itv accv en).onRaise (fun ex=>do noteFrame ex en; theTreesLotGoes ex)) _ _ z
  refine wpAny_noted ?_
  rw [compTurn_list]
  refine wpAny_bind (wpAny_standAt (wpAny_bind (wpAny_mono (turn k z hz) (fun nx z1 g1=>?_) fun _ _ no=>no.elim)))
  cases nx with
  | none=>exact wpAny_pure g1
  | some v =>
    refine wpAny_bind (wpAny_mono g1 (fun _ z2 g2=>?_) fun _ _ no=>no.elim)
    refine wpAny_bind (wpAny_mono g2 (fun _ z3 g3=>wpAny_bind (wpAny_mono g3 (fun ok z4 g4=>?_) fun _ _ no=>no.elim)) fun _ _ no=>no.elim)
    cases ok with
    | false=>exact wpAny_pure (And.intro rfl g4)
    | true =>
      exact wpAny_bind (wpAny_bind (wpAny_mono g4 (fun x z5 g5=>wpAny_bind (wpAny_mono g5 (fun _ z6 g6=>wpAny_pure (wpAny_pure (And.intro rfl g6))) fun _ _ no=>no.elim)) fun _ _ no=>no.elim))
end
def Ea (env:Env):List (Str × NameKind)→List (Str × Addr)→List (Str × Addr)
  | [],cs=>cs
  | (n,k)::r,cs=>Ea env r (if (k==NameKind.free)=true then (match env.cells.lookup n with | some c=>(n,c)::cs | none=>cs) else cs)
def o7 (env:Env) (names:List (Str × NameKind)):Bool:=names.all fun y=>!(y.2==NameKind.free)||(env.cells.lookup y.1).isSome
theorem Ab {scope:Scope} {env:Env} (h:o7 env scope.names=true):closureFor scope env=pure (Ea env scope.names []):=by
  have key:∀ (l:List (Str × NameKind)) (cs:List (Str × Addr)),o7 env l=true →
      (forIn (m:=Sem) l cs fun x r=>(do
        if (x.2==NameKind.free)=true then
          let c ← cellOf env x.1
          pure (ForInStep.yield ((x.1,c)::r))
        else pure (ForInStep.yield r)))=pure (Ea env l cs):=by
    intro l
    induction l with
    | nil=>intro cs _; rfl
    | cons x r ih =>
      intro cs h
      obtain ⟨n,k⟩:=x
      unfold o7 at h
      rw [List.all_cons,Bool.and_eq_true] at h -- here
      obtain ⟨h1,h2⟩:=h
      rw [List.forIn_cons]
      by_cases hk:(k==NameKind.free)=true
      · have h1':(env.cells.lookup n).isSome=true:=by simpa [hk] using h1
        obtain ⟨c,hc⟩:=Option.isSome_iff_exists.mp h1'
        have e:cellOf env n=pure c:=by unfold cellOf; rw [hc]
        simp only [hk,if_true,e,pure_bind]
        rw [ih _ h2]
        simp only [Ea,hk,if_true,hc]
      · simp only [hk,if_false,pure_bind,Bool.false_eq_true]
        rw [ih _ h2]
        simp only [Ea,hk,if_false,Bool.false_eq_true]
  have:=key scope.names [] h
  unfold closureFor
  simpa using this
def jf (X:Cx) (scope:Scope) (N:List Str) (C:Addr) (s₀:Shared) (H₀:Hp) (ex:List Addr) (pn:List (Addr × Obj)):Cx :=
  { X with N:=N,s₀:=s₀,H₀:=H₀,env:=compEnvC scope (Ea X.env scope.names []) C X.env,outer:=X.stack,ex:=ex,fn:=fun _=>false,pn:=pn,xe:=fun _ _=>False }
structure Aw (X:Cx) (scope:Scope) (N:List Str):Prop where
  has:o7 X.env scope.names=true
  kind:scope.kind=.function
  nocell:∀ y∈scope.names,y.2≠.cell
  names:∀ y∈scope.names,y.2=.local→scope.names.lookup y.1=some .local
def Oz (X:Cx) (scope:Scope) (x:Str):Prop :=
  (X.env.kindOf x=some .cell∨X.env.kindOf x=some .free)∧Vis X.env.scope x∧((relabel scope X.env).names.lookup x=some .cell∨(relabel scope X.env).names.lookup x=some .free)
theorem uf {env:Env}:∀ (l:List (Str × NameKind)) (cs:List (Str × Addr)),(∀ x c,cs.lookup x=some c→env.cells.lookup x=some c) →
    ∀ x c,(Ea env l cs).lookup x=some c→env.cells.lookup x=some c
  | [],cs,h,x,c,e=>h x c e
  | (n,k)::r,cs,h,x,c,e=>by
    rw [Ea] at e
    refine uf r _ (fun y d q=>?_) x c e
    split at q
    · split at q
      · rename_i c' hc'
        rw [List.lookup_cons] at q
        split at q
        · rename_i hb
          cases q
          have hyn:=eq_of_beq hb
          rw [hyn]; exact hc'
        · exact h y d q
      · exact h y d q
    · exact h y d q
theorem Eu {env:Env}:∀ (l:List (Str × NameKind)) (cs:List (Str × Addr)) (x:Str),(∃ c,cs.lookup x=some c)→∃ c,(Ea env l cs).lookup x=some c
  | [],cs,x,h=>h
  | (n,k)::r,cs,x,h=>by
    rw [Ea]
    refine Eu r _ x ?_
    split
    · split
      · rename_i c' hc'
        rw [List.lookup_cons]
        split
        · exact ⟨_,rfl⟩
        · exact h
      · exact h
    · exact h
theorem Ft {env:Env}:∀ (l:List (Str × NameKind)) (cs:List (Str × Addr)) (x:Str),o7 env l=true→(x,NameKind.free)∈l→∃ c,(Ea env l cs).lookup x=some c
  | [],cs,x,_,h=>by simp at h
  | (n,k)::r,cs,x,hh,h=>by
    unfold o7 at hh
    rw [List.all_cons,Bool.and_eq_true] at hh
    rw [Ea]
    rcases List.mem_cons.mp h with e | h'
    · injection e with e1 e2
      subst e1; subst e2
      have h1:(env.cells.lookup x).isSome=true:=by simpa using hh.1
      obtain ⟨c,hc⟩:=Option.isSome_iff_exists.mp h1
      refine Eu r _ x ?_
      simp [hc]
    · exact Ft r _ x hh.2 h'
theorem mem_of_lookup {α:Type}:∀ {l:List (Str × α)} {x:Str} {k:α},l.lookup x=some k→(x,k)∈l
  | [],_,_,h=>by simp at h
  | (n,k')::r,x,k,h=>by
    rw [List.lookup_cons] at h
    split at h
    · rename_i hb
      cases h
      have hyn:=eq_of_beq hb
      rw [hyn]; exact List.mem_cons_self
    · exact List.mem_cons_of_mem _ (mem_of_lookup h)
theorem Cz {scope:Scope} {env:Env} (nc:∀ y∈scope.names,y.2≠.cell) {x:Str} (h:(relabel scope env).names.lookup x=some .cell∨(relabel scope env).names.lookup x=some .free):(x,NameKind.free)∈scope.names:=by
  have:∃ k,(x,k)∈(relabel scope env).names∧(k=.cell∨k=.free):=by
    rcases h with h | h
    · exact ⟨_,mem_of_lookup h,.inl rfl⟩
    · exact ⟨_,mem_of_lookup h,.inr rfl⟩
  obtain ⟨k,hm,hk⟩:=this
  obtain ⟨⟨n,k'⟩,hm',e⟩:=List.mem_map.mp hm
  dsimp only at e
  split at e
  · rename_i hc
    cases e
    simp only [Bool.and_eq_true,beq_iff_eq] at hc
    obtain ⟨⟨h1,_⟩,_⟩:=hc
    subst h1; exact hm'
  · cases e
    rcases hk with rfl | rfl
    · exact absurd rfl (nc _ hm')
    · exact hm'
def PTs (X:Cx) (ifs:List Expr) (t:TT):Prop:=∀ (pins:List (Addr × Obj)) (s:Shared) (σ:St) (H:Hp) (Q:Bool→Hp→Prop),Inv X pins σ H s→t σ H Q →
  wpAny (model X.prog X.w) X.A (forIn ifs true fun c r=>if r=true then do let ok ← isTrue c X.env (eval c X.env); pure (ForInStep.yield ok) else pure (ForInStep.yield r)) (TP X pins σ Q) X.xe s
theorem Le {X:Cx}:PTs X [] (fun _ H Q=>Q true H):=fun pins s σ H Q I h=>wpAny_tests_nil ⟨H,I,h⟩
def Bt (X:Cx) (scope:Scope) (N:List Str) (g:TG) (tc:TT) (te:TE) (σ:St) (J:It) (H1:Hp) (Q:VK):Prop:=∀ D,H1 D=none→∃ σ0:St,σ0.length=N.length ∧
  (∀ (i:Nat) (v:V) (x:Str),σ0[i]? = some (some v)→N[i]? = some x→Vis (relabel scope X.env) x→∃ k:Nat,X.N[k]? = some x∧σ[k]? = some (some v)∧Oz X scope x) ∧
  ∃ W:Nat→Nat→St→Hp→Prop,(∃ m,W 0 m σ0 (upd H1 D (.lst [])))∧∀ i m σ' H',W i m σ' H' →
    (J.stop i H'∧Q (.ref D) H')∨(J.go i H'∧∀ x H2,J.yld i H' x H2→g x σ' H2 fun σ2 H3=>tc σ2 H3 fun b H4=>if b=true then te σ2 H4 fun y H5=>∃ l,H5 D=some (.lst l)∧l.length<sizeLine∧∃ m',m'<m∧W (i+1) m' σ2 (upd H5 D (.lst (l++[y]))) else ∃ m',m'<m∧W (i+1) m' σ2 H4)
def Ol (X:Cx) (scope:Scope) (N:List Str) (wi:TI) (g:TG) (tc:TT) (te:TE):TE:=fun σ H Q=>wi σ H fun J H1=>Bt X scope N g tc te σ J H1 Q
section
variable {X:Cx} {scope:Scope} {N:List Str}
theorem Fy (sc:Aw X scope N) {pins:List (Addr × Obj)} {σ:St} {H:Hp} {s:Shared} {fp:List Addr} (I:Inv X pins σ H s) (hf:∀ b∈fp,Ec X pins H b) (hfl:∀ b∈fp,b<s.heap.objs.size) :
    (jf X scope N s.heap.objs.size s H fp (X.pn++pins)).Ok where
  mod:=I.ok.mod
  kind:=sc.kind
  glob:=I.ok.glob
  blt:=I.ok.blt
  above:=Nat.le_refl _
  inj:=fun x y c h1 h2=>I.ok.inj x y c (uf _ [] (fun _ _ z=>by simp at z) x c h1) (uf _ [] (fun _ _ z=>by simp at z) y c h2)
  has:=fun x h=>Ft _ [] x sc.has (Cz sc.nocell h)
  cab:=fun x c h=>by cases h
  hd:=I.ok.hd
  frames:=I.ok.frames
  stk:=.inl rfl
  exf:=fun b hb=>⟨Nat.ne_of_lt (hfl b hb),fun x c h=>(hf b hb).2.2.2.2.1 x c (uf _ [] (fun _ _ z=>by simp at z) x c h)⟩
  bs:=I.bs
  bsz:=Nat.le_trans I.ok.bsz I.sz
  noex:=fun b o e hb=>by
    rcases (hf b hb).2.2.2.1 with z | z
    · exact I.ok.noex b o e z
    · exact absurd (Nat.lt_of_lt_of_le (Heap.lt_size e) (Nat.le_trans I.ok.bsz z)) (Nat.lt_irrefl _)
  exfs:=fun b hb z=>by
    rcases List.mem_cons.mp (I.Bc b z) with e | e
    · exact (hf b hb).2.1 e
    · exact (hf b hb).2.2.1 e
  Cq:=I.stack
  frf:=I.Bq
theorem Dr (sc:Aw X scope N) {pins:List (Addr × Obj)} {σ σ0:St} {H:Hp} {s:Shared} {fp:List Addr} {h':Heap} {m:Str→Option Value} {tk:Nat} (I:Inv X pins σ H s) (hf:∀ b∈fp,Ec X pins H b) (hfl:∀ b∈fp,b<s.heap.objs.size)
    (hl:σ0.length=N.length) (h0:∀ (i:Nat) (v:V) (x:Str),σ0[i]? = some (some v)→N[i]? = some x→Vis (relabel scope X.env) x→∃ k:Nat,X.N[k]? = some x∧σ[k]? = some (some v)∧Oz X scope x)
    (hn:h'.Ns s.heap.objs.size m) (hk:∀ b o,s.heap.get? b=some o→h'.get? b=some o) :
    Inv (jf X scope N s.heap.objs.size s H fp (X.pn++pins)) [] σ0 H { s with heap:=h',toks:=tk } where
  ok:=Fy sc I hf hfl
  os:=rfl
  bare:=I.bare
  base:=Un.kept hk
  loc:=⟨m,hn,fun i x v e1 e2 e3=>by
    obtain ⟨k,n2,n3,ck,cv,cr⟩:=h0 i v x e2 e1 e3
    obtain ⟨m0,_,hl0⟩:=I.loc
    obtain ⟨u,r,l⟩:=hl0 k x v n2 n3 cv
    refine ⟨u,r,.inr ⟨cr,?_⟩⟩
    rcases l with ⟨l1,_⟩ | ⟨_,c,hc,z⟩
    · rcases ck with q | q <;> (rw [l1] at q; cases q)
    · obtain ⟨c',hc'⟩:=Ft (env:=X.env) scope.names [] x sc.has (Cz sc.nocell cr)
      have q:=uf scope.names [] (fun _ _ z=>by simp at z) x c' hc'
      rw [hc] at q; cases q
      obtain ⟨o,ho,hd⟩:=z
      exact ⟨c,hc',o,hk _ _ ho,hd⟩⟩
  cell:=fun x c e=>by
    obtain ⟨v,o,ho,hd⟩:=I.cell x c (uf scope.names [] (fun _ _ z=>by simp at z) x c e)
    exact ⟨v,o,hk _ _ ho,hd⟩
  free:=I.hok.fresh (Nat.le_refl _)
  freeC:=fun x c e=>I.freeC x c (uf scope.names [] (fun _ _ z=>by simp at z) x c e)
  pin:=fun p hp=>by
    have hp':p∈X.pn++pins:=by simpa [jf] using hp
    obtain ⟨a,b,c,d,e⟩:=I.pin p hp'
    refine ⟨hk _ _ a,b,Nat.ne_of_lt (Heap.lt_size a),fun z=>?_,e⟩
    rcases List.mem_cons.mp (I.Bc p.1 z) with q | q
    · exact c q
    · exact d q
  hok:=I.hok.kept hk
  len:=hl
theorem Ie {pins:List (Addr × Obj)} {σ σ':St} {H H':Hp} {s s':Shared} {fp:List Addr} {h':Heap} (I:Inv X pins σ H s) (hf:∀ b∈fp,Ec X pins H b)
    (J:Inv (jf X scope N s.heap.objs.size s H fp (X.pn++pins)) [] σ' H' s') (hs:Heap.SameBut s.heap.objs.size s'.heap h'):Inv X pins σ H' { s' with heap:=h' }:=by
  have kb:∀ b o,b≠s.heap.objs.size→s'.heap.get? b=some o→h'.get? b=some o:=fun b o n e=>hs.extBut b o n e
  have ne:∀ b o,s.heap.get? b=some o→b≠s.heap.objs.size:=fun b o e=>Nat.ne_of_lt (Heap.lt_size e)
  have fr:H' s.heap.objs.size=none:=J.free
  have u0:Un (frs X.stack) fp H H' s.heap s'.heap:=J.base
  have u:Un (frs X.stack) fp H H' s.heap h':=⟨fun b o e n h1 h2=>kb b o (ne b o e) (u0.keep b o e n h1 h2),fun b o e n h1 h2=>by
      obtain ⟨sl,q⟩:=u0.slot b o e n h1 h2
      exact ⟨sl,kb b _ (ne b o e) q⟩,u0.free,fun b o e h=>by
      obtain ⟨o',q⟩:=u0.there b o e h
      exact ⟨o',kb b _ (ne b o e) q⟩,u0.tups,u0.frzs,u0.tbls⟩
  have hok:HOk X.prog X.w H' h':=fun b o e=>by
    refine (J.hok b o e).stay (fun c v hc q=>kb c v ?_ q) (fun _ q=>q) fun _ _ q=>q
    rcases hc with z | z
    · rw [z]; intro y; rw [y] at e; rw [fr] at e; cases e
    · intro y; rw [y] at z; rw [fr] at z; cases z
  have hos:s'.os=s.os:=J.os
  obtain ⟨hh,g,d,t,os'⟩:=s'
  obtain rfl:os'=s.os:=hos
  exact Inv.call (X:=X) (s:=s) (H:=H) (h':=h') (g':=g) (d':=d) (t':=t) (ch:=fp) I u hok J.bare fun b hb=>⟨(hf b hb).2.2.2.1,(hf b hb).2.1,(hf b hb).2.2.2.2.1,(hf b hb).2.2.2.2.2⟩
variable {tg iter elt:Expr} {ifs:List Expr} {pos:Pos} {g:TG} {tc:TT} {te:TE}
theorem Dz (sc:Aw X scope N) (calm:X.calm=true)
    (hg:∀ C s₀ H₀ ex pn,PG (jf X scope N C s₀ H₀ ex pn) tg g) (hc:∀ C s₀ H₀ ex pn,PTs (jf X scope N C s₀ H₀ ex pn) ifs tc) (he:∀ C s₀ H₀ ex pn,PE (jf X scope N C s₀ H₀ ex pn) elt te)
    {pins:List (Addr × Obj)} {σ:St} {H1:Hp} {s₂:Shared} {it:Addr} {fp:List Addr} {tn:Nat→Heap→Prop} {J:It} {Q:VK} {E:Value→Shared→Prop} {RR:Value→Addr→Result→Shared→Prop}
    (I:Inv X pins σ H1 s₂) (T:Turn X.prog X.w X.K tg J fp it tn) (st2:tn 0 s₂.heap) (f2:∀ b∈fp,Ec X pins H1 b) (q:Bt X scope N g tc te σ J H1 Q)
    (hRR:∀ D s₃ H3 σ' H' s',Inv X pins σ H3 s₃→(∀ b∈fp,Ec X pins H3 b)→Inv (jf X scope N s₃.heap.objs.size s₃ H3 fp (X.pn++pins)) [] σ' H' s'→Q (.ref D) H'→RR (.ref D) s₃.heap.objs.size (.ok .next) s') :
    wpAny (model X.prog X.w) X.A (newList []) (fun acc s₃=>wpAny (model X.prog X.w) X.A (newFunctionEnv scope X.env.globals (Ea X.env scope.names []) [] X.env.qual none .none (some X.env)) (fun cenv s₄ =>
      codeAny (model X.prog X.w) X.A (.compStart (.ListComp elt [⟨tg,iter,ifs,0⟩] scope pos) 0 (.ref it) acc { cenv with scope:=relabel scope X.env }) (RR acc cenv.locals) s₄) E s₃) E s₂:=by
  refine wpAny_newObj_type (wpAny_newFunctionEnv sc.nocell (by intro y hy; simp at hy) (fun h₁ hns₁ hsb₁=>?_) sc.kind)
  dsimp only at hns₁ hsb₁ ⊢
  have I3:Inv X pins σ (upd H1 s₂.heap.objs.size (.lst [])) { s₂ with heap:=s₂.heap.push { cls:=.type "list",dict:=none,data:=.seq ([]:List Value).toArray } } :=
    I.laid (t':=s₂.toks) (fun b ob q=>Heap.get?_push_of_some _ q) (Nat.le_refl _) ⟨Nat.zero_le _,[],_,.nil,Heap.get?_push_size _ rfl⟩
  generalize hs3:({ s₂ with heap:=s₂.heap.push { cls:=.type "list",dict:=none,data:=.seq ([]:List Value).toArray } }:Shared)=s₃ at I3
  have hheap:s₂.heap.push { cls:=.type "list",dict:=none,data:=.seq ([]:List Value).toArray } = s₃.heap:=by rw [← hs3]
  have hstate:∀ (h:Heap) (t:Nat),({ s₂ with heap:=h,toks:=t }:Shared) = { s₃ with heap:=h,toks:=t }:=fun h t=>by rw [← hs3]
  rw [hheap] at hns₁ hsb₁ ⊢
  have lt2:∀ b∈fp,b<s₂.heap.objs.size:=fun b hb=>by
    obtain ⟨o,ho,_⟩:=T.obj _ _ st2 b hb
    exact Heap.lt_size ho
  have sz3:s₃.heap.objs.size=s₂.heap.objs.size+1:=by rw [← hheap,Heap.size_push]
  have k23:∀ b o,s₂.heap.get? b=some o→s₃.heap.get? b=some o:=fun b o e=>by rw [← hheap]; exact Heap.get?_push_of_some _ e
  have f3:∀ b∈fp,Ec X pins (upd H1 s₂.heap.objs.size (.lst [])) b:=fun b hb=>⟨by rw [ao (Nat.ne_of_lt (lt2 b hb))]; exact (f2 b hb).1,(f2 b hb).2⟩
  have lt3:∀ b∈fp,b<s₃.heap.objs.size:=fun b hb=>by rw [sz3]; exact Nat.lt_succ_of_lt (lt2 b hb)
  obtain ⟨σ0,hl,h0,W,⟨m0,w0⟩,turn⟩:=q s₂.heap.objs.size (I.hok.fresh (Nat.le_refl _))
  have k34:∀ b o,s₃.heap.get? b=some o→h₁.get? b=some o:=fun b o e=>hsb₁.extBut b o (Nat.ne_of_lt (Heap.lt_size e)) (Heap.get?_push_of_some _ e)
  rw [hstate]
  have J0:=Dr (tk:=s₂.toks+([]:List (Str × Value)).length) sc I3 f3 lt3 hl h0 hns₁ k34
  have st4:tn 0 h₁:=T.keep _ _ _ st2 fun b _ o e=>k34 b o (k23 b o e)
  have key:∀ s₄:Shared,s₄ = { s₃ with heap:=h₁,toks:=s₂.toks+([]:List (Str × Value)).length }→codeAny (model X.prog X.w) X.A (.compLoop (.ListComp elt [⟨tg,iter,ifs,0⟩] scope pos) 0 (.ref it) (.ref s₂.heap.objs.size)
      (jf X scope N s₃.heap.objs.size s₃ (upd H1 s₂.heap.objs.size (.lst [])) fp (X.pn++pins)).env) (RR (.ref s₂.heap.objs.size) s₃.heap.objs.size) s₄:=by
    rintro s₄ rfl
    generalize hX:jf X scope N s₃.heap.objs.size s₃ (upd H1 s₂.heap.objs.size (.lst [])) fp (X.pn++pins)=X' at J0
    have hP:X'.prog=X.prog:=by rw [← hX]; rfl
    have hW:X'.w=X.w:=by rw [← hX]; rfl
    have hA:X'.A=X.A:=by rw [← hX]; rfl
    have hxe:X'.xe=fun _ _=>False:=by rw [← hX]; rfl
    have hK:X'.K=X.K:=by rw [← hX]; rfl
    have hcal:X'.calm=true:=by rw [← hX]; exact calm
    have stat:∀ {H':Hp},(∀ b∈fp,H' b=none)→∀ b∈fp,Ec X' [] H' b:=fun hn b hb=>by
      have z:=Fy sc I3 f3 lt3
      rw [hX] at z
      refine ⟨hn b hb,(z.exf b (by rw [← hX]; exact hb)).1,z.exfs b (by rw [← hX]; exact hb),.inl (by rw [← hX]; exact hb),(z.exf b (by rw [← hX]; exact hb)).2,fun p hp=>?_⟩
      have hp':p∈X.pn++pins:=by rw [← hX] at hp; simpa [jf] using hp
      exact (f3 b hb).2.2.2.2.2 p hp'
    have hg':PG X' tg g:=by rw [← hX]; exact hg _ _ _ _ _
    have hc':PTs X' ifs tc:=by rw [← hX]; exact hc _ _ _ _ _
    have he':PE X' elt te:=by rw [← hX]; exact he _ _ _ _ _
    have fin:∀ σ' H' s',Inv X' [] σ' H' s'→Q (.ref s₂.heap.objs.size) H'→RR (.ref s₂.heap.objs.size) s₃.heap.objs.size (.ok .next) s':=fun σ' H' s' I' q'=>hRR _ s₃ _ σ' H' s' I3 f3 (by rw [hX]; exact I') q'
    have T':Turn X'.prog X'.w X'.K tg J fp it tn:=by rw [hP,hW,hK]; exact T
    rw [← hP,← hW,← hA]
    refine Bl (J:=fun n s'=>∃ i σ' H',Inv X' [] σ' H' s'∧tn i s'.heap∧(∀ b∈fp,H' b=none)∧W i n σ' H') ?_ m0 ⟨0,σ0,_,J0,st4,fun b hb=>(f3 b hb).1,w0⟩
    rintro n s5 ⟨i,σ5,H5,I5,st5,fr5,w5⟩
    rcases turn i n σ5 H5 w5 with ⟨stop,qn⟩ | ⟨go,step⟩
    · refine thn (T'.done X' rfl rfl rfl hcal i [] s5 σ5 H5 _ I5 (stat fr5) st5 stop) fun r s6 z0=>?_
      obtain ⟨hr,I6⟩:=z0
      subst hr
      exact fin _ _ _ I6 qn
    · refine thn (T'.item X' rfl rfl rfl hcal i [] s5 σ5 H5 _ I5 (stat fr5) st5 go) fun r s6 z0=>?_
      obtain ⟨u,hr,h6⟩:=z0
      subst hr
      refine thn h6 fun _ s7 z0=>?_
      obtain ⟨x,H7,I7,r7,y7,st7,fr7⟩:=z0
      have I7':=I7.pinned (stat fr7) (T'.obj _ _ st7)
      have a1:=hg' _ s7 σ5 H7 x u _ I7' r7 (step x H7 y7)
      rw [hxe] at a1
      refine thn a1 fun _ s8 z0=>?_
      obtain ⟨σ8,H8,I8,q8⟩:=z0
      have a2:=hc' _ s8 σ8 H8 _ I8 q8
      rw [hxe] at a2
      refine thn a2 fun ok s9 z0=>?_
      obtain ⟨H9,I9,q9⟩:=z0
      have again:∀ {σ7:St} {H7:Hp} {s':Shared} {m':Nat},Inv X' ([]++Ao fp s7.heap) σ7 H7 s'→m'<n→W (i+1) m' σ7 H7→∃ m,m<n∧∃ i σ' H',Inv X' [] σ' H' s'∧tn i s'.heap∧(∀ b∈fp,H' b=none)∧W i m σ' H':=fun {σ7 H7 s' m'} I7 hm w7=>by
        refine ⟨m',hm,i+1,σ7,H7,I7.u6,T'.keep _ _ _ st7 fun b hb o e=>(I7.pin (b,o) (List.mem_append_right _ (List.mem_append_right _ (ou hb e)))).1,fun b hb=>?_,w7⟩
        obtain ⟨o,e,d⟩:=T'.obj _ _ st7 b hb
        exact (I7.pin (b,o) (List.mem_append_right _ (List.mem_append_right _ (ou hb e)))).2.1
      cases ok with
      | false =>
        rw [if_neg Bool.false_ne_true] at q9 ⊢
        obtain ⟨m',hm,w9⟩:=q9
        exact again I9 hm w9
      | true =>
        rw [if_pos rfl] at q9 ⊢
        have a3:=he' _ s9 σ8 H9 _ I9 q9
        rw [hxe] at a3
        refine thn a3 fun xv s10 z0=>?_
        obtain ⟨y,H10,I10,r10,l,hl10,hz10,m',hm,w10⟩:=z0
        have a4:=Fb (X:=X') _ s10 σ8 H10 (.ref s₂.heap.objs.size) [y] (.ref s₂.heap.objs.size) [xv] (fun _ H'=>H'=upd H10 s₂.heap.objs.size (.lst (l++[y]))) I10 rfl (.cons r10 .nil) ⟨_,l,y,rfl,rfl,hl10,hz10,rfl⟩
        rw [hxe] at a4
        refine thn a4 fun _ s11 z0=>?_
        obtain ⟨v,H11,I11,_,e11⟩:=z0
        subst e11
        exact again I11 hm w10
  exact codeAny_compStart_list (key _ rfl) (T.self _ 0 _ _ _ st4 (key _ rfl))
theorem Mh {wi:TI} (sc:Aw X scope N) (calm:X.calm=true) (hi:PI X tg iter wi)
    (hg:∀ C s₀ H₀ ex pn,PG (jf X scope N C s₀ H₀ ex pn) tg g) (hc:∀ C s₀ H₀ ex pn,PTs (jf X scope N C s₀ H₀ ex pn) ifs tc) (he:∀ C s₀ H₀ ex pn,PE (jf X scope N C s₀ H₀ ex pn) elt te)
    (hs:∀ x,foldedSetIterable iter X.env x=pure x:=by intro _; rfl):PE X (.ListComp elt [⟨tg,iter,ifs,0⟩] scope pos) (Ol X scope N wi g tc te):=by
  intro pins s σ H Q I h
  rw [eval_ListComp]
  refine wpAny_comprehension_free (use:=none) rfl hs (Ab sc.has) sc.kind sc.names ?_
  refine wpAny_mono (hi pins s σ H _ I h) (fun x s₁ h₁=>wpAny_mono h₁ (fun itv s₂ h₂=>?_) fun _ _ e=>e) fun _ _ e=>e
  obtain ⟨it,fp,tn,J,H1,rfl,I2,T,st2,f2,q⟩:=h₂
  refine Dz (RR:=fun acc C=>compPost (model X.prog X.w) X.A X.xe none (EP X pins σ Q) acc C) sc calm hg hc he I2 T st2 f2 q ?_
  intro D s₃ H3 σ' H' s' I3 f3 I' qn
  obtain ⟨m,hn,_⟩:=I'.loc
  exact ⟨m,hn,fun h' hs'=>⟨.ref D,H',Ie I3 f3 I' hs',rfl,qn⟩⟩
end
end L2
end
section
namespace C
open PySem PySem.Spec PyProof.Rows L2
mutual
inductive Rep (K:PySem.W.Frag) (S:Hp) (as:List Addr):V→T→Prop where
  | non:Rep K S as .non .non
  | bl (b:Bool):Rep K S as (.bl b) (.bl b)
  | int (i:Int):Rep K S as (.int i) (.int i)
  | str (x:Str):Rep K S as (.str x) (.str x)
  | tup {a:Addr} {vs:List V} {ts:List T}:SqT K S a vs→kj K S as vs ts→Rep K S as (.ref a) (.tup ts)
  | lst {a:Addr} {vs:List V} {ts:List T}:SqL K S a vs→kj K S as vs ts→Rep K S as (.ref a) (.lst ts)
  | dic {a:Addr} {kvs:List (L2.Key × V)} {ts:List (L2.Key × T)}:Rd S a (.dK kvs)→wg K S as kvs ts→Rep K S as (.ref a) (.dic ts)
  | obj {n:Nat} {a:Addr}:as[n]? = some a→Rep K S as (.ref a) (.obj n)
inductive kj (K:PySem.W.Frag) (S:Hp) (as:List Addr):List V→List T→Prop where
  | nil:kj K S as [] []
  | cons {v:V} {t:T} {vs:List V} {ts:List T}:Rep K S as v t→kj K S as vs ts→kj K S as (v::vs) (t::ts)
inductive wg (K:PySem.W.Frag) (S:Hp) (as:List Addr):List (L2.Key × V)→List (L2.Key × T)→Prop where
  | nil:wg K S as [] []
  | cons {k:L2.Key} {v:V} {t:T} {vs:List (L2.Key × V)} {ts:List (L2.Key × T)}:Rep K S as v t→wg K S as vs ts→wg K S as ((k,v)::vs) ((k,t)::ts)
end
theorem m6 {S S':Hp} {a:Addr} {u:HO} (e:Same S S') (h:Rd S a u):Rd S' a u:=by
  rcases h with h | ⟨o,h⟩
  · exact .inl (e _ _ h)
  · exact .inr ⟨o,e _ _ h⟩
theorem j9 {K:PySem.W.Frag} {S S':Hp} {a:Addr} {xs:List V} (e:Same S S') (h:SqT K S a xs):SqT K S' a xs:=by
  rcases h with h | h
  · exact .inl (m6 e h)
  · exact .inr h
theorem jl {K:PySem.W.Frag} {S S':Hp} {a:Addr} {xs:List V} (e:Same S S') (h:SqL K S a xs):SqL K S' a xs:=by
  rcases h with h | h
  · exact .inl (m6 e h)
  · exact .inr h
section
variable {K:PySem.W.Frag} {S S':Hp} {as as':List Addr}
theorem Ez {α:Type} {l r:List α} {n:Nat} {a:α} (h:l[n]? = some a):(l++r)[n]? = some a:=by
  have:=(List.getElem?_eq_some_iff.mp h).1
  rw [List.getElem?_append_left this]; exact h
theorem Cd {n:Nat} {a:Addr} (x:∃ l,as'=as++l) (h:as[n]? = some a):as'[n]? = some a:=by obtain ⟨l,rfl⟩:=x; exact Ez h
theorem Rep.mono (e:Same S S') (x:∃ l,as'=as++l) {v:V} {t:T} (h:Rep K S as v t):Rep K S' as' v t :=
  Rep.rec (motive_1:=fun v t _=>Rep K S' as' v t) (motive_2:=fun v t _=>kj K S' as' v t) (motive_3:=fun v t _=>wg K S' as' v t) .non .bl .int .str (fun h _ i=>.tup (j9 e h) i) (fun h _ i=>.lst (jl e h) i) (fun h _ i=>.dic (m6 e h) i) (fun h=>.obj (Cd x h)) .nil (fun _ _ a b=>.cons a b) .nil (fun _ _ a b=>.cons a b) h
theorem kj.mono (e:Same S S') (x:∃ l,as'=as++l) {v:List V} {t:List T} (h:kj K S as v t):kj K S' as' v t :=
  kj.rec (motive_1:=fun v t _=>Rep K S' as' v t) (motive_2:=fun v t _=>kj K S' as' v t) (motive_3:=fun v t _=>wg K S' as' v t) .non .bl .int .str (fun h _ i=>.tup (j9 e h) i) (fun h _ i=>.lst (jl e h) i) (fun h _ i=>.dic (m6 e h) i) (fun h=>.obj (Cd x h)) .nil (fun _ _ a b=>.cons a b) .nil (fun _ _ a b=>.cons a b) h
theorem wg.mono (e:Same S S') (x:∃ l,as'=as++l) {v:List (L2.Key × V)} {t:List (L2.Key × T)} (h:wg K S as v t):wg K S' as' v t :=
  wg.rec (motive_1:=fun v t _=>Rep K S' as' v t) (motive_2:=fun v t _=>kj K S' as' v t) (motive_3:=fun v t _=>wg K S' as' v t) .non .bl .int .str (fun h _ i=>.tup (j9 e h) i) (fun h _ i=>.lst (jl e h) i) (fun h _ i=>.dic (m6 e h) i) (fun h=>.obj (Cd x h)) .nil (fun _ _ a b=>.cons a b) .nil (fun _ _ a b=>.cons a b) h
inductive Ih (K:PySem.W.Frag) (S:Hp) (as:List Addr):List (List L2.Key × V)→List (List L2.Key × T)→Prop where
  | nil:Ih K S as [] []
  | cons {k:List L2.Key} {v:V} {t:T} {vs:List (List L2.Key × V)} {ts:List (List L2.Key × T)}:Rep K S as v t→Ih K S as vs ts→Ih K S as ((k,v)::vs) ((k,t)::ts)
theorem Ih.mono (e:Same S S') (x:∃ l,as'=as++l) {v:List (List L2.Key × V)} {t:List (List L2.Key × T)} (h:Ih K S as v t):Ih K S' as' v t:=by
  induction h with
  | nil=>exact .nil
  | cons h _ ih=>exact .cons (h.mono e x) ih
theorem Ih.length {vs:List (List L2.Key × V)} {ts:List (List L2.Key × T)} (h:Ih K S as vs ts):vs.length=ts.length:=by
  induction h with
  | nil=>rfl
  | cons _ _ ih=>exact congrArg (· + 1) ih
theorem kj.length {vs:List V} {ts:List T} (h:kj K S as vs ts):vs.length=ts.length :=
  kj.rec (motive_1:=fun _ _ _=>True) (motive_2:=fun v t _=>v.length=t.length) (motive_3:=fun _ _ _=>True) trivial (fun _=>trivial) (fun _=>trivial) (fun _=>trivial) (fun _ _ _=>trivial) (fun _ _ _=>trivial) (fun _ _ _=>trivial) (fun _=>trivial) rfl (fun _ _ _ i=>congrArg (· + 1) i) trivial (fun _ _ _ _=>trivial) h
theorem wg.length {vs:List (L2.Key × V)} {ts:List (L2.Key × T)} (h:wg K S as vs ts):vs.length=ts.length :=
  wg.rec (motive_1:=fun _ _ _=>True) (motive_2:=fun _ _ _=>True) (motive_3:=fun v t _=>v.length=t.length) trivial (fun _=>trivial) (fun _=>trivial) (fun _=>trivial) (fun _ _ _=>trivial) (fun _ _ _=>trivial) (fun _ _ _=>trivial) (fun _=>trivial) trivial (fun _ _ _ _=>trivial) rfl (fun _ _ _ i=>congrArg (· + 1) i) h
theorem kj.get:∀ {vs:List V} {ts:List T} {i:Nat} {t:T},kj K S as vs ts→ts[i]? = some t→∃ v,vs[i]? = some v∧Rep K S as v t
  | _,_,_,_,.nil,e=>by simp at e
  | _,_,0,_,.cons r _,e=>by simp at e; subst e; exact ⟨_,rfl,r⟩
  | _,_,i+1,t,.cons _ r,e=>by
    obtain ⟨v,h1,h2⟩:=kj.get (i:=i) (t:=t) r (by simpa using e)
    exact ⟨v,by simpa using h1,h2⟩
theorem kj.append {vs:List V} {ts:List T} {ws:List V} {us:List T} (h:kj K S as vs ts) (q:kj K S as ws us):kj K S as (vs++ws) (ts++us) :=
  kj.rec (motive_1:=fun _ _ _=>True) (motive_2:=fun v t _=>kj K S as (v++ws) (t++us)) (motive_3:=fun _ _ _=>True) trivial (fun _=>trivial) (fun _=>trivial) (fun _=>trivial) (fun _ _ _=>trivial) (fun _ _ _=>trivial) (fun _ _ _=>trivial) (fun _=>trivial) q (fun h _ _ i=>.cons h i) trivial (fun _ _ _ _=>trivial) h
theorem wg.get (k:L2.Key):∀ {vs:List (L2.Key × V)} {ts:List (L2.Key × T)},wg K S as vs ts→(∃ v t,Dl vs k=some v∧Ky k ts=some t∧Rep K S as v t)∨(Dl vs k=none∧Ky k ts=none)
  | _,_,.nil=>.inr ⟨rfl,rfl⟩
  | _,_,.cons (k:=q) (v:=v) (t:=t) (vs:=vs) (ts:=ts) h r=>by
    by_cases e:q=k
    · exact .inl ⟨v,t,Ai (p:=(q,v)) e,by rw [Ky,if_pos e],h⟩
    · rw [Aj (p:=(q,v)) e,Ky,if_neg e]
      exact wg.get k r
end
structure Bas where
  S:Hp
  as:List Addr
  H:Hp
structure Mr (B:Bas) (S:Hp) (as:List Addr) (H:Hp):Prop where
  same:Same B.S S
  more:∃ l,as=B.as++l
  keep:∀ p o,B.H p=some o→B.S p=none→p∉B.as→H p=some o∧S p=none∧p∉as
structure Ext (S H S' H':Hp):Prop where
  s:Same S S'
  h:Same H H'
  sub:Same S' H'
  new:∀ p,S' p≠none→S p≠none∨H p=none
theorem Ext.refl {S H:Hp} (h:Same S H):Ext S H S H:=⟨Same.refl _,Same.refl _,h,fun _ q=>.inl q⟩
theorem Same.upd {H:Hp} {p:Addr} (h:H p=none) (o:HO):Same H (upd H p o):=fun b u q=>by rw [ao (jc q h)]; exact q
theorem Ext.laid {S H:Hp} (h:Same S H) {p:Addr} (n:H p=none) (o:HO):Ext S H (upd S p o) (upd H p o) where
  s:=Same.upd (h.free n) o
  h:=Same.upd n o
  sub:=fun b u q=>by
    by_cases e:b=p
    · subst e; rw [aq] at q ⊢; exact q
    · rw [ao e] at q ⊢; exact h _ _ q
  new:=fun b q=>by
    by_cases e:b=p
    · subst e; exact .inr n
    · rw [ao e] at q; exact .inl q
theorem Ext.trans {S H S1 H1 S2 H2:Hp} (a:Ext S H S1 H1) (b:Ext S1 H1 S2 H2):Ext S H S2 H2 where
  s:=a.s.trans b.s
  h:=a.h.trans b.h
  sub:=b.sub
  new:=fun p q=>by
    rcases b.new p q with z | z
    · exact a.new p z
    · exact .inr (a.h.free z)
def Own (K:PySem.W.Frag) (S:Hp) (as:List Addr) (H:Hp) (p:Addr):T→Prop
  | .lst ts=>∃ vs,H p=some (.lst vs)∧kj K S as vs ts
  | .dic ts=>∃ kvs,H p=some (.dK kvs)∧wg K S as kvs ts
  | _=>False
structure Ge (K:PySem.W.Frag) (B:Bas) (S:Hp) (as:List Addr) (H:Hp) (p:Addr) (t:T):Prop where
  own:Own K S as H p t
  out:S p=none
  nas:p∉as
  new:B.H p=none
def Jv (K:PySem.W.Frag) (S:Hp) (as:List Addr) (H:Hp) (a:Addr):SO→Prop
  | .dic ts=>∃ kvs,H a=some (.dK kvs)∧wg K S as kvs ts
  | .lst ts=>∃ vs,H a=some (.lst vs)∧kj K S as vs ts
  | .dit ts=>∃ kvs,H a=some (.dT kvs)∧Ih K S as kvs ts
  | .exc C f t=>∃ dx v,H a=some (.ext fun h=>∃ vs,h.get? a=some { cls:=.ref C,dict:=some dx,data:=.fields vs })∧S dx=some (.ext fun h=>∃ hs tk u,RelV v u∧h.get? dx=some (PySem.W.dictOf [⟨hs,.str f tk,u⟩] 1))∧Rep K S as v t
structure qd (K:PySem.W.Frag) (S:Hp) (as:List Addr) (H:Hp) (sto:List SO):Prop where
  len:as.length=sto.length
  nd:as.Nodup
  at':∀ (n:Nat) so,sto[n]? = some so→∃ a,as[n]? = some a∧S a=none∧Jv K S as H a so
structure Rel (K:PySem.W.Frag) (B:Bas) (st:Sta) (σ:L2.St) (H:Hp) (ps:List (V × T)) (S:Hp) (as:List Addr):Prop where
  sub:Same S H
  grow:Mr B S as H
  slots:∀ (i:Nat) t f,st.env[i]? = some (some (t,f))→∃ v,σ[i]? = some (some v)∧(f=false→Rep K S as v t)∧(f=true→∃ p,v=.ref p∧Ge K B S as H p t)
  apart:∀ (i j:Nat) t u p,st.env[i]? = some (some (t,true))→st.env[j]? = some (some (u,true))→σ[i]? = some (some (.ref p))→σ[j]? = some (some (.ref p))→i=j
  sto:qd K S as H st.sto
  pend:∀ p∈ps,Rep K S as p.1 p.2
  len:σ.length=st.env.length
section
variable {K:PySem.W.Frag} {B:Bas} {st:Sta} {σ:L2.St} {H H' S S':Hp} {ps:List (V × T)} {as:List Addr}
theorem nol {as:List Addr}:∃ l:List Addr,as=as++l:=⟨[],(List.append_nil _).symm⟩
theorem Own.mono {p:Addr} {t:T} (hs:Same S S') (hh:H p=H' p) (o:Own K S as H p t):Own K S' as H' p t:=by
  cases t with
  | lst ts=>obtain ⟨vs,h,r⟩:=o; exact ⟨vs,hh ▸ h,r.mono hs nol⟩
  | dic ts=>obtain ⟨vs,h,r⟩:=o; exact ⟨vs,hh ▸ h,r.mono hs nol⟩
  | _=>exact o.elim
theorem Own.there {p:Addr} {t:T} (o:Own K S as H p t):∃ ob,H p=some ob:=by
  cases t with
  | lst ts=>obtain ⟨vs,h,r⟩:=o; exact ⟨_,h⟩
  | dic ts=>obtain ⟨vs,h,r⟩:=o; exact ⟨_,h⟩
  | _=>exact o.elim
theorem Jv.mono {a:Addr} {so:SO} (hs:Same S S') (hh:H a=H' a) (o:Jv K S as H a so):Jv K S' as H' a so:=by
  cases so with
  | dic ts=>obtain ⟨vs,h,r⟩:=o; exact ⟨vs,hh ▸ h,r.mono hs nol⟩
  | lst ts=>obtain ⟨vs,h,r⟩:=o; exact ⟨vs,hh ▸ h,r.mono hs nol⟩
  | dit ts=>obtain ⟨vs,h,r⟩:=o; exact ⟨vs,hh ▸ h,r.mono hs nol⟩
  | exc C f t=>obtain ⟨dx,v,h,g,r⟩:=o; exact ⟨dx,v,hh ▸ h,hs _ _ g,r.mono hs nol⟩
theorem Jv.there {a:Addr} {so:SO} (o:Jv K S as H a so):∃ ob,H a=some ob:=by
  cases so with
  | dic ts=>obtain ⟨vs,h,r⟩:=o; exact ⟨_,h⟩
  | lst ts=>obtain ⟨vs,h,r⟩:=o; exact ⟨_,h⟩
  | dit ts=>obtain ⟨vs,h,r⟩:=o; exact ⟨_,h⟩
  | exc C f t=>obtain ⟨dx,v,h,g,r⟩:=o; exact ⟨_,h⟩
theorem Ext.outs (x:Ext S H S' H') {p:Addr} {o:HO} (h:H p=some o) (n:S p=none):S' p=none:=by
  cases q:S' p with
  | none=>rfl
  | some u =>
    rcases x.new p (by rw [q]; exact Option.some_ne_none _) with z | z
    · exact absurd n z
    · rw [h] at z; cases z
theorem qd.ext {sto:List SO} (r:qd K S as H sto) (x:Ext S H S' H'):qd K S' as H' sto where
  len:=r.len
  nd:=r.nd
  at':=fun n so e=>by
    obtain ⟨a,h1,h2,h3⟩:=r.at' n so e
    obtain ⟨ob,ho⟩:=h3.there
    exact ⟨a,h1,x.outs ho h2,h3.mono x.s (by rw [ho,x.h _ _ ho])⟩
theorem Rel.ext (r:Rel K B st σ H ps S as) (x:Ext S H S' H'):Rel K B st σ H' ps S' as where
  sub:=x.sub
  grow:=⟨r.grow.same.trans x.s,r.grow.more,fun p o h1 h2 h3=>by
    obtain ⟨a,b,c⟩:=r.grow.keep p o h1 h2 h3
    exact ⟨x.h _ _ a,x.outs a b,c⟩⟩
  slots:=fun i t f e=>by
    obtain ⟨v,h1,h2,h3⟩:=r.slots i t f e
    refine ⟨v,h1,fun q=>(h2 q).mono x.s nol,fun q=>?_⟩
    obtain ⟨p,e,o⟩:=h3 q
    obtain ⟨ob,ho⟩:=o.own.there
    exact ⟨p,e,o.own.mono x.s (by rw [ho,x.h _ _ ho]),x.outs ho o.out,o.nas,o.new⟩
  apart:=r.apart
  sto:=r.sto.ext x
  pend:=fun p hp=>(r.pend p hp).mono x.s nol
  len:=r.len
theorem Rel.push (r:Rel K B st σ H ps S as) {v:V} {t:T} (h:Rep K S as v t):Rel K B st σ H ((v,t)::ps) S as :=
  ⟨r.sub,r.grow,r.slots,r.apart,r.sto,fun p hp=>by
    rcases List.mem_cons.mp hp with rfl | z
    · exact h
    · exact r.pend p z,r.len⟩
theorem Rel.drop {p:V × T} (r:Rel K B st σ H (p::ps) S as):Rel K B st σ H ps S as :=
  ⟨r.sub,r.grow,r.slots,r.apart,r.sto,fun q hq=>r.pend q (List.mem_cons_of_mem _ hq),r.len⟩
theorem Rel.top {v:V} {t:T} (r:Rel K B st σ H ((v,t)::ps) S as):Rep K S as v t:=r.pend (v,t) List.mem_cons_self
theorem Rel.top2 {v:V} {t:T} {q:V × T} (r:Rel K B st σ H (q::(v,t)::ps) S as):Rep K S as v t:=r.pend (v,t) (List.mem_cons_of_mem _ List.mem_cons_self)
end
inductive tOf (K:PySem.W.Frag) (B:Bas) (m:M T) (σ:L2.St) (H:Hp) (Q:VK):Prop
  | mk (st:Sta) (ps:List (V × T)) (S:Hp) (as:List Addr) (R:Rel K B st σ H ps S as) (t:T) (st':Sta) (e:m st=some (t,st')) (q:∀ v H' S' as',Rel K B st' σ H' ((v,t)::ps) S' as'→Q v H')
inductive cOf (K:PySem.W.Frag) (B:Bas) (m:M Bool) (σ:L2.St) (H:Hp) (Q:Bool→Hp→Prop):Prop
  | mk (st:Sta) (ps:List (V × T)) (S:Hp) (as:List Addr) (R:Rel K B st σ H ps S as) (b:Bool) (st':Sta) (e:m st=some (b,st')) (q:∀ H' S' as',Rel K B st' σ H' ps S' as'→Q b H')
inductive aOf (K:PySem.W.Frag) (B:Bas) (m:M (List T)) (σ:L2.St) (H:Hp) (Q:List V→Hp→Prop):Prop
  | mk (st:Sta) (ps:List (V × T)) (S:Hp) (as:List Addr) (R:Rel K B st σ H ps S as) (ts:List T) (st':Sta) (e:m st=some (ts,st')) (q:∀ vs H' S' as',Rel K B st' σ H' ps S' as'→kj K S' as' vs ts→Q vs H')
theorem _root_.L2.PE.imp {X:Cx} {e:Expr} {t t':TE} (h:PE X e t) (i:∀ σ H Q,t' σ H Q→t σ H Q):PE X e t':=fun pins s σ H Q I q=>h pins s σ H Q I (i σ H Q q)
theorem _root_.L2.PT.imp {X:Cx} {e:Expr} {t t':TT} (h:PT X e t) (i:∀ σ H Q,t' σ H Q→t σ H Q):PT X e t':=fun pins s σ H Q I q=>h pins s σ H Q I (i σ H Q q)
theorem _root_.L2.PA.imp {X:Cx} {e:List Expr} {t t':TA} (h:PA X e t) (i:∀ σ H Q,t' σ H Q→t σ H Q):PA X e t':=fun pos pins s σ H Q I q=>h pos pins s σ H Q I (i σ H Q q)
theorem _root_.L2.PS.imp {X:Cx} {e:Stmt} {t t':TS} (h:PS X e t) (i:∀ D σ H,t' D σ H→t D σ H):PS X e t':=fun pins s σ H D I q=>h pins s σ H D I (i D σ H q)
theorem _root_.L2.PSs.imp {X:Cx} {e:List Stmt} {t t':TS} (h:PSs X e t) (i:∀ D σ H,t' D σ H→t D σ H):PSs X e t':=fun pins s σ H D I q=>h pins s σ H D I (i D σ H q)
def r2 (K:PySem.W.Frag) (f:T→T→Option T):R2:=fun x y H Q=>∃ S as t u w,Same S H∧Rep K S as x t∧Rep K S as y u∧f t u=some w∧∀ v H' S',Ext S H S' H'→Rep K S' as v w→Q v H'
def r1 (K:PySem.W.Frag) (f:T→Option T):V→Hp→VK→Prop:=fun x H Q=>∃ S as t w,Same S H∧Rep K S as x t∧f t=some w∧∀ v H' S',Ext S H S' H'→Rep K S' as v w→Q v H'
def rL (K:PySem.W.Frag) (f:List T→Option T):List V→Hp→VK→Prop:=fun xs H Q=>∃ S as ts w,Same S H∧kj K S as xs ts∧f ts=some w∧∀ v H' S',Ext S H S' H'→Rep K S' as v w→Q v H'
abbrev OpT (X:Cx) (f:Value→Value→Sem Value) (g:T→T→Option T):Prop:=OpR X f (r2 X.K g)
abbrev Qp (X:Cx) (f:Value) (g:List T→Option T):Prop:=El X f (rL X.K g)
section
variable {X:Cx} {B:Bas} {a b c:Expr} {m m1 m2:M T} {pos:Pos}
theorem tu {v:V} {t:T} {e:Expr} (h:PE X e (tC v)) (r:∀ S as,Rep X.K S as v t):PE X e (tOf X.K B (au t)):=h.imp fun σ H Q z9=>by
  obtain ⟨st,ps,S,as,R,t',st',e,q⟩:=z9
  cases e
  exact q v H S as (R.push (r S as))
theorem bw {i:Int} {j:Nat}:PE X (.Constant (.int i) j pos) (tOf X.K B (au (.int i))):=tu Od fun _ _=>.int i
theorem Iv {i:Bool} {j:Nat}:PE X (.Constant (.bool i) j pos) (tOf X.K B (au (.bl i))):=tu Qf fun _ _=>.bl i
theorem Nz {i:Str} {j:Nat}:PE X (.Constant (.str i) j pos) (tOf X.K B (au (.str i))):=tu Mt fun _ _=>.str i
theorem Ng {j:Nat}:PE X (.Constant .none j pos) (tOf X.K B (au .non)):=tu Ob fun _ _=>.non
theorem Iz {op:Operator} {f:T→T→Option T} (ho:OpT X (binaryOp op) f) (ha:PE X a (tOf X.K B m1)) (hb:PE X b (tOf X.K B m2)):PE X (.BinOp a op b pos) (tOf X.K B (mOp f m1 m2)) :=
  (Pk ho ha hb).imp fun σ H Q z9=>by
    obtain ⟨st,ps,S,as,R,t,st',e,q⟩:=z9
    obtain ⟨t1,s1,t2,e1,e2,e3⟩:=Ad e
    refine ⟨st,ps,S,as,R,t1,s1,e1,fun v H1 S1 as1 R1=>⟨s1,_,S1,as1,R1,t2,st',e2,fun u H2 S2 as2 R2=>?_⟩⟩
    exact ⟨S2,as2,t1,t2,t,R2.sub,R2.top2,R2.top,e3,fun w H3 S3 x r=>q w H3 S3 as2 ((R2.drop.drop.ext x).push r)⟩
end
end C
end
section
namespace C
open PySem PySem.Spec PyProof.Rows L2
section
variable {K:PySem.W.Frag} {B:Bas} {st:Sta} {σ:L2.St} {H H' S S':Hp} {ps:List (V × T)} {as:List Addr}
theorem Rel.freeze (r:Rel K B st σ H ps S as) {i:Nat} {t:T} (e:st.env[i]? = some (some (t,true))) :
    ∃ v S',σ[i]? = some (some v)∧Rel K B { st with env:=st.env.set i (some (t,false)) } σ H ((v,t)::ps) S' as:=by
  obtain ⟨v,h1,_,h3⟩:=r.slots i t true e
  obtain ⟨p,rfl,o⟩:=h3 rfl
  obtain ⟨ob,ho⟩:=o.own.there
  have hi:i<st.env.length:=(List.getElem?_eq_some_iff.mp e).1
  have sS:Same S (upd S p ob):=Same.upd o.out ob
  have rep:Rep K (upd S p ob) as (.ref p) t:=by
    have w:=o.own
    cases t with
    | lst ts=>obtain ⟨vs,h,q⟩:=w; rw [ho] at h; cases h; exact .lst (SqL.of aq) (q.mono sS nol)
    | dic ts=>obtain ⟨vs,h,q⟩:=w; rw [ho] at h; cases h; exact .dic (.inl aq) (q.mono sS nol)
    | _=>exact w.elim
  have outs:∀ q,S q=none→q≠p→upd S p ob q=none:=fun q h n=>by rw [ao n]; exact h
  refine ⟨.ref p,upd S p ob,h1,?_⟩
  refine Rel.push (v:=.ref p) (t:=t) ⟨?_,?_,?_,?_,?_,?_,?_⟩ rep
  · intro b u q
    by_cases z:b=p
    · subst z; rw [aq] at q; cases q; exact ho
    · rw [ao z] at q; exact r.sub _ _ q
  · refine ⟨r.grow.same.trans sS,r.grow.more,fun q w a b c=>?_⟩
    obtain ⟨x,y,z⟩:=r.grow.keep q w a b c
    refine ⟨x,outs q y fun n=>?_,z⟩
    subst n; rw [o.new] at a; cases a
  · intro j u f ej
    by_cases hij:i=j
    · subst hij
      rw [List.getElem?_set_self hi] at ej
      cases ej
      exact ⟨.ref p,h1,fun _=>rep,fun z=>by cases z⟩
    · rw [List.getElem?_set_ne hij] at ej
      obtain ⟨v',a1,a2,a3⟩:=r.slots j u f ej
      refine ⟨v',a1,fun z=>(a2 z).mono sS nol,fun z=>?_⟩
      subst z
      obtain ⟨p',rfl,o'⟩:=a3 rfl
      refine ⟨p',rfl,o'.own.mono sS rfl,outs p' o'.out fun n=>?_,o'.nas,o'.new⟩
      subst n
      exact hij (r.apart i j t u p' e ej h1 a1)
  · intro j k u w q ej ek
    have hj:st.env[j]? = some (some (u,true)):=by
      by_cases hij:i=j
      · subst hij; rw [List.getElem?_set_self hi] at ej; cases ej
      · rwa [List.getElem?_set_ne hij] at ej
    have hk:st.env[k]? = some (some (w,true)):=by
      by_cases hij:i=k
      · subst hij; rw [List.getElem?_set_self hi] at ek; cases ek
      · rwa [List.getElem?_set_ne hij] at ek
    exact r.apart j k u w q hj hk
  · refine ⟨r.sto.len,r.sto.nd,fun n so en=>?_⟩
    obtain ⟨a,a1,a2,a3⟩:=r.sto.at' n so en
    refine ⟨a,a1,outs a a2 fun z=>?_,a3.mono sS rfl⟩
    subst z
    exact o.nas (List.mem_of_getElem? a1)
  · exact fun q hq=>(r.pend q hq).mono sS nol
  · show σ.length=(st.env.set i _).length
    rw [List.length_set]; exact r.len
end
section
variable {X:Cx} {B:Bas} {a b c:Expr} {m m1 m2:M T} {pos:Pos}
theorem aj (i:Nat) {e:Expr} (h:PE X e (P0 i)):PE X e (tOf X.K B (cj i)):=h.imp fun σ H Q z9=>by
  obtain ⟨st,ps,S,as,R,t,st',e,q⟩:=z9
  rcases Iw e with ⟨e1,rfl⟩ | ⟨e1,rfl⟩
  · obtain ⟨v,h1,h2,_⟩:=R.slots i t false e1
    exact ⟨v,h1,q v H S as (R.push (h2 rfl))⟩
  · obtain ⟨v,S',h1,R'⟩:=R.freeze e1
    exact ⟨v,h1,q v H S' as R'⟩
theorem j6:PA X [] (aOf X.K B qe):=Al.imp fun σ H Q z9=>by
  obtain ⟨st,ps,S,as,R,ts,st',e,q⟩:=z9
  cases e
  exact q [] H S as R .nil
theorem ak {es:List Expr} {ms:M (List T)} (ha:PE X a (tOf X.K B m)) (hr:PA X es (aOf X.K B ms)) (hs:starEach (a::es) X.env=(false,eval a X.env)::starEach es X.env:=by rfl):PA X (a::es) (aOf X.K B (c7 m ms)) :=
  (ql ha hr hs).imp fun σ H Q z9=>by
    obtain ⟨st,ps,S,as,R,ts,st',e,q⟩:=z9
    obtain ⟨t,s1,us,e1,e2,rfl⟩:=ux e
    refine ⟨st,ps,S,as,R,t,s1,e1,fun v H1 S1 as1 R1=>⟨s1,_,S1,as1,R1,us,st',e2,fun vs H2 S2 as2 R2 rs=>?_⟩⟩
    exact q (v::vs) H2 S2 as2 R2.drop (.cons R2.top rs)
theorem yp {es:List Expr} {ms:M (List T)} {k:Nat} (h:PA X es (aOf X.K B ms)) (hm:∀ st ts st',ms st=some (ts,st')→ts.length≤1000):PE X (.Tuple es k pos) (tOf X.K B (Ak (fun l=>some (.tup l)) ms)) :=
  (Oq h).imp fun σ H Q z9=>by
    obtain ⟨st,ps,S,as,R,t,st',e,q⟩:=z9
    obtain ⟨ts,e1,e2⟩:=zx e
    cases e2
    refine ⟨st,ps,S,as,R,ts,st',e1,fun vs H1 S1 as1 R1 rs=>⟨?_,fun p hp=>?_⟩⟩
    · rw [rs.length]; exact Nat.le_of_lt (Bk (hm _ _ _ e1))
    · have x:=Ext.laid R1.sub hp (.tup vs)
      exact q _ _ _ _ ((R1.ext x).push (.tup (SqT.of aq) (rs.mono x.s nol)))
theorem Js {es:List Expr} {ms:M (List T)} (h:PA X es (aOf X.K B ms)) (hm:∀ st ts st',ms st=some (ts,st')→ts.length≤1000):PE X (.List es pos) (tOf X.K B (Ak (fun l=>some (.lst l)) ms)) :=
  (O7 h).imp fun σ H Q z9=>by
    obtain ⟨st,ps,S,as,R,t,st',e,q⟩:=z9
    obtain ⟨ts,e1,e2⟩:=zx e
    cases e2
    refine ⟨st,ps,S,as,R,ts,st',e1,fun vs H1 S1 as1 R1 rs=>⟨?_,fun p hp=>?_⟩⟩
    · rw [rs.length]; exact Nat.le_of_lt (Bk (hm _ _ _ e1))
    · have x:=Ext.laid R1.sub hp (.lst vs)
      exact q _ _ _ _ ((R1.ext x).push (.lst (SqL.of aq) (rs.mono x.s nol)))
theorem mz:∀ st ts st',qe st=some (ts,st')→ts.length≤0:=fun st ts st' e=>by cases e; exact Nat.le_refl _
theorem d8 {r:M (List T)} {n:Nat} (h:∀ st ts st',r st=some (ts,st')→ts.length≤n):∀ st ts st',c7 m r st=some (ts,st')→ts.length≤n+1:=fun st ts st' e=>by
  obtain ⟨t,s1,us,e1,e2,rfl⟩:=ux e
  exact Nat.succ_le_succ (h _ _ _ e2)
theorem J1 {ms:M (List T)} {f:List T→Option T} {e:Expr} (h:PE X e (tCB (rL X.K f) (aOf X.K B ms))):PE X e (tOf X.K B (Ak f ms)) :=
  h.imp fun σ H Q z9=>by
    obtain ⟨st,ps,S,as,R,t,st',e,q⟩:=z9
    obtain ⟨ts,e1,e2⟩:=zx e
    refine ⟨st,ps,S,as,R,ts,st',e1,fun vs H1 S1 as1 R1 rs=>⟨S1,as1,ts,t,R1.sub,rs,e2,fun v H2 S2 x r=>?_⟩⟩
    exact q v H2 S2 as1 ((R1.ext x).push r)
theorem Cu {f:T→T→Option T} {e:Expr} (h:PE X e (tOp (r2 X.K f) (tOf X.K B m1) (tOf X.K B m2))):PE X e (tOf X.K B (mOp f m1 m2)) :=
  h.imp fun σ H Q z9=>by
    obtain ⟨st,ps,S,as,R,t,st',e,q⟩:=z9
    obtain ⟨t1,s1,t2,e1,e2,e3⟩:=Ad e
    refine ⟨st,ps,S,as,R,t1,s1,e1,fun v H1 S1 as1 R1=>⟨s1,_,S1,as1,R1,t2,st',e2,fun u H2 S2 as2 R2=>?_⟩⟩
    exact ⟨S2,as2,t1,t2,t,R2.sub,R2.top2,R2.top,e3,fun w H3 S3 x r=>q w H3 S3 as2 ((R2.drop.drop.ext x).push r)⟩
theorem O8 {op:CmpOp} {f:T→T→Option T} (ho:OpT X (compareOp op) f) (ha:PE X a (tOf X.K B m1)) (hb:PE X b (tOf X.K B m2)) (hm:behindInMarks op b=false):PE X (.Compare a [op] [b] pos) (tOf X.K B (mOp f m1 m2)):=Cu (Ml ho ha hb hm)
theorem yu {e:Expr} (h:PT X e (Om (tOf X.K B m))):PT X e (cOf X.K B (dg m)):=h.imp fun σ H Q z9=>by
  obtain ⟨st,ps,S,as,R,t,st',e,q⟩:=z9
  refine ⟨st,ps,S,as,R,.bl t,st',En e,fun v H1 S1 as1 R1=>?_⟩
  cases R1.top
  exact ⟨t,rfl,q H1 S1 as1 R1.drop⟩
theorem dz {op:CmpOp} {f:T→T→Option T} (ho:OpT X (compareOp op) f) (ha:PE X a (tOf X.K B m1)) (hb:PE X b (tOf X.K B m2)) (hm:behindInMarks op b=false):PT X (.Compare a [op] [b] pos) (cOf X.K B (dg (mOp f m1 m2))) :=
  yu ((Kz ho ha hb hm).imp fun σ H Q z9=>by
    obtain ⟨st,ps,S,as,R,t,st',e,q⟩:=z9
    obtain ⟨t1,s1,t2,e1,e2,e3⟩:=Ad e
    refine ⟨st,ps,S,as,R,t1,s1,e1,fun v H1 S1 as1 R1=>⟨s1,_,S1,as1,R1,t2,st',e2,fun u H2 S2 as2 R2=>?_⟩⟩
    exact ⟨S2,as2,t1,t2,t,R2.sub,R2.top2,R2.top,e3,fun w H3 S3 x r=>q w H3 S3 as2 ((R2.drop.drop.ext x).push r)⟩)
theorem Gw {e:Expr} (h:PE X e (tOf X.K B m)) (he:∀ whole,isTrue e X.env whole=(do let v ← whole; standAt e.pos; holding [v] (truthy v)):=by intro _; rfl):PT X e (cOf X.K B (dg m)) :=
  yu ((Mw h he).imp fun σ H Q h=>h)
theorem Eo {c1:M Bool} (ha:PT X a (cOf X.K B c1)):PT X (.UnaryOp .Not a pos) (cOf X.K B (Ek c1)):=(Ow ha).imp fun σ H Q z9=>by
  obtain ⟨st,ps,S,as,R,t,st',e,q⟩:=z9
  obtain ⟨k,e1,rfl⟩:=Hu e
  exact ⟨st,ps,S,as,R,k,st',e1,q⟩
theorem Oh {c1:M Bool} (ha:PT X a (cOf X.K B c1)):PW X (.BoolOp .Or [a] pos) (cOf X.K B c1):=pw_or1 ha
theorem Q9 {e:Expr} {t t':TT} (h:PW X e t) (i:∀ σ H Q,t' σ H Q→t σ H Q):PW X e t':=fun whole pins s σ H Q I q=>h whole pins s σ H Q I (i σ H Q q)
theorem Nt {c1 c2:M Bool} {rest:List Expr} (ha:PT X a (cOf X.K B c1)) (hb:PW X (.BoolOp .Or (b::rest) pos) (cOf X.K B c2)):PW X (.BoolOp .Or (a::b::rest) pos) (cOf X.K B (mOr c1 c2)) :=
  Q9 (pw_or ha hb) fun σ H Q z9=>by
    obtain ⟨st,ps,S,as,R,t,st',e,q⟩:=z9
    rcases Lx e with ⟨s1,e1,e2⟩ | ⟨e1,rfl⟩
    · exact ⟨st,ps,S,as,R,false,s1,e1,fun H1 S1 as1 R1=>Ox (⟨s1,ps,S1,as1,R1,t,st',e2,q⟩)⟩
    · exact ⟨st,ps,S,as,R,true,st',e1,fun H1 S1 as1 R1=>Pg (q H1 S1 as1 R1)⟩
end
end C
end
section
namespace C
open PySem PySem.Spec PyProof.Rows L2
theorem Ik {a b:S} {s s':Sta} {fl:Flow} (h:ni a b s=some (fl,s')):(∃ s1,a s=some (.next,s1)∧b s1=some (fl,s'))∨(a s=some (fl,s')∧fl≠.next):=by
  unfold ni at h
  split at h
  · rename_i s1 e; exact .inl ⟨s1,e,h⟩
  · rename_i r hr; exact .inr ⟨h,fun z=>by subst z; exact hr _ h⟩
theorem Hy {e:M T} {s s':Sta} {fl:Flow} (h:v8 e s=some (fl,s')):∃ t,e s=some (t,s')∧fl=.ret t:=by
  unfold v8 at h
  split at h
  · rename_i t s1 e; cases h; exact ⟨t,e,rfl⟩
  · cases h
theorem Ld {c:M Bool} {a b:S} {s s':Sta} {fl:Flow} (h:sIf c a b s=some (fl,s')):(∃ s1,c s=some (true,s1)∧a s1=some (fl,s'))∨(∃ s1,c s=some (false,s1)∧b s1=some (fl,s')):=by
  unfold sIf at h
  split at h
  · rename_i s1 e; exact .inl ⟨s1,e,h⟩
  · rename_i s1 e; exact .inr ⟨s1,e,h⟩
  · cases h
theorem Iu {i:Nat} {e:M T} {s s':Sta} {fl:Flow} (h:vh i e s=some (fl,s')):∃ t s1,e s=some (t,s1)∧fl=.next∧s'=j5 i t false s1:=by
  unfold vh at h
  split at h
  · rename_i t s1 e; cases h; exact ⟨t,s1,e,rfl,rfl⟩
  · cases h
theorem J4 {g:G} {it:M (List T)} {b:S} {s s':Sta} {fl:Flow} (h:K1 g it b s=some (fl,s')):∃ ts s1,it s=some (ts,s1)∧forL g b ts s1=some (fl,s'):=by
  unfold K1 at h
  split at h
  · rename_i ts s1 e; exact ⟨ts,s1,e,h⟩
  · cases h
section
variable {K:PySem.W.Frag} {B:Bas} {st:Sta} {σ:L2.St} {H H' S S':Hp} {ps ps2:List (V × T)} {as as':List Addr}
theorem Rel.pick (r:Rel K B st σ H ps S as) (h:∀ p∈ps2,p∈ps):Rel K B st σ H ps2 S as :=
  ⟨r.sub,r.grow,r.slots,r.apart,r.sto,fun p hp=>r.pend p (h p hp),r.len⟩
theorem Fg {α:Type} {l:List α} {i:Nat} {x:α} (h:l.length≤i):l.set i x=l:=List.set_eq_of_length_le h
theorem Rel.put (r:Rel K B st σ H ps S as) {i:Nat} {v:V} {t:T} (h:Rep K S as v t):Rel K B (j5 i t false st) (σ.set i (some v)) H ps S as:=by
  by_cases hi:i<st.env.length
  · have hs:i<σ.length:=by rw [r.len]; exact hi
    refine ⟨r.sub,r.grow,fun j u f e=>?_,fun j k u w p ej ek sj sk=>?_,r.sto,r.pend,by show _=(st.env.set i _).length; rw [List.length_set,List.length_set]; exact r.len⟩
    · have e:(st.env.set i (some (t,false)))[j]? = some (some (u,f)):=e
      by_cases hij:i=j
      · subst hij
        rw [List.getElem?_set_self hi] at e; cases e
        exact ⟨v,List.getElem?_set_self hs,fun _=>h,fun z=>by cases z⟩
      · rw [List.getElem?_set_ne hij] at e ⊢
        exact r.slots j u f e
    · have ej:(st.env.set i (some (t,false)))[j]? = some (some (u,true)):=ej
      have ek:(st.env.set i (some (t,false)))[k]? = some (some (w,true)):=ek
      have hij:i≠j:=fun z=>by subst z; rw [List.getElem?_set_self hi] at ej; cases ej
      have hik:i≠k:=fun z=>by subst z; rw [List.getElem?_set_self hi] at ek; cases ek
      rw [List.getElem?_set_ne hij] at ej sj
      rw [List.getElem?_set_ne hik] at ek sk
      exact r.apart j k u w p ej ek sj sk
  · have e1:j5 i t false st=st:=by unfold j5; rw [Fg (Nat.le_of_not_lt hi)]
    have e2:σ.set i (some v)=σ:=Fg (by rw [r.len]; exact Nat.le_of_not_lt hi)
    rw [e1,e2]; exact r
def Am (st:Sta) (σ:L2.St) (p:Addr):Prop:=∀ (j:Nat) u,st.env[j]? = some (some (u,true))→σ[j]? = some (some (.ref p))→False
end
def Fin (K:PySem.W.Frag) (B:Bas) (D:Ends) (ps:List (V × T)):Flow→Sta→Prop
  | .next,st'=>∀ σ' H' S' as',Rel K B st' σ' H' ps S' as'→D.nx σ' H'
  | .ret t,st'=>∀ v σ' H' S' as',Rel K B st' σ' H' ((v,t)::ps) S' as'→D.rt v H'
  | .brk,st'=>∀ σ' H' S' as',Rel K B st' σ' H' ps S' as'→D.bk σ' H'
  | .cont,st'=>∀ σ' H' S' as',Rel K B st' σ' H' ps S' as'→D.ct σ' H'
inductive sOf (K:PySem.W.Frag) (B:Bas) (s:S) (D:Ends) (σ:L2.St) (H:Hp):Prop
  | mk (st:Sta) (ps:List (V × T)) (S0:Hp) (as:List Addr) (R:Rel K B st σ H ps S0 as) (fl:Flow) (st':Sta) (e:s st=some (fl,st')) (q:Fin K B D ps fl st')
inductive gOf (K:PySem.W.Frag) (B:Bas) (g:G) (v:V) (σ:L2.St) (H:Hp) (Q:L2.St→Hp→Prop):Prop
  | mk (st:Sta) (ps:List (V × T)) (S:Hp) (as:List Addr) (t:T) (R:Rel K B st σ H ((v,t)::ps) S as) (st':Sta) (e:g t st=some st') (q:∀ σ' H' S' as',Rel K B st' σ' H' ps S' as'→Q σ' H')
inductive fOf (K:PySem.W.Frag) (B:Bas) (m:M T) (σ:L2.St) (H:Hp) (Q:VK):Prop
  | mk (st:Sta) (ps:List (V × T)) (S:Hp) (as:List Addr) (R:Rel K B st σ H ps S as) (t:T) (st':Sta) (e:m st=some (t,st')) (q:∀ p H' S' as',Rel K B st' σ H' ps S' as'→Ge K B S' as' H' p t→Am st' σ p→Q (.ref p) H')
section
variable {X:Cx} {B:Bas} {a b c e:Expr} {m m1 m2:M T} {pos:Pos} {u v:S}
theorem dw:PSs X [] (sOf X.K B jg):=M8.imp fun D σ H z9=>by
  obtain ⟨st,ps,S,as,R,fl,st',e,q⟩:=z9
  cases e; exact q σ H S as R
theorem ig {st:Stmt} {rest:List Stmt} (h1:PS X st (sOf X.K B u)) (h2:PSs X rest (sOf X.K B v)):PSs X (st::rest) (sOf X.K B (ni u v)):=(Cv h1 h2).imp fun D σ H z9=>by
  obtain ⟨st,ps,S,as,R,fl,st',e,q⟩:=z9
  rcases Ik e with ⟨s1,e1,e2⟩ | ⟨e1,hn⟩
  · exact ⟨st,ps,S,as,R,.next,s1,e1,fun σ' H' S' as' R'=>⟨s1,ps,S',as',R',fl,st',e2,q⟩⟩
  · refine ⟨st,ps,S,as,R,fl,st',e1,?_⟩
    cases fl with
    | next=>exact absurd rfl hn
    | ret t=>exact q
    | brk=>exact q
    | cont=>exact q
theorem jt {st:Stmt} (h1:PS X st (sOf X.K B u)):PSs X [st] (sOf X.K B u):=m5 h1
theorem kh (he:PE X e (tOf X.K B m)):PS X (.Return (some e) pos) (sOf X.K B (v8 m)):=(N6 he).imp fun D σ H z9=>by
  obtain ⟨st,ps,S,as,R,fl,st',e,q⟩:=z9
  obtain ⟨t,e1,rfl⟩:=Hy e
  exact ⟨st,ps,S,as,R,t,st',e1,fun v H' S' as' R'=>q v σ H' S' as' R'⟩
theorem Aa {c1:M Bool} {sa sb:List Stmt} (hc:PT X c (cOf X.K B c1)) (ha:PSs X sa (sOf X.K B u)) (hb:PSs X sb (sOf X.K B v)):PS X (.If c sa sb pos) (sOf X.K B (sIf c1 u v)):=(Oa hc ha hb).imp fun D σ H z9=>by
  obtain ⟨st,ps,S,as,R,fl,st',e,q⟩:=z9
  rcases Ld e with ⟨s1,e1,e2⟩ | ⟨s1,e1,e2⟩
  · exact ⟨st,ps,S,as,R,true,s1,e1,fun H1 S1 as1 R1=>Pg ⟨s1,ps,S1,as1,R1,fl,st',e2,q⟩⟩
  · exact ⟨st,ps,S,as,R,false,s1,e1,fun H1 S1 as1 R1=>Ox ⟨s1,ps,S1,as1,R1,fl,st',e2,q⟩⟩
theorem Gy (i:Nat) {tg:Expr} (h:PG X tg (Fq i)):PG X tg (gOf X.K B (hName i)):=fun pins s σ H x u Q I r z9=>h pins s σ H x u Q I r (by
  obtain ⟨st,ps,S,as,t,R,st',e,q⟩:=z9
  cases e
  exact q _ H S as (R.drop.put R.top))
theorem n6 (i:Nat) {te:TE} {s:Stmt} (h:PS X s (Qs te (Fq i))) (hm:∀ σ H Q,tOf X.K B m σ H Q→te σ H Q):PS X s (sOf X.K B (vh i m)):=h.imp fun D σ H z9=>by
  obtain ⟨st,ps,S,as,R,fl,st',e,q⟩:=z9
  obtain ⟨t,s1,e1,rfl,rfl⟩:=Iu e
  exact hm σ H _ ⟨st,ps,S,as,R,t,s1,e1,fun v H' S' as' R'=>q _ H' S' as' (R'.drop.put R'.top)⟩
end
end C
end
section
namespace C
open PySem PySem.Spec PyProof.Rows L2
section
variable {K:PySem.W.Frag} {B:Bas} {st:Sta} {σ:L2.St} {H H' S S':Hp} {ps ps2:List (V × T)} {as as':List Addr}
theorem Own.more {p:Addr} {t:T} (hs:Same S S') (x:∃ l,as'=as++l) (hh:H p=H' p) (o:Own K S as H p t):Own K S' as' H' p t:=by
  cases t with
  | lst ts=>obtain ⟨vs,h,r⟩:=o; exact ⟨vs,hh ▸ h,r.mono hs x⟩
  | dic ts=>obtain ⟨vs,h,r⟩:=o; exact ⟨vs,hh ▸ h,r.mono hs x⟩
  | _=>exact o.elim
theorem Rel.call {sto':List SO} (r:Rel K B st σ H ps S as) (g:Mr ⟨S,as,H⟩ S' as' H') (sub:Same S' H') (so:qd K S' as' H' sto'):Rel K B { st with sto:=sto' } σ H' ps S' as' where
  sub:=sub
  grow:=by
    refine ⟨r.grow.same.trans g.same,?_,fun p o a b c=>?_⟩
    · obtain ⟨l,e⟩:=r.grow.more
      obtain ⟨l',e'⟩:=g.more
      exact ⟨l++l',by rw [e',e,List.append_assoc]⟩
    · obtain ⟨x,y,z⟩:=r.grow.keep p o a b c
      exact g.keep p o x y z
  slots:=fun i t f e=>by
    obtain ⟨v,h1,h2,h3⟩:=r.slots i t f e
    refine ⟨v,h1,fun q=>(h2 q).mono g.same g.more,fun q=>?_⟩
    obtain ⟨p,rfl,o⟩:=h3 q
    obtain ⟨ob,ho⟩:=o.own.there
    obtain ⟨x,y,z⟩:=g.keep p ob ho o.out o.nas
    exact ⟨p,rfl,o.own.more g.same g.more (by rw [ho,x]),y,z,o.new⟩
  apart:=r.apart
  sto:=so
  pend:=fun p hp=>(r.pend p hp).mono g.same g.more
  len:=r.len
end
def spF (K:PySem.W.Frag) (ar:Nat) (F:Fn):Sp:=fun vs H Q _=>∃ S as sto ts t sto',Same S H∧qd K S as H sto∧kj K S as vs ts∧ts.length=ar∧F ts sto=some (t,sto') ∧
  ∀ v H' S' as',Mr ⟨S,as,H⟩ S' as' H'→Same S' H'→qd K S' as' H' sto'→Rep K S' as' v t→Q v H'
section
variable {X:Cx} {B:Bas} {a b c e:Expr} {m m1 m2:M T} {pos p:Pos} {u v:S} {es:List Expr} {ms:M (List T)} {k:Nat} {f:Addr} {fd:FuncData} {pn:List Str} {F:Fn} {x:Str}
theorem M7 (G:lq X.prog X.w X.K X.mg X.base CX0 k f fd pn (spF X.K pn.length F)) (hr:nu k X.A) (hg:Gl X x) (hm:X.mg x=some (.ref f)) (hk:PySem.W.keepIn X.K (.ref f)=true) (hb:Binds X.K fd pn [])
    (ha:PA X (e::es) (aOf X.K B ms)) (hl:∀ st ts st',ms st=some (ts,st')→ts.length=pn.length) (hdb:(x==("__debug__" : Str))=false:=by decide)
    (he:starEach (e::es) X.env=(false,eval e X.env)::starEach es X.env:=by rfl) (hpl:(backTo pos (starEach es X.env)).any (·.1)=false:=by rfl) :
    PE X (.Call (.Name x p) (e::es) [] pos) (tOf X.K B (m7 F ms)) :=
  (K8 G hr hg hm hk hb .nil Q6 ha hdb he hpl).imp fun σ H Q z9=>by
    obtain ⟨st,ps,S,as,R,t,st',e,q⟩:=z9
    obtain ⟨ts,s1,sto,e1,e2,rfl⟩:=Hl e
    refine ⟨st,ps,S,as,R,ts,s1,e1,fun vs H1 S1 as1 R1 rs=>?_⟩
    show spF X.K pn.length F (vs++[]) H1 Q E0
    rw [List.append_nil]
    exact ⟨S1,as1,s1.sto,ts,t,sto,R1.sub,R1.sto,rs,hl _ _ _ e1,e2,fun v H2 S2 as2 g sub so r=>q v H2 S2 as2 ((R1.call g sub so).push r)⟩
theorem eq_nil:∀ st ts st',qe st=some (ts,st')→ts.length=0:=fun st ts st' e=>by cases e; rfl
theorem f9 {r:M (List T)} {n:Nat} (h:∀ st ts st',r st=some (ts,st')→ts.length=n):∀ st ts st',c7 m r st=some (ts,st')→ts.length=n+1:=fun st ts st' e=>by
  obtain ⟨t,s1,us,e1,e2,rfl⟩:=ux e
  exact congrArg (· + 1) (h _ _ _ e2)
end
section
variable {P:Program} {w:World} {K:PySem.W.Frag} {mg:Str→Option Value} {base:Heap}
theorem Gq {N:List Str} {vs:List V} {i:Nat} {v:V} (h:vs[i]? = some v):(L2.start N vs)[i]? = some (some v):=by
  unfold L2.start
  have hi:=(List.getElem?_eq_some_iff.mp h).1
  rw [List.getElem?_append_left (by rw [List.length_map]; exact hi),List.getElem?_map,h]; rfl
theorem Av {S H:Hp} {as:List Addr} {sto:List SO} {vs:List V} {ts:List T} {N:List Str} (h1:Same S H) (h2:qd K S as H sto) (h3:kj K S as vs ts) (hN:ts.length≤N.length) :
    Rel K ⟨S,as,H⟩ ⟨ts.map (fun t=>some (t,false))++List.replicate (N.length - ts.length) none,sto⟩ (L2.start N vs) H [] S as:=by
  have key:∀ (i:Nat) t fl,(ts.map (fun t=>some (t,false))++List.replicate (N.length - ts.length) (none:Slot))[i]? = some (some (t,fl))→fl=false∧ts[i]? = some t:=fun i t fl e=>by
    by_cases hi:i<ts.length
    · rw [List.getElem?_append_left (by rw [List.length_map]; exact hi),List.getElem?_map] at e
      cases z:ts[i]? with
      | none=>rw [z] at e; cases e
      | some t'=>rw [z] at e; cases e; exact ⟨rfl,rfl⟩
    · rw [List.getElem?_append_right (by rw [List.length_map]; exact Nat.le_of_not_lt hi)] at e
      have:=List.eq_of_mem_replicate (List.mem_of_getElem? e)
      cases this
  refine ⟨h1,⟨Same.refl _,nol,fun p o a b c=>⟨a,b,c⟩⟩,fun i t fl e=>?_,fun i j t u p ei ej=>?_,h2,(fun p hp=>by cases hp),?_⟩
  · obtain ⟨rfl,e'⟩:=key i t fl e
    obtain ⟨v,hv,r⟩:=h3.get e'
    exact ⟨v,Gq hv,fun _=>r,fun z=>by cases z⟩
  · obtain ⟨z,_⟩:=key i t true ei; cases z
  · unfold L2.start
    rw [List.length_append,List.length_append,List.length_map,List.length_map,List.length_replicate,List.length_replicate,h3.length]
theorem zp {x qual:Str} {st:Stmt} {f:Addr} {fd:FuncData} {N ps:List Str} {k:Nat} {b:S} (F:Fun K x qual st f fd) (Sc:iz N ps (bf st)) (hN:ps.length≤N.length)
    (hb:∀ (cdv:Value) (A:Around) (outer:List Env) (s:Shared) (H:Hp) (E:XK) (B:Bas),nu k (A.deeper (envOfC qual (bf st) s.heap.objs.size f cdv)) →
      PSs (Hh CX0 P w K mg base N qual (bf st) f cdv A outer s H E).nox (jh st) (sOf K B b)):lq P w K mg base CX0 (k+1) f fd ps (spF K ps.length (vp N.length b)):=by
  refine F.ok Sc (fun vs H Q E h=>?_) fun cdv A outer s H vs Q E hr h=>?_
  · obtain ⟨S,as,sto,ts,t,sto',h1,h2,h3,h4,_⟩:=h
    rw [h3.length,h4]
  · obtain ⟨S,as,sto,ts,t,sto',h1,h2,h3,h4,h5,q⟩:=h
    refine ⟨_,hb cdv A outer s H E ⟨S,as,H⟩ hr,?_⟩
    have lv:vs.length=ps.length:=by rw [h3.length,h4]
    have R:Rel K ⟨S,as,H⟩ ⟨ts.map (fun t=>some (t,false))++List.replicate (N.length - ts.length) none,sto⟩ (L2.start N vs) H [] S as:=Av h1 h2 h3 (by rw [h4]; exact hN)
    unfold vp at h5
    split at h5
    · rename_i t' s' e
      cases h5
      exact ⟨_,[],S,as,R,.ret t,s',e,fun v σ' H' S' as' R'=>q v H' S' as' R'.grow R'.sub R'.sto R'.top⟩
    · rename_i s' e
      cases h5
      exact ⟨_,[],S,as,R,.next,s',e,fun σ' H' S' as' R'=>q .non H' S' as' R'.grow R'.sub R'.sto .non⟩
    · cases h5
end
end C
end
section
namespace C
open PySem PySem.Spec PyProof.Rows L2
theorem Jc {g:G} {b:S} {t:T} {r:List T} {s s':Sta} {fl:Flow} (h:forL g b (t::r) s=some (fl,s')):∃ s1 fb s2,g t s=some s1∧b s1=some (fb,s2) ∧
    (match fb with | .next=>forL g b r s2=some (fl,s') | .cont=>forL g b r s2=some (fl,s') | .brk=>fl=.next∧s'=s2 | .ret v=>fl=.ret v∧s'=s2):=by
  rw [forL] at h
  dsimp only at h
  split at h
  · rename_i s1 e1
    split at h
    · rename_i s2 e2; exact ⟨s1,.next,s2,e1,e2,h⟩
    · rename_i s2 e2; exact ⟨s1,.cont,s2,e1,e2,h⟩
    · rename_i s2 e2; cases h; exact ⟨s1,.brk,_,e1,e2,rfl,rfl⟩
    · rename_i v s2 e2; cases h; exact ⟨s1,.ret v,_,e1,e2,rfl,rfl⟩
    · cases h
  · cases h
structure G8 (K:PySem.W.Frag) (S:Hp) (as:List Addr) (H:Hp) (J:It) (ts:List T):Prop where
  go:∀ (i:Nat) t,ts[i]? = some t→J.go i H∧∀ x H',J.yld i H x H'→∃ S',Ext S H S' H'∧Rep K S' as x t
  stop:∀ i,ts.length≤i→J.stop i H
inductive iOf (K:PySem.W.Frag) (B:Bas) (m:M (List T)) (σ:L2.St) (H:Hp) (R:It→Hp→Prop):Prop
  | mk (st:Sta) (ps:List (V × T)) (S:Hp) (as:List Addr) (R0:Rel K B st σ H ps S as) (ts:List T) (st':Sta) (e:m st=some (ts,st')) (z:ts.length≤sizeLine) (q:∀ J H' S' as' ps',Rel K B st' σ H' (ps'++ps) S' as'→(∀ S as H,(∀ p∈ps',Rep K S as p.1 p.2)→Same S H→G8 K S as H J ts)→R J H')
section
variable {X:Cx} {tg l:Expr} {tl:TE}
end
section
variable {X:Cx} {B:Bas} {a b c e tg iter:Expr} {m m1 m2:M T} {pos p:Pos} {u v:S} {g:G} {it:M (List T)} {body:List Stmt}
theorem jw:lim≤sizeLine:=by rw [sizeLine_eq]; decide
theorem yt {a:M T} {ts:List T} {s s':Sta} (h:nj a s=some (ts,s')):∃ n:Int,a s=some (.int n,s')∧(-1000000<n∧n<1000000)∧ts=rangeT n.toNat:=by
  unfold nj at h
  split at h
  · rename_i n s1 e
    split at h
    · rename_i hl; cases h; exact ⟨n,e,by have:n.natAbs<1000000:=hl; (clear e hl; omega),rfl⟩
    · cases h
  · cases h
theorem Dv {n i:Nat} {t:T} (h:(rangeT n)[i]? = some t):i<n∧t=.int (i:Int):=by
  unfold rangeT at h
  rw [List.getElem?_map] at h
  cases z:(List.range n)[i]? with
  | none=>rw [z] at h; cases h
  | some k =>
    rw [z] at h; cases h
    obtain ⟨hi,e⟩:=List.getElem?_eq_some_iff.mp z
    rw [List.getElem_range] at e; subst e
    rw [List.length_range] at hi
    exact ⟨hi,rfl⟩
theorem Df (hg:Gl X "range") (hm:X.mg "range" = none) (h:PE X a (tOf X.K B m)) (hs:starEach [a] X.env=[(false,eval a X.env)]:=by rfl):PI X tg (.Call (.Name "range" p) [a] [] pos) (iOf X.K B (nj m)):=by
  intro pins s σ H R I hw
  refine Gk (ta:=O2 (tOf X.K B m) Qx) hg hm (ql h Al hs) hs pins s σ H R I ?_
  obtain ⟨st,ps,S,as,Rl,ts,st',e,hz,q⟩:=hw
  obtain ⟨n,e1,hl,rfl⟩:=yt e
  refine ⟨st,ps,S,as,Rl,_,_,e1,fun v H1 S1 as1 R1=>?_⟩
  cases R1.top
  refine ⟨n,rfl,by (clear R1 q hz e e1 Rl I hs h hm hg; omega),by (clear R1 q hz e e1 Rl I hs h hm hg; omega),q _ H1 S1 as1 [] R1.drop fun S2 as2 H2 _ hh=>⟨fun i t e=>?_,fun i hi=>?_⟩⟩
  · obtain ⟨hi,rfl⟩:=Dv e
    refine ⟨hi,fun x H' y=>⟨S2,by rw [y.1]; exact Ext.refl hh,?_⟩⟩
    have:=y.2; subst this
    rw [Int.zero_add]; exact .int _
  · show n.toNat≤i
    unfold rangeT at hi
    rwa [List.length_map,List.length_range] at hi
theorem O5 (hp:PassesOwn (model X.prog X.w) X.A X.env X.xe) (hc:X.calm=true) (hi:PI X tg iter (iOf X.K B it)) (hg:PG X tg (gOf X.K B g)) (hb:PSs X body (sOf X.K B u)) (hsz:∀ st ts st',it st=some (ts,st')→ts.length≤sizeLine)
    (hs:∀ x,foldedSetIterable iter X.env x=pure x:=by intro _; rfl):PS X (.For tg iter body [] pos) (sOf X.K B (K1 g it u)):=(Nb hp hc hi hg hb hs).imp fun D σ H z9=>by
  obtain ⟨st,ps,S,as,R,fl,st',e,q⟩:=z9
  obtain ⟨ts,s1,e1,e2⟩:=J4 e
  refine ⟨st,ps,S,as,R,ts,s1,e1,hsz _ _ _ e1,fun J H1 S1 as1 ps' R1 facts=>?_⟩
  refine ⟨fun i m σ H=>m=ts.length - i∧i≤ts.length∧∃ sti Si asi,Rel X.K B sti σ H (ps'++ps) Si asi∧forL g u (ts.drop i) sti=some (fl,st'),⟨ts.length,by simp,Nat.zero_le _,s1,S1,as1,R1,by simpa using e2⟩,?_⟩
  rintro i m σ2 H2 ⟨rfl,hi,sti,Si,asi,Ri,ei⟩
  have F:=facts Si asi H2 (fun p hp=>Ri.pend p (List.mem_append_left _ hp)) Ri.sub
  have sub:∀ p∈ps,p∈ps'++ps:=fun p hp=>List.mem_append_right _ hp
  by_cases hlt:i<ts.length
  · rw [List.drop_eq_getElem_cons hlt] at ei
    obtain ⟨s2,fb,s3,eg,eb,er⟩:=Jc ei
    have ht:ts[i]? = some ts[i]:=List.getElem?_eq_getElem hlt
    refine .inr ⟨(F.go i _ ht).1,fun σ' H'=>∃ sti Si asi,Rel X.K B sti σ' H' (ps'++ps) Si asi∧forL g u (ts.drop (i+1)) sti=some (fl,st'),fun σ' H' h=>⟨ts.length - (i+1),by (clear h ht er eb eg ei sub F Ri hi facts R1 e2 e1 q e R hs hsz hb hg hc hp; omega),rfl,hlt,h⟩,fun x H' y=>?_⟩
    obtain ⟨S',ex,rx⟩:=(F.go i _ ht).2 x H' y
    refine ⟨sti,ps'++ps,S',asi,_,(Ri.ext ex).push rx,s2,eg,fun σ3 H3 S3 as3 R3=>⟨s2,ps'++ps,S3,as3,R3,fb,s3,eb,?_⟩⟩
    cases fb with
    | next=>exact fun σ' H' S' as' R'=>⟨s3,S',as',R',er⟩
    | cont=>exact fun σ' H' S' as' R'=>⟨s3,S',as',R',er⟩
    | brk =>
      obtain ⟨rfl,rfl⟩:=er
      exact fun σ' H' S' as' R'=>q σ' H' S' as' (R'.pick sub)
    | ret v =>
      obtain ⟨rfl,rfl⟩:=er
      exact fun v σ' H' S' as' R'=>q v σ' H' S' as' (R'.pick fun p hp=>by
        rcases List.mem_cons.mp hp with rfl | z
        · exact List.mem_cons_self
        · exact List.mem_cons_of_mem _ (sub p z))
  · have hie:i=ts.length:=by (clear sub F ei Ri facts R1 e2 e1 q e R hs hsz hb hg hc hp; omega)
    subst hie
    rw [List.drop_length] at ei
    cases ei
    exact .inl ⟨F.stop _ (Nat.le_refl _),q σ2 H2 Si asi (Ri.pick sub)⟩
end
end C
end
section
namespace C
open PySem PySem.Spec PyProof.Rows L2
section
variable {K:PySem.W.Frag} {B:Bas} {st:Sta} {σ:L2.St} {H H' S S':Hp} {ps ps2:List (V × T)} {as as':List Addr}
theorem Rel.Ey (r:Rel K B st σ H ps S as) {i:Nat} {t:T} (e:st.env[i]? = some (some (t,true))):∃ S',Rel K B { st with env:=st.env.set i (some (t,false)) } σ H ps S' as:=by
  obtain ⟨v,S',_,R⟩:=r.freeze e
  exact ⟨S',R.drop⟩
theorem Rel.g8:∀ (cap:List Nat) {st:Sta} {S:Hp},Rel K B st σ H ps S as→∃ S',Rel K B { st with env:=g8 cap st.env } σ H ps S' as
  | [],st,S,r=>⟨S,r⟩
  | i::l,st,S,r=>by
    unfold C.g8
    rw [List.foldl_cons]
    split
    · rename_i t f e
      cases f with
      | true =>
        obtain ⟨S1,R1⟩:=r.Ey e
        exact Rel.g8 l R1
      | false =>
        have e2:st.env.set i (some (t,false))=st.env:=by
          apply List.ext_getElem?
          intro j
          by_cases hij:i=j
          · subst hij
            rw [List.getElem?_set_self (List.getElem?_eq_some_iff.mp e).1,e]
          · rw [List.getElem?_set_ne hij]
        rw [e2]
        exact Rel.g8 l r
    · exact Rel.g8 l r
def pq (env:List Slot):Nat→List Slot
  | 0=>env
  | n+1=>match (pq env n)[n]? with
    | some (some (t,_))=>(pq env n).set n (some (t,false))
    | _=>pq env n
theorem ug (env:List Slot):∀ n,(pq env n).length=env.length
  | 0=>rfl
  | n+1=>by
    rw [pq]
    split
    · rw [List.length_set]; exact ug env n
    · exact ug env n
theorem uc (env:List Slot):∀ (n j:Nat),(pq env n)[j]? = if j<n then (env[j]?).map Jj else env[j]?
  | 0,j=>by rw [if_neg (Nat.not_lt_zero _)]; rfl
  | n+1,j=>by
    have ihn:=uc env n n
    rw [if_neg (Nat.lt_irrefl _)] at ihn
    have ihj:=uc env n j
    rw [pq,ihn]
    by_cases hj:j=n
    · subst hj
      rw [if_pos (Nat.lt_succ_self _)]
      cases z:env[j]? with
      | none=>simp only [z,Option.map_none]; rw [ihn,z]
      | some s =>
        have hl:j<(pq env j).length:=by rw [ug]; exact (List.getElem?_eq_some_iff.mp z).1
        cases s with
        | none=>simp only [Option.map_some]; rw [ihn,z]; rfl
        | some p=>obtain ⟨t,f⟩:=p; simp only [Option.map_some]; rw [List.getElem?_set_self hl]; rfl
    · have e1:(if j<n+1 then (env[j]?).map Jj else env[j]?)=(if j<n then (env[j]?).map Jj else env[j]?):=by
        by_cases hlt:j<n
        · rw [if_pos hlt,if_pos (Nat.lt_succ_of_lt hlt)]
        · rw [if_neg hlt,if_neg (by (clear ihj ihn; omega))]
      rw [e1,← ihj]
      split
      · rw [List.getElem?_set_ne (Ne.symm hj)]
      · rfl
theorem Hj (env:List Slot):pq env env.length=env.map Jj:=by
  apply List.ext_getElem?
  intro j
  rw [uc,List.getElem?_map]
  by_cases hj:j<env.length
  · rw [if_pos hj]
  · rw [if_neg hj,List.getElem?_eq_none (Nat.le_of_not_lt hj)]; rfl
theorem Rel.pq (r:Rel K B st σ H ps S as):∀ n,∃ S',Rel K B { st with env:=C.pq st.env n } σ H ps S' as
  | 0=>⟨S,r⟩
  | n+1=>by
    obtain ⟨S1,R1⟩:=Rel.pq r n
    rw [C.pq]
    split
    · rename_i t f e
      cases f with
      | true=>exact R1.Ey e
      | false =>
        have e2:(C.pq st.env n).set n (some (t,false))=C.pq st.env n:=by
          apply List.ext_getElem?
          intro j
          by_cases hij:n=j
          · subst hij
            rw [List.getElem?_set_self (List.getElem?_eq_some_iff.mp e).1,e]
          · rw [List.getElem?_set_ne hij]
        rw [e2]
        exact ⟨S1,R1⟩
    · exact ⟨S1,R1⟩
theorem Rel.iu (r:Rel K B st σ H ps S as):∃ S',Rel K B (iu st) σ H ps S' as:=by
  obtain ⟨S',R⟩:=r.pq st.env.length
  rw [Hj] at R
  exact ⟨S',R⟩
def Jh (st:Sta):Prop:=∀ (i:Nat) t,st.env[i]?≠some (some (t,true))
theorem jx (st:Sta):Jh (C.iu st):=fun i t e=>by
  unfold C.iu at e
  rw [List.getElem?_map] at e
  cases z:st.env[i]? with
  | none=>rw [z] at e; cases e
  | some s =>
    rw [z] at e
    cases s with
    | none=>cases e
    | some p=>obtain ⟨t,f⟩:=p; cases e
theorem Rel.rebase (r:Rel K B st σ H ps S as) (n:Jh st):Rel K ⟨S,as,H⟩ st σ H ps S as :=
  ⟨r.sub,⟨Same.refl _,nol,fun p o a b c=>⟨a,b,c⟩⟩,fun i t f e=>by
    obtain ⟨v,h1,h2,_⟩:=r.slots i t f e
    exact ⟨v,h1,h2,fun z=>by subst z; exact absurd e (n i t)⟩,r.apart,r.sto,r.pend,r.len⟩
end
theorem Ep {g:G} {c:M Bool} {e:M T} {t:T} {r acc us:List T} {s s':Sta} (h:qw g c e (t::r) s acc=some (us,s')):∃ s1 b s2,g t s=some s1∧c s1=some (b,s2) ∧
    ((b=true∧∃ u s3,e s2=some (u,s3)∧acc.length<lim∧qw g c e r (iu s3) (acc++[u])=some (us,s'))∨(b=false∧qw g c e r (iu s2) acc=some (us,s'))):=by
  rw [qw] at h
  split at h
  · rename_i s1 e1
    split at h
    · rename_i s2 e2
      split at h
      · rename_i u s3 e3
        split at h
        · rename_i hl; exact ⟨s1,true,s2,e1,e2,.inl ⟨rfl,u,s3,e3,hl,h⟩⟩
        · cases h
      · cases h
    · rename_i s2 e2; exact ⟨s1,false,s2,e1,e2,.inr ⟨rfl,h⟩⟩
    · cases h
  · cases h
theorem G5 {nv:Nat} {cap:List Nat} {g:G} {it:M (List T)} {c:M Bool} {e:M T} {s s':Sta} {v:T} (h:zy nv cap g it c e s=some (v,s')):∃ ts s1 us s2,it s=some (ts,s1) ∧
    qw g c e ts ⟨List.replicate nv none++cap.map (fun i=>((g8 cap s1.env)[i]?).getD none),s1.sto⟩ []=some (us,s2)∧v=.lst us∧s'=⟨g8 cap s1.env,s2.sto⟩:=by
  unfold zy at h
  split at h
  · rename_i ts s1 e1
    dsimp only at h
    split at h
    · rename_i us s2 e2; cases h; exact ⟨ts,s1,us,s2,e1,e2,rfl,rfl⟩
    · cases h
  · cases h
section
variable {K:PySem.W.Frag} {B:Bas} {st:Sta} {σ:L2.St} {H H' S S':Hp} {ps ps2:List (V × T)} {as as':List Addr} {D:Addr} {ob:HO}
theorem qd.mem {sto:List SO} (r:qd K S as H sto) {a:Addr} (h:a∈as):∃ o,H a=some o:=by
  obtain ⟨n,hn⟩:=List.getElem?_of_mem h
  have hl:=(List.getElem?_eq_some_iff.mp hn).1
  rw [r.len] at hl
  obtain ⟨a',h1,h2,h3⟩:=r.at' n _ (List.getElem?_eq_getElem hl)
  rw [hn] at h1; cases h1
  exact h3.there
theorem Rel.fresh (r:Rel K B st σ H ps S as) (h:H D=none):B.H D=none∧S D=none∧D∉as∧Am st σ D:=by
  have sD:S D=none:=r.sub.free h
  have nD:D∉as:=fun z=>by obtain ⟨o,e⟩:=r.sto.mem z; rw [h] at e; cases e
  refine ⟨?_,sD,nD,fun j u e1 e2=>?_⟩
  · cases q:B.H D with
    | none=>rfl
    | some o =>
      have b1:B.S D=none:=by
        cases z:B.S D with
        | none=>rfl
        | some u=>have:=r.grow.same _ _ z; rw [sD] at this; cases this
      have b2:D∉B.as:=fun z=>by obtain ⟨l,e⟩:=r.grow.more; exact nD (by rw [e]; exact List.mem_append_left _ z)
      have:=(r.grow.keep D o q b1 b2).1
      rw [h] at this; cases this
  · obtain ⟨v,h1,_,h3⟩:=r.slots j u true e1
    rw [e2] at h1; cases h1
    obtain ⟨p,ep,o⟩:=h3 rfl
    cases ep
    obtain ⟨ob,ho⟩:=o.own.there
    rw [h] at ho; cases ho
theorem Rel.R7 (r:Rel K B st σ H ps S as) (bD:B.H D=none) (sD:S D=none) (nD:D∉as) (no:Am st σ D):Rel K B st σ (upd H D ob) ps S as:=by
  have ne:∀ b u,S b=some u→b≠D:=fun b u e z=>by subst z; rw [sD] at e; cases e
  refine ⟨fun b u e=>by rw [ao (ne b u e)]; exact r.sub _ _ e,⟨r.grow.same,r.grow.more,fun p o x y z=>?_⟩,fun i t f e=>?_,r.apart,⟨r.sto.len,r.sto.nd,fun n so e=>?_⟩,r.pend,r.len⟩
  · obtain ⟨a,b,c⟩:=r.grow.keep p o x y z
    exact ⟨by rw [ao (fun w=>by subst w; rw [bD] at x; cases x)]; exact a,b,c⟩
  · obtain ⟨v,h1,h2,h3⟩:=r.slots i t f e
    refine ⟨v,h1,h2,fun z=>?_⟩
    obtain ⟨p,rfl,o⟩:=h3 z
    have n:p≠D:=fun w=>by subst w; subst z; exact no i t e h1
    exact ⟨p,rfl,o.own.mono (Same.refl _) (ao n).symm,o.out,o.nas,o.new⟩
  · obtain ⟨a,h1,h2,h3⟩:=r.sto.at' n so e
    exact ⟨a,h1,h2,h3.mono (Same.refl _) (ao (fun w=>by subst w; exact nD (List.mem_of_getElem? h1))).symm⟩
theorem Rel.Ni (r:Rel K B st σ H ps S as) (no:Jh st) (sD:S D=none) (nD:D∉as):Rel K ⟨S,as,upd H D ob⟩ st σ (upd H D ob) ps S as:=by
  have ne:∀ b u,S b=some u→b≠D:=fun b u e z=>by subst z; rw [sD] at e; cases e
  refine ⟨fun b u e=>by rw [ao (ne b u e)]; exact r.sub _ _ e,⟨Same.refl _,nol,fun p o x y z=>⟨x,y,z⟩⟩,fun i t f e=>?_,r.apart,⟨r.sto.len,r.sto.nd,fun n so e=>?_⟩,r.pend,r.len⟩
  · obtain ⟨v,h1,h2,_⟩:=r.slots i t f e
    exact ⟨v,h1,h2,fun z=>by subst z; exact absurd e (no i t)⟩
  · obtain ⟨a,h1,h2,h3⟩:=r.sto.at' n so e
    exact ⟨a,h1,h2,h3.mono (Same.refl _) (ao (fun w=>by subst w; exact nD (List.mem_of_getElem? h1))).symm⟩
end
theorem qg:∀ (cap:List Nat) (env:List Slot) (k:Nat),(∀ t,env[k]?≠some (some (t,true)))→∀ t,(g8 cap env)[k]?≠some (some (t,true))
  | [],env,k,h=>h
  | i::l,env,k,h=>by
    have e:g8 (i::l) env=g8 l (match env[i]? with | some (some (t,_))=>env.set i (some (t,false)) | _=>env):=rfl
    rw [e]
    refine qg l _ k fun t=>?_
    split
    · rename_i t' f e'
      by_cases hk:i=k
      · subst hk
        rw [List.getElem?_set_self (List.getElem?_eq_some_iff.mp e').1]
        intro z; cases z
      · rw [List.getElem?_set_ne hk]; exact h t
    · exact h t
theorem uh:∀ (cap:List Nat) (env:List Slot) (k:Nat),k∈cap→∀ t,(g8 cap env)[k]?≠some (some (t,true))
  | [],env,k,h=>by simp at h
  | i::l,env,k,h=>by
    have e:g8 (i::l) env=g8 l (match env[i]? with | some (some (t,_))=>env.set i (some (t,false)) | _=>env):=rfl
    rw [e]
    rcases List.mem_cons.mp h with rfl | h' -- here
    · refine qg l _ k fun t=>?_
      split
      · rename_i t' f e'
        rw [List.getElem?_set_self (List.getElem?_eq_some_iff.mp e').1]
        intro z; cases z
      · rename_i hx
        intro z
        exact hx _ _ z
    · exact uh l _ k h'
def gE (K:PySem.W.Frag) (g:G):TG:=fun v σ H Q=>∃ B,gOf K B g v σ H Q
def cE (K:PySem.W.Frag) (c:M Bool):TT:=fun σ H Q=>∃ B,cOf K B c σ H Q
def eE (K:PySem.W.Frag) (e:M T):TE:=fun σ H Q=>∃ B,tOf K B e σ H Q
theorem pgE {X:Cx} {tg:Expr} {g:G} (h:∀ B,PG X tg (gOf X.K B g)):PG X tg (gE X.K g):=fun pins s σ H x u Q I r ⟨B,q⟩=>h B pins s σ H x u Q I r q
theorem peE {X:Cx} {e:Expr} {m:M T} (h:∀ B,PE X e (tOf X.K B m)):PE X e (eE X.K m):=fun pins s σ H Q I ⟨B,q⟩=>h B pins s σ H Q I q
theorem Ij {X:Cx}:PTs X [] (cE X.K Fd):=fun pins s σ H Q I z9=>by
  obtain ⟨B,st,ps,S,as,R,b,st',e,q⟩:=z9
  cases e
  exact Le pins s σ H Q I (q H S as R)
section
variable {X:Cx} {scope:Scope} {N:List Str}
inductive CI (K:PySem.W.Frag) (B:Bas) (g:G) (c:M Bool) (e:M T) (ts us:List T) (env:List Slot) (s2:Sta) (σ:L2.St) (pp:List (V × T)) (D:Addr) (i m:Nat) (σ':L2.St) (H':Hp):Prop where
  | mk (sti:Sta) (Si:Hp) (asi:List Addr) (acc:List T) (accv:List V) (hm:m=ts.length - i) (hi:i≤ts.length) (Ri:Rel K ⟨Si,asi,H'⟩ sti σ' H' [] Si asi) (no:Jh sti) (Ro:Rel K B ⟨env,sti.sto⟩ σ H' pp Si asi) (hD:H' D=some (.lst accv)) (sD:Si D=none) (nD:D∉asi) (rA:kj K Si asi accv acc) (ei:qw g c e (ts.drop i) sti acc=some (us,s2)):CI K B g c e ts us env s2 σ pp D i m σ' H'
theorem Gb {B:Bas} {nv:Nat} {cap:List Nat} {g:G} {c:M Bool} {e:M T} {ts us:List T} {env:List Slot} {sto1:List SO} {s2:Sta} {σ:L2.St} {H1 S1:Hp} {as1:List Addr} {ps ps':List (V × T)} {J:It} {Q:VK}
    (hN:N.length=nv+cap.length) (hv:∀ i x,i<nv→N[i]? = some x→True)
    (hcap:∀ (j k:Nat),cap[j]? = some k→∃ x,N[nv+j]? = some x∧X.N[k]? = some x∧Oz X scope x)
    (R1:Rel X.K B ⟨env,sto1⟩ σ H1 (ps'++ps) S1 as1) (hno:∀ k∈cap,∀ t,env[k]?≠some (some (t,true)))
    (facts:∀ S as H,Same B.S S→(∃ l,as=B.as++l)→(∀ p∈ps',Rep X.K S as p.1 p.2)→Same S H→G8 X.K S as H J ts)
    (hc:qw g c e ts ⟨List.replicate nv none++cap.map (fun i=>(env[i]?).getD none),sto1⟩ []=some (us,s2))
    (fin:∀ D H' S' as',Rel X.K B ⟨env,s2.sto⟩ σ H' (ps'++ps) S' as'→Ge X.K B S' as' H' D (.lst us)→Am ⟨env,s2.sto⟩ σ D→Q (.ref D) H') :
    Bt X scope N (gE X.K g) (cE X.K c) (eE X.K e) σ J H1 Q:=by
  intro D hD
  obtain ⟨bD,sD1,nD1,noD⟩:=R1.fresh hD
  have capg:∀ (i:Nat) s,(List.replicate nv (none:Slot)++cap.map (fun i=>(env[i]?).getD none))[i]? = some (some s)→∃ j k,i=nv+j∧cap[j]? = some k∧env[k]? = some (some s):=fun i s h=>by
    by_cases hi:i<nv
    · rw [List.getElem?_append_left (by rw [List.length_replicate]; exact hi)] at h
      have:=List.eq_of_mem_replicate (List.mem_of_getElem? h); cases this
    · rw [List.getElem?_append_right (by rw [List.length_replicate]; exact Nat.le_of_not_lt hi),List.length_replicate,List.getElem?_map] at h
      cases z:cap[i - nv]? with
      | none=>rw [z] at h; cases h
      | some k =>
        rw [z] at h
        refine ⟨i - nv,k,by (clear z h noD nD1 sD1 bD hD fin hc facts hno R1 hcap hv hN; omega),z,?_⟩
        cases w:env[k]? with
        | none=>simp [w] at h
        | some s'=>simp [w] at h; rw [h]
  have sig:∀ (j k:Nat) v,cap[j]? = some k→σ[k]? = some (some v)→(List.replicate nv (none:Option V)++cap.map (fun i=>(σ[i]?).getD none))[nv+j]? = some (some v):=fun j k v h1 h2=>by
    rw [List.getElem?_append_right (by rw [List.length_replicate]; (clear h2 h1 capg noD nD1 sD1 bD hD fin hc facts hno R1 hcap hv hN; omega)),List.length_replicate,Nat.add_sub_cancel_left,List.getElem?_map,h1]
    simp [h2]
  refine ⟨List.replicate nv none++cap.map (fun i=>(σ[i]?).getD none),by rw [List.length_append,List.length_replicate,List.length_map,hN],fun i v x h1 h2 _=>?_,?_⟩
  · by_cases hi:i<nv
    · rw [List.getElem?_append_left (by rw [List.length_replicate]; exact hi)] at h1
      have:=List.eq_of_mem_replicate (List.mem_of_getElem? h1); cases this
    · rw [List.getElem?_append_right (by rw [List.length_replicate]; exact Nat.le_of_not_lt hi),List.length_replicate,List.getElem?_map] at h1
      cases z:cap[i - nv]? with
      | none=>rw [z] at h1; cases h1
      | some k =>
        rw [z] at h1
        obtain ⟨y,n1,n2,ck⟩:=hcap _ _ z
        have e:nv+(i - nv)=i:=by (clear ck n2 n1 z h1 h2 sig capg noD nD1 sD1 bD hD fin hc facts hno R1 hcap hv hN; omega)
        rw [e,h2] at n1; cases n1
        refine ⟨k,n2,?_,ck⟩
        cases w:σ[k]? with
        | none=>simp [w] at h1
        | some s'=>simp [w] at h1; rw [h1]
  refine ⟨fun i m σ' H'=>CI X.K B g c e ts us env s2 σ (ps'++ps) D i m σ' H',⟨ts.length,.mk _ S1 as1 [] [] (by simp) (Nat.zero_le _) ?_ ?_ ?_ aq sD1 nD1 .nil hc⟩,?_⟩
  · refine Rel.Ni (B:=B) (H:=H1) ⟨R1.sub,R1.grow,fun i t f h=>?_,fun i j t u p hi hj=>?_,R1.sto,(fun p hp=>by cases hp),?_⟩ (fun i t h=>?_) sD1 nD1
    · obtain ⟨j,k,rfl,hk,ek⟩:=capg i _ h
      obtain ⟨v,h1,h2,h3⟩:=R1.slots k t f ek
      exact ⟨v,sig j k v hk h1,h2,h3⟩
    · obtain ⟨j,k,rfl,hk,ek⟩:=capg i _ hi
      exact absurd ek (hno k (List.mem_of_getElem? hk) t)
    · show (List.replicate nv (none:Option V)++cap.map _).length=(List.replicate nv (none:Slot)++cap.map _).length
      rw [List.length_append,List.length_append,List.length_replicate,List.length_replicate,List.length_map,List.length_map]
    · obtain ⟨j,k,rfl,hk,ek⟩:=capg i _ h
      exact absurd ek (hno k (List.mem_of_getElem? hk) t)
  · intro i t h
    obtain ⟨j,k,rfl,hk,ek⟩:=capg i _ h
    exact absurd ek (hno k (List.mem_of_getElem? hk) t)
  · exact R1.R7 bD sD1 nD1 noD
  rintro i m σ' H' ⟨sti,Si,asi,acc,accv,rfl,hi,Ri,no,Ro,hD',sD,nD,rA,ei⟩
  have F:=facts Si asi H' Ro.grow.same Ro.grow.more (fun p hp=>Ro.pend p (List.mem_append_left _ hp)) Ri.sub
  by_cases hlt:i<ts.length
  · rw [List.drop_eq_getElem_cons hlt] at ei
    obtain ⟨s3,b,s4,eg,ec,er⟩:=Ep ei
    have ht:ts[i]? = some ts[i]:=List.getElem?_eq_getElem hlt
    refine .inr ⟨(F.go i _ ht).1,fun x H2 y=>?_⟩
    obtain ⟨S2,ex,rx⟩:=(F.go i _ ht).2 x H2 y
    refine ⟨⟨Si,asi,H'⟩,sti,[],S2,asi,_,(Ri.ext ex).push rx,s3,eg,fun σ3 H3 S3 as3 R3=>⟨⟨Si,asi,H'⟩,s3,[],S3,as3,R3,b,s4,ec,fun H4 S4 as4 R4=>?_⟩⟩
    rcases er with ⟨rfl,w,s5,ee,hlen,erest⟩ | ⟨rfl,erest⟩
    · refine Pg ⟨⟨Si,asi,H'⟩,s4,[],S4,as4,R4,w,s5,ee,fun y H5 S5 as5 R5=>?_⟩
      obtain ⟨S6,R6⟩:=R5.iu
      obtain ⟨k1,k2,k3⟩:=R6.grow.keep D _ hD' sD nD
      have Ro2:=Ro.call R6.grow R6.sub R6.sto
      refine ⟨accv,k1,?_,ts.length - (i+1),by (clear Ro2 k3 k2 k1 R6 R5 erest hlen ee ec R4 R3 rx ex ht eg ei F rA nD sD hD' Ro no Ri hi sig capg noD nD1 sD1 bD hD fin hc facts hno R1 hcap hv hN; omega),.mk (iu s5) S6 as5 (acc++[w]) (accv++[y]) rfl hlt (R6.drop.Ni (jx _) k2 k3) (jx _) (Ro2.R7 bD k2 k3 noD) aq k2 k3 ((rA.mono R6.grow.same R6.grow.more).append (.cons R6.top .nil)) erest⟩
      rw [rA.length]; exact Nat.lt_of_lt_of_le hlen jw
    · refine Ox ?_
      obtain ⟨S6,R6⟩:=R4.iu
      obtain ⟨k1,k2,k3⟩:=R6.grow.keep D _ hD' sD nD
      have Ro2:=Ro.call R6.grow R6.sub R6.sto
      exact ⟨ts.length - (i+1),by (clear Ro2 k3 k2 k1 R6 ec erest R4 R3 rx ex y ht eg ei F rA nD sD hD' Ro no Ri hi sig capg noD nD1 sD1 bD hD fin hc facts hno R1 hcap hv hN; omega),.mk (iu s4) S6 as4 acc accv rfl hlt (R6.rebase (jx _)) (jx _) Ro2 k1 k2 k3 (rA.mono R6.grow.same R6.grow.more) erest⟩
  · have hie:i=ts.length:=by (clear F ei rA nD sD hD' Ro no Ri sig capg noD nD1 sD1 bD hD fin hc facts hno R1 hcap hv hN; omega)
    subst hie
    rw [List.drop_length] at ei
    cases ei
    exact .inl ⟨F.stop _ (Nat.le_refl _),fin D H' Si asi Ro ⟨⟨accv,hD',rA⟩,sD,nD,bD⟩ noD⟩
theorem Rel.give {K:PySem.W.Frag} {B:Bas} {st:Sta} {σ:L2.St} {H S:Hp} {ps:List (V × T)} {as:List Addr} {p:Addr} {t:T} (r:Rel K B st σ H ps S as) (o:Ge K B S as H p t) (no:Am st σ p):∃ S',Rel K B st σ H ((.ref p,t)::ps) S' as:=by
  obtain ⟨ob,ho⟩:=o.own.there
  have sS:Same S (upd S p ob):=Same.upd o.out ob
  have rep:Rep K (upd S p ob) as (.ref p) t:=by
    have w:=o.own
    cases t with
    | lst ts=>obtain ⟨vs,h,q⟩:=w; rw [ho] at h; cases h; exact .lst (SqL.of aq) (q.mono sS nol)
    | dic ts=>obtain ⟨vs,h,q⟩:=w; rw [ho] at h; cases h; exact .dic (.inl aq) (q.mono sS nol)
    | _=>exact w.elim
  have outs:∀ q,S q=none→q≠p→upd S p ob q=none:=fun q h n=>by rw [ao n]; exact h
  refine ⟨upd S p ob,Rel.push (v:=.ref p) (t:=t) ⟨?_,?_,?_,r.apart,?_,fun q hq=>(r.pend q hq).mono sS nol,r.len⟩ rep⟩
  · intro b u q
    by_cases z:b=p
    · subst z; rw [aq] at q; cases q; exact ho
    · rw [ao z] at q; exact r.sub _ _ q
  · refine ⟨r.grow.same.trans sS,r.grow.more,fun q w a b c=>?_⟩
    obtain ⟨x,y,z⟩:=r.grow.keep q w a b c
    refine ⟨x,outs q y fun n=>?_,z⟩
    subst n; rw [o.new] at a; cases a
  · intro j u f ej
    obtain ⟨v',a1,a2,a3⟩:=r.slots j u f ej
    refine ⟨v',a1,fun z=>(a2 z).mono sS nol,fun z=>?_⟩
    subst z
    obtain ⟨p',rfl,o'⟩:=a3 rfl
    refine ⟨p',rfl,o'.own.mono sS rfl,outs p' o'.out fun n=>?_,o'.nas,o'.new⟩
    subst n
    exact no j u ej a1
  · refine ⟨r.sto.len,r.sto.nd,fun n so en=>?_⟩
    obtain ⟨a,a1,a2,a3⟩:=r.sto.at' n so en
    refine ⟨a,a1,outs a a2 fun z=>?_,a3.mono sS rfl⟩
    subst z
    exact o.nas (List.mem_of_getElem? a1)
theorem N8 {K:PySem.W.Frag} {B:Bas} {m:M T} {σ:L2.St} {H:Hp} {Q:VK} (h:tOf K B m σ H Q):fOf K B m σ H Q:=by
  obtain ⟨st,ps,S,as,R,t,st',e,q⟩:=h
  refine ⟨st,ps,S,as,R,t,st',e,fun p H' S' as' R' o n=>?_⟩
  obtain ⟨S2,R2⟩:=R'.give o n
  exact q _ H' S2 as' R2
theorem Jg {e:Expr} {B:Bas} {m:M T} (h:PE X e (fOf X.K B m)):PE X e (tOf X.K B m):=h.imp fun σ H Q=>N8
variable {B:Bas} {nv:Nat} {cap:List Nat} {g:G} {it:M (List T)} {c:M Bool} {e:M T} {tg iter elt:Expr} {ifs:List Expr} {pos:Pos}
structure N5 (X:Cx) (scope:Scope) (N:List Str) (nv:Nat) (cap:List Nat):Prop where
  len:N.length=nv+cap.length
  at':∀ (j k:Nat),cap[j]? = some k→∃ x,N[nv+j]? = some x∧X.N[k]? = some x∧Oz X scope x
theorem N7 (co:N5 X scope N nv cap) (hsz:∀ st ts st',it st=some (ts,st')→ts.length≤sizeLine) {σ:L2.St} {H:Hp} {Q:VK} (h:fOf X.K B (zy nv cap g it c e) σ H Q) :
    Ol X scope N (iOf X.K B it) (gE X.K g) (cE X.K c) (eE X.K e) σ H Q:=by
  obtain ⟨st,ps,S,as,R,t,st',e,q⟩:=h
  obtain ⟨ts,s1,us,s2,e1,e2,rfl,rfl⟩:=G5 e
  refine ⟨st,ps,S,as,R,ts,s1,e1,hsz _ _ _ e1,fun J H1 S1 as1 ps' R1 facts=>?_⟩
  obtain ⟨S2,R2⟩:=R1.g8 cap
  exact Gb co.len (fun _ _ _ _=>trivial) co.at' R2 (fun k hk=>uh cap s1.env k hk) (fun S as H _ _=>facts S as H) e2 fun D H' S' as' R' o n=>q D H' S' as' (R'.pick fun p hp=>List.mem_append_right _ hp) o n
theorem Ly (co:N5 X scope N nv cap) (sc:Aw X scope N) (calm:X.calm=true) (hi:PI X tg iter (iOf X.K B it)) (hsz:∀ st ts st',it st=some (ts,st')→ts.length≤sizeLine)
    (hg:∀ C s₀ H₀ ex pn,PG (jf X scope N C s₀ H₀ ex pn) tg (gE X.K g)) (hc:∀ C s₀ H₀ ex pn,PTs (jf X scope N C s₀ H₀ ex pn) ifs (cE X.K c)) (he:∀ C s₀ H₀ ex pn,PE (jf X scope N C s₀ H₀ ex pn) elt (eE X.K e))
    (hs:∀ x,foldedSetIterable iter X.env x=pure x:=by intro _; rfl):PE X (.ListComp elt [⟨tg,iter,ifs,0⟩] scope pos) (fOf X.K B (zy nv cap g it c e)) :=
  (Mh sc calm hi hg hc he hs).imp fun σ H Q h=>N7 co hsz h
end
end C
end
section
namespace C
open PySem PySem.Spec PyProof.Rows L2
section
variable {X:Cx}
theorem K7 {f:Value→Value→Sem Value} {g:T→T→Option T} {r:R2} (h:OpR X f r)
    (k:∀ S as x y t u w,Rep X.K S as x t→Rep X.K S as y u→g t u=some w→∀ (H:Hp) (Q:VK),Same S H→(∀ v H' S',Ext S H S' H'→Rep X.K S' as v w→Q v H')→r x y H Q):OpT X f g:=by
  intro pins s σ H x y v u Q I rx ry z8
  obtain ⟨S,as,t,w,z,sub,ht,hu,hf,q⟩:=z8
  exact h pins s σ H x y v u Q I rx ry (k S as x y t w z ht hu hf H Q sub q)
structure OI (g:T→Option T):Prop where
  n:g .non=none
  b:∀ x,g (.bl x)=none
  s:∀ x,g (.str x)=none
  t:∀ x,g (.tup x)=none
  l:∀ x,g (.lst x)=none
  d:∀ x,g (.dic x)=none
  o:∀ x,g (.obj x)=none
theorem OI.int {g:T→Option T} {w t:T} (h:OI g) (e:g t=some w):∃ i,t=.int i:=by
  cases t with
  | int i=>exact ⟨i,rfl⟩
  | non=>exact jd (h.n.symm.trans e)
  | bl x=>exact jd ((h.b x).symm.trans e)
  | str x=>exact jd ((h.s x).symm.trans e)
  | tup x=>exact jd ((h.t x).symm.trans e)
  | lst x=>exact jd ((h.l x).symm.trans e)
  | dic x=>exact jd ((h.d x).symm.trans e)
  | obj x=>exact jd ((h.o x).symm.trans e)
theorem Af {K:PySem.W.Frag} {S:Hp} {as:List Addr} {x y:V} {t u w:T} {g:T→T→Option T} {P:Prop} (ht:Rep K S as x t) (hu:Rep K S as y u) (hf:g t u=some w)
    (n1:∀ u,OI (g · u)) (n2:∀ i,OI (g (.int i))) (k:∀ i j,x=.int i→y=.int j→g (.int i) (.int j)=some w→P):P:=by
  obtain ⟨i,rfl⟩:=(n1 u).int hf
  obtain ⟨j,rfl⟩:=(n2 i).int hf
  cases ht; cases hu
  exact k i j rfl rfl hf
theorem Er:OpT X (binaryOp .Mod) Mp:=K7 Oi fun S as x y t u w ht hu hf H Q sub q =>
  Af (g:=Mp) ht hu hf (fun u=>⟨rfl,fun _=>rfl,fun _=>rfl,fun _=>rfl,fun _=>rfl,fun _=>rfl,fun _=>rfl⟩) (fun i=>⟨rfl,fun _=>rfl,fun _=>rfl,fun _=>rfl,fun _=>rfl,fun _=>rfl,fun _=>rfl⟩) fun i j ex ey hf=>by
  subst ex ey
  obtain ⟨hc,hf⟩:=Ah hf
  cases hf; exact ⟨_,_,rfl,rfl,hc,q _ H S (Ext.refl sub) (.int _)⟩
theorem K5:OpT X (binaryOp .Pow) Mz:=K7 Nh fun S as x y t u w ht hu hf H Q sub q =>
  Af (g:=Mz) ht hu hf (fun u=>⟨rfl,fun _=>rfl,fun _=>rfl,fun _=>rfl,fun _=>rfl,fun _=>rfl,fun _=>rfl⟩) (fun i=>⟨rfl,fun _=>rfl,fun _=>rfl,fun _=>rfl,fun _=>rfl,fun _=>rfl,fun _=>rfl⟩) fun i j ex ey hf=>by
  subst ex ey
  obtain ⟨h,hf⟩:=Ah hf
  cases hf; exact ⟨_,_,rfl,rfl,⟨h.1,by (clear q hf hu ht sub; omega),by (clear q hf hu ht sub; omega)⟩,q _ H S (Ext.refl sub) (.int _)⟩
theorem Nq:OpT X (compareOp .Lt) ltT:=K7 Pr fun S as x y t u w ht hu hf H Q sub q =>
  Af (g:=ltT) ht hu hf (fun u=>⟨rfl,fun _=>rfl,fun _=>rfl,fun _=>rfl,fun _=>rfl,fun _=>rfl,fun _=>rfl⟩) (fun i=>⟨rfl,fun _=>rfl,fun _=>rfl,fun _=>rfl,fun _=>rfl,fun _=>rfl,fun _=>rfl⟩) fun i j ex ey hf=>by
  subst ex ey; cases hf
  exact ⟨_,_,rfl,rfl,q _ H S (Ext.refl sub) (.bl _)⟩
def Qu (K:PySem.W.Frag):R2:=fun x y H Q=>∃ l b xs zs,x=.ref l∧y=.ref b∧SqL K H l xs∧SqL K H b zs∧xs.length+zs.length≤sizeLine∧∀ p,H p=none→Q (.ref p) (upd H p (.lst (xs++zs)))
theorem K6:OpR X (binaryOp .Add) (Qu X.K):=by
  intro pins s σ H x y v u Q I rx ry h
  obtain ⟨l,b,xs,zs,rfl,rfl,hH,hB,hz,q⟩:=h
  cases rx
  cases ry
  obtain ⟨its,r,p1,hl⟩:=I.list hH
  obtain ⟨its2,r2,p2,hl2⟩:=I.list hB
  obtain ⟨⟨cls,dd,data,sl⟩,n,ho,hc,hd0,hd⟩:=id p1
  obtain ⟨⟨cls2,dd2,data2,sl2⟩,n2,ho2,hc2,hd02,hd2⟩:=id p2
  simp only at hc hd hc2 hd2
  subst hc hd hc2 hd2
  refine concat_meets ⟨_,ho,rfl⟩ ⟨_,ho2,rfl⟩ noFill_list_add seq_list_add PySem.F.slot_list_add PySem.F.entry_list_add (PySem.F.args_list_add_2 _ _)
      (list_addW l b its.toArray its2.toArray n n2 dd dd2 sl sl2 (by rw [List.size_toArray,List.size_toArray,← r.length,← r2.length]; exact hz)) ⟨ho,ho2,?_⟩
  have ea:its.toArray++its2.toArray=(its++its2).toArray:=by simp
  rw [ea]
  exact ⟨.ref _,_,I.T4 (t':=s.toks) (r.append r2) (by rw [List.length_append]; exact hz),rfl,q _ I.fresh⟩
def Np (K:PySem.W.Frag):R2:=fun x y H Q=>∃ a b ys,x=.ref a∧y=.ref b∧SqT K H a []∧SqT K H b ys∧Q (.ref b) H
theorem J2:OpR X (binaryOp .Add) (Np X.K):=by
  intro pins s σ H x y v u Q I rx ry h
  obtain ⟨a,b,ys,rfl,rfl,ha,hb,q⟩:=h
  cases rx
  cases ry
  obtain ⟨its,r1,p1,_⟩:=I.tuple ha
  obtain ⟨its2,r2,p2,_⟩:=I.tuple hb
  cases r1
  obtain ⟨⟨cls,dd,data,sl⟩,ho,hc,n,hd⟩:=id p1
  obtain ⟨⟨cls2,dd2,data2,sl2⟩,ho2,hc2,n2,hd2⟩:=id p2
  simp only at hc hd hc2 hd2
  subst hc hd hc2 hd2
  exact concat_meets ⟨_,ho,rfl⟩ ⟨_,ho2,rfl⟩ noFill_tuple_add seq_tuple_add PySem.F.slot_tuple_add PySem.F.entry_tuple_add (PySem.F.args_tuple_add_2 _ _)
      (tuple_addW0 a b _ its2.toArray n n2 dd dd2 sl sl2 (by rfl)) ⟨ho,ho2,⟨.ref b,H,I,rfl,q⟩⟩
theorem Lz:OpT X (binaryOp .Add) Pa:=by
  intro pins s σ H x y v u Q I rx ry z8
  obtain ⟨S,as,t,t2,w,sub,ht,hu,hf,q⟩:=z8
  cases ht <;> first | exact nomatch (show none=some w from hf) | cases hu <;> first | exact nomatch (show none=some w from hf) | simp only [Pa] at hf
  · cases hf
    exact Mx pins s σ H _ _ v u Q I rx ry ⟨_,_,rfl,rfl,q _ H S (Ext.refl sub) (.int _)⟩
  · split at hf
    · rename_i hl; cases hf
      exact Dm pins s σ H _ _ v u Q I rx ry ⟨_,_,rfl,rfl,Nat.le_trans (Nat.le_of_lt hl) jw,q _ H S (Ext.refl sub) (.str _)⟩
    · cases hf
  · rename_i a vs ts hs hr b ws us hs2 hr2
    split at hf
    · rename_i hl; cases hf
      have hz:vs.length+ws.length≤sizeLine:=by rw [hr.length,hr2.length]; exact Nat.le_trans (Nat.le_of_lt hl) jw
      cases hr with
      | nil=>exact J2 pins s σ H _ _ v u Q I rx ry ⟨_,_,_,rfl,rfl,j9 sub hs,j9 sub hs2,q _ H S (Ext.refl sub) (.tup hs2 hr2)⟩
      | @cons v0 t0 vs0 ts0 h1 h2 =>
        refine Ku pins s σ H _ _ v u Q I rx ry ⟨_,_,_,_,rfl,rfl,j9 sub hs,j9 sub hs2,by simp,hz,fun z=>?_,fun z p hp=>?_⟩
        · subst z
          cases hr2
          rw [List.append_nil] at q
          exact q _ H S (Ext.refl sub) (.tup hs (.cons h1 h2))
        · have x:=Ext.laid sub hp (.tup ((v0::vs0)++ws))
          exact q _ _ _ x (.tup (SqT.of aq) (((kj.cons h1 h2).append hr2).mono x.s nol))
    · cases hf
  · rename_i a vs ts hs hr b ws us hs2 hr2
    split at hf
    · rename_i hl; cases hf
      have hz:vs.length+ws.length≤sizeLine:=by rw [hr.length,hr2.length]; exact Nat.le_trans (Nat.le_of_lt hl) jw
      refine K6 pins s σ H _ _ v u Q I rx ry ⟨_,_,_,_,rfl,rfl,jl sub hs,jl sub hs2,hz,fun p hp=>?_⟩
      have x:=Ext.laid sub hp (.lst (vs++ws))
      exact q _ _ _ x (.lst (SqL.of aq) ((hr.append hr2).mono x.s nol))
    · cases hf
end
end C
end
section
namespace C
open PySem PySem.Spec PyProof.Rows L2
section
variable {X:Cx} {B:Bas} {a b c e o:Expr} {m m1 m2:M T} {pos p:Pos}
theorem G9 (n:Nat) (i:Int):ixI n i=ixN n i:=rfl
theorem Qi {K:PySem.W.Frag} {S:Hp} {as:List Addr} {y:V} {t:T} {q:L2.Key} (r:Rep K S as y t) (h:keyOf t=some q):y=kV q:=by
  cases r <;> simp only [keyOf,reduceCtorEq] at h <;> (cases h; rfl)
def Pq:R2:=fun x y H Q=>∃ a v,x=.ref a∧Jz H a y (some v)∧Q v H
theorem Lw (hu:X.A.units+1<cLine):IxR X Pq:=by
  intro value slice pins s σ H x y v u Q I rx ry z8 hs
  obtain ⟨a,w,ex,g,q⟩:=z8
  subst ex
  cases rx
  refine tail_any (Cr I g) slot_dict_getitem.lookup (Ht hu I g ry fun w' s' I' r'=>⟨w,H,I',r',q⟩) hs
theorem Hw (hu:X.A.units+1<cLine):IxR X (r2 X.K jj):=by
  intro value slice pins s σ H x y v u Q I rx ry z8 hs
  obtain ⟨S,as,t,t2,w,sub,ht,hu2,hf,q⟩:=z8
  cases ht with
  | @tup a vs ts h1 h2 =>
    cases hu2 <;> first | exact jd hf | skip
    rename_i i
    obtain ⟨j,e1,e2⟩:=Option.bind_eq_some_iff.mp hf
    obtain ⟨z,hz,rz⟩:=h2.get e2
    refine O4 value slice pins s σ H _ _ v u Q I rx ry ⟨a,vs,i,z,rfl,rfl,j9 sub h1,?_,q z H S (Ext.refl sub) rz⟩ hs
    rw [G9,← h2.length] at e1
    unfold atI; rw [e1]; exact hz
  | @lst a vs ts h1 h2 =>
    cases hu2 <;> first | exact jd hf | skip
    rename_i i
    obtain ⟨j,e1,e2⟩:=Option.bind_eq_some_iff.mp hf
    obtain ⟨z,hz,rz⟩:=h2.get e2
    refine Ls value slice pins s σ H _ _ v u Q I rx ry ⟨a,vs,i,z,rfl,rfl,jl sub h1,?_,q z H S (Ext.refl sub) rz⟩ hs
    rw [G9,← h2.length] at e1
    unfold atI; rw [e1]; exact hz
  | str z =>
    cases hu2 <;> first | exact jd hf | skip
    rename_i i
    obtain ⟨hl,hf⟩:=Ah hf
    obtain ⟨j,e1,e2⟩:=Option.bind_eq_some_iff.mp hf
    obtain ⟨cc,e3,e4⟩:=Option.map_eq_some_iff.mp e2
    subst e4
    refine Mv value slice pins s σ H _ _ v u Q I rx ry ⟨z,i,cc,rfl,rfl,Nat.le_trans (Nat.le_of_lt hl) jw,?_,q _ H S (Ext.refl sub) (.str _)⟩ hs
    rw [G9] at e1
    unfold atI; rw [e1]; exact e3
  | @dic a kvs ts h1 h2 =>
    obtain ⟨k,e1,e2⟩:=Option.bind_eq_some_iff.mp hf
    have ey:=Qi hu2 e1
    subst ey
    rcases h2.get k with ⟨z,t',a1,a2,a3⟩ | ⟨_,a2⟩
    · rw [e2] at a2; cases a2
      exact Lw hu value slice pins s σ H _ _ v u Q I rx ry ⟨a,z,rfl,.inl ⟨kvs,k,m6 sub h1,rfl,a1.symm⟩,q z H S (Ext.refl sub) a3⟩ hs
    · rw [e2] at a2; cases a2
  | _=>exact jd hf
theorem Cp (hu:X.A.units+1<cLine) (ha:PE X a (tOf X.K B m1)) (hb:PE X b (tOf X.K B m2)) (hs:Fj b):PE X (.Subscript a b pos) (tOf X.K B (mOp jj m1 m2)):=Cu (Qq (Hw hu) ha hb hs)
theorem Gi:Qp X (.builtin "len") G3:=by
  intro pins s σ H xs us Q I rs z8
  obtain ⟨S,as,ts,w,sub,hr,hf,q⟩:=z8
  cases hr with
  | nil=>simp only [G3,reduceCtorEq] at hf
  | @cons x t xs' ts' h1 h2 =>
    cases h2 with
    | cons h3 h4=>simp only [G3,reduceCtorEq] at hf
    | nil =>
      cases h1 with
      | tup g1 g2=>simp only [G3] at hf; cases hf; exact su pins s σ H _ us Q I rs ⟨_,_,rfl,.inr (j9 sub g1),by rw [g2.length]; exact q _ H S (Ext.refl sub) (.int _)⟩
      | lst g1 g2=>simp only [G3] at hf; cases hf; exact su pins s σ H _ us Q I rs ⟨_,_,rfl,.inl (jl sub g1),by rw [g2.length]; exact q _ H S (Ext.refl sub) (.int _)⟩
      | str z =>
        simp only [G3] at hf
        split at hf
        · rename_i hl; cases hf; exact Bf pins s σ H _ us Q I rs ⟨_,rfl,Nat.le_trans (Nat.le_of_lt hl) jw,q _ H S (Ext.refl sub) (.int _)⟩
        · cases hf
      | @dic a kvs ts g1 g2 =>
        simp only [G3] at hf; cases hf
        obtain ⟨u,rfl,ru⟩:=rs.one
        cases ru
        exact Q5 I (m6 sub g1) fun t s' I'=>⟨.int kvs.length,H,I',⟨t,rfl⟩,by rw [g2.length]; exact q _ H S (Ext.refl sub) (.int _)⟩
      | _=>simp only [G3,reduceCtorEq] at hf
end
end C
end
section
namespace C
open PySem PySem.Spec PyProof.Rows L2
section
variable {K:PySem.W.Frag} {B:Bas} {st:Sta} {σ:L2.St} {H S:Hp} {ps:List (V × T)} {as:List Addr}
end
section
variable {X:Cx} {B:Bas} {a b c e o k d:Expr} {m mo mk md mv:M T} {pos p:Pos}
end
end C
end
section
namespace C
open PySem PySem.Spec PyProof.Rows L2
theorem qz {ms:M (List T)} {n:Nat} (h:∀ st ts st',ms st=some (ts,st')→ts.length≤n) (hn:n≤1000):∀ st ts st',ms st=some (ts,st')→ts.length≤1000:=fun st ts st' e=>Nat.le_trans (h st ts st' e) hn
theorem Cw {m:M T}:∀ st ts st',nj m st=some (ts,st')→ts.length≤sizeLine:=fun st ts st' e=>by
  obtain ⟨n,_,h,rfl⟩:=yt e
  unfold rangeT
  rw [List.length_map,List.length_range]
  refine Nat.le_trans ?_ jw
  show n.toNat≤1000000
  omega
def vo (P:Program) (w:World) (K:PySem.W.Frag) (mg:Str→Option Value) (base:Heap) (x:Str) (k:Nat) (ps:List Str) (F:Fn):Prop :=
  ∃ f fd,lq P w K mg base CX0 k f fd ps (spF K ps.length F)∧Binds K fd ps []∧PySem.W.keepIn K (.ref f)=true∧mg x=some (.ref f)
theorem vo.mono {P:Program} {w:World} {K:PySem.W.Frag} {mg:Str→Option Value} {base:Heap} {x:Str} {j k:Nat} {ps:List Str} {F:Fn} (d:vo P w K mg base x j ps F) (h:j≤k):vo P w K mg base x k ps F:=by
  obtain ⟨f,fd,h1,h2⟩:=d
  exact ⟨f,fd,h1.mono h,h2⟩
section
variable {X:Cx} {B:Bas} {a b c e o k:Expr} {m m1 m2:M T} {pos p:Pos} {es:List Expr} {ms:M (List T)} {F:Fn} {x:Str} {n:Nat} {pn:List Str}
theorem qj (D:vo X.prog X.w X.K X.mg X.base x n pn F) (hr:nu n X.A) (hg:Gl X x)
    (ha:PA X (e::es) (aOf X.K B ms)) (hl:∀ st ts st',ms st=some (ts,st')→ts.length=pn.length) (hdb:(x==("__debug__" : Str))=false:=by decide)
    (he:starEach (e::es) X.env=(false,eval e X.env)::starEach es X.env:=by rfl) (hpl:(backTo pos (starEach es X.env)).any (·.1)=false:=by rfl) :
    PE X (.Call (.Name x p) (e::es) [] pos) (tOf X.K B (m7 F ms)):=by
  obtain ⟨f,fd,h1,h2,h3,h4⟩:=D
  exact M7 h1 hr hg h4 h3 h2 ha hl hdb he hpl
end
end C
end
section
namespace C
open PySem PySem.Spec PyProof.Rows L2
section
variable {X:Cx} {B:Bas} {a b c e o k:Expr} {m m1 m2:M T} {pos p:Pos}
theorem Inv.Ig {pins:List (Addr × Obj)} {σ:L2.St} {H:Hp} {s:Shared} {a:Addr} {xs:List V} (I:L2.Inv X pins σ H s) (h:SqL X.K H a xs):a<s.heap.objs.size:=by
  obtain ⟨its,_,⟨o,n,h1,_⟩,_⟩:=I.list h
  exact Heap.lt_size h1
example (K:PySem.W.Frag):PySem.W.kitOne K (.type "bool") (.type "int")=some true:=by rfl
example (K:PySem.W.Frag):PySem.W.kitOne K (.type "str") (.type "int")=some false:=by rfl
end
end C
end
section
namespace C
open PySem PySem.Spec PyProof.Rows L2
section
variable {X:Cx} {B:Bas} {m:M T}
end
end C
end
section
namespace C
open PySem PySem.Spec PyProof.Rows L2
theorem Rel.newObj {K:PySem.W.Frag} {B:Bas} {st:Sta} {σ:L2.St} {H S:Hp} {ps:List (V × T)} {as:List Addr} {p:Addr} {ob:HO} {so:SO} (r:Rel K B st σ H ps S as) (hp:H p=none) (h:Jv K S (as++[p]) (upd H p ob) p so) :
    Rel K B { st with sto:=st.sto++[so] } σ (upd H p ob) ((.ref p,.obj st.sto.length)::ps) S (as++[p]):=by
  obtain ⟨bD,sD,nD,no⟩:=r.fresh hp
  have mo:∃ l,as++[p]=as++l:=⟨[p],rfl⟩
  have other:∀ q,q≠p→H q=upd H p ob q:=fun q n=>(ao n).symm
  refine Rel.push (st:={ st with sto:=st.sto++[so] }) (H:=upd H p ob) (v:=.ref p) (t:=.obj st.sto.length) ⟨fun b u e=>?_,⟨r.grow.same,?_,fun q o a b c=>?_⟩,fun i t f e=>?_,r.apart,⟨?_,?_,fun n so2 e=>?_⟩,fun q hq=>(r.pend q hq).mono (Same.refl _) mo,r.len⟩ (.obj ?_)
  · rw [ao (fun z=>by subst z; rw [sD] at e; cases e)]; exact r.sub _ _ e
  · obtain ⟨l,e⟩:=r.grow.more
    exact ⟨l++[p],by rw [e,List.append_assoc]⟩
  · obtain ⟨x,y,z⟩:=r.grow.keep q o a b c
    have n:q≠p:=fun w=>by subst w; rw [bD] at a; cases a
    refine ⟨by rw [ao n]; exact x,y,fun m=>?_⟩
    rcases List.mem_append.mp m with m | m
    · exact z m
    · exact n (List.mem_singleton.mp m)
  · obtain ⟨v,h1,h2,h3⟩:=r.slots i t f e
    refine ⟨v,h1,fun z=>(h2 z).mono (Same.refl _) mo,fun z=>?_⟩
    obtain ⟨q,rfl,o⟩:=h3 z
    have n:q≠p:=fun w=>by subst w; subst z; exact no i t e h1
    refine ⟨q,rfl,o.own.more (Same.refl _) mo (other q n),o.out,fun m=>?_,o.new⟩
    rcases List.mem_append.mp m with m | m
    · exact o.nas m
    · exact n (List.mem_singleton.mp m)
  · show (as++[p]).length=(st.sto++[so]).length
    rw [List.length_append,List.length_append,r.sto.len]; rfl
  · refine List.nodup_append.mpr ⟨r.sto.nd,by simp,fun a ha b hb=>?_⟩
    rw [List.mem_singleton.mp hb]
    intro z; subst z; exact nD ha
  · have e:(st.sto++[so])[n]? = some so2:=e
    by_cases hn:n<st.sto.length
    · rw [List.getElem?_append_left hn] at e
      obtain ⟨a,h1,h2,h3⟩:=r.sto.at' n so2 e
      have na:a≠p:=fun z=>by subst z; exact nD (List.mem_of_getElem? h1)
      refine ⟨a,Ez h1,h2,?_⟩
      cases so2 with
      | dic ts=>obtain ⟨vs,x,y⟩:=h3; exact ⟨vs,by rw [ao na]; exact x,y.mono (Same.refl _) mo⟩
      | lst ts=>obtain ⟨vs,x,y⟩:=h3; exact ⟨vs,by rw [ao na]; exact x,y.mono (Same.refl _) mo⟩
      | dit ts=>obtain ⟨vs,x,y⟩:=h3; exact ⟨vs,by rw [ao na]; exact x,y.mono (Same.refl _) mo⟩
      | exc C f t=>obtain ⟨dx,v,x,g,y⟩:=h3; exact ⟨dx,v,by rw [ao na]; exact x,g,y.mono (Same.refl _) mo⟩
    · rw [List.getElem?_append_right (Nat.le_of_not_lt hn)] at e
      have hn0:n - st.sto.length=0:=by
        have:=(List.getElem?_eq_some_iff.mp e).1
        simp at this; omega
      rw [hn0] at e; cases e
      have hne:n=as.length:=by rw [r.sto.len]; omega
      subst hne
      exact ⟨p,by rw [List.getElem?_append_right (Nat.le_refl _),Nat.sub_self]; rfl,sD,h⟩
  · rw [← r.sto.len,List.getElem?_append_right (Nat.le_refl _),Nat.sub_self]; rfl
def PN (X:Cx) (e:Expr) (N:L2.St→V→Prop):Prop:=PE X e (fun σ H Q=>∃ v,N σ v∧Q v H)
def MN (K:PySem.W.Frag) (m:M T) (N:L2.St→V→Prop):Prop:=∀ (B:Bas) (st:Sta) (σ:L2.St) (H:Hp) (ps:List (V × T)) (S:Hp) (as:List Addr) (t:T) (st':Sta),Rel K B st σ H ps S as→m st=some (t,st')→st'=st∧∃ v,N σ v∧Rep K S as v t
structure PM (X:Cx) (e:Expr) (m:M T) (N:L2.St→V→Prop):Prop where
  p:PN X e N
  m:MN X.K m N
section
variable {X:Cx} {B:Bas} {a b e e1 e2:Expr} {m m1 m2:M T} {N N1 N2:L2.St→V→Prop} {pos p:Pos}
end
end C
end
section
namespace C
open PySem PySem.Spec PyProof.Rows L2
inductive Ks:List Expr→List Str→Prop where
  | nil:Ks [] []
  | cons {x:Str} {k:Nat} {q:Pos} {es:List Expr} {xs:List Str}:Ks es xs→Ks (.Constant (.str x) k q::es) (x::xs)
section
variable {X:Cx} {B:Bas} {a b c e o k:Expr} {m m1 m2:M T} {pos p p2:Pos}
end
end C
end
section
namespace C
open PySem
mutual
theorem mq:∀ (t:T) {d:PyData},dat t=some d→d.canLay0=true
  | .non,_,h=>by simp only [dat] at h; cases h; simp only [PyData.canLay0]
  | .bl b,_,h=>by simp only [dat] at h; cases h; simp only [PyData.canLay0]
  | .int i,_,h=>by simp only [dat] at h; cases h; simp only [PyData.canLay0]
  | .str x,_,h=>by
    simp only [dat] at h
    split at h
    · rename_i hx; cases h; exact hx
    · cases h
  | .tup xs,_,h=>by
    simp only [dat] at h
    obtain ⟨l,e1,e2⟩:=Option.map_eq_some_iff.mp h
    subst e2
    simp only [PyData.canLay0]
    exact Ae xs e1
  | .lst xs,_,h=>by
    simp only [dat] at h
    obtain ⟨l,e1,e2⟩:=Option.map_eq_some_iff.mp h
    subst e2
    simp only [PyData.canLay0]
    exact Ae xs e1
  | .dic _,_,h=>by simp only [dat] at h; cases h
  | .obj _,_,h=>by simp only [dat] at h; cases h
theorem Ae:∀ (ts:List T) {l:List PyData},yx ts=some l→PyData.canLayAll0 l=true
  | [],_,h=>by simp only [yx] at h; cases h; simp only [PyData.canLayAll0]
  | x::r,_,h=>by
    simp only [yx] at h
    split at h
    · rename_i a ea
      obtain ⟨l,e1,e2⟩:=Option.map_eq_some_iff.mp h
      subst e2
      simp only [PyData.canLayAll0]
      rw [mq x ea,Ae r e1]; rfl
    · cases h
end
theorem Hr {x:T} {r:List T} {l:List PyData} (h:yx (x::r)=some l):∃ a l',dat x=some a∧yx r=some l'∧l=a::l':=by
  simp only [yx] at h
  split at h
  · rename_i a ea
    obtain ⟨l,e1,e2⟩:=Option.map_eq_some_iff.mp h
    exact ⟨a,l,ea,e1,e2.symm⟩
  · cases h
theorem Fx {t u:T} {b:Bool} (h:eqD t u=some b):∃ x y,dat t=some x∧dat u=some y∧x.depth≤40∧b=PyData.eqv x y:=by
  unfold eqD at h
  split at h
  · rename_i x ex
    split at h
    · rename_i y ey
      split at h
      · rename_i hd; cases h; exact ⟨x,y,ex,ey,hd,rfl⟩
      · cases h
    · cases h
  · cases h
theorem Lg {t u:T} {b:Bool} (h:eqT t u=some b):(∃ x y,t=.dic x∧u=.dic y∧((x.length=y.length∧Ms x y=some b)∨(x.length≠y.length∧b=false)))∨eqD t u=some b:=by
  unfold eqT at h
  split at h
  · split at h
    · rename_i hl; exact .inl ⟨_,_,rfl,rfl,.inl ⟨hl,h⟩⟩
    · rename_i hl; cases h; exact .inl ⟨_,_,rfl,rfl,.inr ⟨hl,rfl⟩⟩
  · exact .inr h
end C
end
section
namespace C
open PySem PySem.Spec PyProof.Rows L2
section
variable {X:Cx} {pins:List (Addr × Obj)} {σ:L2.St} {H S:Hp} {s:Shared} {as:List Addr}
theorem Fo (I:L2.Inv X pins σ H s) (sub:Same S H):(∀ {v:V} {t:T},Rep X.K S as v t→∀ {d:PyData} {u:Value},dat t=some d→RelV v u→∃ bs,Reads s.heap u d bs)∧∀ {vs:List V} {ts:List T},kj X.K S as vs ts→∀ {ds:List PyData} {us:List Value},yx ts=some ds→Vals vs us→∃ bs,ReadsAll s.heap us ds bs:=by
  have tp:∀ {a:Addr} {vs:List V} {ts:List T},SqT X.K S a vs→kj X.K S as vs ts→(∀ {ds:List PyData} {us:List Value},yx ts=some ds→Vals vs us→∃ bs,ReadsAll s.heap us ds bs)→∀ {d:PyData} {u:Value},dat (.tup ts)=some d→RelV (.ref a) u→∃ bs,Reads s.heap u d bs:=by
    intro a vs ts h _ q d u e r
    simp only [dat] at e
    obtain ⟨l,e1,e2⟩:=Option.map_eq_some_iff.mp e
    subst e2
    cases r
    obtain ⟨its,rv,⟨o,h1,h2,n,h3⟩,_⟩:=I.tuple (j9 sub h)
    obtain ⟨bs,rb⟩:=q e1 rv
    exact ⟨_,.tuple h1 h2 h3 rb⟩
  have ls:∀ {a:Addr} {vs:List V} {ts:List T},SqL X.K S a vs→kj X.K S as vs ts→(∀ {ds:List PyData} {us:List Value},yx ts=some ds→Vals vs us→∃ bs,ReadsAll s.heap us ds bs)→∀ {d:PyData} {u:Value},dat (.lst ts)=some d→RelV (.ref a) u→∃ bs,Reads s.heap u d bs:=by
    intro a vs ts h _ q d u e r
    simp only [dat] at e
    obtain ⟨l,e1,e2⟩:=Option.map_eq_some_iff.mp e
    subst e2
    cases r
    obtain ⟨its,rv,⟨o,n,h1,h2,_,h3⟩,_⟩:=I.list (jl sub h)
    obtain ⟨bs,rb⟩:=q e1 rv
    exact ⟨_,.list h1 h2 h3 rb⟩
  have st:∀ (x:Str) {d:PyData} {u:Value},dat (.str x)=some d→RelV (.str x) u→∃ bs,Reads s.heap u d bs:=by
    intro x d u e r
    simp only [dat] at e
    split at e
    · cases e; obtain ⟨t,rfl⟩:=r; exact ⟨_,.str x t⟩
    · cases e
  have cn:∀ {v:V} {t:T} {vs:List V} {ts:List T},Rep X.K S as v t→kj X.K S as vs ts→(∀ {d:PyData} {u:Value},dat t=some d→RelV v u→∃ bs,Reads s.heap u d bs)→(∀ {ds:List PyData} {us:List Value},yx ts=some ds→Vals vs us→∃ bs,ReadsAll s.heap us ds bs)→∀ {ds:List PyData} {us:List Value},yx (t::ts)=some ds→Vals (v::vs) us→∃ bs,ReadsAll s.heap us ds bs:=by
    intro v t vs ts _ _ h q ds us e r
    obtain ⟨a,l,e1,e2,e3⟩:=Hr e
    subst e3
    cases r with
    | cons r1 r2 =>
      obtain ⟨b1,x1⟩:=h e1 r1
      obtain ⟨b2,x2⟩:=q e2 r2
      exact ⟨_,.cons x1 x2⟩
  have nl:∀ {ds:List PyData} {us:List Value},yx []=some ds→Vals [] us→∃ bs,ReadsAll s.heap us ds bs:=by
    intro ds us e r; simp only [yx] at e; cases e; cases r; exact ⟨_,.nil⟩
  have no:∀ {d:PyData} {u:Value},dat .non=some d→RelV .non u→∃ bs,Reads s.heap u d bs:=by
    intro d u e r; simp only [dat] at e; cases e; cases r; exact ⟨_,.none⟩
  have bo:∀ (b:Bool) {d:PyData} {u:Value},dat (.bl b)=some d→RelV (.bl b) u→∃ bs,Reads s.heap u d bs:=by
    intro b d u e r; simp only [dat] at e; cases e; cases r; exact ⟨_,.bool b⟩
  have it:∀ (i:Int) {d:PyData} {u:Value},dat (.int i)=some d→RelV (.int i) u→∃ bs,Reads s.heap u d bs:=by
    intro i d u e r; simp only [dat] at e; cases e; obtain ⟨t,rfl⟩:=r; exact ⟨_,.int i t⟩
  have di:∀ {a:Addr} {ts:List (L2.Key × T)} {d:PyData} {u:Value},dat (.dic ts)=some d→RelV (.ref a) u→∃ bs,Reads s.heap u d bs:=by
    intro a ts d u e; simp only [dat] at e; cases e
  have ob:∀ {a:Addr} {n:Nat} {d:PyData} {u:Value},dat (.obj n)=some d→RelV (.ref a) u→∃ bs,Reads s.heap u d bs:=by
    intro a n d u e; simp only [dat] at e; cases e
  exact ⟨fun h=>Rep.rec (motive_1:=fun v t _=>∀ {d:PyData} {u:Value},dat t=some d→RelV v u→∃ bs,Reads s.heap u d bs) (motive_2:=fun vs ts _=>∀ {ds:List PyData} {us:List Value},yx ts=some ds→Vals vs us→∃ bs,ReadsAll s.heap us ds bs) (motive_3:=fun _ _ _=>True) no bo it st tp ls (fun _ _ _=>di) (fun _=>ob) nl cn trivial (fun _ _ _ _=>trivial) h,
    fun h=>kj.rec (motive_1:=fun v t _=>∀ {d:PyData} {u:Value},dat t=some d→RelV v u→∃ bs,Reads s.heap u d bs) (motive_2:=fun vs ts _=>∀ {ds:List PyData} {us:List Value},yx ts=some ds→Vals vs us→∃ bs,ReadsAll s.heap us ds bs) (motive_3:=fun _ _ _=>True) no bo it st tp ls (fun _ _ _=>di) (fun _=>ob) nl cn trivial (fun _ _ _ _=>trivial) h⟩
theorem Rep.reads (I:L2.Inv X pins σ H s) (sub:Same S H) {v:V} {t:T} (h:Rep X.K S as v t) {d:PyData} {u:Value} (e:dat t=some d) (r:RelV v u):∃ bs,Reads s.heap u d bs:=(Fo I sub).1 h e r
theorem Nu (I:L2.Inv X pins σ H s) (sub:Same S H) {x y:V} {t u:T} {v w:Value} {b:Bool} {A:Around} (hx:Rep X.K S as x t) (hy:Rep X.K S as y u) (rx:RelV x v) (ry:RelV y w) (e:eqD t u=some b) (hu:A.units+40<cLine):SeqAt.EqAt A s v w b:=by
  obtain ⟨dx,dy,e1,e2,hd,rfl⟩:=Fx e
  obtain ⟨b1,x1⟩:=hx.reads I sub e1 rx
  obtain ⟨b2,x2⟩:=hy.reads I sub e2 ry
  exact SeqAt.eqAt_reads dx dy A s v w b1 b2 x1 x2 (mq _ e1) (mq _ e2) (by have:=Nat.min_le_left dx.depth dy.depth; (clear this x2 x1 e e2 e1 ry rx hy hx sub I; omega))
theorem Hq (I:L2.Inv X pins σ H s) (sub:Same S H) {A:Around} (hu:A.units+40<cLine) {kb:List (L2.Key × V)} {ub:List (L2.Key × T)} {wb:List (L2.Key × Value)} (rb:wg X.K S as kb ub) (vb:KV kb wb) :
    ∀ {ka:List (L2.Key × V)} {ua:List (L2.Key × T)} {wa:List (L2.Key × Value)} {r:Bool},wg X.K S as ka ua→KV ka wa→Ms ua ub=some r→PySem.W.KeqHits A s wb wa r
  | _,[],_,_,h0,va,e=>by
    cases h0
    simp only [Ms] at e; cases e
    cases va
    exact .nil
  | _,(k,_)::_,_,_,h0,va,e=>by
    cases h0 with | cons h q=>?_
    simp only [Ms] at e
    cases va with
    | @cons _ p2 _ _ hp hr =>
      obtain ⟨pk,pv⟩:=p2
      obtain ⟨ek,rv⟩:=hp
      dsimp only at ek rv
      subst ek
      rcases rb.get k with ⟨z,t',a1,a2,a3⟩ | ⟨a1,a2⟩
      · rw [a2] at e
        dsimp only at e
        have rel:=KV.val vb k
        rw [a1] at rel
        obtain ⟨w',hw,rw'⟩:=Dh.some_of rel
        split at e
        · rename_i eb he
          obtain ⟨b',e1,e2⟩:=Option.map_eq_some_iff.mp e
          subst e2
          exact .hit hw (Nu I sub h a3 rv rw' he hu) (Hq I sub hu rb vb q hr e1)
        · cases e
      · rw [a2] at e
        cases e
        have rel:=KV.val vb k
        rw [a1] at rel
        exact .miss (Dh.none_of rel)
end
section
variable {X:Cx}
theorem Ay {op:CmpOp} {neg:Bool} (hop:(op=.Eq∧neg=false)∨(op=.NotEq∧neg=true)) {g:T→T→Option T} (hg:∀ t u w,g t u=some w→∃ b,eqT t u=some b∧w=.bl (xor neg b)) (hu:X.A.units+64<cLine):OpT X (compareOp op) g:=by
  intro pins s σ H x y v u Q I rx ry z8
  obtain ⟨S,as,t,t2,w,sub,ht,hu2,hf,q⟩:=z8
  obtain ⟨b,e,rfl⟩:=hg _ _ _ hf
  have fin:EP X pins σ Q (.bool (xor neg b)) s:=⟨.bl (xor neg b),H,I,rfl,q _ H S (Ext.refl sub) (.bl _)⟩
  rcases Lg e with ⟨xs,ys,rfl,rfl,hd⟩ | he
  · cases ht with
    | @dic a kvs _ g1 g2 =>
      cases hu2 with
      | @dic a' kvs' _ k1 k2 =>
        cases rx
        cases ry
        obtain ⟨z,hs,vs,rel,dd⟩:=Gx I.hok (m6 sub g1)
        obtain ⟨z',hs',vs',rel',dd'⟩:=Gx I.hok (m6 sub k1)
        have l1:vs.length=xs.length:=by rw [← rel.length]; exact g2.length
        have l2:vs'.length=ys.length:=by rw [← rel'.length]; exact k2.length
        have hu1:X.A.in1.units+40<cLine:=by show X.A.units+1+40<cLine; (clear l2 l1 dd' rel' hs' z' dd rel hs z k2 k1 g2 g1 hf e hd fin q sub I hg hop; omega)
        rcases hd with ⟨hl,eb⟩ | ⟨hl,rfl⟩
        · have hits:vs.length=vs'.length→PySem.W.KeqHits X.A.in1 s vs' vs b:=fun _=>Hq I sub hu1 k2 rel' g2 rel eb
          have el:(vs.length==vs'.length)=true:=by rw [l1,l2,hl]; exact beq_self_eq_true _
          rcases hop with ⟨rfl,rfl⟩ | ⟨rfl,rfl⟩
          · refine PySem.W.keq_eq hs hs' dd dd' (by (clear hf fin q hg el hits eb hl hu1 l2 l1 dd' rel' hs' z' dd rel hs z k2 k1 g2 g1 e sub I; omega)) hits ?_
            rw [el]; simpa using fin
          · refine PySem.W.keq_ne hs hs' dd dd' (by (clear hf fin q hg el hits eb hl hu1 l2 l1 dd' rel' hs' z' dd rel hs z k2 k1 g2 g1 e sub I; omega)) hits ?_
            rw [el]; simpa using fin
        · have hits:vs.length=vs'.length→PySem.W.KeqHits X.A.in1 s vs' vs true:=fun h=>absurd (by rw [← l1,← l2]; exact h) hl
          have el:(vs.length==vs'.length)=false:=by rw [l1,l2]; exact beq_eq_false_iff_ne.mpr hl
          rcases hop with ⟨rfl,rfl⟩ | ⟨rfl,rfl⟩
          · refine PySem.W.keq_eq hs hs' dd dd' (by (clear hf fin q hg el hits e hl hu1 l2 l1 dd' rel' hs' z' dd rel hs z k2 k1 g2 g1 sub I; omega)) hits ?_
            rw [el]; simpa using fin
          · refine PySem.W.keq_ne hs hs' dd dd' (by (clear hf fin q hg el hits e hl hu1 l2 l1 dd' rel' hs' z' dd rel hs z k2 k1 g2 g1 sub I; omega)) hits ?_
            rw [el]; simpa using fin
  · obtain ⟨dx,dy,e1,e2,hd,rfl⟩:=Fx he
    obtain ⟨b1,x1⟩:=ht.reads I sub e1 rx
    obtain ⟨b2,x2⟩:=hu2.reads I sub e2 ry
    have hm:X.A.units+min dx.depth dy.depth<cLine:=by have:=Nat.min_le_left dx.depth dy.depth; (clear this x2 x1 he fin q hf e e2 e1 hu2 ht sub ry rx I hg hop; omega)
    rcases hop with ⟨rfl,rfl⟩ | ⟨rfl,rfl⟩
    · exact SeqAt.compareEq_reads x1 x2 (mq _ e1) (mq _ e2) hm (by simpa using fin)
    · exact SeqAt.compareNe_reads x1 x2 (mq _ e1) (mq _ e2) hm (by simpa using fin)
theorem fu (hu:X.A.units+64<cLine):OpT X (compareOp .Eq) eqO:=Ay (.inl ⟨rfl,rfl⟩) (fun t u w h=>by
  unfold eqO at h
  split at h
  · rename_i b e; cases h; exact ⟨b,e,by simp⟩
  · cases h) hu
theorem Jm (hu:X.A.units+64<cLine):OpT X (compareOp .NotEq) neO:=Ay (.inr ⟨rfl,rfl⟩) (fun t u w h=>by
  unfold neO at h
  split at h
  · rename_i b e; cases h; exact ⟨b,e,by simp⟩
  · cases h) hu
end
end C
end
section
namespace C
open PySem PySem.Spec PyProof.Rows L2
def Ss (K:PySem.W.Frag) (ar:Nat) (F:Fn):Sp:=fun vs H Q _=>∃ S as sto ts t sto',Same S H∧qd K S as H sto∧kj K S as vs ts∧ts.length=ar∧F ts sto=some (t,sto') ∧
  ∀ p H' S' as',Mr ⟨S,as,H⟩ S' as' H'→Same S' H'→qd K S' as' H' sto'→Ge K ⟨S,as,H⟩ S' as' H' p t→Q (.ref p) H'
section
variable {X:Cx} {B:Bas} {a b c e:Expr} {m m1 m2:M T} {pos p:Pos} {u v:S} {es:List Expr} {ms:M (List T)} {k n:Nat} {f:Addr} {fd:FuncData} {pn:List Str} {F:Fn} {x:Str}
end
def Gg (P:Program) (w:World) (K:PySem.W.Frag) (mg:Str→Option Value) (base:Heap) (x:Str) (k:Nat) (ps:List Str) (F:Fn):Prop :=
  ∃ f fd,lq P w K mg base CX0 k f fd ps (Ss K ps.length F)∧Binds K fd ps []∧PySem.W.keepIn K (.ref f)=true∧mg x=some (.ref f)
theorem Gg.mono {P:Program} {w:World} {K:PySem.W.Frag} {mg:Str→Option Value} {base:Heap} {x:Str} {j k:Nat} {ps:List Str} {F:Fn} (d:Gg P w K mg base x j ps F) (h:j≤k):Gg P w K mg base x k ps F:=by
  obtain ⟨f,fd,h1,h2⟩:=d
  exact ⟨f,fd,h1.mono h,h2⟩
section
variable {X:Cx} {B:Bas} {a b c e:Expr} {m m1 m2:M T} {pos p:Pos} {es:List Expr} {ms:M (List T)} {n:Nat} {pn:List Str} {F:Fn} {x:Str}
end
section
variable {P:Program} {w:World} {K:PySem.W.Frag} {mg:Str→Option Value} {base:Heap}
end
end C
end
section
namespace C
open PySem PySem.Spec PyProof.Rows L2
section
variable {X:Cx} {B:Bas} {a b c e:Expr} {m m1 m2:M T} {pos p p2 pos2:Pos}
end
end C
namespace C
open PySem PySem.Spec PyProof.Rows L2
end C
end
section
namespace C
open PySem PySem.Spec PyProof.Rows L2
section
variable {X:Cx} {B:Bas} {a b c e lo hi:Expr} {m m1 m2 ml mh:M T} {pos p p2:Pos}
end
end C
end
section
namespace C
open PySem PySem.Spec PyProof.Rows L2
section
variable {X:Cx} {B:Bas} {a b c e o k:Expr} {m mo mk mv:M T} {pos p:Pos}
end
end C
end
section
namespace C
open PySem PySem.Spec PyProof.Rows L2
section
variable {X:Cx} {B:Bas} {pins:List (Addr × Obj)} {σ:L2.St} {H S:Hp} {s:Shared} {as:List Addr} {Q:VK}
end
end C
end
section
namespace C
open PySem PySem.Spec PyProof.Rows L2
section
variable {prog:Program} {w:World} {A:Around} {E:Value→Shared→Prop} {s:Shared}
end
end C
end
section
namespace C
open PySem PySem.Spec PyProof.Rows L2
section
variable {prog:Program} {w:World} {A:Around} {R:Result→Shared→Prop} {I:Addr} {fp wr:List Addr} {G:Array GenState→Array GenState→Prop} {n:Nat} {P:Nat→Value→Prop} {St:Nat→Shared→Prop} {κ:Type} [DecidableEq κ] {knd:PySem.KeyKind prog w κ}
end
end C
end
section
namespace C
open PySem PySem.Spec PyProof.Rows L2
section
variable {prog:Program} {w:World} {A:Around} {E:Value→Shared→Prop} {s:Shared} {κ:Type} [DecidableEq κ] {knd:PySem.KeyKind prog w κ}
end
end C
end
section
namespace C
open PySem PySem.Spec PyProof.Rows L2
section
variable {X:Cx} {pins:List (Addr × Obj)} {σ:L2.St} {H S:Hp} {s:Shared} {as:List Addr}
inductive v7 (h:Heap) (prog:Program) (w:World):List Value→List L2.Key→List Value→Prop where
  | nil:v7 h prog w [] [] []
  | cons {t:Addr} {kx wv:Value} {o:Obj} {n:Nat} {q:L2.Key} {us:List Value} {qs:List L2.Key} {ws:List Value}:h.get? t=some o→o.cls=.type "tuple" → o.data=.seq #[kx,wv] n→(jq prog w).is q kx=true →
      v7 h prog w us qs ws→v7 h prog w (.ref t::us) (q::qs) (wv::ws)
theorem v7.len {h:Heap} {prog:Program} {w:World}:∀ {us:List Value} {qs:List L2.Key} {ws:List Value},v7 h prog w us qs ws→us.length=qs.length∧us.length=ws.length:=by
  intro us qs ws h
  induction h with
  | nil=>exact ⟨rfl,rfl⟩
  | cons _ _ _ _ _ ih=>exact ⟨congrArg (· + 1) ih.1,congrArg (· + 1) ih.2⟩
end
section
variable {X:Cx} {B:Bas} {a:Expr} {m:M T} {pos p:Pos}
end
end C
end
section
namespace C
open PySem PySem.Spec PyProof.Rows L2
end C
end
section
namespace C
open PySem
end C
end
section
namespace C
open PySem PySem.Spec PyProof.Rows L2
section
variable {X:Cx} {B:Bas} {c e:Expr} {m:M T} {pos p:Pos} {u:S} {body:List Stmt}
end
end C
end
section
namespace C
open PySem PySem.Spec PyProof.Rows L2
section
variable {X:Cx} {B:Bas} {e st:Expr} {te:TE} {m:M T} {pos p2 p3 p4:Pos} {j:Nat}
end
end C
end
section
namespace C
open PySem PySem.Spec PyProof.Rows L2
section
variable {X:Cx} {B:Bas} {a:Expr} {m:M T} {pos p:Pos}
end
end C
end
section
namespace C
open PySem
def Q7:M (Option Int):=fun s=>some (none,s)
def Lh (e:M T):M (Option Int):=fun s=>match e s with
  | some (.int i,s1)=>some (some i,s1)
  | _=>none
end C
end
section
namespace C
open PySem PySem.Sem
def Qw:Bool→Heap→Addr→Addr→Nat→Prop
  | true,h,it,a,i=>h.IsListIter it a i
  | false,h,it,a,i=>h.IsTupleIter it a i
def Py:Bool→Heap→Addr→Array Value→Prop
  | true,h,a,xs=>h.IsList a xs
  | false,h,a,xs=>h.IsTuple a xs
theorem Qw.obj {k:Bool} {h:Heap} {it a:Addr} {i:Nat} (x:Qw k h it a i):∃ o,h.get? it=some o∧∀ v,o.data≠.cell v:=by
  cases k <;> obtain ⟨o,ho,_,d⟩:=x <;> exact ⟨o,ho,fun v z=>by rw [d] at z; cases z⟩
section
variable {prog:Program} {w:World} {A:Around} {E:Value→Shared→Prop} {s:Shared}
end
structure Sw (h:Heap) (z ti to' i1 i2:Addr) (f:Value):Prop where
  zip:IsZip h z ti to' f
  its:IsPair h ti (.ref i1) (.ref i2)
  kept:∃ a b,IsPair h to' a b
structure Far (z ti to' i1 i2:Addr):Prop where
  nd:[z,ti,to',i1,i2].Nodup
section
variable {prog:Program} {w:World} {A:Around} {E:Value→Shared→Prop} {s:Shared}
end
section
variable {prog:Program} {w:World} {A:Around} {E:Value→Shared→Prop} {s:Shared}
end
end C
end
section
namespace C
open PySem PySem.Spec PyProof.Rows L2
def Sq:Bool→PySem.W.Frag→Hp→Addr→List V→Prop
  | true,K,H,a,xs=>SqL K H a xs
  | false,K,H,a,xs=>SqT K H a xs
section
variable {X:Cx} {pins:List (Addr × Obj)} {σ:L2.St} {H:Hp} {s:Shared} {a:Addr} {xs ys:List V} {k:Bool}
theorem Sq.row (I:L2.Inv X pins σ H s) (h:Sq k X.K H a xs):∃ its:List Value,Vals xs its∧Py k s.heap a its.toArray:=by
  cases k with
  | true=>obtain ⟨its,r,p,_⟩:=I.list h; exact ⟨its,r,p.isList⟩
  | false=>obtain ⟨its,r,p,_⟩:=I.tuple h; exact ⟨its,r,p⟩
end
section
variable {X:Cx} {B:Bas} {a b:Expr} {m m1 m2:M T} {pos p:Pos} {elts:List Expr} {x1:Nat} {tpos:Pos}
theorem Sq.mono {k:Bool} {K:PySem.W.Frag} {S H:Hp} {a:Addr} {vs:List V} (e:Same S H) (h:Sq k K S a vs):Sq k K H a vs:=by
  cases k with
  | true=>exact jl e h
  | false=>exact j9 e h
end
end C
end
section
namespace C
open PySem PySem.Spec PyProof.Rows L2
section
variable {X:Cx}
variable {B:Bas} {o e:Expr} {m1 m2:M T} {apos cpos:Pos}
end
end C
end
section
namespace C
open PySem PySem.Spec PyProof.Rows L2
inductive oOf (K:PySem.W.Frag) (B:Bas) (m:M (Option Int)) (σ:L2.St) (H:Hp) (Q:Option Int→Hp→Prop):Prop
  | mk (st:Sta) (ps:List (V × T)) (S:Hp) (as:List Addr) (R:Rel K B st σ H ps S as) (o:Option Int) (st':Sta) (e:m st=some (o,st')) (q:∀ H' S' as',Rel K B st' σ H' ps S' as'→Q o H')
section
variable {X:Cx} {B:Bas} {a e:Expr} {m:M T} {ml mh:M (Option Int)} {lo hi:Option Expr} {pos p2:Pos}
theorem Ln:PO X none (oOf X.K B Q7):=fun pins s σ H Q I ⟨st,ps,S,as,R,o,st',e,q⟩=>Lq pins s σ H Q I (by cases e; exact q H S as R)
theorem Jw (h:PE X e (tOf X.K B m)):PO X (some e) (oOf X.K B (Lh m)):=fun pins s σ H Q I z9=>Kq h pins s σ H Q I (by
  obtain ⟨st,ps,S,as,R,o,st',eo,q⟩:=z9
  unfold Lh at eo
  split at eo
  · rename_i i s1 e1
    cases eo
    refine ⟨st,ps,S,as,R,.int i,_,e1,fun v H1 S1 as1 R1=>?_⟩
    cases R1.top
    exact ⟨i,rfl,q H1 S1 as1 R1.drop⟩
  · cases eo)
end
section
variable {prog:Program} {w:World} {A:Around} {E:Value→Shared→Prop} {s:Shared}
end
section
variable {X:Cx} {B:Bas} {e:Expr} {te:TE} {m m1 m2:M T} {pos p p2 p3 p4:Pos} {j:Nat}
end
end C
end
section
end
section
namespace C
open PySem PySem.Spec L2
def Held (K:PySem.W.Frag) (u:Value) (t:T):Prop:=∃ v,RelV v u∧∀ S as,Rep K S as v t
def Bx (K:PySem.W.Frag) (us:List Value) (ts:List T):Prop:=∃ vs,Vals vs us∧∀ S as,kj K S as vs ts
section
variable {K:PySem.W.Frag}
theorem Held.int {i:Int} {tk:Tok}:Held K (.int i tk) (.int i):=⟨.int i,⟨tk,rfl⟩,fun _ _=>.int i⟩
theorem Held.str {x:Str} {tk:Tok}:Held K (.str x tk) (.str x):=⟨.str x,⟨tk,rfl⟩,fun _ _=>.str x⟩
theorem Held.bl {b:Bool}:Held K (.bool b) (.bl b):=⟨.bl b,rfl,fun _ _=>.bl b⟩
theorem Held.non:Held K .none .non:=⟨.non,rfl,fun _ _=>.non⟩
theorem Bx.nil:Bx K [] []:=⟨[],.nil,fun _ _=>.nil⟩
theorem Bx.cons {u:Value} {t:T} {us:List Value} {ts:List T} (h:Held K u t) (hs:Bx K us ts):Bx K (u::us) (t::ts):=by
  obtain ⟨v,r,e⟩:=h
  obtain ⟨vs,rs,es⟩:=hs
  exact ⟨v::vs,.cons r rs,fun S as=>.cons (e S as) (es S as)⟩
theorem Held.tup {a:Addr} {us:List Value} {n:Nat} {sl:Array (Option Value)} {ts:List T} (h:K.lookup a=some ⟨.type "tuple",none,.seq us.toArray n,sl⟩) (hz:us.length≤1000) (hs:Bx K us ts):Held K (.ref a) (.tup ts):=by
  obtain ⟨vs,rs,es⟩:=hs
  refine ⟨.ref a,rfl,fun S as=>.tup (.inr ⟨_,us.toArray,n,h,rfl,rfl,rfl,?_,?_⟩) (es S as)⟩
  · rw [List.size_toArray,sizeLine_eq]; omega
  · exact rs
theorem Held.lst {a:Addr} {us:List Value} {n:Nat} {sl:Array (Option Value)} {ts:List T} (h:K.lookup a=some ⟨.type "list",none,.seq us.toArray n,sl⟩) (hz:us.length≤1000) (hs:Bx K us ts):Held K (.ref a) (.lst ts):=by
  obtain ⟨vs,rs,es⟩:=hs
  refine ⟨.ref a,rfl,fun S as=>.lst (.inr ⟨_,us.toArray,n,h,rfl,rfl,rfl,?_,?_⟩) (es S as)⟩
  · rw [List.size_toArray,sizeLine_eq]; omega
  · exact rs
end
section
variable {X:Cx} {B:Bas} {pos:Pos}
end
end C
end
section
namespace C
open PySem PySem.Spec PyProof.Rows
section
variable {prog:Program} {w:World} {A:Around} {E:Value→Shared→Prop} {s:Shared}
end
end C
end
section
namespace C
open PySem PySem.Spec PyProof.Rows
section
variable {prog:Program} {w:World} {A:Around} {R:Result→Shared→Prop} {I:Addr} {fp wr:List Addr} {G:Array GenState→Array GenState→Prop} {n:Nat} {P:Nat→Value→Prop} {St:Nat→Shared→Prop} -- here
end
section
variable {prog:Program} {w:World} {A:Around} {E:Value→Shared→Prop} {s:Shared}
end
end C
end
section
namespace C
open PySem PySem.Spec PyProof.Rows
section
variable {prog:Program} {w:World} {A:Around} {E:Value→Shared→Prop} {s:Shared}
end
end C
end
section
namespace C
open PySem PySem.Spec PyProof.Rows
section
variable {prog:Program} {w:World} {A:Around} {E:Value→Shared→Prop} {s:Shared}
end
end C
end
section
namespace C
open PySem PySem.Spec PyProof.Rows
section
variable {prog:Program} {w:World} {A:Around} {E:Value→Shared→Prop} {s:Shared} {I a:Addr} {i n ep:Nat} {o:Obj} {es:Array (Int × Value)} {t:SetTable} {Q:Option Value→Shared→Prop}
end
end C
end
section
namespace C
open PySem PySem.Spec PyProof.Rows
section
variable {prog:Program} {w:World} {A:Around} {E:Value→Shared→Prop} {s:Shared} {I a q:Addr} {i n ep:Nat} {o:Obj} {es:Array (Int × Value)} {t:SetTable} {Q:Option Value→Shared→Prop} {ps:List Nat}
end
end C
end
section
namespace C
open PySem PySem.Spec PyProof.Rows
section
variable {prog:Program} {w:World} {A:Around} {E:Value→Shared→Prop} {s:Shared} {I a q:Addr} {n ep:Nat} {o:Obj} {es:Array (Int × Value)} {t:SetTable} {ps:List Nat}
end
end C
end
section
namespace C
open PySem PySem.Spec PyProof.Rows
section
variable {prog:Program} {w:World} {A:Around} {E:Value→Shared→Prop} {s:Shared} {a:Addr} {o:Obj} {l:List Str}
end
end C
end
section
namespace C
open PySem PySem.Spec PyProof.Rows
section
variable {prog:Program} {w:World} {A:Around} {E:Value→Shared→Prop} {s:Shared} {a:Addr} {o:Obj} {l:List Str}
end
end C
end
section
namespace C
open PySem PySem.Spec PyProof.Rows L2
section
variable {X:Cx} {B:Bas} {e:Expr} {m1:M T} {p1 p2 p3 p4:Pos}
end
end C
end
section
namespace C
open PySem PySem.Spec PyProof.Rows L2
open AutoSeq1 (wpAny_loadPart') -- here
open MeetsSeq MeetsSeq2 MeetsSeq3 -- here
section
variable {prog:Program} {w:World} -- here
end
section
variable {X:Cx} {pins:List (Addr × Obj)} {σ:L2.St} {H S:Hp} {s:Shared} {as:List Addr}
end
end C
end
section
namespace C
open PySem PySem.Spec PyProof.Rows L2
theorem Li {K:PySem.W.Frag} {F:Fn} {H:Hp} {a:Addr} {ns:List Int} (hS:SqL K H a (ns.map V.int)) (hE:∃ st,F [.lst (ns.map T.int)] []=some (.bl true,st)):spF K 1 F [.ref a] H (fun v _=>v=.bl true) fun _ _ _=>False:=by
  obtain ⟨st,hF⟩:=hE
  have reps:∀ (S:Hp) (l:List Int),kj K S [] (l.map V.int) (l.map T.int):=fun S l=>by
    induction l with
    | nil=>exact .nil
    | cons x l ih=>exact .cons (.int x) ih
  let S:Hp:=fun p=>if p=a then H p else none
  have sa:S a=H a:=if_pos rfl
  have sub:Same S H:=fun p u h=>by
    by_cases e:p=a
    · subst e; rw [← sa]; exact h
    · have:S p=none:=if_neg e
      rw [this] at h; cases h
  have sq:SqL K S a (ns.map V.int):=by
    rcases hS with h | h
    · refine .inl ?_
      unfold Rd at h ⊢
      rw [sa]; exact h
    · exact .inr h
  refine ⟨S,[],[],[.lst (ns.map T.int)],.bl true,st,sub,⟨rfl,.nil,fun n so e=>by simp at e⟩,.cons (.lst sq (reps S ns)) .nil,rfl,hF,fun v H' S' as' _ _ _ r=>?_⟩
  cases r
  rfl
end C
end
section
namespace C
open PySem
end C
end
section
namespace C
open PySem
abbrev FnX:=List T→List SO→Option ((T ⊕ T) × List SO)
abbrev SX:=Sta→Option ((Flow ⊕ T) × Sta)
def lx (u:S):SX:=fun s=>match u s with
  | some (fl,s1)=>some (.inl fl,s1)
  | none=>none
def lu (a b:SX):SX:=fun s=>match a s with
  | some (.inl .next,s1)=>b s1
  | r=>r
def xIf (c:M Bool) (a b:SX):SX:=fun s=>match c s with
  | some (true,s1)=>a s1
  | some (false,s1)=>b s1
  | none=>none
def jo (m:M T):SX:=fun s=>match m s with
  | some (t,s1)=>some (.inr t,s1)
  | none=>none
def ju (n:Nat) (b:SX):FnX:=fun ts sto=>match b ⟨ts.map (fun t=>some (t,false))++List.replicate (n - ts.length) none,sto⟩ with
  | some (.inl (.ret t),s)=>some (.inl t,s.sto)
  | some (.inl .next,s)=>some (.inl .non,s.sto)
  | some (.inr t,s)=>some (.inr t,s.sto)
  | _=>none
def clr (i:Nat) (s:Sta):Sta:={ s with env:=s.env.set i none }
end C
end
section
namespace C
open PySem
def zj (x:Str) (i:Int):Str:=if ((1:Int)==1&&(slicePicked x (some (i,0)) none none).length==x.length)=true then x else ⟨(List.filterMap (fun k=>x.cps[k]?) (slicePicked x (some (i,0)) none none)).toArray⟩
def Kc:T→T→Option T
  | .str x,.int i=>if (zj x i).length<lim then some (.str (zj x i)) else none
  | _,_=>none
def vq (c:Nat) (f:Str) (a:M T):M T:=fun s=>match a s with
  | some (t,s1)=>some (.obj s1.sto.length,{ s1 with sto:=s1.sto++[.exc c f t] })
  | none=>none
def mXf (c:Nat) (f:Str) (m:M T):M T:=fun s=>match m s with
  | some (.obj n,s1)=>match s1.sto[n]? with
    | some (.exc d g t)=>if d=c∧g=f then some (t,s1) else none
    | _=>none
  | _=>none
def Bp (tb:List (Nat × Str × Bool)) (m:M T):M T:=fun s=>match m s with
  | some (.obj n,s1)=>match s1.sto[n]? with
    | some (.exc d g _)=>match tb.find? (fun p=>p.1==d&&p.2.1==g) with
      | some p=>some (.bl p.2.2,s1)
      | none=>none
    | _=>none
  | _=>none
def jr (c:Nat) (f:Str) (F:FnX) (a:M (List T)) (i j:Nat):S:=fun s=>match a s with
  | some (ts,s1)=>match F ts s1.sto with
    | some (.inr t,sto)=>some (.next,clr i (j5 j (.obj sto.length) false (clr i { s1 with sto:=sto++[.exc c f t] })))
    | _=>none
  | none=>none
def Gu (i:Nat) (l:List S):S:=fun s=>match s.env[i]? with
  | some (some (.int k,false))=>match l[k.toNat]? with
    | some u=>u s
    | none=>none
  | _=>none
end C
end
section
namespace My
open PySem PySem.W PySem.Calls PyProof.Rows PySem.Spec
abbrev vB:List Value:=[.type "ValueError",.type "Exception",.type "BaseException",.type "object"]
theorem Q8 {K:Frag} {h:Heap} {D:Addr} {newId:String} (X:K.In h) (q:excIn K D vB newId=true):OwnTail h vB (.ref D::vB):=by
  refine tail_of_in X ?_
  unfold excIn at q
  unfold tailIn
  split at q
  · rename_i dd cd sl ho
    split at q
    · simp only [Bool.and_eq_true] at q
      dsimp only
      rw [ho]
      dsimp only
      rw [q.1.2,q.2]
      have z:tailIn K vB vB=true:=by unfold tailIn; rfl
      rw [z]
      simp
    · cases q
  · cases q
abbrev Gd (C t:Addr):Obj:={ cls:=.ref C,data:=.fields #[.ref t,.none,.none,.none,.bool false,.none] }
abbrev Jr (vs:List Value):Obj:={ cls:=.type "tuple",data:=.seq vs.toArray }
section
variable {prog:Program} {w:World} {A:Around} {E:Value→Shared→Prop} {s:Shared} {h₀:Heap} {L:Addr} {m:Str→Option Value} {news:List (Addr × Obj)} {K:Frag}
variable {nm q:Str} {C D Na:Addr} {bs:List Value} {hdct:Bool} {sn:List Str} {sub:List Value} {ab:Bool} {col:Option Bool} {dd:Option Addr} {k0 k1 k2 k3 k5:Option Value}
theorem xu {h:Heap} {g:Array GenState} {d:Drawn} {t:Nat} {os:OsState} {rest:List Value} {fI:Addr} {R:Fin→Shared→Prop} (X:K.In h)
    (hC:h.get? C=some (excClassObj nm q C Na bs (.ref D::vB) hdct sn sub ab col dd k0 k1 k2 k3 k5 "ValueError.__new__")) (T:OwnTail h vB (.ref D::vB))
    (hi:findIn K (.ref C) "__init__" = some (some (.ref fI))) (hf:typeIn K (.ref fI)=some (.type "function")) -- here
    (hq:wpAny (model prog w) A (call (.ref fI) (.ref (h.objs.size+1)::rest)) (fun r s'=>r=.none∧R (.done (.ret (.ref (h.objs.size+1)))) s') E ⟨(h.push (Jr rest)).push (Gd C h.objs.size),g,d,t,os⟩) (hrest:rest.length≤sizeLine) :
    wpAny (model prog w) A (Builtin.«type.__call__» ⟨.ref C::rest,[]⟩) R E ⟨h,g,d,t,os⟩:=by
  have Fv:=PySem.F.excBase_ValueError
  have hv:vB.contains (.type "ValueError")=true:=by decide
  repeat (first | with_reducible refine wpAny_loadPart_at hC ?_ | with_reducible refine wpAny_madeBy_exc hC ?_ | wp_step) -- here
  refine codeAny_call_builtin_code (Code.quiet_builtin _ Fv.quiet) (wpAny_check_new_subU Fv hv T hC ?_)
  refine codeAny_exc_new_subU Fv hv Fv T hC ?_ hrest
  show wpAny _ _ _ _ _ _
  have kp:∀ b o,h.get? b=some o→((h.push (Jr rest)).push (Gd C h.objs.size)).get? b=some o:=fun b o e=>Heap.get?_push_of_some _ (Heap.get?_push_of_some _ e)
  have X1:=X.keeps kp
  have hget:((h.push (Jr rest)).push (Gd C h.objs.size)).get? (h.objs.size+1)=some (Gd C h.objs.size):=by heap_get
  have hcC:(Value.ref C :: .ref D::vB).contains (.ref C)=true:=by simp
  have hC1:=kp _ _ hC
  unfold isInstance
  repeat (first | with_reducible refine wpAny_loadPart_at hget ?_ | (with_reducible refine wpAny_isSubtype_exc hC1 ?_; rw [hcC]) | wp_step)
  show wpAny _ _ (typeLookup (.ref C) _) _ _ _ -- here
  refine looks_findIn X1 hi _ _ _ _ (fun _ _ e=>e) ?_
  refine wpAny_holding (wpAny_bind ?_) -- here
  refine bind_fn X1 _ hf _ _ _ _ (fun _ _ e=>e) ?_
  refine wpAny_bind (wpAny_mono hq (fun r s' hr=>?_) fun _ _ x=>x)
  obtain ⟨rfl,hQ⟩:=hr
  wp_walk
  exact hQ
end
end My
end
section
namespace My
open PySem PySem.W PySem.Calls PyProof.Rows PySem.Spec Builtin.ObjectAttr
abbrev J5 (C t dx:Addr):Obj:={ cls:=.ref C,dict:=some dx,data:=.fields #[.ref t,.none,.none,.none,.bool false,.none] }
theorem Qd (self:Value):refuseLoop self "__setattr__" vB=pure ():=by kernel_rfl
section
variable {prog:Program} {w:World} {A:Around} {E:Value→Shared→Prop} {s:Shared} {h₀:Heap} {L:Addr} {m:Str→Option Value} {news:List (Addr × Obj)} {K:Frag} {x C D t:Addr} {cd:ClassData} {name:Str} {v:Value} {g:Obj→List (Addr × Obj)}
end
end My
end
section
namespace My
open PySem PySem.W PySem.Calls PyProof.Rows PySem.Spec Builtin.ObjectAttr
theorem Dc:builtinKind "BaseException.__getattribute__" = some .slot:=by decide +kernel
theorem Bb:splitId "BaseException.__getattribute__" = some ("BaseException","__getattribute__"):=by decide +kernel
section
variable {prog:Program} {w:World} {A:Around} {E:Value→Shared→Prop} {s:Shared} {K:Frag} {x C:Addr} {ox:Obj} {od:Option Obj} {name:Str} {v:Value} {expr:Bool}
theorem Ja {Q:Value→Shared→Prop} (X:K.In s.heap) (I:InstAt s.heap x ox C od) (hga:findIn K (.ref C) "__getattribute__" = some (some (.builtin "BaseException.__getattribute__")))
    (hgt:findIn K (.ref C) "__getattr__" = some none) (hb:mroIn K C (.type "BaseException")=some true) (hf:findObj K C od name=some (.value v)) (hh:handedIn v=true) (h:Q v { s with toks:=s.toks+1 }) :
    wpAny (model prog w) A (getAttr (.ref x) name expr) Q E s:=by
  obtain ⟨hp,g,d,tk,os⟩:=s -- here
  have FB:=PySem.F.excAttr_ValueError
  have f3:=FB.ga.bind (.ref x)
  have L0:=I.type (M:=model prog w) -- here
  have L1:=looks_findIn (M:=model prog w) X hga -- here
  have L2:=looks_findIn (M:=model prog w) X hgt
  have L3:=looks_find (M:=model prog w) X I hf
  have L4:Looks (model prog w) hp (isInstance (.ref x) (.type "BaseException")) true:=I.type.andThen (looks_mroIn X hb)
  have hx0:(expr&&onTheHeap (Value.builtin "BaseException.__getattribute__"))=false:=by cases expr <;> rfl -- here
  have hx2:(Value.builtin "BaseException.__getattribute__" == Value.builtin "object.__getattribute__")=false:=by decide +kernel -- here
  unfold getAttr getAttrBy
  refine wpAny_bind (wpAny_mkText (wpAny_holding (wpAny_bind (L0.at (wpAny_bind (L1.at ?_)))))) -- here
  dsimp only
  rw [hx2,Bool.and_false]
  rw [if_neg (by decide)]
  unfold getAttrByItsOwn
  have LH:Looks (model prog w) hp (hookBefore (.ref C)) none:=looks_hook (mc:=.ref C) X (by rw [if_pos (show onTheHeap (.ref C)=true from rfl)]; exact hgt)
  refine wpAny_bind (LH.at (wpAny_bind (wpAny_attempt (wpAny_holding ?_))))
  unfold callGetattribute
  rw [hx0,if_neg (by decide)]
  unfold boundAndCalled
  rw [f3]
  refine wpAny_bind (wpAny_pure ?_)
  show wpAny _ _ (call (.builtin "BaseException.__getattribute__") [.ref x,.str name tk]) _ _ _
  refine wpAny_call (codeAny_call_builtin FB.ga.plain PySem.F.entry_bexc_ga (@check_slot (model prog w) _ _ _ "BaseException.__getattribute__" "BaseException" "__getattribute__" (.ref x) [.str name tk] [] _ Dc Bb L4 (PySem.F.args_bexc_ga (.ref x) (.str name tk)) ?_))
  unfold Builtin.«object.__getattribute__» -- here
  refine wpAny_bind (wpAny_pure (wpAny_bind (wpAny_pure (wpAny_bind (L0.at (wpAny_bind (L3.at ?_)))))))
  refine wpAny_pure ?_
  show wpAny _ _ (handedOut v) _ _ _ -- here
  rw [handedOut_of hh]
  exact wpAny_pure h
end
end My
end
section
namespace My
open PySem PySem.W PySem.Calls PyProof.Rows PySem.Spec Builtin.ObjectAttr
section
variable {prog:Program} {w:World} {A:Around} {E:Value→Shared→Prop} {s:Shared} {K:Frag} {x C:Addr} {ox od:Obj} {name:Str} {tk:Tok} {v:Value} {fill expr:Bool}
theorem Hg {Q:Value→Shared→Prop} (X:K.In s.heap) (I:InstAt s.heap x ox C (some od)) (hga:findIn K (.ref C) "__getattribute__" = some (some (.builtin "BaseException.__getattribute__")))
    (hgt:findIn K (.ref C) "__getattr__" = some none) (hb:mroIn K C (.type "BaseException")=some true)
    (h:∀ A',wpAny (model prog w) A' (Builtin.«object.__getattribute__» ⟨[.ref x,.str name tk],[]⟩) (fun fin s'=>∃ v,fin=.done (.ret v)∧handedIn v=true∧Q v s') (fun _ _=>False) s) :
    wpAny (model prog w) A (getAttrBy (.ref x) (.str name tk) fill expr) Q E s:=by
  obtain ⟨hp,g,d,tt,os⟩:=s
  have FB:=PySem.F.attr_ValueError
  have f3:=FB.ga.bind (.ref x)
  have L0:=I.type (M:=model prog w) -- here
  have L1:=looks_findIn (M:=model prog w) X hga -- here
  have L4:Looks (model prog w) hp (isInstance (.ref x) (.type "BaseException")) true:=I.type.andThen (looks_mroIn X hb)
  have hx0:(expr&&onTheHeap (Value.builtin "BaseException.__getattribute__"))=false:=by cases expr <;> rfl -- here
  have hx2:(Value.builtin "BaseException.__getattribute__" == Value.builtin "object.__getattribute__")=false:=by decide +kernel -- here
  unfold getAttrBy
  refine wpAny_holding (wpAny_bind (L0.at (wpAny_bind (L1.at ?_)))) -- here
  dsimp only
  rw [hx2,Bool.and_false,if_neg (by decide)]
  unfold getAttrByItsOwn
  have LH:Looks (model prog w) hp (hookBefore (.ref C)) none:=looks_hook (mc:=.ref C) X (by rw [if_pos (show onTheHeap (.ref C)=true from rfl)]; exact hgt)
  refine wpAny_bind (LH.at (wpAny_bind (wpAny_attempt (wpAny_holding ?_))))
  unfold callGetattribute
  rw [hx0,if_neg (by decide)]
  unfold boundAndCalled
  rw [f3]
  refine wpAny_bind (wpAny_pure ?_)
  show wpAny _ _ (call (.builtin "BaseException.__getattribute__") [.ref x,.str name tk]) _ _ _
  refine wpAny_call (codeAny_call_builtin FB.ga.plain PySem.F.entry_bexc_ga (@check_slot (model prog w) _ _ _ "BaseException.__getattribute__" "BaseException" "__getattribute__" (.ref x) [.str name tk] [] _ Dc Bb L4 (PySem.F.args_bexc_ga (.ref x) (.str name tk)) ?_))
  refine wpAny_mono (h _) (fun fin s' z=>?_) fun _ _ z=>z.elim
  obtain ⟨v,rfl,hh,q⟩:=z
  show wpAny _ _ (handedOut v) _ _ _ -- here
  rw [handedOut_of hh]
  exact wpAny_pure q
theorem Gm {Q:Option Value→Shared→Prop} (X:K.In s.heap) (I:InstAt s.heap x ox C (some od)) (hga:findIn K (.ref C) "__getattribute__" = some (some (.builtin "BaseException.__getattribute__")))
    (hgt:findIn K (.ref C) "__getattr__" = some none) (hb:mroIn K C (.type "BaseException")=some true) (hh:hasDictIn K C=true)
    (ha:findIn K (.ref C) "__class__" = some (some (.builtin "object.__class__"))) (hn:specialIn K (.builtin "object.__class__") "__get__" = some (some (.builtin "getset_descriptor.__get__"))) (ht:takesIn K (.builtin "object.__class__")=some true) -- here
    (hm:mroIn K C (.type "object")=some true) (h:Q (some (.ref C)) { s with toks:=s.toks+1 }):wpAny (model prog w) A (getAttr? (.ref x) "__class__") Q E s:=by
  unfold getAttr?
  refine wpAny_bind (wpAny_mkText ?_) -- here
  unfold getAttrBy?
  refine wpAny_bind (wpAny_attempt (Hg (s:={ s with toks:=s.toks+1 }) X I hga hgt hb fun A'=>?_))
  have L0:=I.type (M:=model prog w) -- here
  have L3:=looks_find (M:=model prog w) X I (name := "__class__") (findObj_data (by obtain ⟨cd,hc,_⟩:=any_some hh; rw [hc]; rfl) ha hn ht)
  unfold Builtin.«object.__getattribute__» -- here
  refine wpAny_bind (wpAny_pure (wpAny_bind (wpAny_pure (wpAny_bind (L0 _ _ _ _ (fun _ _ e=>e) (wpAny_bind (L3 _ _ _ _ (fun _ _ e=>e) ?_)))))))
  dsimp only
  unfold bindTo
  refine wpAny_bind (wpAny_holding (wpAny_call (class_get (ox:=ox) (od:=some od) X I hm (wpAny_pure ⟨_,rfl,rfl,wpAny_pure h⟩))))
theorem Il (hga:findIn K (.ref C) "__getattribute__" = some (some (.builtin "BaseException.__getattribute__")))
    (hgt:findIn K (.ref C) "__getattr__" = some none) (hb:mroIn K C (.type "BaseException")=some true) (hh:hasDictIn K C=true)
    (ha:findIn K (.ref C) "__class__" = some (some (.builtin "object.__class__"))) (hn:specialIn K (.builtin "object.__class__") "__get__" = some (some (.builtin "getset_descriptor.__get__"))) (ht:takesIn K (.builtin "object.__class__")=some true) -- here
    (hm:mroIn K C (.type "object")=some true):KitX K (.ref x) (.ref C) (fun h=>InstAt h x ox C (some od)) where
  ty:=fun _ _ _ I=>I.type
  it:=fun _ _ X _=>by
    obtain ⟨cd0,hc0,_⟩:=any_some hh
    unfold clsIn at hc0
    split at hc0
    · rename_i ho
      intro A' Q' E' s' k q
      unfold isType loadHead
      exact wpAny_bind (wpAny_loadPart (k _ _ (X _ _ ho)) (wpAny_pure q)) -- here
    · cases hc0
  ne:=fun h tp dd its n sl X htp=>by -- here
    obtain ⟨cd0,hc0,_⟩:=any_some hh
    refine Bool.eq_false_iff.mpr fun q=>?_ -- here
    have e:C=tp:=Value.ref.inj (beq_iff_eq.mp q)
    subst e
    unfold clsIn at hc0
    split at hc0
    · rename_i ho
      cases (X _ _ ho).symm.trans htp
    · cases hc0
  ca:=fun X I k=>Gm X I hga hgt hb hh ha hn ht hm k
end
end My
end
section
namespace L2
open PySem PySem.Spec PyProof.Rows
abbrev Cg (C dx:Addr) (vs:Array Value):Obj:={ cls:=.ref C,dict:=some dx,data:=.fields vs }
structure XAt (h:Heap) (e C dx T:Addr) (fl:Value):Prop where
  ne:T≠e
  at_:∃ vs,h.get? e=some (Cg C dx vs)∧vs[1]? = some (.ref T)
  tb:∃ o ts,h.get? T=some o∧o.data=.fields ts∧ts[3]? = some fl
structure Kp (fs ch:List Addr) (h h':Heap):Prop where
  keep:∀ b o,h.get? b=some o→b∉fs→b∉ch→h'.get? b=some o
  slot:∀ b o,h.get? b=some o→b∉ch→∃ sl,h'.get? b=some { o with slots:=sl }
  there:∀ b o,h.get? b=some o→∃ o',h'.get? b=some o'
  size:h.objs.size≤h'.objs.size
theorem Kp.trans {fs ch:List Addr} {h h1 h2:Heap} (a:Kp fs ch h h1) (b:Kp fs ch h1 h2):Kp fs ch h h2 where
  keep:=fun c o q n m=>b.keep c o (a.keep c o q n m) n m
  slot:=fun c o q m=>by
    obtain ⟨sl,e1⟩:=a.slot c o q m
    obtain ⟨sl',e2⟩:=b.slot c _ e1 m
    exact ⟨sl',e2⟩
  there:=fun c o q=>by
    obtain ⟨o',e1⟩:=a.there c o q
    exact b.there c o' e1
  size:=Nat.le_trans a.size b.size
theorem Kp.mono {fs ch fs' ch':List Addr} {h h':Heap} (a:Kp fs ch h h') (hf:∀ b∈fs,b∈fs') (hc:∀ b∈ch,b∈ch'):Kp fs' ch' h h' where
  keep:=fun c o q n m=>a.keep c o q (fun z=>n (hf _ z)) fun z=>m (hc _ z)
  slot:=fun c o q m=>a.slot c o q fun z=>m (hc _ z)
  there:=a.there
  size:=a.size
theorem Kp.slots {fs:List Addr} {h h':Heap} (x:Heap.SlotsOnly fs h h'):Kp fs [] h h' where
  keep:=fun b o q n _=>(x.2.1 b n).trans q
  slot:=fun b o q _=>x.2.2 b o q
  there:=fun b o q=>let ⟨sl,e⟩:=x.2.2 b o q; ⟨_,e⟩
  size:=Nat.le_of_eq x.1.symm
theorem Kp.pushed {fs ch:List Addr} {h:Heap} (o:Obj):Kp fs ch h (h.push o) where
  keep:=fun b u q _ _=>Heap.get?_push_of_some _ q
  slot:=fun b u q _=>⟨u.slots,Heap.get?_push_of_some _ q⟩
  there:=fun b u q=>⟨u,Heap.get?_push_of_some _ q⟩
  size:=by rw [Heap.size_push]; exact Nat.le_succ _
theorem Kp.field {fs:List Addr} {h:Heap} {e:Addr} {o:Obj} {vs:Array Value} (he:h.get? e=some o) (hd:o.data=.fields vs) (f:Array Value→Array Value):Kp fs [e] h (h.update e (Obj.mapFields f)) where
  keep:=fun b u q _ m=>by rw [Heap.get?_update_other _ _ (fun z=>m (by simp [z]))]; exact q
  slot:=fun b u q m=>⟨u.slots,by rw [Heap.get?_update_other _ _ (fun z=>m (by simp [z]))]; exact q⟩
  there:=fun b u q=>by
    by_cases z:e=b
    · subst z; exact ⟨_,Heap.get?_update_self _ he (Obj.isFreed_of_fields (Obj.data_mapFields hd f))⟩
    · exact ⟨u,by rw [Heap.get?_update_other _ _ z]; exact q⟩
  size:=Nat.le_of_eq (Heap.size_after_update ..).symm
section
variable {M:Model} {A:Around} {E:Value→Shared→Prop} {s:Shared} {base:Heap} {env:Env} {outer:List Env} {L e C dx T:Addr} {fl:Value} {vs:Array Value} {Q:Unit→Shared→Prop}
theorem yr {head:Value} {hn:Bool} (hfr:A.frames=some (env::outer)) (hl:s.heap.FunFrames base (env::outer)) (hf:env.frame=some L) (he:s.heap.get? e=some (Cg C dx vs)) (h1:1<vs.size)
    (hen:e∉frs (env::outer))
    (h:∀ h' T,s.heap.objs.size≤T→Kp (frs (env::outer)) [e] s.heap h'→XAt h' e C dx T (rawInt L)→Q () { s with heap:=h' }) :
    wpAny M A (frameOf env >>= fun a=>entryPlaceOf L hn >>= fun pl=>EntryCells.newEntry head a .none (rawInt L) .none pl >>= fun b=>setField (.ref e) 1 b) Q E s:=by
  refine wpAny_bind (wpAny_frameOf_fun hfr hl hf fun h1' hs=>?_)
  refine wpAny_bind (wpAny_entryPlaceOf fun pl hpl=>?_) -- here
  unfold EntryCells.newEntry newFields -- here
  have e1:h1'.get? e=some (Cg C dx vs):=(hs.2.1 e hen).trans he
  refine wpAny_bind (wpAny_newObj_type ?_ (hpl.sizeOk5 _ _ _ _ _)) -- here
  refine wpAny_setField (Heap.get?_push_of_some _ e1) rfl h1 ?_
  have ne:h1'.objs.size≠e:=Nat.ne_of_gt (Heap.lt_size e1)
  refine h _ h1'.objs.size (Nat.le_of_eq hs.1.symm) ?_ ⟨ne,⟨vs.setIfInBounds 1 (.ref h1'.objs.size),?_,by simp [h1]⟩,?_⟩
  · exact (((Kp.slots hs).mono (ch':=[e]) (fun _ z=>z) (fun _ z=>nomatch z)).trans (Kp.pushed _)).trans (Kp.field (Heap.get?_push_of_some _ e1) rfl _)
  · exact Heap.get?_update_self _ (Heap.get?_push_of_some _ e1) rfl
  · refine ⟨_,_,(Heap.get?_update_other _ _ (Ne.symm ne)).trans (Heap.get?_push_size _ rfl),rfl,?_⟩
    rcases hpl with rfl | ⟨_,_,_,_,_,_,_,rfl⟩ <;> simp
theorem Dj (hfr:A.frames=some (env::outer)) (hl:s.heap.FunFrames base (env::outer)) (hf:env.frame=some L) (he:s.heap.get? e=some (Cg C dx vs)) (h1:vs[1]? = some .none) (hen:e∉frs (env::outer))
    (h:∀ h' T,s.heap.objs.size≤T→Kp (frs (env::outer)) [e] s.heap h'→XAt h' e C dx T (rawInt L)→Q () { s with heap:=h' }):wpAny M A (noteFrame (.ref e) env) Q E s:=by
  unfold noteFrame
  simp only [hf]
  refine wpAny_bind (wpAny_field he rfl h1 ?_)
  rw [if_neg (by decide)]
  exact yr hfr hl hf he (Array.getElem?_eq_some_iff.mp h1).1 hen h
theorem Gh (hfr:A.frames=some (env::outer)) (hl:s.heap.FunFrames base (env::outer)) (hf:env.frame=some L) (x:XAt s.heap e C dx T .none) (hen:e∉frs (env::outer)) (hTn:T∉frs (env::outer))
    (h:∀ h' T',s.heap.objs.size≤T'→Kp (frs (env::outer)) [e,T] s.heap h'→XAt h' e C dx T' (rawInt L)→Q () { s with heap:=h' }):wpAny M A (noteFrame (.ref e) env) Q E s:=by
  obtain ⟨ne,⟨vs,he,h1⟩,o,ts,hT,hd,h3⟩:=x
  have k1:Kp (frs (env::outer)) [T] s.heap (s.heap.update T (Obj.mapFields (·.setIfInBounds 3 Value.none))):=Kp.field hT hd _
  unfold noteFrame
  simp only [hf]
  refine wpAny_bind (wpAny_field he rfl h1 ?_)
  rw [if_pos (show (Value.ref T != Value.none)=true from by simp)] -- here
  refine wpAny_bind (wpAny_field hT hd h3 ?_)
  rw [if_neg (show ¬ ((Value.none==rawInt L)=true) from by simp [rawInt])] -- here
  refine wpAny_bind (wpAny_setField hT hd (Array.getElem?_eq_some_iff.mp h3).1 ?_)
  have he':(s.heap.update T (Obj.mapFields (·.setIfInBounds 3 Value.none))).get? e=some (Cg C dx vs):=(Heap.get?_update_other _ _ ne).trans he
  refine yr (base:=base) hfr (hl.of_keeps fun b u q nf=>?_) hf he' (Array.getElem?_eq_some_iff.mp h1).1 hen fun h' T' hz k2 x=>h h' T' (Nat.le_trans k1.size hz) ((k1.mono (fun _ z=>z) (by simp)).trans (k2.mono (fun _ z=>z) (by simp))) x
  refine ⟨u,?_,rfl⟩
  have:T≠b:=fun z=>by subst z; rw [hT] at q; cases q; exact nf ts hd
  rw [Heap.get?_update_other _ _ this]; exact q
theorem qx (x:XAt s.heap e C dx T fl) (h:∀ h',Kp [] [T] s.heap h'→XAt h' e C dx T .none→Q () { s with heap:=h' }):wpAny M A (setFlight (.ref e) none) Q E s:=by
  obtain ⟨ne,⟨vs,he,h1⟩,o,ts,hT,hd,h3⟩:=x
  have z3:=(Array.getElem?_eq_some_iff.mp h3).1
  unfold setFlight
  refine wpAny_bind (wpAny_field he rfl h1 ?_)
  rw [if_pos (show (Value.ref T != Value.none)=true from by simp)] -- here
  refine wpAny_setField hT hd z3 (h _ (Kp.field hT hd _) ⟨ne,⟨vs,(Heap.get?_update_other _ _ ne).trans he,h1⟩,_,_,Heap.get?_update_self _ hT (Obj.isFreed_of_fields (Obj.data_mapFields hd _)),Obj.data_mapFields hd _,by simp [z3]⟩)
end
end L2
end
section
namespace My
open PySem PySem.W PySem.Calls PyProof.Rows PySem.Spec Builtin.ObjectAttr
section
variable {prog:Program} {w:World} {A:Around} {E:Value→Shared→Prop} {s:Shared} {K:Frag} {x C D t:Addr} {cd:ClassData} {name:Str} {v:Value}
theorem J7 {Q:Unit→Shared→Prop} (X:K.In s.heap) (hx:s.heap.get? x=some (Gd C t))
    (hs:findIn K (.ref C) "__setattr__" = some (some (.builtin "object.__setattr__"))) (hc:clsIn K C=some cd) (hm:cd.mro=.ref C :: .ref D::vB) (hd:cd.hasDict=true)
    (ho:mroIn K C (.type "object")=some true) (ha:findIn K (.ref C) name=some none)
    (h:∀ h',(∀ b o,b≠x→s.heap.get? b=some o→h'.get? b=some o)→h'.get? x=some (J5 C t s.heap.objs.size)→h'.get? s.heap.objs.size=some (dictOf [⟨PyData.keyHash w.params name,.str name (s.toks+1),v⟩] 1)→Q () { s with heap:=h',toks:=s.toks+2 }) :
    wpAny (model prog w) A (setAttr (.ref x) name v) Q E s:=by
  have I:InstAt s.heap x (Gd C t) C none:=⟨hx,rfl,rfl,trivial⟩
  refine set_plain X I hs ?_
  have SF:=PySem.F.store_object -- here
  have sub:Looks (model prog w) s.heap (isInstance (.ref x) (.type "object")) true:=I.type.andThen (looks_mroIn X ho)
  refine codeAny_call_builtin SF.slot.plain SF.entry (@check_slot (model prog w) _ _ _ "object.__setattr__" "object" "__setattr__" (.ref x) [.str name s.toks,v] [] _ SF.kind SF.split sub (SF.args (.ref x) (.str name s.toks) v) ?_)
  have hmr:Looks (model prog w) s.heap (mroOf (.ref C)) cd.mro:=(looks_clsIn X hc).andThen .now
  rw [osa_eq,refuse_eq]
  refine wpAny_bind (wpAny_bind (I.type _ _ _ _ (fun _ _ e=>e) (wpAny_bind (hmr _ _ _ _ (fun _ _ e=>e) ?_))))
  rw [hm,refuseLoop_ref,refuseLoop_ref,Qd]
  refine wpAny_pure (wpAny_bind (I.type _ _ _ _ (fun _ _ e=>e) (wpAny_bind (looks_findIn X ha _ _ _ _ (fun _ _ e=>e) (wpAny_bind (wpAny_pure ?_))))))
  dsimp only
  refine wpAny_bind (wpAny_pure (wpAny_bind (wpAny_bind (wpAny_loadPart hx (wpAny_bind (looks_clsIn X hc _ _ _ _ (fun _ _ e=>e) ?_))))))
  rw [hd]
  show wpAny _ _ (alloc { cls:=.type "dict",data:=.dict #[] } >>= fun dx=>update x (fun o=>{ o with dict:=some dx }) >>= fun _=>dictMade (.ref C) x dx) _ _ _
  have lx:x<s.heap.objs.size:=Heap.lt_size hx
  have g1:=Heap.get?_push_of_some (h:=s.heap) (dictOf [] 0) hx
  have g2:((s.heap.push (dictOf [] 0)).update x (fun o=>{ o with dict:=some s.heap.objs.size })).get? x=some (J5 C t s.heap.objs.size):=Heap.get?_update_self _ g1 rfl
  have g3:((s.heap.push (dictOf [] 0)).update x (fun o=>{ o with dict:=some s.heap.objs.size })).get? s.heap.objs.size=some (dictOf [] 0):=(Heap.get?_update_other _ _ (Nat.ne_of_lt lx)).trans (Heap.get?_push_size _ rfl)
  refine wpAny_bind (wpAny_alloc (wpAny_bind (wpAny_update g1 ?_)))
  refine wpAny_pure (a:=some s.heap.objs.size) (wpAny_bind (wpAny_pure (wpAny_bind ?_)))
  unfold nsSet
  refine wpAny_bind (wpAny_bind (wpAny_askSetting (wpAny_pure (wpAny_bind (wpAny_mkText (wpAny_bind (wpAny_loadPart g3 ?_)))))))
  have c:aRefKeyMayBeTheName name [].toArray=false:=by rw [aRefKeyMayBeTheName_at]; simp
  show wpAny _ _ (if aRefKeyMayBeTheName name [].toArray=true then _ else _) _ _ _
  rw [c]
  refine wpAny_updatePart g3 ?_
  have g4:=Heap.get?_update_self (Obj.putName name (PyData.keyHash w.params name) (.str name (s.toks+1)) v) g3 (by rw [putName_dict]; rfl)
  refine wpAny_bind (wpAny_lookBehind g4 (pastItsLine_dict (by rw [List.size_toArray,sizeLine_eq]; show 1≤_; decide)) ?_)
  refine wpAny_pure (h _ (fun b o nb q=>?_) ?_ ?_)
  · have l:=Heap.lt_size q
    rw [Heap.get?_update_other _ _ (Nat.ne_of_gt l),Heap.get?_update_other _ _ (Ne.symm nb)]
    exact Heap.get?_push_of_some _ q
  · rw [Heap.get?_update_other _ _ (Nat.ne_of_gt lx)]; exact g2
  · exact g4
end
end My
end
section
namespace L2
open PySem PySem.Spec PyProof.Rows
structure XC (K:PySem.W.Frag) (C D fI:Addr) (f:Str):Prop where
  lk:∃ nm q Na bs sn sub ab col dd k0 k1 k2 k3 k5,K.lookup C=some (excClassObj nm q C Na bs (.ref D::My.vB) true sn sub ab col dd k0 k1 k2 k3 k5 "ValueError.__new__")
  base:PySem.W.excIn K D My.vB "ValueError.__new__" = true
  init:PySem.W.findIn K (.ref C) "__init__" = some (some (.ref fI))
  fn:PySem.W.isFn K (.ref fI)=true
  sa:PySem.W.findIn K (.ref C) "__setattr__" = some (some (.builtin "object.__setattr__"))
  ob:PySem.W.mroIn K C (.type "object")=some true
  na:PySem.W.findIn K (.ref C) f=some none
  kp:PySem.W.keepIn K (.ref C)=true
def Pb (e C t:Addr):HO:=.ext fun h=>h.get? e=some (My.Gd C t)
def Gs (e C t dx:Addr):HO:=.ext fun h=>h.get? e=some (My.J5 C t dx)
def jm (dx:Addr) (f:Str) (v:V):HO:=.ext fun h=>∃ hs tk u,RelV v u∧h.get? dx=some (PySem.W.dictOf [⟨hs,.str f tk,u⟩] 1)
theorem Jq {P:Program} {w:World} {H:Hp} {h:Heap} {a:Addr} {o:Obj} (e:h.get? a=some o):jy P w H h a (.ext fun h=>h.get? a=some o):=⟨e,⟨_,e⟩,fun _ _ q k=>k _ q⟩
theorem Ir {P:Program} {w:World} {H:Hp} {h:Heap} {dx:Addr} {f:Str} {v:V} {hs:Int} {tk:Tok} {u:Value} (r:RelV v u) (e:h.get? dx=some (PySem.W.dictOf [⟨hs,.str f tk,u⟩] 1)):jy P w H h dx (jm dx f v) :=
  ⟨⟨hs,tk,u,r,e⟩,⟨_,e⟩,fun _ _ ⟨a,b,c,r,q⟩ k=>⟨a,b,c,r,k _ q⟩⟩
section
variable {X:Cx} {pins:List (Addr × Obj)} {σ:St} {H:Hp} {s:Shared} {e C D fI t:Addr} {f:Str} {v:V} {u:Value} {A:Around} {E:Value→Shared→Prop}
theorem Inv.Nx {h':Heap} {dx:Addr} {o p:HO} {t':Nat} (I:Inv X pins σ H s) (he:Mut (H e)) (hz:s.heap.objs.size≤dx) (k:∀ b u,b≠e→s.heap.get? b=some u→h'.get? b=some u) (hoe:∃ u,h'.get? e=some u)
    (n1:∀ H',jy X.prog X.w H' h' e o) (n2:∀ H',jy X.prog X.w H' h' dx p):Inv X pins σ (upd (upd H dx p) e o) { s with heap:=h',toks:=t' }:=by
  have hdx:H dx=none:=I.hok.fresh hz
  have ne:dx≠e:=fun z=>by subst z; rw [hdx] at he; exact he
  have nb:∀ b,H b=none→b≠e:=fun b n z=>by subst z; rw [n] at he; exact he
  have ns:∀ b u,s.heap.get? b=some u→b≠dx:=fun b u q z=>by subst z; exact absurd (Nat.lt_of_lt_of_le (Heap.lt_size q) hz) (Nat.lt_irrefl _)
  have nm:∀ b u,H b=some u→¬ Mut (some u)→b≠e∧b≠dx:=fun b u q n=>⟨fun z=>by subst z; rw [q] at he; exact n he,fun z=>by subst z; rw [hdx] at q; cases q⟩
  have up:∀ b,b≠e→b≠dx→upd (upd H dx p) e o b=H b:=fun b n m=>by rw [ao n,ao m]
  refine I.un (t':=t') ⟨fun b u q n _ _=>k b u (nb b n) q,fun b u q n _ _=>⟨u.slots,k b u (nb b n) q⟩,fun b u q n _=>by rw [up b (nb b n) (ns b u q)]; exact n,fun b u q _=>?_,
    fun b xs q=>?_,fun b u xs q=>?_,fun b ps q=>⟨#[],?_⟩⟩ fun b u q=>?_
  · by_cases z:b=e
    · subst z; exact hoe
    · exact ⟨u,k b u z q⟩
  · obtain ⟨a,c⟩:=nm b _ q fun z=>z
    rw [up b a c]; exact q
  · obtain ⟨a,c⟩:=nm b _ q fun z=>z
    rw [up b a c]; exact q
  · obtain ⟨a,c⟩:=nm b _ q fun z=>z
    rw [up b a c,q]; simp
  · by_cases z:b=e
    · subst z; rw [aq] at q; cases q; exact n1 _
    · rw [ao z] at q
      by_cases y:b=dx
      · subst y; rw [aq] at q; cases q; exact n2 _
      · rw [ao y] at q
        refine (I.hok b u q).stay (fun c w hc r=>k c w ?_ r) (fun c r=>?_) fun c xs r=>?_
        · rcases hc with hc | hc
          · rw [hc]; exact z
          · exact (nm c _ hc fun z=>z).1
        · obtain ⟨a,d⟩:=nm c _ r fun z=>z
          rw [up c a d]; exact r
        · obtain ⟨a,d⟩:=nm c _ r fun z=>z
          rw [up c a d]; exact r
theorem Hf {Q:Unit→Shared→Prop} (c:XC X.K C D fI f) (I:Inv X pins σ H s) (e0:H e=some (Pb e C t)) (r:RelV v u)
    (h:∀ s' dx,H dx=none→dx≠e→Inv X pins σ (upd (upd H dx (jm dx f v)) e (Gs e C t dx)) s'→Q () s'):wpAny (model X.prog X.w) A (setAttr (.ref e) f u) Q E s:=by
  obtain ⟨nm,q,Na,bs,sn,sub,ab,col,dd,k0,k1,k2,k3,k5,lk⟩:=c.lk
  have hx:s.heap.get? e=some (My.Gd C t):=(I.hok e _ e0).1
  refine My.J7 (cd:={ name:=nm,bases:=bs,mro:=.ref C :: .ref D::My.vB,ns:=Na,qualname:=q,hasDict:=true,slotNames:=sn,subclasses:=sub,abstract:=ab,collection:=col,hasDel:=false }) I.kIn hx c.sa (by unfold PySem.W.clsIn; rw [lk]) rfl rfl c.ob c.na fun h' k g1 g2=>h _ s.heap.objs.size (I.hok.fresh (Nat.le_refl _)) (Nat.ne_of_gt (Heap.lt_size hx)) ?_
  exact I.Nx (by rw [e0]; exact True.intro) (Nat.le_refl _) k ⟨_,g1⟩ (fun _=>Jq g1) fun _=>Ir r g2
end
def Ql (C:Addr) (f:Str) (ta tv:TE):TS:=fun D σ H=>tv σ H fun v H1=>ta σ H1 fun x H2=>∃ e t,x=.ref e∧H2 e=some (Pb e C t)∧∀ dx,H2 dx=none→dx≠e→D.nx σ (upd (upd H2 dx (jm dx f v)) e (Gs e C t dx))
def ur (C:Addr) (f:Str):Sp:=fun vs H Q _=>∃ e t v,vs=[.ref e,v]∧H e=some (Pb e C t)∧∀ dx,H dx=none→dx≠e→Q .non (upd (upd H dx (jm dx f v)) e (Gs e C t dx))
section
variable {X:Cx} {o value:Expr} {ta tv:TE} {f:Str} {pos pos':Pos} {C D fI:Addr}
theorem Kh (c:XC X.K C D fI f) (ha:PE X o ta) (hv:PE X value tv) (hs:swapsWith value (some (.Attribute o f pos')) pos.line X.env=pure false):PS X (.Assign [.Attribute o f pos'] value pos) (Ql C f ta tv):=by
  intro pins s σ H D I h
  refine plainObj_wpAny_Assign_Attribute (thn (hv pins s σ H _ I h) fun u s1 ⟨y,H1,I1,ry,q⟩=>thn (ha pins s1 σ H1 _ I1 q) fun ov s2 ⟨x,H2,I2,rx,e,t,ex,e0,q2⟩=>?_) hs
  subst ex
  obtain rfl:ov=Value.ref e:=rx
  exact Hf c I2 e0 ry fun s3 dx h1 h2 I3=>⟨σ,_,I3,q2 dx h1 h2⟩
end
section
variable {P:Program} {w:World} {K:PySem.W.Frag} {mg:Str→Option Value} {base:Heap}
theorem qu {qual p f:Str} {st:Stmt} {C D fI:Addr} {fd:FuncData} {q1 q2 q3 q4:Pos} (c:XC K C D fI f) (F:Fun K "__init__" qual st fI fd) (S:iz ["self",p] ["self",p] (bf st))
    (hb:jh st=[.Assign [.Attribute (.Name "self" q1) f q2] (.Name p q3) q4]) (h1:(bf st).names.lookup ("self" : Str)=some .local) (h2:(bf st).names.lookup p=some .local) (hp:("self" : Str)≠p) (hd:(p==("__debug__" : Str))=false) (hcd:(p==("__classdict__" : Str))=false)
    (hsw:∀ env:Env,swapsWith (.Name p q3) (some (.Attribute (.Name "self" q1) f q2)) q4.line env=pure false) :
    lq P w K mg base CX0 1 fI fd ["self",p] (ur C f):=by
  refine F.ok S (fun vs H Q E ⟨e,t,v,h,_⟩=>by rw [h]; rfl) fun cdv A outer s H vs Q E hr ⟨e,t,v,h,h0,h3⟩=>?_
  subst h
  rw [hb]
  refine ⟨_,m5 (Kh (C:=C) (D:=D) (fI:=fI) c (Ga (i:=0) rfl (.inl h1)) (Ga (i:=1) rfl (.inl h2) hd hcd) (hsw _)),?_⟩
  exact ⟨v,rfl,.ref e,rfl,e,t,rfl,h0,h3⟩
end
end L2
end
section
namespace L2
open PySem PySem.Spec PyProof.Rows
section
variable {X:Cx} {pins:List (Addr × Obj)} {σ:St} {H:Hp} {s:Shared} {C D fI:Addr} {f p:Str} {v:V} {u:Value} {E:Value→Shared→Prop} {fd:FuncData}
theorem G7 {Q:Value→Shared→Prop} (c:XC X.K C D fI f) (F:lq X.prog X.w X.K X.mg X.base CX0 1 fI fd ["self",p] (ur C f)) (hr:nu 2 X.A) (hb:Binds X.K fd ["self",p] []) (I:Inv X pins σ H s) (r:RelV v u)
    (h:∀ s' e t dx,H e=none→H dx=none→dx≠e→s.heap.objs.size≤e→Inv X pins σ (upd (upd H dx (jm dx f v)) e (Gs e C t dx)) s'→Q (.ref e) s'):wpAny (model X.prog X.w) X.A (call (.ref C) [u]) Q E s:=by
  obtain ⟨nm,q,Na,bs,sn,sub,ab,col,dd,k0,k1,k2,k3,k5,lk⟩:=c.lk
  have hC:=I.kIn _ _ lk
  have f1:=tc_lookup
  have f2:=tc_bind (.ref C)
  have I1:Inv X pins σ H { s with heap:=s.heap.push (My.Jr [u]) }:=I.kept (t':=s.toks) fun b o z=>Heap.get?_push_of_some _ z
  have z1:(s.heap.push (My.Jr [u])).objs.size=s.heap.objs.size+1:=Heap.size_push ..
  have g1:((s.heap.push (My.Jr [u])).push (My.Gd C s.heap.objs.size)).get? (s.heap.objs.size+1)=some (My.Gd C s.heap.objs.size):=by
    rw [← z1]; exact Heap.get?_push_size _ rfl
  have I2:Inv X pins σ (upd H (s.heap.objs.size+1) (Pb (s.heap.objs.size+1) C s.heap.objs.size)) { s with heap:=(s.heap.push (My.Jr [u])).push (My.Gd C s.heap.objs.size) } :=
    I1.laid (t':=s.toks) (fun b o z=>Heap.get?_push_of_some _ z) (by show (s.heap.push (My.Jr [u])).objs.size≤_; rw [z1]; exact Nat.le_refl _) (Jq g1)
  have hE:H (s.heap.objs.size+1)=none:=I.hok.fresh (Nat.le_succ _)
  have r2:Vals [V.ref (s.heap.objs.size+1),v] [Value.ref (s.heap.objs.size+1),u]:=.cons rfl (.cons r .nil)
  obtain ⟨hh,g,d,tk,os⟩:=s -- here
  have hT:(⟨hh,g,d,tk,os⟩:Shared).TypeIs (.ref C) "type" := ⟨_,hC,rfl⟩
  refine wpAny_call (codeAny_of_tree ?_) -- here
  show wpAny _ _ (callAny (.ref C) _) _ _ _ -- here
  repeat (any_goals (first | assumption | with_reducible refine wpAny_loadPart_at hC ?_ | wp_step)) -- here
  refine ⟨rfl,?_⟩
  refine codeAny_call_builtin_at (Code.quiet_builtin _ (by decide +kernel)) entry_typeCall (wpAny_check_type_call_sub hC (My.xu I.kIn hC (My.Q8 I.kIn c.base) c.init (beq_iff_eq.mp c.fn) (wpAny_call (codeAny_mono
    (F.run _ X.stack _ _ ⟨[Value.ref (hh.objs.size+1),u],[]⟩ [Value.ref (hh.objs.size+1),u] _ (fun w H'=>w=.non∧∃ dx,H dx=none∧dx≠hh.objs.size+1∧H'=upd (upd H dx (jm dx f v)) (hh.objs.size+1) (Gs (hh.objs.size+1) C hh.objs.size dx)) (fun _ _ _=>False) (hr.make C [u] []) (I2.env0.make C [u] [])
      (hb _ [Value.ref (hh.objs.size+1),u] I2.kIn rfl) r2 ⟨_,_,v,rfl,aq,fun dx h1 h2=>⟨rfl,dx,by rw [ao h2] at h1; exact h1,h2,?_⟩⟩) fun r s' hq=>?_)) (by show 1≤sizeLine; rw [sizeLine_eq]; decide)))
  · funext b
    by_cases e1:b=hh.objs.size+1
    · subst e1; rw [aq,aq]
    · rw [ao e1,ao e1]
      by_cases e2:b=dx
      · subst e2; rw [aq,aq]
      · rw [ao e2,ao e2,ao e1]
  · cases r with
    | error e=>exact False.elim hq
    | ok fl =>
      cases fl with
      | ret u' =>
        obtain ⟨v',H',I3,rv,⟨ev,dx,h1,h2,e3⟩⟩:=I2.after hq
        subst ev
        subst e3
        exact ⟨rv,h s' _ _ dx hE h1 h2 (Nat.le_succ _) I3⟩
      | next=>exact False.elim hq
      | brk=>exact False.elim hq
      | cont=>exact False.elim hq
end
end L2
end
section
namespace L2
open PySem PySem.Spec PyProof.Rows
def CXx (P:Program) (w:World):CXT:=fun outer H s E e s'=>∃ a C dx T H',e=.ref a∧s.heap.objs.size≤a∧s.heap.objs.size≤T∧XAt s'.heap a C dx T .none∧H' a=none∧H' T=none ∧
  s'.os=s.os∧AllBare s'.gens∧Un (frs outer) [] H H' s.heap s'.heap∧HOk P w H' s'.heap∧E (.ref C) (some dx) H'
section
variable {X:Cx} {pins:List (Addr × Obj)} {σ:St} {H:Hp} {s:Shared}
theorem Inv.noted {h':Heap} {ch:List Addr} (I:Inv X pins σ H s) (k:Kp (frs X.stack) ch s.heap h') (hn:∀ b∈ch,H b=none)
    (hch:∀ b∈ch,(b∈X.ex∨X.s₀.heap.objs.size≤b)∧b≠X.env.locals∧(∀ x c,X.env.cells.lookup x=some c→c≠b)∧∀ p∈X.pn++pins,p.1≠b):Inv X pins σ H { s with heap:=h' }:=by
  refine I.step (g':=s.gens) (d':=s.drawn) (t':=s.toks) (ch:=ch) hch (fun b o hL hb hc e n=>k.keep b o e (fun z=>(List.mem_cons.mp (I.Bc b z)).elim hL hb) hc) (fun b o _ _ hc e _=>k.slot b o e hc) (fun _ _ _ _ n=>n)
    (fun b o _ e=>k.there b o e) (fun _ _ e=>e) (fun _ _ _ e=>e) (fun b ps e=>⟨#[],by rw [e]; simp⟩) (fun m hm=>?_) (fun b u e=>?_) I.bare
  · obtain ⟨o,es,ep,ho,r⟩:=hm
    obtain ⟨sl,q⟩:=k.slot _ o ho fun z=>(hch _ z).2.1 rfl
    exact ⟨_,es,ep,q,r⟩
  · have tr:∀ c x,H c=some x→c∉frs X.stack∧c∉ch:=fun c x q=>⟨(fun z=>by rw [I.Bq c z] at q; cases q),(fun z=>by rw [hn c z] at q; cases q)⟩
    refine (I.hok b u e).stay (fun c v hc q=>?_) (fun _ q=>q) fun _ _ q=>q
    rcases hc with hc | hc
    · subst hc; exact k.keep c v q (tr c u e).1 (tr c u e).2
    · exact k.keep c v q (tr c _ hc).1 (tr c _ hc).2
theorem Inv.yj {e:Addr} {o:Obj} {vs:Array Value} (I:Inv X pins σ H s) (he:s.heap.get? e=some o) (hd:o.data=.fields vs):e≠X.env.locals∧(∀ x c,X.env.cells.lookup x=some c→c≠e)∧e∉frs X.stack:=by
  refine ⟨fun z=>?_,fun x c q z=>?_,fun z=>?_⟩
  · obtain ⟨m,⟨o',es,ep,ho',hd',_⟩,_⟩:=I.loc
    rw [← z,he] at ho'; cases ho'; rw [hd'] at hd; cases hd
  · obtain ⟨v,o',ho',hd'⟩:=I.cell x c q
    rw [z,he] at ho'; cases ho'; rw [hd'] at hd; cases hd
  · obtain ⟨_,o',ho',hnf⟩:=I.stack.mem z
    rw [he] at ho'; cases ho'; exact hnf vs hd
end
section
variable {P:Program} {w:World} {K:PySem.W.Frag} {mg:Str→Option Value} {base:Heap} {N:List Str} {qual:Str} {scope:Scope} {f:Addr} {cd:Value} {A:Around} {outer:List Env} {s₀ s:Shared} {H₀ H:Hp} {E:XK} {pins:List (Addr × Obj)} {σ:St} {e C dx:Addr} {vs:Array Value}
theorem Jb (I:Inv (Hh (CXx P w) P w K mg base N qual scope f cd A outer s₀ H₀ E) pins σ H s) (he:s.heap.get? e=some (Cg C dx vs)) (h1:vs[1]? = some .none) (hn:H e=none) (hz:s₀.heap.objs.size≤e) (hE:E (.ref C) (some dx) H) :
    (Hh (CXx P w) P w K mg base N qual scope f cd A outer s₀ H₀ E).xe (.ref e) s:=by
  have I0:=I.uw (pins':=[]) (fun p hp=>nomatch hp)
  have ne:=I0.yj he rfl
  show wpAny _ _ (leaving _ _) _ _ _
  unfold leaving
  refine wpAny_bind (Dj (L:=s₀.heap.objs.size) (base:=base) I0.ok.frames I0.stack rfl he h1 ne.2.2 fun h' T hT k x=>?_)
  have I1:=I0.noted k (fun b hb=>by rw [List.mem_singleton.mp hb]; exact hn) fun b hb=>by
    obtain rfl:=List.mem_singleton.mp hb
    exact ⟨.inr hz,ne.1,ne.2.1,fun p hp=>nomatch hp⟩
  have hT0:H T=none:=I0.hok.fresh hT
  obtain ⟨oT,tsT,gT,dT,_⟩:=x.tb
  have neT:=I1.yj (s:={ s with heap:=h' }) gT dT
  have sz:s₀.heap.objs.size≤T:=Nat.le_trans I0.sz hT
  refine qx (s:={ s with heap:=h' }) x fun h2 k2 x2=>?_
  have I2:=I1.noted (h':=h2) (k2.mono (fun _ z=>nomatch z) (fun _ z=>z)) (fun b hb=>by rw [List.mem_singleton.mp hb]; exact hT0) fun b hb=>by
    obtain rfl:=List.mem_singleton.mp hb
    exact ⟨.inr sz,neT.1,neT.2.1,fun p hp=>nomatch hp⟩
  exact ⟨e,C,dx,T,H,rfl,hz,sz,x2,hn,hT0,I2.os,I2.bare,I2.base,I2.hok,hE⟩
end
end L2
end
section
namespace L2
open PySem PySem.Spec PyProof.Rows
section
variable {X:Cx} {pins:List (Addr × Obj)} {σ:St} {H:Hp} {s:Shared} {e:Addr}
theorem Inv.Ju {φ:Heap→Prop} (I:Inv X pins σ (upd H e (.ext φ)) s) (hn:H e=none):Inv X pins σ H s:=by
  have ne:∀ b u,upd H e (.ext φ) b=some u→(∀ ψ,u≠.ext ψ)→b≠e∧H b=some u:=fun b u q n=>by
    by_cases z:b=e
    · subst z; rw [aq] at q; cases q; exact absurd rfl (n _)
    · rw [ao z] at q; exact ⟨z,q⟩
  have fr:∀ b,upd H e (.ext φ) b=none→H b=none:=fun b q=>by
    by_cases z:b=e
    · subst z; exact hn
    · rw [ao z] at q; exact q
  refine I.step (g':=s.gens) (d':=s.drawn) (t':=s.toks) (h':=s.heap) (ch:=[]) (fun _ z=>nomatch z) (fun b o _ _ _ q _=>q) (fun b o _ _ _ q _=>⟨o.slots,q⟩) (fun b o _ _ n=>fr b n) (fun b o _ q=>⟨o,q⟩)
    (fun b xs q=>(ne b _ q (fun _=>by intro z; cases z)).2) (fun b o u q=>(ne b _ q (fun _=>by intro z; cases z)).2) (fun b ps q=>⟨#[],by rw [(ne b _ q (fun _=>by intro z; cases z)).2]; simp⟩) (fun _ hm=>hm) (fun b u q=>?_) I.bare
  have z:b≠e:=fun z=>by subst z; rw [hn] at q; cases q
  refine (I.hok b u (by rw [ao z]; exact q)).stay (fun _ _ _ r=>r) (fun c r=>(ne c _ r (fun _=>by intro z; cases z)).2) fun c xs r=>(ne c _ r (fun _=>by intro z; cases z)).2
end
def XW (X:Cx) (E:XK):Prop:=∀ (pins:List (Addr × Obj)) (σ:St) (H:Hp) (s:Shared) (e C dx:Addr) (vs:Array Value),Inv X pins σ H s→s.heap.get? e=some (Cg C dx vs)→vs[1]? = some .none→H e=none→X.s₀.heap.objs.size≤e→E (.ref C) (some dx) H→X.xe (.ref e) s
theorem Du {P:Program} {w:World} {K:PySem.W.Frag} {mg:Str→Option Value} {base:Heap} {N:List Str} {qual:Str} {scope:Scope} {f:Addr} {cd:Value} {A:Around} {outer:List Env} {s₀:Shared} {H₀:Hp} {E:XK} :
    XW (Hh (CXx P w) P w K mg base N qual scope f cd A outer s₀ H₀ E) E:=fun _ _ _ _ _ _ _ _ I he h1 hn hz hE=>Jb I he h1 hn hz hE
section
variable {M:Model} {A:Around} {E:Value→Shared→Prop} {env:Env} -- here
variable {nm q:Str} {C N:Addr} {bs bm:List Value} {hdct:Bool} {sn:List Str} {sub:List Value} {ab:Bool} {col:Option Bool} {dd:Option Addr} {k0 k1 k2 k3 k5:Option Value} {newId:String} -- here
theorem G6 {s:Shared} {x:Sem Value} {Q:Flow→Shared→Prop} (hbase:bm.contains (.type "BaseException")=true) (hh:A.handled=none)
    (h:wpAny M A x (fun v s1=>∃ e dx vs,v=.ref e∧s1.heap.get? C=some (excClassObj nm q C N bs bm hdct sn sub ab col dd k0 k1 k2 k3 k5 newId)∧s1.heap.get? e=some (Cg C dx vs)∧vs[1]? = some .none∧E (.ref e) s1) E s) :
    wpAny M A (raiseStmt env (some x) none) Q E s:=by -- here
  have hcB:(Value.ref C::bm).contains (.type "BaseException")=true:=by rw [List.contains_cons,hbase,Bool.or_true] -- here
  unfold raiseStmt
  refine wpAny_bind (wpAny_mono h (fun v s1 h1=>?_) fun _ _ x=>x)
  obtain ⟨e,dx,vs,rfl,hC,he,hv,hE⟩:=h1
  obtain ⟨hp,g,d,tk,os⟩:=s1
  repeat (first | with_reducible refine wpAny_loadPart_at he ?_ | with_reducible refine wpAny_loadPart_at hC ?_ | (with_reducible refine wpAny_isSubtype_exc hC ?_; rw [hcB]) | wp_step) -- here
  rw [hv]
  exact wpAny_pure (wpAny_pure (wpAny_raiseNew_none hh hE))
end
def sRz (C:Addr) (f:Str) (E:XK) (te:TE):TS:=fun _ σ H=>te σ H fun v H1=>∀ dx,H1 dx=none→E (.ref C) (some dx) (upd H1 dx (jm dx f v))
section
variable {X:Cx} {E:XK} {C D fI:Addr} {f p x:Str} {fd:FuncData} {arg:Expr} {te:TE} {np cpos pos:Pos}
theorem Hx (W:XW X E) (c:XC X.K C D fI f) (F:lq X.prog X.w X.K X.mg X.base CX0 1 fI fd ["self",p] (ur C f)) (hr:nu 2 X.A) (hb:Binds X.K fd ["self",p] []) (hg:Gl X x) (hm:X.mg x=some (.ref C)) (ha:PE X arg te)
    (hdb:(x==("__debug__" : Str))=false:=by decide) (he:starEach [arg] X.env=[(false,eval arg X.env)]:=by rfl) :
    PS X (.Raise (some (.Call (.Name x np) [arg] [] cpos)) none pos) (sRz C f E te):=by
  intro pins s σ H Dn I h
  obtain ⟨nm,q,Na,bs,sn,sub,ab,col,dd,k0,k1,k2,k3,k5,lk⟩:=c.lk
  rw [arm_exec_Raise]
  refine wpAny_bind (wpAny_standAt ?_)
  show wpAny _ _ (raiseStmt X.env (some (eval (.Call (.Name x np) [arg] [] cpos) X.env >>= fun v=>standAt pos >>= fun _=>pure v)) none) _ _ _
  refine G6 (C:=C) (nm:=nm) (q:=q) (N:=Na) (bs:=bs) (bm:=.ref D::My.vB) (hdct:=true) (sn:=sn) (sub:=sub) (ab:=ab) (col:=col) (dd:=dd) (k0:=k0) (k1:=k1) (k2:=k2) (k3:=k3) (k5:=k5) (newId := "ValueError.__new__") (by simp) hr.hd ?_
  refine wpAny_bind (wpAny_mono (Q:=fun v s1=>∃ e dx vs,v=.ref e∧s1.heap.get? C=some (excClassObj nm q C Na bs (.ref D::My.vB) true sn sub ab col dd k0 k1 k2 k3 k5 "ValueError.__new__")∧s1.heap.get? e=some (Cg C dx vs)∧vs[1]? = some .none∧X.xe (.ref e) s1) ?_ (fun v s1 h1=>wpAny_bind (wpAny_standAt (wpAny_pure h1))) fun _ _ z=>z)
  refine wpAny_Call_Name_kw (uz I hg hm ?_ hdb)
  refine PySem.W.callWith_K (h₀:=X.base) I.ok.mod.kin c.kp (thn (ql ha Al (by rw [he]; rfl) cpos pins s σ H (fun vs H1=>match vs with | [v]=>∀ dx,H1 dx=none→E (.ref C) (some dx) (upd H1 dx (jm dx f v)) | _=>False) I h) fun us s1 ⟨vs,H1,I1,r,q⟩=>⟨I1.kIn,?_⟩) he rfl
  obtain ⟨v,ev,hE⟩:∃ v,vs=[v]∧∀ dx,H1 dx=none→E (.ref C) (some dx) (upd H1 dx (jm dx f v)):=by
    match vs,q with
    | [v],q=>exact ⟨v,rfl,q⟩
  subst ev
  obtain ⟨u,eu,rv⟩:=r.one
  subst eu
  exact G7 c F hr hb I1 rv fun s' e t dx h1 h2 h3 h4 I2=>by
    have e0:upd H1 dx (jm dx f v) e=none:=by rw [ao (Ne.symm h3)]; exact h1
    have he':s'.heap.get? e=some (My.J5 C t dx):=(I2.hok e _ aq).1
    have I3:=I2.Ju e0
    exact ⟨e,dx,_,rfl,I3.kIn _ _ lk,he',rfl,W pins σ _ s' e C dx _ I3 he' rfl e0 (Nat.le_trans I1.sz h4) (hE dx h2)⟩
end
end L2
end
section
namespace L2
open PySem PySem.Spec PyProof.Rows
def Off (X:Cx) (pins:List (Addr × Obj)) (b:Addr):Prop:=(b∈X.ex∨X.s₀.heap.objs.size≤b)∧b≠X.env.locals∧(∀ x c,X.env.cells.lookup x=some c→c≠b)∧∀ p∈X.pn++pins,p.1≠b
section
variable {X:Cx} {pins:List (Addr × Obj)} {σ:St} {H:Hp} {s:Shared}
theorem Inv.off {b:Addr} (I:Inv X pins σ H s) (h:s.heap.objs.size≤b):Off X pins b:=by
  refine ⟨.inr (Nat.le_trans I.sz h),fun z=>?_,fun x c q z=>?_,fun p hp z=>?_⟩
  · subst z; exact absurd (Nat.lt_of_lt_of_le I.lt h) (Nat.lt_irrefl _)
  · obtain ⟨v,o,ho,_⟩:=I.cell x c q
    subst z; exact absurd (Nat.lt_of_lt_of_le (Heap.lt_size ho) h) (Nat.lt_irrefl _)
  · have:=(I.pin p hp).1
    rw [z] at this
    exact absurd (Nat.lt_of_lt_of_le (Heap.lt_size this) h) (Nat.lt_irrefl _)
def XP (X:Cx) (CX:CXT) (pins:List (Addr × Obj)) (σ:St) (E:XK) (e:Value) (s':Shared):Prop:=∃ H1 s1,Inv X pins σ H1 s1∧CX X.stack H1 s1 E e s'
structure Lies (X:Cx) (pins:List (Addr × Obj)) (σ:St) (H:Hp) (s:Shared) (a C dx T:Addr):Prop where
  inv:Inv X pins σ H s
  at_:XAt s.heap a C dx T .none
  ha:H a=none
  hT:H T=none
  oa:Off X pins a
  oT:Off X pins T
theorem XP.lies {E:XK} {e:Value} (h:XP X (CXx X.prog X.w) pins σ E e s):∃ a C dx T H',e=.ref a∧Lies X pins σ H' s a C dx T∧E (.ref C) (some dx) H':=by
  obtain ⟨H1,s1,I,a,C,dx,T,H',rfl,za,zT,x,na,nT,os,ba,un,hok,hE⟩:=h
  exact ⟨a,C,dx,T,H',rfl,⟨I.call' (ch:=[]) os un hok ba (fun b z=>nomatch z),x,na,nT,I.off za,I.off zT⟩,hE⟩
end
section
variable {X:Cx} {CX:CXT} {k:Nat} {f:Addr} {fd:FuncData} {ps:List Str} {sp:Sp} {x:Str} {p pos:Pos} {e:Expr} {es:List Expr} {t:TA}
theorem K9 (F:lq X.prog X.w X.K X.mg X.base CX k f fd ps sp) (hr:nu k X.A) (hg:Gl X x) (hm:X.mg x=some (.ref f)) (hk:PySem.W.keepIn X.K (.ref f)=true) (hb:Binds X.K fd ps []) (ha:PA X.nox (e::es) t)
    (hdb:(x==("__debug__" : Str))=false:=by decide) (he:starEach (e::es) X.env=(false,eval e X.env)::starEach es X.env:=by rfl) (hpl:(backTo pos (starEach es X.env)).any (·.1)=false:=by rfl)
    (pins:List (Addr × Obj)) (s:Shared) (σ:St) (H:Hp) (Q:VK) (E:XK) (I:Inv X pins σ H s) (h:t σ H fun vs H1=>sp vs H1 Q E) :
    wpAny (model X.prog X.w) X.A (eval (.Call (.Name x p) (e::es) [] pos) X.env) (EP X pins σ Q) (XP X CX pins σ E) s:=by
  refine wpAny_Call_Name_kw (uz I hg hm ?_ hdb)
  refine PySem.W.callWith_K (h₀:=X.base) I.ok.mod.kin hk (wpAny_mono (ha pos pins s σ H _ (I.wish _) h) (fun us s1 z0=>?_) fun _ _ z=>False.elim z) he hpl
  obtain ⟨vs,H1,I1',r,q⟩:=z0
  have I1:=I1'.m9
  refine ⟨I1.kIn,?_⟩
  have r2:Vals vs (us++[]):=by rw [List.append_nil]; exact r
  have hl:(us++[]).length=ps.length:=by rw [← r2.length]; exact F.len _ _ _ _ q
  refine wpAny_call (codeAny_mono (F.run X.A X.stack s1 H1 ⟨us,[]⟩ (us++[]) vs Q E hr I1.env0 (hb s1 us I1.kIn hl) r2 q) fun r s' hq=>?_)
  cases r with
  | error e=>exact ⟨H1,s1,I1,hq⟩
  | ok fl =>
    cases fl with
    | ret u=>exact I1.after hq
    | next=>exact False.elim hq
    | brk=>exact False.elim hq
    | cont=>exact False.elim hq
end
abbrev Cx.mk' (X:Cx) (a:Addr):Cx:={ X with A:=X.A.mark (some (.ref a)),calm:=false,xe:=fun _ _=>False }
section
variable {X:Cx} {pins:List (Addr × Obj)} {σ:St} {H:Hp} {s:Shared} {a:Addr}
theorem Inv.mk' (I:Inv X pins σ H s) (a:Addr):Inv (X.mk' a) pins σ H s :=
  ⟨⟨I.ok.mod,I.ok.kind,I.ok.glob,I.ok.blt,I.ok.above,I.ok.inj,I.ok.has,I.ok.cab,(fun z=>nomatch z),I.ok.frames,I.ok.stk,I.ok.exf,I.ok.bs,I.ok.bsz,I.ok.noex,I.ok.exfs,I.ok.Cq,I.ok.frf⟩,I.os,I.bare,I.base,I.loc,I.cell,I.free,I.freeC,I.pin,I.hok,I.len⟩
theorem Inv.Ph (I:Inv (X.mk' a) pins σ H s) (hd:X.calm=true→X.A.handled=none):Inv X pins σ H s :=
  ⟨⟨I.ok.mod,I.ok.kind,I.ok.glob,I.ok.blt,I.ok.above,I.ok.inj,I.ok.has,I.ok.cab,hd,I.ok.frames,I.ok.stk,I.ok.exf,I.ok.bs,I.ok.bsz,I.ok.noex,I.ok.exfs,I.ok.Cq,I.ok.frf⟩,I.os,I.bare,I.base,I.loc,I.cell,I.free,I.freeC,I.pin,I.hok,I.len⟩
theorem name_goes {M:Model} {A:Around} {E:Value→Shared→Prop} {Q:Unit→Shared→Prop} {i:Nat} {n:Str} {pos:Pos} (I:Inv X pins σ H s) (hN:X.N.Nodup) (hi:X.N[i]? = some n) (hx:X.env.scope.names.lookup n=some .local)
    (h:∀ s',Inv X pins (σ.set i none) H s'→Q () s'):wpAny M A (do bindName X.env n .none; unbindBehindTheSuite X.env n pos) Q E s:=by
  obtain ⟨m,hn,hl⟩:=id I.loc
  have hcls:(X.env.scope.kind == .class||(X.env.scope.kind == .module&&X.env.locals != X.env.globals))=false:=by rw [I.ok.kind]; rfl
  have hiσ:i<σ.length:=by rw [I.len]; exact (List.getElem?_eq_some_iff.mp hi).1
  obtain ⟨oL,_,_,hoL,_⟩:=id hn
  refine wpAny_nameGoes_keeps hx hn hcls fun h' v hn' hs=>h _ ?_
  have nL:∀ b o,X.s₀.heap.get? b=some o→b≠X.env.locals:=fun b o e=>Nat.ne_of_lt (Nat.lt_of_lt_of_le (Heap.lt_size e) I.ok.above)
  refine ⟨I.ok,I.os,I.bare,⟨fun b o e n hb hx=>(hs.2 b (nL b o e)).trans (I.base.keep b o e n hb hx),fun b o e n hb hx=>?_,I.base.free,fun b o e hx=>?_,I.base.tups,I.base.frzs,I.base.tbls⟩,⟨_,hn',fun j y v' e1 e2 e3=>?_⟩,fun y c e=>?_,I.free,I.freeC,fun p hp=>?_,fun b u e=>?_,by rw [List.length_set]; exact I.len⟩
  · obtain ⟨sl,e1⟩:=I.base.slot b o e n hb hx
    exact ⟨sl,(hs.2 b (nL b o e)).trans e1⟩
  · obtain ⟨o',e1⟩:=I.base.there b o e hx
    exact ⟨o',(hs.2 b (nL b o e)).trans e1⟩
  · by_cases hj:j=i
    · subst hj
      rw [List.getElem?_set_self hiσ] at e2; cases e2
    · rw [List.getElem?_set_ne (Ne.symm hj)] at e2
      obtain ⟨u',r',q⟩:=hl j y v' e1 e2 e3
      refine ⟨u',r',?_⟩
      rcases q with ⟨k,e⟩ | ⟨k,c,e,z⟩
      · have:y≠n:=fun e=>hj (Ac hN e1 (e ▸ hi))
        exact .inl ⟨k,by simp [this,e]⟩
      · exact .inr ⟨k,c,e,z.sameBut hs (I.cne y c e)⟩
  · obtain ⟨w',z⟩:=I.cell y c e
    exact ⟨w',z.sameBut hs (I.cne y c e)⟩
  · obtain ⟨e,n,ne,nf,d⟩:=I.pin p hp
    exact ⟨(hs.2 p.1 ne).trans e,n,ne,nf,d⟩
  · have tr:∀ c x,H c=some x→c≠X.env.locals:=fun c x q z=>by rw [z,I.free] at q; cases q
    refine (I.hok b u e).stay (fun c w hc q=>(hs.2 c ?_).trans q) (fun _ q=>q) fun _ _ q=>q
    rcases hc with hc | hc
    · subst hc; exact tr c u e
    · exact tr c _ hc
end
end L2
end
section
namespace L2
open PySem PySem.Spec PyProof.Rows
def XCl (K:PySem.W.Frag) (C:Addr) (bm:List Value):Prop:=bm.contains (.type "BaseException")=true∧∃ nm q Na bs hdct sn sub ab col dd k0 k1 k2 k3 k5,K.lookup C=some (excClassObj nm q C Na bs bm hdct sn sub ab col dd k0 k1 k2 k3 k5 "ValueError.__new__")
section
variable {M:Model} {A:Around} {E:Value→Shared→Prop} {K:PySem.W.Frag} {C C1 C2 C3:Addr} {bm bm1 bm2 bm3:List Value} {Q:Bool→Shared→Prop}
theorem Fw {s:Shared} {a:Addr} {o:Obj} (X:K.In s.heap) (c:XCl K C bm) (c1:XCl K C1 bm1) (he:s.heap.get? a=some o) (hc:o.cls=.ref C) (h:Q ((Value.ref C::bm).contains (.ref C1)) s):wpAny M A (excMatches (.ref a) (.ref C1)) Q E s:=by
  obtain ⟨_,nm,q,Na,bs,hdct,sn,sub,ab,col,dd,k0,k1,k2,k3,k5,lk⟩:=c
  obtain ⟨b1,nm',q',Na',bs',hdct',sn',sub',ab',col',dd',k0',k1',k2',k3',k5',lk'⟩:=c1
  obtain ⟨hp,g,d,tk,os⟩:=s -- here
  have hC:=X _ _ lk
  have h1:=X _ _ lk'
  have e1:(Value.ref C1::bm1).contains (.type "BaseException")=true:=by rw [List.contains_cons,b1,Bool.or_true]
  have f:=tc_notTuple
  unfold excMatches
  repeat (first | (with_reducible refine wpAny_loadPart_at he ?_; rw [hc]) | with_reducible refine wpAny_loadPart_at h1 ?_ | (with_reducible refine wpAny_isSubtype_exc h1 ?_; rw [e1]) | with_reducible refine wpAny_isSubtype_exc hC ?_ | wp_step)
  cases hb:(Value.ref C::bm).contains (.ref C1) <;> (rw [hb] at h; wp_walk; exact h)
end
section
variable {X:Cx} {pins:List (Addr × Obj)} {σ:St} {H:Hp} {s:Shared} {a C dx T:Addr}
theorem Lies.mk' (L:Lies X pins σ H s a C dx T) (b:Addr):Lies (X.mk' b) pins σ H s a C dx T:=⟨L.inv.mk' b,L.at_,L.ha,L.hT,L.oa,L.oT⟩
theorem Lies.eval {e:Expr} {te:TE} {Q:VK} (L:Lies X pins σ H s a C dx T) (he:PE X e te) (h:te σ H Q) :
    wpAny (model X.prog X.w) X.A (eval e X.env) (fun u s'=>∃ v H1,Lies X pins σ H1 s' a C dx T∧RelV v u∧Q v H1) X.xe s:=by
  obtain ⟨ne,⟨vs,g1,v1⟩,o,ts,g2,d2,t3⟩:=L.at_
  have fs:∀ b,b∉frs X.stack→b≠X.env.locals→b∉X.fs:=fun b h1 _ z=>by
    rcases L.inv.ok.stk with q | ⟨q,_⟩
    · rw [q] at h1; exact h1 z
    · rw [q] at h1
      refine h1 ?_
      unfold frs
      rw [List.filterMap_cons]
      split
      · exact z
      · exact List.mem_cons_of_mem _ z
  have n1:=L.inv.yj g1 rfl
  have n2:=L.inv.yj g2 d2
  have I:=L.inv.uw (pins':=(a,Cg C dx vs)::(T,o)::pins) fun p hp=>by
    rcases List.mem_cons.mp hp with rfl | hp
    · exact ⟨g1,L.ha,n1.1,fs a n1.2.2 n1.1,fun v q=>by cases q⟩
    · rcases List.mem_cons.mp hp with rfl | hp -- here
      · exact ⟨g2,L.hT,n2.1,fs T n2.2.2 n2.1,fun v q=>by rw [d2] at q; cases q⟩
      · exact L.inv.pin p (List.mem_append_right _ hp)
  refine thn (he _ s σ H Q I h) fun u s1 z0=>?_
  obtain ⟨v,H1,I1,r,q⟩:=z0
  obtain ⟨e1,z1,_⟩:=I1.pin (a,Cg C dx vs) (List.mem_append_right _ List.mem_cons_self)
  obtain ⟨e2,z2,_⟩:=I1.pin (T,o) (List.mem_append_right _ (List.mem_cons_of_mem _ List.mem_cons_self))
  refine ⟨v,H1,⟨I1.uw fun p hp=>I1.pin p (List.mem_append_right _ (List.mem_cons_of_mem _ (List.mem_cons_of_mem _ hp))),⟨ne,⟨vs,e1,v1⟩,o,ts,e2,d2,t3⟩,z1,z2,L.oa,L.oT⟩,r,q⟩
end
def PHs (X:Cx) (hs:List ExceptHandler) (C:Addr) (t:Addr→TS):Prop :=
  ∀ (pins:List (Addr × Obj)) (s:Shared) (σ:St) (H:Hp) (D:Ends) (a dx T:Addr),Lies X pins σ H s a C dx T→t dx D σ H→wpAny (model X.prog X.w) X.A (handleBy (.ref a) X.env hs) (SP X pins D) X.xe s
section
variable {X:Cx} {rest:List ExceptHandler} {C C1 C2 C3:Addr} {bm bm1 bm2 bm3:List Value} {t:Addr→TS} {x1 x2 x3:Str} {p1 p2 p3 pt pos:Pos} {nm:Option Str} {body:List Stmt} {ec:Nat}
end
end L2
end
section
namespace L2
open PySem PySem.Spec PyProof.Rows
def um (a C dx:Addr):HO:=.ext fun h=>∃ vs,h.get? a=some (Cg C dx vs)
section
variable {X:Cx} {pins:List (Addr × Obj)} {σ:St} {H:Hp} {s:Shared} {a C dx T:Addr}
theorem Lies.seen (L:Lies X pins σ H s a C dx T):Inv X pins σ (upd H a (um a C dx)) s:=by
  have I:=L.inv
  obtain ⟨_,⟨vs,ga,_⟩,_⟩:=L.at_
  have ne:∀ b u,H b=some u→b≠a:=fun b u q=>jc q L.ha
  refine I.step (g':=s.gens) (d':=s.drawn) (t':=s.toks) (h':=s.heap) (ch:=[a]) (fun b hb=>?_) (fun b o _ _ _ q _=>q) (fun b o _ _ _ q _=>⟨o.slots,q⟩) (fun b o hb _ n=>by rw [ao (fun z=>hb (by simp [z]))]; exact n) (fun b o _ q=>⟨o,q⟩)
    (fun b xs q=>by rw [ao (ne b _ q)]; exact q) (fun b o u q=>by rw [ao (ne b _ q)]; exact q) (fun b ps q=>⟨#[],by rw [ao (ne b _ q),q]; simp⟩) (fun _ hm=>hm) (fun b u q=>?_) I.bare
  · obtain rfl:=List.mem_singleton.mp hb -- here
    exact L.oa
  · by_cases z:b=a
    · subst z; rw [aq] at q; cases q
      exact ⟨⟨vs,ga⟩,⟨_,ga⟩,fun h1 h2 ⟨ws,e⟩ k=>⟨ws,k _ e⟩⟩
    · rw [ao z] at q
      exact (I.hok b u q).stay (fun _ _ _ r=>r) (fun c r=>by rw [ao (ne c _ r)]; exact r) fun c xs r=>by rw [ao (ne c _ r)]; exact r
theorem Lies.flight {M:Model} {A:Around} {E:Value→Shared→Prop} {Q:Unit→Shared→Prop} (L:Lies X pins σ H s a C dx T) (h:∀ s',Lies X pins σ H s' a C dx T→Q () s'):wpAny M A (setFlight (.ref a) none) Q E s :=
  qx L.at_ fun h' k x=>h _ ⟨L.inv.noted (k.mono (fun _ z=>nomatch z) (fun _ z=>z)) (fun b hb=>by rw [List.mem_singleton.mp hb]; exact L.hT) (fun b hb=>by rw [List.mem_singleton.mp hb]; exact L.oT),x,L.ha,L.hT,L.oa,L.oT⟩
theorem Lies.note {A:Around} {E:Value→Shared→Prop} {Q:Unit→Shared→Prop} (hst:X.stack=X.env::X.outer) (hfr:X.env.frame=some X.env.locals) (hA:A.frames=some X.stack) (L:Lies X pins σ H s a C dx T) (h:∀ s' T',Lies X pins σ H s' a C dx T'→Q () s') :
    wpAny (model X.prog X.w) A (noteFrame (.ref a) X.env) (fun _ s2=>wpAny (model X.prog X.w) A (setFlight (.ref a) none) Q E s2) E s:=by
  obtain ⟨ne,⟨vs,ga,v1⟩,o,ts,gT,dT,t3⟩:=id L.at_
  have n1:=L.inv.yj ga rfl
  have n2:=L.inv.yj gT dT
  have fr:=L.inv.stack
  rw [hst] at hA n1 n2 fr
  refine Gh (L:=X.env.locals) (base:=X.base) hA fr hfr L.at_ n1.2.2 n2.2.2 fun h' T' hT' k x=>?_
  rw [← hst] at k
  have I1:=L.inv.noted k (fun b hb=>by
    rcases List.mem_cons.mp hb with rfl | hb -- here
    · exact L.ha
    · rw [List.mem_singleton.mp hb]; exact L.hT) (fun b hb=>by
    rcases List.mem_cons.mp hb with rfl | hb -- here
    · exact L.oa
    · rw [List.mem_singleton.mp hb]; exact L.oT)
  refine qx (s:={ s with heap:=h' }) x fun h2 k2 x2=>h _ T' ⟨I1.noted (h':=h2) (k2.mono (fun _ z=>nomatch z) (fun _ z=>z)) (fun b hb=>by rw [List.mem_singleton.mp hb]; exact L.inv.hok.fresh hT') (fun b hb=>by rw [List.mem_singleton.mp hb]; exact L.inv.off hT'),x2,L.ha,L.inv.hok.fresh hT',L.oa,L.inv.off hT'⟩
end
def O1 (i:Nat) (D:Ends):Ends where
  nx:=fun σ H=>D.nx (σ.set i none) H
  rt:=D.rt
  bk:=fun σ H=>D.bk (σ.set i none) H
  ct:=fun σ H=>D.ct (σ.set i none) H
section
variable {X:Cx} {rest:List ExceptHandler} {C C1:Addr} {bm bm1:List Value} {t:Addr→TS} {x1 n:Str} {p1 pos:Pos} {b₀:Stmt} {suite:List Stmt} {ts:TS} {i:Nat}
theorem qp (hd:X.calm=true→X.A.handled=none) (hN:X.N.Nodup) (hi:X.N[i]? = some n) (hn:X.env.scope.names.lookup n=some .local) (c:XCl X.K C bm) (c1:XCl X.K C1 bm1) (y:(Value.ref C::bm).contains (.ref C1)=true) (g1:Gl X x1) (m1:X.mg x1=some (.ref C1))
    (hS:∀ a,PSs (X.mk' a) (b₀::suite) ts) (d1:(x1==("__debug__" : Str))=false:=by decide) :
    PHs X (.ExceptHandler (some (.Name x1 p1)) (some n) (b₀::suite) pos::rest) C fun dx D σ H=>∀ a,H a=none→i<σ.length→ts (O1 i D) (σ.set i (some (.ref a))) (upd H a (um a C dx)):=by
  intro pins s σ H D a dx T L hq
  refine wpAny_handleBy_cons (codeAny_handlers_test ?_) (by intro q; cases q)
  have pe:PE (X.mk' a) (.Name x1 p1) (tC (.ref C1)):=mj g1 m1 rfl d1
  refine wpAny_mono ((L.mk' a).eval (Q:=fun v H1=>v=.ref C1∧H1=H) pe ⟨rfl,rfl⟩) (fun u s1 z0=>?_) fun _ _ z=>False.elim z
  obtain ⟨v,H1,L1,r,ev,eH⟩:=z0
  subst ev
  subst eH
  obtain rfl:u=Value.ref C1:=r
  obtain ⟨_,⟨vs,ga,_⟩,_⟩:=L1.at_
  refine Fw L1.inv.kIn c c1 ga rfl ?_
  rw [y]
  refine codeAny_handlers_suite_as ?_ -- here
  refine L1.flight fun s2 L2=>?_
  refine Ag (X:=X.mk' a) (v:=.ref a) L2.seen hN hi (.inl hn) rfl (fun s3 I3=>?_) (.inr hn)
  refine wpAny_mono (hS a pins s3 _ _ _ I3 (hq a L.ha (by rw [L.inv.len]; exact (List.getElem?_eq_some_iff.mp hi).1))) (fun fl s4 h4=>?_) fun _ _ z=>False.elim z
  cases fl with
  | next =>
    obtain ⟨σ',H',I4,q⟩:=h4
    exact name_goes (I4.Ph hd) hN hi hn fun s5 I5=>⟨_,H',I5,q⟩
  | brk =>
    obtain ⟨σ',H',I4,q⟩:=h4
    exact name_goes (I4.Ph hd) hN hi hn fun s5 I5=>⟨_,H',I5,q⟩
  | cont =>
    obtain ⟨σ',H',I4,q⟩:=h4
    exact name_goes (I4.Ph hd) hN hi hn fun s5 I5=>⟨_,H',I5,q⟩
  | ret u =>
    obtain ⟨v,σ',H',I4,r,q⟩:=h4
    exact name_goes (I4.Ph hd) hN hi hn fun s5 I5=>⟨v,_,H',I5,r,q⟩
end
abbrev TB:=Ends→XK→St→Hp→Prop
def PB (X:Cx) (st:List Stmt) (t:TB):Prop :=
  ∀ (pins:List (Addr × Obj)) (s:Shared) (σ:St) (H:Hp) (D:Ends) (E:XK),Inv X pins σ H s→t D E σ H→wpAny (model X.prog X.w) X.A (execs st X.env) (SP X pins D) (XP X (CXx X.prog X.w) pins σ E) s
def Qj (C:Addr) (tb:TB) (th:Addr→TS):TS:=fun D σ H=>tb D (fun cls dx H'=>∃ d,cls=.ref C∧dx=some d∧th d D σ H') σ H
section
variable {X:Cx} {body:List Stmt} {h₀:ExceptHandler} {hs:List ExceptHandler} {C:Addr} {tb:TB} {th:Addr→TS} {pos:Pos}
theorem Nm (hst:X.stack=X.env::X.outer) (hfr:X.env.frame=some X.env.locals) (hb:PB X body tb) (hh:PHs X (h₀::hs) C th):PS X (.Try body (h₀::hs) [] [] pos) (Qj C tb th):=by
  intro pins s σ H D I h
  refine wpAny_Try_except (wpAny_mono (hb pins s σ H D _ I h) (fun f s1 q=>?_) fun e s1 q=>?_)
  · cases f with
    | next=>exact wpAny_execs_nil q
    | brk=>exact q
    | cont=>exact q
    | ret u=>exact q
  · obtain ⟨a,C',dx,T,H',rfl,L,d,e1,e2,q⟩:=q.lies
    cases e1
    cases e2
    exact L.note hst hfr L.inv.ok.frames fun s2 T' L2=>hh pins s2 σ H' D a dx T' L2 q
end
end L2
end
section
namespace C
open PySem PySem.Spec PyProof.Rows L2
def Rn (K:PySem.W.Frag) (B:Bas) (Cl:Addr) (f:Str) (E:XK) (D:Ends) (ps:List (V × T)):Flow ⊕ T→Sta→Prop
  | .inl fl,st'=>Fin K B D ps fl st'
  | .inr t,st'=>∀ v dx σ' H' S' as',Rel K B st' σ' H' ((v,t)::ps) S' as'→S' dx=some (jm dx f v)→E (.ref Cl) (some dx) H'
def Ed (K:PySem.W.Frag) (B:Bas) (Cl:Addr) (f:Str) (E:XK) (s:SX):TS:=fun D σ H=>∃ st ps S as,Rel K B st σ H ps S as∧∃ fl st',s st=some (fl,st')∧Rn K B Cl f E D ps fl st'
section
variable {K:PySem.W.Frag} {B:Bas} {st:Sta} {σ σ':L2.St} {H S:Hp} {ps:List (V × T)} {as:List Addr}
theorem Rel.clr {i:Nat} (r:Rel K B st σ H ps S as) (h:∀ k,k≠i→σ'[k]? = σ[k]?) (hl:σ'.length=σ.length):Rel K B (clr i st) σ' H ps S as:=by
  have key:∀ (k:Nat) t f,(st.env.set i none)[k]? = some (some (t,f))→k≠i∧st.env[k]? = some (some (t,f)):=fun k t f e=>by
    by_cases z:i=k
    · subst z
      by_cases q:i<st.env.length
      · rw [List.getElem?_set_self q] at e; cases e
      · rw [List.getElem?_eq_none (by rw [List.length_set]; exact Nat.le_of_not_lt q)] at e; cases e
    · rw [List.getElem?_set_ne z] at e; exact ⟨Ne.symm z,e⟩
  refine ⟨r.sub,r.grow,fun k t f e=>?_,fun a b t u p ea eb sa sb=>?_,r.sto,r.pend,by rw [hl,r.len]; exact (List.length_set ..).symm⟩
  · obtain ⟨n,e'⟩:=key k t f e
    rw [h k n]; exact r.slots k t f e'
  · obtain ⟨na,ea'⟩:=key a t true ea
    obtain ⟨nb,eb'⟩:=key b u true eb
    rw [h a na] at sa
    rw [h b nb] at sb
    exact r.apart a b t u p ea' eb' sa sb
end
section
variable {X:Cx} {B:Bas} {c:Expr} {pos:Pos} {u v:SX} {Cl:Addr} {f:Str} {E:XK}
theorem bh {st:List Stmt} {w:S} (h:PSs X st (sOf X.K B w)):PSs X st (Ed X.K B Cl f E (lx w)):=fun pins s σ H D I z9=>by
  obtain ⟨st,ps,S,as,R,fl,st',e,q⟩:=z9
  unfold lx at e
  cases z:w st with
  | none=>rw [z] at e; cases e
  | some p=>obtain ⟨fl',s'⟩:=p; rw [z] at e; cases e; exact h pins s σ H D I ⟨st,ps,S,as,R,fl',_,z,q⟩
theorem fj {st:Stmt} (h1:PS X st (Ed X.K B Cl f E u)):PSs X [st] (Ed X.K B Cl f E u):=m5 h1
theorem Jf {st st':Sta} {fl:Flow ⊕ T} (h:lu u v st=some (fl,st')):(∃ s1,u st=some (.inl .next,s1)∧v s1=some (fl,st'))∨(u st=some (fl,st')∧fl≠.inl .next):=by
  unfold lu at h
  split at h
  · rename_i s1 e; exact .inl ⟨s1,e,h⟩
  · rename_i r hn
    refine .inr ⟨h,fun z=>?_⟩
    subst z
    exact hn _ h
theorem dh {st:Stmt} {rest:List Stmt} (h1:PS X st (Ed X.K B Cl f E u)) (h2:PSs X rest (Ed X.K B Cl f E v)):PSs X (st::rest) (Ed X.K B Cl f E (lu u v)):=(Cv h1 h2).imp fun D σ H z9=>by
  obtain ⟨st,ps,S,as,R,fl,st',e,q⟩:=z9
  rcases Jf e with ⟨s1,e1,e2⟩ | ⟨e1,hn⟩
  · exact ⟨st,ps,S,as,R,.inl .next,s1,e1,fun σ' H' S' as' R'=>⟨s1,ps,S',as',R',fl,st',e2,q⟩⟩
  · refine ⟨st,ps,S,as,R,fl,st',e1,?_⟩
    cases fl with
    | inr t=>exact q
    | inl fl =>
      cases fl with
      | next=>exact absurd rfl hn
      | ret t=>exact q
      | brk=>exact q
      | cont=>exact q
theorem j8 {c1:M Bool} {sa sb:List Stmt} (hc:PT X c (cOf X.K B c1)) (ha:PSs X sa (Ed X.K B Cl f E u)) (hb:PSs X sb (Ed X.K B Cl f E v)):PS X (.If c sa sb pos) (Ed X.K B Cl f E (xIf c1 u v)):=(Oa hc ha hb).imp fun D σ H z9=>by
  obtain ⟨st,ps,S,as,R,fl,st',e,q⟩:=z9
  unfold xIf at e
  split at e
  · rename_i s1 e1
    exact ⟨st,ps,S,as,R,true,s1,e1,fun H1 S1 as1 R1=>Pg ⟨s1,ps,S1,as1,R1,fl,st',e,q⟩⟩
  · rename_i s1 e1
    exact ⟨st,ps,S,as,R,false,s1,e1,fun H1 S1 as1 R1=>Ox ⟨s1,ps,S1,as1,R1,fl,st',e,q⟩⟩
  · cases e
theorem J9 {D fI:Addr} {p x:Str} {fd:FuncData} {arg:Expr} {m:M T} {np cpos:Pos} (W:XW X E) (c:XC X.K Cl D fI f) (F:lq X.prog X.w X.K X.mg X.base CX0 1 fI fd ["self",p] (ur Cl f)) (hr:nu 2 X.A) (hb:Binds X.K fd ["self",p] []) (hg:Gl X x) (hm:X.mg x=some (.ref Cl)) (ha:PE X arg (tOf X.K B m))
    (hdb:(x==("__debug__" : Str))=false:=by decide) (he:starEach [arg] X.env=[(false,eval arg X.env)]:=by rfl) :
    PS X (.Raise (some (.Call (.Name x np) [arg] [] cpos)) none pos) (Ed X.K B Cl f E (jo m)):=(Hx W c F hr hb hg hm ha hdb he).imp fun D σ H z9=>by
  obtain ⟨st,ps,S,as,R,fl,st',e,q⟩:=z9
  unfold jo at e
  split at e
  · rename_i t s1 e1
    cases e
    exact ⟨st,ps,S,as,R,t,_,e1,fun v H1 S1 as1 R1 dx hn=>q v dx σ _ _ as1 (R1.ext (Ext.laid R1.sub hn _)) aq⟩
  · cases e
end
end C
end
section
namespace C
open PySem PySem.Spec PyProof.Rows L2
def Rw (K:PySem.W.Frag) (B:Bas) (Cl:Addr) (f:Str) (sto':List SO) (Q:VK) (E:XK):T ⊕ T→Prop
  | .inl t=>∀ v H' S' as',Mr B S' as' H'→Same S' H'→qd K S' as' H' sto'→Rep K S' as' v t→Q v H'
  | .inr t=>∀ v dx H' S' as',Mr B S' as' H'→Same S' H'→qd K S' as' H' sto'→Rep K S' as' v t→S' dx=some (jm dx f v)→E (.ref Cl) (some dx) H'
def spX (K:PySem.W.Frag) (ar:Nat) (Cl:Addr) (f:Str) (F:FnX):Sp:=fun vs H Q E=>∃ S as sto ts r sto',Same S H∧qd K S as H sto∧kj K S as vs ts∧ts.length=ar∧F ts sto=some (r,sto')∧Rw K ⟨S,as,H⟩ Cl f sto' Q E r
section
variable {P:Program} {w:World} {K:PySem.W.Frag} {mg:Str→Option Value} {base:Heap}
theorem o8 {x qual:Str} {st:Stmt} {a Cl:Addr} {f:Str} {fd:FuncData} {N ps:List Str} {k:Nat} {b:SX} (F:Fun K x qual st a fd) (Sc:iz N ps (bf st)) (hN:ps.length≤N.length)
    (hb:∀ (cdv:Value) (A:Around) (outer:List Env) (s:Shared) (H:Hp) (E:XK) (B:Bas),nu k (A.deeper (envOfC qual (bf st) s.heap.objs.size a cdv)) →
      PSs (Hh (CXx P w) P w K mg base N qual (bf st) a cdv A outer s H E) (jh st) (Ed K B Cl f E b)):lq P w K mg base (CXx P w) (k+1) a fd ps (spX K ps.length Cl f (ju N.length b)):=by
  obtain ⟨oc,od,kV,doc,pm,an,cdv,ct,osl,rfl,lk,hcd⟩:=F.ex
  refine Nj lk hcd Sc (fun vs H Q E ⟨S,as,sto,ts,t,sto',h1,h2,h3,h4,_⟩=>by rw [h3.length,h4]) fun A outer s H vs Q E hr h=>?_
  obtain ⟨S,as,sto,ts,r,sto',h1,h2,h3,h4,h5,q⟩:=h
  refine ⟨_,hb cdv A outer s H E ⟨S,as,H⟩ hr,?_⟩
  have R:Rel K ⟨S,as,H⟩ ⟨ts.map (fun t=>some (t,false))++List.replicate (N.length - ts.length) none,sto⟩ (L2.start N vs) H [] S as:=Av h1 h2 h3 (by rw [h4]; exact hN)
  unfold ju at h5
  split at h5
  · rename_i t' s' e
    cases h5
    exact ⟨_,[],S,as,R,.inl (.ret _),s',e,fun v σ' H' S' as' R'=>q v H' S' as' R'.grow R'.sub R'.sto R'.top⟩
  · rename_i s' e
    cases h5
    exact ⟨_,[],S,as,R,.inl .next,s',e,fun σ' H' S' as' R'=>q .non H' S' as' R'.grow R'.sub R'.sto .non⟩
  · rename_i t' s' e
    cases h5
    exact ⟨_,[],S,as,R,.inr _,s',e,fun v dx σ' H' S' as' R' hd=>q v dx H' S' as' R'.grow R'.sub R'.sto R'.top hd⟩
  · cases h5
end
section
variable {X:Cx} {B:Bas} {e:Expr} {es:List Expr} {ms:M (List T)} {pos p q1 q2 tpos:Pos} {k:Nat} {a Cl:Addr} {f x:Str} {fd:FuncData} {pn:List Str} {F:FnX} {h₀:ExceptHandler} {hs:List ExceptHandler} {th:Addr→TS} {i j:Nat} {hv:T→Option T}
theorem Mi (G:lq X.prog X.w X.K X.mg X.base (CXx X.prog X.w) k a fd pn (spX X.K pn.length Cl f F)) (hr:nu k X.A) (hg:Gl X x) (hm:X.mg x=some (.ref a)) (hk:PySem.W.keepIn X.K (.ref a)=true) (hb:Binds X.K fd pn [])
    (ha:PA X.nox (e::es) (aOf X.K B ms)) (hdb:(x==("__debug__" : Str))=false:=by decide)
    (he:starEach (e::es) X.env=(false,eval e X.env)::starEach es X.env:=by rfl) (hpl:(backTo pos (starEach es X.env)).any (·.1)=false:=by rfl) (hsw:swapsWith (.Call (.Name x p) (e::es) [] pos) none q1.line X.env=pure false:=by rfl) :
    PB X [.Expr (.Call (.Name x p) (e::es) [] pos) q1] fun D E σ H=>aOf X.K B ms σ H fun vs H1=>spX X.K pn.length Cl f F vs H1 (fun _ H2=>D.nx σ H2) E:=by
  intro pins s σ H D E I h
  refine wpAny_execs_cons (wpAny_mono (wpAny_Expr_any (Q:=SP X pins D) (thn (K9 G hr hg hm hk hb ha hdb he hpl pins s σ H (fun _ H2=>D.nx σ H2) E I h) fun v s1 z7=>by obtain ⟨y,H1,I1,r1,q1⟩:=z7; exact ⟨σ,H1,I1,q1⟩) I.quiet hsw) (fun fl s1 hq=>?_) fun _ _ z=>z)
  cases fl with
  | next=>exact wpAny_execs_nil hq
  | brk=>exact hq
  | cont=>exact hq
  | ret u=>exact hq
end
end C
end
section
namespace L2
open PySem PySem.Spec PyProof.Rows
structure XG (K:PySem.W.Frag) (C:Addr) (f:Str):Prop where
  ga:PySem.W.findIn K (.ref C) "__getattribute__" = some (some (.builtin "BaseException.__getattribute__"))
  gt:PySem.W.findIn K (.ref C) "__getattr__" = some none
  bx:PySem.W.mroIn K C (.type "BaseException")=some true
  dc:PySem.W.hasDictIn K C=true
  na:PySem.W.findIn K (.ref C) f=some none
  cl:PySem.W.findIn K (.ref C) "__class__" = some (some (.builtin "object.__class__"))
  cg:PySem.W.specialIn K (.builtin "object.__class__") "__get__" = some (some (.builtin "getset_descriptor.__get__"))
  ct:PySem.W.takesIn K (.builtin "object.__class__")=some true
  ob:PySem.W.mroIn K C (.type "object")=some true
  ve:PySem.W.kitOne K (.ref C) (.type "ValueError")=some true
theorem Cj {v:V} {u:Value} (r:RelV v u):PySem.W.handedIn u=true:=by
  cases v with
  | non=>cases r; rfl
  | bl b=>cases r; rfl
  | int i=>obtain ⟨t,rfl⟩:=r; rfl
  | str x=>obtain ⟨t,rfl⟩:=r; rfl
  | byt b=>obtain ⟨t,rfl⟩:=r; rfl
  | flt b=>obtain ⟨t,rfl⟩:=r; rfl
  | ref a=>cases r; rfl
  | ty n=>cases r; rfl
section
variable {X:Cx} {e:Expr} {C:Addr} {f:Str} {i:Nat} {pos p:Pos}
end
end L2
namespace C
open PySem PySem.Spec PyProof.Rows L2
section
variable {K:PySem.W.Frag} {B:Bas} {f:Str} {i j:Nat} {hv:T→Option T} {th:Addr→TS} {Cl:Addr} {te:TE}
end
end C
end
section
namespace C
open PySem PySem.Spec PyProof.Rows L2
structure XR (P:Program) (w:World) (K:PySem.W.Frag) (mg:Str→Option Value) (base:Heap) (x:Str) (Cl:Addr) (f p:Str):Prop where
  ex:∃ D fI fd,XC K Cl D fI f∧lq P w K mg base CX0 1 fI fd ["self",p] (ur Cl f)∧Binds K fd ["self",p] []
  m:mg x=some (.ref Cl)
def ji (P:Program) (w:World) (K:PySem.W.Frag) (mg:Str→Option Value) (base:Heap) (x:Str) (n:Nat) (ps:List Str) (Cl:Addr) (f:Str) (F:FnX):Prop :=
  ∃ (a:Addr) (fd:FuncData),lq P w K mg base (CXx P w) n a fd ps (spX K ps.length Cl f F)∧Binds K fd ps []∧PySem.W.keepIn K (.ref a)=true∧mg x=some (.ref a)
theorem ji.mono {P:Program} {w:World} {K:PySem.W.Frag} {mg:Str→Option Value} {base:Heap} {x:Str} {n m:Nat} {ps:List Str} {Cl:Addr} {f:Str} {F:FnX} (D:ji P w K mg base x n ps Cl f F) (h:n≤m):ji P w K mg base x m ps Cl f F :=
  let ⟨a,fd,h1,h2⟩:=D; ⟨a,fd,h1.mono h,h2⟩
def Ry (K:PySem.W.Frag) (mg:Str→Option Value) (x:Str) (Cl:Addr) (bm:List Value):Prop:=XCl K Cl bm∧mg x=some (.ref Cl)
section
variable {X:Cx} {B:Bas} {e:Expr} {es:List Expr} {ms:M (List T)} {pos p q1 q2 tpos:Pos} {k:Nat} {Cl:Addr} {f x:Str} {pn:List Str} {F:FnX} {h₀:ExceptHandler} {hs:List ExceptHandler} {th:Addr→TS} {i j:Nat} {hv:T→Option T}
theorem jz {E:XK} {pr:Str} {arg:Expr} {m:M T} {np cpos:Pos} (R:XR X.prog X.w X.K X.mg X.base x Cl f pr) (W:XW X E) (hr:nu 2 X.A) (hg:Gl X x) (ha:PE X arg (tOf X.K B m))
    (hdb:(x==("__debug__" : Str))=false:=by decide) (he:starEach [arg] X.env=[(false,eval arg X.env)]:=by rfl) :
    PS X (.Raise (some (.Call (.Name x np) [arg] [] cpos)) none pos) (Ed X.K B Cl f E (jo m)):=by
  obtain ⟨⟨D,fI,fd,h1,h2,h3⟩,m⟩:=R
  exact J9 W h1 h2 hr h3 hg m ha hdb he
end
end C
end
section
namespace C
open PySem
end C
end
section
namespace L2
open PySem PySem.Spec PyProof.Rows
section
variable {P:Program} {w:World} {K:PySem.W.Frag} {mg:Str→Option Value} {base:Heap} {N:List Str} {qual:Str} {scope:Scope} {f:Addr} {cd:Value} {A:Around} {outer:List Env} {s₀:Shared} {H₀:Hp} {E:XK}
end
end L2
namespace C
open PySem PySem.Spec PyProof.Rows L2
section
variable {X:Cx} {B:Bas} {c e:Expr} {es:List Expr} {ms:M (List T)} {pos p q1 tpos:Pos} {u:SX} {Cl a:Addr} {f x y:Str} {E:XK} {fd:FuncData} {pn:List Str} {F:FnX} {k i:Nat}
end
end C
end
section
namespace L2
open PySem PySem.Spec PyProof.Rows
section
variable {X:Cx} {pins:List (Addr × Obj)} {σ:St} {H:Hp} {s:Shared} {e:Addr}
theorem Inv.Px {φ ψ:Heap→Prop} (I:Inv X pins σ (upd H e (.ext φ)) s) (h:φ s.heap→ψ s.heap) (st:∀ h1 h2:Heap,ψ h1→(∀ o,h1.get? e=some o→h2.get? e=some o)→ψ h2):Inv X pins σ (upd H e (.ext ψ)) s:=by
  have ne:∀ b u,upd H e (.ext φ) b=some u→(∀ ψ,u≠.ext ψ)→upd H e (.ext ψ) b=some u:=fun b u q n=>by
    by_cases z:b=e
    · subst z; rw [aq] at q; cases q; exact absurd rfl (n _)
    · rw [ao z] at q ⊢; exact q
  have fr:∀ b,upd H e (.ext φ) b=none→upd H e (.ext ψ) b=none:=fun b q=>by
    by_cases z:b=e
    · subst z; rw [aq] at q; cases q
    · rw [ao z] at q ⊢; exact q
  refine I.step (g':=s.gens) (d':=s.drawn) (t':=s.toks) (h':=s.heap) (ch:=[]) (fun _ z=>nomatch z) (fun b o _ _ _ q _=>q) (fun b o _ _ _ q _=>⟨o.slots,q⟩) (fun b o _ _ n=>fr b n) (fun b o _ q=>⟨o,q⟩)
    (fun b xs q=>ne b _ q (fun _=>by intro z; cases z)) (fun b o u q=>ne b _ q (fun _=>by intro z; cases z)) (fun b ps q=>⟨#[],by rw [ne b _ q (fun _=>by intro z; cases z)]; simp⟩) (fun _ hm=>hm) (fun b u q=>?_) I.bare
  by_cases z:b=e
  · subst z
    rw [aq] at q; cases q
    obtain ⟨a1,a2,_⟩:=I.hok b _ aq
    exact ⟨h a1,a2,st⟩
  · refine (I.hok b u (by rw [ao z] at q ⊢; exact q)).stay (fun _ _ _ r=>r) (fun c r=>ne c _ r (fun _=>by intro z; cases z)) fun c xs r=>ne c _ r (fun _=>by intro z; cases z)
end
section
variable {X:Cx} {C D fI:Addr} {f p x:Str} {fd:FuncData} {arg:Expr} {te:TE} {np cpos pos:Pos}
theorem Ma (c:XC X.K C D fI f) (F:lq X.prog X.w X.K X.mg X.base CX0 1 fI fd ["self",p] (ur C f)) (hr:nu 2 X.A) (hb:Binds X.K fd ["self",p] []) (hg:Gl X x) (hm:X.mg x=some (.ref C)) (ha:PE X arg te)
    (hdb:(x==("__debug__" : Str))=false:=by decide) (he:starEach [arg] X.env=[(false,eval arg X.env)]:=by rfl) :
    PE X (.Call (.Name x np) [arg] [] cpos) fun σ H Q=>te σ H fun v H1=>∀ dx e,H1 dx=none→upd H1 dx (jm dx f v) e=none→Q (.ref e) (upd (upd H1 dx (jm dx f v)) e (um e C dx)):=by
  intro pins s σ H Q I h
  refine wpAny_Call_Name_kw (uz I hg hm ?_ hdb)
  refine PySem.W.callWith_K (h₀:=X.base) I.ok.mod.kin c.kp (thn (ql ha Al (by rw [he]; rfl) cpos pins s σ H (fun vs H1=>match vs with | [v]=>∀ dx e,H1 dx=none→upd H1 dx (jm dx f v) e=none→Q (.ref e) (upd (upd H1 dx (jm dx f v)) e (um e C dx)) | _=>False) I h) fun us s1 ⟨vs,H1,I1,r,q⟩=>⟨I1.kIn,?_⟩) he rfl
  obtain ⟨v,ev,hE⟩:∃ v,vs=[v]∧∀ dx e,H1 dx=none→upd H1 dx (jm dx f v) e=none→Q (.ref e) (upd (upd H1 dx (jm dx f v)) e (um e C dx)):=by
    match vs,q with
    | [v],q=>exact ⟨v,rfl,q⟩
  subst ev
  obtain ⟨u,eu,rv⟩:=r.one
  subst eu
  exact G7 c F hr hb I1 rv fun s' e t dx h1 h2 h3 h4 I2 =>
    ⟨.ref e,_,I2.Px (ψ:=fun h=>∃ vs,h.get? e=some (Cg C dx vs)) (fun z=>⟨_,z⟩) (fun h1 h2 ⟨ws,e⟩ k=>⟨ws,k _ e⟩),rfl,hE dx e h2 (by rw [ao (Ne.symm h3)]; exact h1)⟩
end
section
variable {X:Cx} {e:Expr} {C:Addr} {f:Str} {te:TE} {pos p:Pos}
theorem Jx (g:XG X.K C f) (he:PE X e te) (hb:attributeBase e f X.env (eval e X.env)=eval e X.env) :
    PE X (.Attribute e f pos) fun σ H Q=>te σ H fun x H1=>∃ a dx v,x=.ref a∧H1 a=some (um a C dx)∧H1 dx=some (jm dx f v)∧Q v H1:=by
  intro pins s σ H Q I h
  refine Kg hb (thn (he pins s σ H _ I h) fun u s1 z0=>?_)
  obtain ⟨x,H1,I1,rx,a,dx,v,ex,e2,e3,q⟩:=z0
  subst ex
  obtain rfl:u=Value.ref a:=rx
  obtain ⟨⟨vs,ga⟩,_⟩:=I1.hok a _ e2
  obtain ⟨⟨hs,tk,u,r,gd⟩,_⟩:=I1.hok dx _ e3
  refine My.Ja (ox:=Cg C dx vs) (od:=some (PySem.W.dictOf [⟨hs,.str f tk,u⟩] 1)) I1.kIn ⟨ga,rfl,rfl,gd⟩ g.ga g.gt g.bx (PySem.W.findObj_own g.dc g.na rfl ?_) (Cj r) ⟨v,H1,I1.tok _,r,q⟩
  rw [PySem.W.lookIn_dict]
  simp [PySem.W.getL,Value.isStr]
theorem Im {cv:V} {cw:Value} (hcv:∀ u,RelV cv u→u=cw):El X (.builtin "isinstance") (fun xs H Q=>∃ a dx v C f b,xs=[.ref a,cv]∧H a=some (um a C dx)∧H dx=some (jm dx f v)∧XG X.K C f∧PySem.W.kitOne X.K (.ref C) cw=some b∧Q (.bl b) H):=by
  intro pins s σ H xs us Q I rs z8
  obtain ⟨a,dx,v,C,f,b,ex,e2,e3,g,hk,q⟩:=z8
  subst ex
  obtain ⟨u1,u2,rfl,r1,r2⟩:=rs.two
  obtain rfl:u1=Value.ref a:=r1
  obtain rfl:=hcv u2 r2
  obtain ⟨⟨vs,ga⟩,_⟩:=I.hok a _ e2
  obtain ⟨⟨hs,tk,u,r,gd⟩,_⟩:=I.hok dx _ e3
  exact PySem.W.kia_one (My.Il (ox:=Cg C dx vs) (od:=PySem.W.dictOf [⟨hs,.str f tk,u⟩] 1) g.ga g.gt g.bx g.dc g.cl g.cg g.ct g.ob) I.kIn ⟨ga,rfl,rfl,gd⟩ hk (by intro q; cases q) fun t=>⟨.bl b,H,I.tok t,rfl,q⟩
end
end L2
namespace C
open PySem PySem.Spec PyProof.Rows L2
section
variable {X:Cx} {B:Bas} {Cl D fI:Addr} {f p x:Str} {fd:FuncData} {arg:Expr} {m:M T} {np cpos pos:Pos}
theorem Mf (c:XC X.K Cl D fI f) (F:lq X.prog X.w X.K X.mg X.base CX0 1 fI fd ["self",p] (ur Cl f)) (hr:nu 2 X.A) (hb:Binds X.K fd ["self",p] []) (hg:Gl X x) (hm:X.mg x=some (.ref Cl)) (ha:PE X arg (tOf X.K B m))
    (hdb:(x==("__debug__" : Str))=false:=by decide) (he:starEach [arg] X.env=[(false,eval arg X.env)]:=by rfl) :
    PE X (.Call (.Name x np) [arg] [] cpos) (tOf X.K B (vq Cl f m)):=(Ma c F hr hb hg hm ha hdb he).imp fun σ H Q z9=>by
  obtain ⟨st,ps,S,as,R,t,st',e,q⟩:=z9
  unfold vq at e
  split at e
  · rename_i t1 s1 e1
    cases e
    refine ⟨st,ps,S,as,R,t1,_,e1,fun v H1 S1 as1 R1 dx a hdx ha=>?_⟩
    have R2:=R1.ext (Ext.laid R1.sub hdx (jm dx f v))
    have R3:=R2.drop.newObj (ob:=um a Cl dx) (so:=.exc Cl f t1) ha ⟨dx,v,aq,aq,R2.top.mono (Same.refl _) ⟨[a],rfl⟩⟩
    exact q _ _ _ _ R3
  · cases e
theorem o9 (R:XR X.prog X.w X.K X.mg X.base x Cl f p) (hr:nu 2 X.A) (hg:Gl X x) (ha:PE X arg (tOf X.K B m)) (hdb:(x==("__debug__" : Str))=false:=by decide) (he:starEach [arg] X.env=[(false,eval arg X.env)]:=by rfl) :
    PE X (.Call (.Name x np) [arg] [] cpos) (tOf X.K B (vq Cl f m)):=by
  obtain ⟨⟨D,fI,fdI,c,F,hb⟩,hm⟩:=R
  exact Mf c F hr hb hg hm ha hdb he
theorem Jo {st:Sta} {σ:L2.St} {H S:Hp} {ps:List (V × T)} {as:List Addr} {v:V} {n:Nat} {c:Nat} {g:Str} {t:T} (R:Rel X.K B st σ H ((v,.obj n)::ps) S as) (e:st.sto[n]? = some (.exc c g t)) :
    ∃ a dx w,v=.ref a∧H a=some (um a c dx)∧H dx=some (jm dx g w)∧Rep X.K S as w t:=by
  have tp:=R.top
  cases tp with
  | @obj _ a ha =>
    obtain ⟨a0,l0,_,dx,w,h1,h2,h3⟩:=R.sto.at' n _ e
    rw [ha] at l0; cases l0
    exact ⟨a,dx,w,rfl,h1,R.sub _ _ h2,h3⟩
theorem Dp {e:Expr} (g:XG X.K Cl f) (he:PE X e (tOf X.K B m)) (hb:attributeBase e f X.env (eval e X.env)=eval e X.env:=by rfl):PE X (.Attribute e f pos) (tOf X.K B (mXf Cl f m)):=(Jx g he hb).imp fun σ H Q z9=>by
  obtain ⟨st,ps,S,as,R,t,st',e,q⟩:=z9
  unfold mXf at e
  split at e
  · rename_i n s1 e1
    split at e
    · rename_i d g' t' e2
      split at e
      · rename_i hc
        obtain ⟨hc1,hc2⟩:=hc
        subst hc1 hc2
        cases e
        refine ⟨st,ps,S,as,R,_,_,e1,fun v H1 S1 as1 R1=>?_⟩
        obtain ⟨a,dx,w,ev,h1,h2,h3⟩:=Jo R1 e2
        exact ⟨a,dx,w,ev,h1,h2,q _ _ _ _ (R1.drop.push h3)⟩
      · cases e
    · cases e
  · cases e
theorem sy {e d:Expr} {cv:V} {cw:Value} {tb:List (Nat × Str × Bool)} (hcv:∀ u,RelV cv u→u=cw) (hd:PE X d (tC cv)) (hg:Gl X "isinstance") (hm:X.mg "isinstance" = none) (he:PE X e (tOf X.K B m))
    (ht:∀ p∈tb,XG X.K p.1 p.2.1∧PySem.W.kitOne X.K (.ref p.1) cw=some p.2.2) (hs:starEach [e,d] X.env=(false,eval e X.env)::starEach [d] X.env:=by rfl) (hs2:starEach [d] X.env=(false,eval d X.env)::starEach [] X.env:=by rfl) (hpl:(backTo pos (starEach [d] X.env)).any (·.1)=false:=by rfl) :
    PE X (.Call (.Name "isinstance" np) [e,d] [] pos) (tOf X.K B (Bp tb m)):=(Dd (Im hcv) hg hm PyProof.Rows.boot_isinstance (ql he (ql hd Al hs2) hs) (by decide) (by decide) hs hpl).imp fun σ H Q z9=>by
  obtain ⟨st,ps,S,as,R,t,st',e,q⟩:=z9
  unfold Bp at e
  split at e
  · rename_i n s1 e1
    split at e
    · rename_i d g t' e2
      split at e
      · rename_i pp e3
        cases e
        have hp:=List.mem_of_find?_eq_some e3
        have hf:=List.find?_some e3
        rw [Bool.and_eq_true] at hf
        have f1:pp.1=d:=eq_of_beq hf.1
        have f2:pp.2.1=g:=eq_of_beq hf.2
        obtain ⟨k1,k2⟩:=ht pp hp
        rw [f1,f2] at k1
        rw [f1] at k2
        refine ⟨st,ps,S,as,R,_,_,e1,fun v H1 S1 as1 R1=>?_⟩
        obtain ⟨a,dx,w,ev,h1,h2,h3⟩:=Jo R1 e2
        exact ⟨a,dx,w,d,g,_,by rw [ev],h1,h2,k1,k2,q _ _ _ _ (R1.drop.push (.bl _))⟩
      · cases e
    · cases e
  · cases e
end
section
variable {K:PySem.W.Frag} {B:Bas} {f:Str} {i j:Nat} {th:Addr→TS} {Cl:Addr}
def Qv (K:PySem.W.Frag) (B:Bas) (Cl:Addr) (f:Str) (i j:Nat) (th:Addr→TS):Prop :=
  ∀ dx D σ H st ps S as v t,Rel K B st σ H ((v,t)::ps) S as→S dx=some (jm dx f v)→(∀ σ' H' S' as',Rel K B (clr i (j5 j (.obj st.sto.length) false (clr i { st with sto:=st.sto++[.exc Cl f t] }))) σ' H' ps S' as'→D.nx σ' H')→th dx D σ H
theorem oh:Qv K B Cl f i j (fun dx D σ H=>∀ a,H a=none→i<σ.length→Qs (P0 i) (Fq j) (O1 i D) (σ.set i (some (.ref a))) (upd H a (um a Cl dx))):=fun dx D σ H st ps S as v t R hd q a ha hi=>by
  have R1:=R.drop.newObj (ob:=um a Cl dx) (so:=.exc Cl f t) ha ⟨dx,v,aq,hd,R.top.mono (Same.refl _) ⟨[a],rfl⟩⟩
  have R2:=R1.clr (i:=i) (σ':=σ.set i (some (.ref a))) (fun k n=>List.getElem?_set_ne (Ne.symm n)) (List.length_set ..)
  refine ⟨_,List.getElem?_set_self hi,?_⟩
  exact q _ _ _ _ ((R2.drop.put R2.top).clr (fun k n=>List.getElem?_set_ne (Ne.symm n)) (List.length_set ..))
end
section
variable {X:Cx} {B:Bas} {e:Expr} {es:List Expr} {ms:M (List T)} {pos p q1 q2 tpos:Pos} {k:Nat} {a Cl:Addr} {f x:Str} {fd:FuncData} {pn:List Str} {F:FnX} {h₀:ExceptHandler} {hs:List ExceptHandler} {th:Addr→TS} {i j:Nat}
theorem qm (D:ji X.prog X.w X.K X.mg X.base x k pn Cl f F) (hst:X.stack=X.env::X.outer) (hfr:X.env.frame=some X.env.locals) (hr:nu k X.A) (hg:Gl X x)
    (ha:PA X.nox (e::es) (aOf X.K B ms)) (hl:∀ st ts st',ms st=some (ts,st')→ts.length=pn.length) (hh:PHs X (h₀::hs) Cl th) (ho:Qv X.K B Cl f i j th) (hdb:(x==("__debug__" : Str))=false:=by decide)
    (he:starEach (e::es) X.env=(false,eval e X.env)::starEach es X.env:=by rfl) (hpl:(backTo pos (starEach es X.env)).any (·.1)=false:=by rfl) (hsw:swapsWith (.Call (.Name x p) (e::es) [] pos) none q1.line X.env=pure false:=by rfl) :
    PS X (.Try [.Expr (.Call (.Name x p) (e::es) [] pos) q1] (h₀::hs) [] [] q2) (sOf X.K B (jr Cl f F ms i j)):=by
  obtain ⟨fa,fd,G,hb,hk,hm⟩:=D
  refine (Nm hst hfr (Mi G hr hg hm hk hb ha hdb he hpl hsw) hh).imp fun D σ H z0=>?_
  obtain ⟨st,ps,S,as,R,fl,st',e,q⟩:=z0
  unfold jr at e
  split at e
  · rename_i ts s1 e1
    split at e
    · rename_i t sto e2
      cases e
      refine ⟨st,ps,S,as,R,ts,s1,e1,fun vs H1 S1 as1 R1 rs=>⟨S1,as1,s1.sto,ts,.inr t,sto,R1.sub,R1.sto,rs,hl _ _ _ e1,e2,?_⟩⟩
      exact fun v dx H2 S2 as2 g sub so r hd=>⟨dx,rfl,rfl,ho dx D σ H2 _ ps S2 as2 v t ((R1.call g sub so).push r) hd q⟩
    · cases e
  · cases e
theorem K3 {st:Stmt} {l:List S} (h:∀ u∈l,PS X st (sOf X.K B u)):PS X st (sOf X.K B (Gu i l)):=by
  intro pins s σ H D I z8
  obtain ⟨st0,ps,S,as,R,fl,st',e,q⟩:=z8
  unfold Gu at e
  split at e
  · split at e
    · rename_i u hu
      exact h u (List.mem_of_getElem? hu) pins s σ H D I ⟨st0,ps,S,as,R,fl,st',e,q⟩
    · cases e
  · cases e
theorem d9 {E:XK} {st:Stmt}:PS X st (Ed X.K B Cl f E fun _=>none):=fun pins s σ H D I ⟨st0,ps,S,as,R,fl,st',e,q⟩=>by cases e
end
end C
end
section
namespace C
open PySem PySem.Spec PyProof.Rows L2
section
variable {X:Cx} {B:Bas} {a b:Expr} {m1 m2:M T} {pos p2:Pos}
theorem Lk:SlR X (fun x lo hi H Q=>∃ y i,x=.str y∧lo=some i∧hi=none∧(zj y i).length≤sizeLine∧Q (.str (zj y i)) H):=by
  intro pins s σ H x v vl vu lo hi sl Q I rx hs pl pu z8
  obtain ⟨y,i,ex,el,eh,hl,q⟩:=z8
  subst ex el eh
  obtain ⟨t,rfl⟩:=rx
  cases pl with
  | int _ ui =>
    cases pu
    refine ⟨"str",_,PySem.F.slot_str_getitem.lookup,rfl,wpAny_getItem_str_slice (l:=some (i,ui)) (u:=none) (st:=none) hs rfl ?_⟩
    have e:sliceMade y t (some (i,ui)) none none=if ((1:Int)==1&&(slicePicked y (some (i,0)) none none).length==y.length)=true then Made.val (.str y t) else Made.str ⟨(List.filterMap (fun k=>y.cps[k]?) (slicePicked y (some (i,0)) none none)).toArray⟩:=rfl
    unfold zj at q hl
    rw [e]
    split
    · rename_i h
      rw [if_pos h] at q
      exact ⟨.str y,H,I,⟨t,rfl⟩,q⟩
    · rename_i h
      rw [if_neg h] at q hl
      unfold Made.post
      exact ⟨hl,.str _,H,I.tok _,⟨_,rfl⟩,q⟩
theorem Hz (ha:PE X a (tOf X.K B m1)) (hb:PE X b (tOf X.K B m2)):PE X (.Subscript a (.Slice (some b) none none p2) pos) (tOf X.K B (mOp Kc m1 m2)) :=
  (Hv Lk ha (Jw hb) Ln).imp fun σ H Q z9=>by
    obtain ⟨st,ps,S,as,R,t,st',e,q⟩:=z9
    obtain ⟨t1,s1,t2,e1,e2,e3⟩:=Ad e
    cases t1 <;> cases t2 <;> first | exact jd e3 | skip
    rename_i y i
    obtain ⟨hl,e3⟩:=Ah e3
    cases e3
    refine ⟨st,ps,S,as,R,_,s1,e1,fun v H1 S1 as1 R1=>⟨s1,_,S1,as1,R1,some i,st',by unfold Lh; rw [e2],fun H2 S2 as2 R2=>⟨st',_,S2,as2,R2,none,st',rfl,fun H3 S3 as3 R3=>?_⟩⟩⟩
    have tp:=R3.top
    cases tp
    exact ⟨y,i,rfl,rfl,rfl,Nat.le_trans (Nat.le_of_lt hl) jw,q _ _ _ _ (R3.drop.push (.str _))⟩
end
end C
end
section
namespace C
open PySem
end C
end
section
namespace K
open C PySem
def fld (k:Nat):Str:=["row","name","name","most","place","step"].getD k ""
def tbK (cl:Nat→Nat) (k:Nat):List (Nat × Str × Bool):=(List.range 6).map fun j=>(cl j,fld j,j==k)
def tbT (cl:Nat→Nat):List (Nat × Str × Bool):=(List.range 6).map fun j=>(cl j,fld j,true)
def iy:Fn:=vp 2
  (ni (sIf (dg (mOp ltT (cj 1) (Ak G3 (c7 (cj 0) qe))))
  (v8 (mOp jj (cj 0) (cj 1)))
  jg)
  (v8 (au (.int 0))))
def j4 (cl:Nat→Nat):Fn:=vp 2
  (ni (vh 1 (Ak (fun l=>some (.lst l)) (c7 (Bp (tbK cl 0) (cj 0)) (c7 (Bp (tbK cl 1) (cj 0)) (c7 (Bp (tbK cl 2) (cj 0)) (c7 (Bp (tbK cl 3) (cj 0)) qe))))))
  (v8 (mOp Pa (cj 1) (Ak (fun l=>some (.lst l)) (c7 (Bp (tbK cl 4) (cj 0)) (c7 (Bp (tbK cl 5) (cj 0)) qe))))))
def j7 (cl:Nat→Nat):Fn:=vp 4
  (ni (sIf (dg (mOp eqO (cj 0) (au (.int 0))))
  (ni (vh 3 (vq (cl 0) "row" (cj 1)))
  (v8 (Ak (fun l=>some (.tup l)) (c7 (cj 3) (c7 (mXf (cl 0) "row" (cj 3)) (c7 (cj 1) qe))))))
  jg)
  (ni (sIf (dg (mOp eqO (cj 0) (au (.int 1))))
  (ni (vh 3 (vq (cl 1) "name" (cj 2)))
  (v8 (Ak (fun l=>some (.tup l)) (c7 (cj 3) (c7 (mXf (cl 1) "name" (cj 3)) (c7 (cj 2) qe))))))
  jg)
  (ni (sIf (dg (mOp eqO (cj 0) (au (.int 2))))
  (ni (vh 3 (vq (cl 2) "name" (cj 2)))
  (v8 (Ak (fun l=>some (.tup l)) (c7 (cj 3) (c7 (mXf (cl 2) "name" (cj 3)) (c7 (cj 2) qe))))))
  jg)
  (ni (sIf (dg (mOp eqO (cj 0) (au (.int 3))))
  (ni (vh 3 (vq (cl 3) "most" (cj 1)))
  (v8 (Ak (fun l=>some (.tup l)) (c7 (cj 3) (c7 (mXf (cl 3) "most" (cj 3)) (c7 (cj 1) qe))))))
  jg)
  (ni (sIf (dg (mOp eqO (cj 0) (au (.int 4))))
  (ni (vh 3 (vq (cl 4) "place" (cj 1)))
  (v8 (Ak (fun l=>some (.tup l)) (c7 (cj 3) (c7 (mXf (cl 4) "place" (cj 3)) (c7 (cj 1) qe))))))
  jg)
  (ni (vh 3 (vq (cl 5) "step" (cj 1)))
  (v8 (Ak (fun l=>some (.tup l)) (c7 (cj 3) (c7 (mXf (cl 5) "step" (cj 3)) (c7 (cj 1) qe)))))))))))
def gw:FnX:=ju 3
  (lu (xIf (dg (mOp eqO (cj 0) (au (.int 0))))
  (jo (cj 1))
  (lx jg))
  (lu (xIf (dg (mOp eqO (cj 0) (au (.int 1))))
  (fun _=>none)
  (lx jg))
  (lu (xIf (dg (mOp eqO (cj 0) (au (.int 2))))
  (fun _=>none)
  (lx jg))
  (lu (xIf (dg (mOp eqO (cj 0) (au (.int 3))))
  (fun _=>none)
  (lx jg))
  (lu (xIf (dg (mOp eqO (cj 0) (au (.int 4))))
  (fun _=>none)
  (lx jg))
  (fun _=>none))))))
def gj:FnX:=ju 3
  (lu (xIf (dg (mOp eqO (cj 0) (au (.int 0))))
  (fun _=>none)
  (lx jg))
  (lu (xIf (dg (mOp eqO (cj 0) (au (.int 1))))
  (jo (cj 2))
  (lx jg))
  (lu (xIf (dg (mOp eqO (cj 0) (au (.int 2))))
  (fun _=>none)
  (lx jg))
  (lu (xIf (dg (mOp eqO (cj 0) (au (.int 3))))
  (fun _=>none)
  (lx jg))
  (lu (xIf (dg (mOp eqO (cj 0) (au (.int 4))))
  (fun _=>none)
  (lx jg))
  (fun _=>none))))))
def gn:FnX:=ju 3
  (lu (xIf (dg (mOp eqO (cj 0) (au (.int 0))))
  (fun _=>none)
  (lx jg))
  (lu (xIf (dg (mOp eqO (cj 0) (au (.int 1))))
  (fun _=>none)
  (lx jg))
  (lu (xIf (dg (mOp eqO (cj 0) (au (.int 2))))
  (jo (cj 2))
  (lx jg))
  (lu (xIf (dg (mOp eqO (cj 0) (au (.int 3))))
  (fun _=>none)
  (lx jg))
  (lu (xIf (dg (mOp eqO (cj 0) (au (.int 4))))
  (fun _=>none)
  (lx jg))
  (fun _=>none))))))
def gq:FnX:=ju 3
  (lu (xIf (dg (mOp eqO (cj 0) (au (.int 0))))
  (fun _=>none)
  (lx jg))
  (lu (xIf (dg (mOp eqO (cj 0) (au (.int 1))))
  (fun _=>none)
  (lx jg))
  (lu (xIf (dg (mOp eqO (cj 0) (au (.int 2))))
  (fun _=>none)
  (lx jg))
  (lu (xIf (dg (mOp eqO (cj 0) (au (.int 3))))
  (jo (cj 1))
  (lx jg))
  (lu (xIf (dg (mOp eqO (cj 0) (au (.int 4))))
  (fun _=>none)
  (lx jg))
  (fun _=>none))))))
def gb:FnX:=ju 3
  (lu (xIf (dg (mOp eqO (cj 0) (au (.int 0))))
  (fun _=>none)
  (lx jg))
  (lu (xIf (dg (mOp eqO (cj 0) (au (.int 1))))
  (fun _=>none)
  (lx jg))
  (lu (xIf (dg (mOp eqO (cj 0) (au (.int 2))))
  (fun _=>none)
  (lx jg))
  (lu (xIf (dg (mOp eqO (cj 0) (au (.int 3))))
  (fun _=>none)
  (lx jg))
  (lu (xIf (dg (mOp eqO (cj 0) (au (.int 4))))
  (jo (cj 1))
  (lx jg))
  (fun _=>none))))))
def gk:FnX:=ju 3
  (lu (xIf (dg (mOp eqO (cj 0) (au (.int 0))))
  (fun _=>none)
  (lx jg))
  (lu (xIf (dg (mOp eqO (cj 0) (au (.int 1))))
  (fun _=>none)
  (lx jg))
  (lu (xIf (dg (mOp eqO (cj 0) (au (.int 2))))
  (fun _=>none)
  (lx jg))
  (lu (xIf (dg (mOp eqO (cj 0) (au (.int 3))))
  (fun _=>none)
  (lx jg))
  (lu (xIf (dg (mOp eqO (cj 0) (au (.int 4))))
  (fun _=>none)
  (lx jg))
  (jo (cj 1)))))))
def Io (cl:Nat→Nat):Fn:=vp 7
  (ni (vh 1 (mOp Mp (m7 iy (c7 (cj 0) (c7 (au (.int 0)) qe))) (mOp Mz (au (.int 10)) (au (.int 6)))))
  (ni (vh 2 (mOp Kc (au (.str "qzxhilld")) (mOp Mp (m7 iy (c7 (cj 0) (c7 (au (.int 1)) qe))) (au (.int 8)))))
  (ni (K1 (hName 3) (nj (au (.int 6)))
  (ni (vh 4 (m7 (j7 cl) (c7 (cj 3) (c7 (cj 1) (c7 (cj 2) qe)))))
  (ni (sIf (mOr (Ek (dg (Bp (tbT cl) (mOp jj (cj 4) (au (.int 0)))))) (mOr (Ek (dg (Bp (tbT cl) (mOp jj (cj 4) (au (.int 0)))))) (dg (mOp neO (mOp jj (cj 4) (au (.int 1))) (mOp jj (cj 4) (au (.int 2)))))))
  (v8 (au (.bl false)))
  jg)
  (ni (sIf (dg (mOp neO (m7 (j4 cl) (c7 (mOp jj (cj 4) (au (.int 0))) qe)) (zy 1 [3] (hName 0) (nj (au (.int 6))) Fd (mOp eqO (cj 0) (cj 1)))))
  (v8 (au (.bl false)))
  jg)
  (ni (vh 5 (au .non))
  (ni (Gu 3 [jr (cl 0) (fld 0) gw (c7 (cj 3) (c7 (cj 1) (c7 (cj 2) qe))) 6 5,jr (cl 1) (fld 1) gj (c7 (cj 3) (c7 (cj 1) (c7 (cj 2) qe))) 6 5,jr (cl 2) (fld 2) gn (c7 (cj 3) (c7 (cj 1) (c7 (cj 2) qe))) 6 5,jr (cl 3) (fld 3) gq (c7 (cj 3) (c7 (cj 1) (c7 (cj 2) qe))) 6 5,jr (cl 4) (fld 4) gb (c7 (cj 3) (c7 (cj 1) (c7 (cj 2) qe))) 6 5,jr (cl 5) (fld 5) gk (c7 (cj 3) (c7 (cj 1) (c7 (cj 2) qe))) 6 5])
  (sIf (Ek (dg (mOp jj (m7 (j4 cl) (c7 (cj 5) qe)) (cj 3))))
  (v8 (au (.bl false)))
  jg)))))))
  (v8 (au (.bl true))))))
end K
end
section
namespace D
open PySem L2 C
def top (i:Nat):Stmt:=PySem.Challenge.pw_calm_k04_refusals.main.body.getD i (.Pass ⟨0,0,0,0⟩)
def p8:Stmt→Stmt
  | .ClassDef _ _ _ b _ _ _ _ _ _ _=>b.getD 0 (.Pass ⟨0,0,0,0⟩)
  | s=>s
section
structure Six (P:Program) (w:World) (K:PySem.W.Frag) (mg:Str→Option Value) (base:Heap) (cl:Nat→Nat) (Ca:Addr) (bm:List Value):Prop where
  r0:XR P w K mg base "NoText" (cl 0) "row" "row"
  r1:XR P w K mg base "NoName" (cl 1) "name" "name"
  r2:XR P w K mg base "Twice" (cl 2) "name" "name"
  r3:XR P w K mg base "TooMany" (cl 3) "most" "most"
  r4:XR P w K mg base "NoStep" (cl 4) "place" "place"
  r5:XR P w K mg base "NoLock" (cl 5) "step" "step"
  g:∀ j,j<6→XG K (cl j) (_root_.K.fld j)
  k:∀ j,j<6→∃ D:Addr,XCl K (cl j) (.ref D::My.vB)∧(Value.ref (cl j) :: .ref D::My.vB).contains (.ref Ca)=true
  kc:Ry K mg "CalmError" Ca bm
  kit:∀ j k,j<6→k<6→PySem.W.kitOne K (.ref (cl j)) (.ref (cl k))=some (j==k)
  kitC:∀ j,j<6→PySem.W.kitOne K (.ref (cl j)) (.ref Ca)=some true
variable {P:Program} {w:World} {K:PySem.W.Frag} {mg:Str→Option Value} {base:Heap} {f:Addr} {fd:FuncData} {cl:Nat→Nat} {Ca:Addr} {bm:List Value}
theorem htK (Z:Six P w K mg base cl Ca bm) (k:Nat) (hk:k<6):∀ p∈_root_.K.tbK cl k,XG K p.1 p.2.1∧PySem.W.kitOne K (.ref p.1) (.ref (cl k))=some p.2.2:=fun p hp=>by
  unfold _root_.K.tbK at hp
  obtain ⟨j,hj,rfl⟩:=List.mem_map.mp hp
  exact ⟨Z.g j (List.mem_range.mp hj),Z.kit j k (List.mem_range.mp hj) hk⟩
theorem htC (Z:Six P w K mg base cl Ca bm):∀ p∈_root_.K.tbT cl,XG K p.1 p.2.1∧PySem.W.kitOne K (.ref p.1) (.ref Ca)=some p.2.2:=fun p hp=>by
  unfold _root_.K.tbT at hp
  obtain ⟨j,hj,rfl⟩:=List.mem_map.mp hp
  exact ⟨Z.g j (List.mem_range.mp hj),Z.kitC j (List.mem_range.mp hj)⟩
theorem htV (Z:Six P w K mg base cl Ca bm):∀ p∈_root_.K.tbT cl,XG K p.1 p.2.1∧PySem.W.kitOne K (.ref p.1) (.type "ValueError")=some p.2.2:=fun p hp=>by
  unfold _root_.K.tbT at hp
  obtain ⟨j,hj,rfl⟩:=List.mem_map.mp hp
  exact ⟨Z.g j (List.mem_range.mp hj),(Z.g j (List.mem_range.mp hj)).ve⟩
theorem Qn {X:Cx} {B:Bas} {st:Stmt} {u0 u1 u2 u3 u4 u5:S} (h0:PS X st (sOf X.K B u0)) (h1:PS X st (sOf X.K B u1)) (h2:PS X st (sOf X.K B u2)) (h3:PS X st (sOf X.K B u3)) (h4:PS X st (sOf X.K B u4)) (h5:PS X st (sOf X.K B u5)):∀ u∈[u0,u1,u2,u3,u4,u5],PS X st (sOf X.K B u):=fun u hu=>by
  simp only [List.mem_cons,List.not_mem_nil,or_false] at hu
  rcases hu with rfl | rfl | rfl | rfl | rfl | rfl <;> assumption
abbrev uo:Stmt:=p8 (top 2)
theorem Di:iz ["self","row"] ["self","row"] (bf uo):=⟨rfl,rfl,rfl,by decide +kernel,rfl,by decide +kernel,by decide +kernel⟩
theorem Fe {Cl D fI:Addr} {fdI:FuncData} (c:XC K Cl D fI "row") (F:Fun K "__init__" "NoText.__init__" uo fI fdI) (m:mg "NoText" = some (.ref Cl)):XR P w K mg base "NoText" Cl "row" "row" :=
  ⟨⟨D,fI,fdI,c,qu c F Di rfl rfl rfl (by decide) (by decide) (by decide) (fun _=>rfl),F.binds (ps:=["self","row"]) fun _ _ _ _ _ _ us hl=>bd2 (fun _ _=>rfl) us hl⟩,m⟩
abbrev v9:Stmt:=p8 (top 3)
theorem Ej:iz ["self","name"] ["self","name"] (bf v9):=⟨rfl,rfl,rfl,by decide +kernel,rfl,by decide +kernel,by decide +kernel⟩
theorem Es {Cl D fI:Addr} {fdI:FuncData} (c:XC K Cl D fI "name") (F:Fun K "__init__" "NoName.__init__" v9 fI fdI) (m:mg "NoName" = some (.ref Cl)):XR P w K mg base "NoName" Cl "name" "name" :=
  ⟨⟨D,fI,fdI,c,qu c F Ej rfl rfl rfl (by decide) (by decide) (by decide) (fun _=>rfl),F.binds (ps:=["self","name"]) fun _ _ _ _ _ _ us hl=>bd2 (fun _ _=>rfl) us hl⟩,m⟩
abbrev zu:Stmt:=p8 (top 4)
theorem Et:iz ["self","name"] ["self","name"] (bf zu):=⟨rfl,rfl,rfl,by decide +kernel,rfl,by decide +kernel,by decide +kernel⟩
theorem Jd {Cl D fI:Addr} {fdI:FuncData} (c:XC K Cl D fI "name") (F:Fun K "__init__" "Twice.__init__" zu fI fdI) (m:mg "Twice" = some (.ref Cl)):XR P w K mg base "Twice" Cl "name" "name" :=
  ⟨⟨D,fI,fdI,c,qu c F Et rfl rfl rfl (by decide) (by decide) (by decide) (fun _=>rfl),F.binds (ps:=["self","name"]) fun _ _ _ _ _ _ us hl=>bd2 (fun _ _=>rfl) us hl⟩,m⟩
abbrev qt:Stmt:=p8 (top 5)
theorem Bw:iz ["self","most"] ["self","most"] (bf qt):=⟨rfl,rfl,rfl,by decide +kernel,rfl,by decide +kernel,by decide +kernel⟩
theorem Dk {Cl D fI:Addr} {fdI:FuncData} (c:XC K Cl D fI "most") (F:Fun K "__init__" "TooMany.__init__" qt fI fdI) (m:mg "TooMany" = some (.ref Cl)):XR P w K mg base "TooMany" Cl "most" "most" :=
  ⟨⟨D,fI,fdI,c,qu c F Bw rfl rfl rfl (by decide) (by decide) (by decide) (fun _=>rfl),F.binds (ps:=["self","most"]) fun _ _ _ _ _ _ us hl=>bd2 (fun _ _=>rfl) us hl⟩,m⟩
abbrev uy:Stmt:=p8 (top 6)
theorem Ei:iz ["self","place"] ["self","place"] (bf uy):=⟨rfl,rfl,rfl,by decide +kernel,rfl,by decide +kernel,by decide +kernel⟩
theorem Gv {Cl D fI:Addr} {fdI:FuncData} (c:XC K Cl D fI "place") (F:Fun K "__init__" "NoStep.__init__" uy fI fdI) (m:mg "NoStep" = some (.ref Cl)):XR P w K mg base "NoStep" Cl "place" "place" :=
  ⟨⟨D,fI,fdI,c,qu c F Ei rfl rfl rfl (by decide) (by decide) (by decide) (fun _=>rfl),F.binds (ps:=["self","place"]) fun _ _ _ _ _ _ us hl=>bd2 (fun _ _=>rfl) us hl⟩,m⟩
abbrev vd:Stmt:=p8 (top 7)
theorem Dq:iz ["self","step"] ["self","step"] (bf vd):=⟨rfl,rfl,rfl,by decide +kernel,rfl,by decide +kernel,by decide +kernel⟩
theorem Fl {Cl D fI:Addr} {fdI:FuncData} (c:XC K Cl D fI "step") (F:Fun K "__init__" "NoLock.__init__" vd fI fdI) (m:mg "NoLock" = some (.ref Cl)):XR P w K mg base "NoLock" Cl "step" "step" :=
  ⟨⟨D,fI,fdI,c,qu c F Dq rfl rfl rfl (by decide) (by decide) (by decide) (fun _=>rfl),F.binds (ps:=["self","step"]) fun _ _ _ _ _ _ us hl=>bd2 (fun _ _=>rfl) us hl⟩,m⟩
abbrev jk:Stmt:=top 9
theorem qb:iz ["_law_script","_law_k"] ["_law_script","_law_k"] (bf jk):=⟨rfl,rfl,rfl,by decide +kernel,rfl,by decide +kernel,by decide +kernel⟩
theorem vg (F:Fun K "_law_cell_at" "_law_cell_at" jk f fd) (b_len:mg "len" = none):lq P w K mg base CX0 1 f fd ["_law_script","_law_k"] (spF K (["_law_script","_law_k"]:List Str).length _root_.K.iy):=by
  refine zp (N:=["_law_script","_law_k"]) F qb (by decide) fun cdv A outer s H E B hr=>?_
  have hu:=vf hr
  have hq:=hr.units
  have nd:(["_law_script","_law_k"]:List Str).Nodup:=qb.nd
  exact ig (Aa (dz Nq (aj 1 (pv 1)) (J1 (Dd Gi (by rfl) b_len PySem.boot_len (ak (aj 0 (pv 0)) j6))) (dj _))   (jt (kh (Cp hu (aj 0 (pv 0)) (aj 1 (pv 1)) (fun _ _=>rfl))))   dw)   (jt (kh bw))
theorem yd (F:Fun K "_law_cell_at" "_law_cell_at" jk f fd) (hmg:mg "_law_cell_at" = some (.ref f)) (b_len:mg "len" = none):vo P w K mg base "_law_cell_at" 1 ["_law_script","_law_k"] _root_.K.iy :=
  ⟨f,fd,vg F b_len,F.binds (ps:=["_law_script","_law_k"]) fun _ _ _ _ _ _ us hl=>bd2 (fun _ _=>rfl) us hl,F.kp,hmg⟩
abbrev lg:Stmt:=top 10
theorem rm:iz ["_law_e","_law_some"] ["_law_e"] (bf lg):=⟨rfl,rfl,rfl,by decide +kernel,rfl,by decide +kernel,by decide +kernel⟩
theorem Bd (F:Fun K "_law_kinds" "_law_kinds" lg f fd) (Z:Six P w K mg base cl Ca bm) (b_isinstance:mg "isinstance" = none):lq P w K mg base CX0 1 f fd ["_law_e"] (spF K (["_law_e"]:List Str).length (_root_.K.j4 cl)):=by
  refine zp (N:=["_law_e","_law_some"]) F rm (by decide) fun cdv A outer s H E B hr=>?_
  have hu:=vf hr
  have hq:=hr.units
  have nd:(["_law_e","_law_some"]:List Str).Nodup:=rm.nd
  refine ig ?_ ?_
  · refine @n6 _ _ _ _ (tOf _ _ _) _ ?_ (fun _ _ _ h=>h)
    · refine je ?_ ?_ ?_ ?_
      · exact nd
      · exact rfl
      · exact Or.inl rfl
      · refine Js ?_ ?_
        · refine ak ?_ ?_
          · exact sy (cv:=.ref (cl 0)) (cw:=.ref (cl 0)) (fun u r=>r) (mj (by rfl) Z.r0.m rfl) (by rfl) b_isinstance (aj 0 (pv 0)) (htK Z 0 (by decide))
          · refine ak ?_ ?_
            · exact sy (cv:=.ref (cl 1)) (cw:=.ref (cl 1)) (fun u r=>r) (mj (by rfl) Z.r1.m rfl) (by rfl) b_isinstance (aj 0 (pv 0)) (htK Z 1 (by decide))
            · refine ak ?_ ?_
              · exact sy (cv:=.ref (cl 2)) (cw:=.ref (cl 2)) (fun u r=>r) (mj (by rfl) Z.r2.m rfl) (by rfl) b_isinstance (aj 0 (pv 0)) (htK Z 2 (by decide))
              · exact ak (sy (cv:=.ref (cl 3)) (cw:=.ref (cl 3)) (fun u r=>r) (mj (by rfl) Z.r3.m rfl) (by rfl) b_isinstance (aj 0 (pv 0)) (htK Z 3 (by decide))) j6
        · exact qz (d8 (d8 (d8 (d8 mz)))) (by decide)
  · refine jt ?_
    · refine kh ?_
      · refine Iz ?_ ?_ ?_
        · exact Lz
        · exact aj 1 (pv 1)
        · refine Js ?_ ?_
          · refine ak ?_ ?_
            · exact sy (cv:=.ref (cl 4)) (cw:=.ref (cl 4)) (fun u r=>r) (mj (by rfl) Z.r4.m rfl) (by rfl) b_isinstance (aj 0 (pv 0)) (htK Z 4 (by decide))
            · exact ak (sy (cv:=.ref (cl 5)) (cw:=.ref (cl 5)) (fun u r=>r) (mj (by rfl) Z.r5.m rfl) (by rfl) b_isinstance (aj 0 (pv 0)) (htK Z 5 (by decide))) j6
          · exact qz (d8 (d8 mz)) (by decide)
theorem Aq (F:Fun K "_law_kinds" "_law_kinds" lg f fd) (hmg:mg "_law_kinds" = some (.ref f)) (Z:Six P w K mg base cl Ca bm) (b_isinstance:mg "isinstance" = none):vo P w K mg base "_law_kinds" 1 ["_law_e"] (_root_.K.j4 cl) :=
  ⟨f,fd,Bd F Z b_isinstance,F.binds (ps:=["_law_e"]) fun _ _ _ _ _ _ us hl=>bd1 (fun _=>rfl) us hl,F.kp,hmg⟩
abbrev p7:Stmt:=top 11
theorem u9:iz ["_law_kind","_law_number","_law_name","_law_made_here"] ["_law_kind","_law_number","_law_name"] (bf p7):=⟨rfl,rfl,rfl,by decide +kernel,rfl,by decide +kernel,by decide +kernel⟩
theorem Ce (F:Fun K "_law_made" "_law_made" p7 f fd) (Z:Six P w K mg base cl Ca bm):lq P w K mg base CX0 3 f fd ["_law_kind","_law_number","_law_name"] (spF K (["_law_kind","_law_number","_law_name"]:List Str).length (_root_.K.j7 cl)):=by
  refine zp (N:=["_law_kind","_law_number","_law_name","_law_made_here"]) F u9 (by decide) fun cdv A outer s H E B hr=>?_
  have hu:=vf hr
  have hq:=hr.units
  have nd:(["_law_kind","_law_number","_law_name","_law_made_here"]:List Str).Nodup:=u9.nd
  have hr2:=hr.mono (show 2≤2 by decide)
  refine ig ?_ ?_
  · refine Aa ?_ ?_ ?_
    · exact dz (fu hq) (aj 0 (pv 0)) bw (dj _)
    · refine ig ?_ ?_
      · exact n6 3 (je nd rfl (Or.inl rfl) (o9 Z.r0 hr2 (by rfl) (aj 1 (pv 1)))) (fun _ _ _ h=>h)
      · exact jt (kh (yp (ak (aj 3 (pv 3)) (ak (Dp (Z.g 0 (by decide)) (aj 3 (pv 3))) (ak (aj 1 (pv 1)) j6))) (qz (d8 (d8 (d8 mz))) (by decide))))
    · exact dw
  · refine ig ?_ ?_
    · refine Aa ?_ ?_ ?_
      · exact dz (fu hq) (aj 0 (pv 0)) bw (dj _)
      · refine ig ?_ ?_
        · exact n6 3 (je nd rfl (Or.inl rfl) (o9 Z.r1 hr2 (by rfl) (aj 2 (pv 2)))) (fun _ _ _ h=>h)
        · exact jt (kh (yp (ak (aj 3 (pv 3)) (ak (Dp (Z.g 1 (by decide)) (aj 3 (pv 3))) (ak (aj 2 (pv 2)) j6))) (qz (d8 (d8 (d8 mz))) (by decide))))
      · exact dw
    · refine ig ?_ ?_
      · refine Aa ?_ ?_ ?_
        · exact dz (fu hq) (aj 0 (pv 0)) bw (dj _)
        · refine ig ?_ ?_
          · exact n6 3 (je nd rfl (Or.inl rfl) (o9 Z.r2 hr2 (by rfl) (aj 2 (pv 2)))) (fun _ _ _ h=>h)
          · exact jt (kh (yp (ak (aj 3 (pv 3)) (ak (Dp (Z.g 2 (by decide)) (aj 3 (pv 3))) (ak (aj 2 (pv 2)) j6))) (qz (d8 (d8 (d8 mz))) (by decide))))
        · exact dw
      · refine ig ?_ ?_
        · refine Aa ?_ ?_ ?_
          · exact dz (fu hq) (aj 0 (pv 0)) bw (dj _)
          · refine ig ?_ ?_
            · exact n6 3 (je nd rfl (Or.inl rfl) (o9 Z.r3 hr2 (by rfl) (aj 1 (pv 1)))) (fun _ _ _ h=>h)
            · exact jt (kh (yp (ak (aj 3 (pv 3)) (ak (Dp (Z.g 3 (by decide)) (aj 3 (pv 3))) (ak (aj 1 (pv 1)) j6))) (qz (d8 (d8 (d8 mz))) (by decide))))
          · exact dw
        · refine ig ?_ ?_
          · refine Aa ?_ ?_ ?_
            · exact dz (fu hq) (aj 0 (pv 0)) bw (dj _)
            · refine ig ?_ ?_
              · exact n6 3 (je nd rfl (Or.inl rfl) (o9 Z.r4 hr2 (by rfl) (aj 1 (pv 1)))) (fun _ _ _ h=>h)
              · exact jt (kh (yp (ak (aj 3 (pv 3)) (ak (Dp (Z.g 4 (by decide)) (aj 3 (pv 3))) (ak (aj 1 (pv 1)) j6))) (qz (d8 (d8 (d8 mz))) (by decide))))
            · exact dw
          · refine ig ?_ ?_
            · exact n6 3 (je nd rfl (Or.inl rfl) (o9 Z.r5 hr2 (by rfl) (aj 1 (pv 1)))) (fun _ _ _ h=>h)
            · exact jt (kh (yp (ak (aj 3 (pv 3)) (ak (Dp (Z.g 5 (by decide)) (aj 3 (pv 3))) (ak (aj 1 (pv 1)) j6))) (qz (d8 (d8 (d8 mz))) (by decide))))
theorem Br (F:Fun K "_law_made" "_law_made" p7 f fd) (hmg:mg "_law_made" = some (.ref f)) (Z:Six P w K mg base cl Ca bm):vo P w K mg base "_law_made" 3 ["_law_kind","_law_number","_law_name"] (_root_.K.j7 cl) :=
  ⟨f,fd,Ce F Z,F.binds (ps:=["_law_kind","_law_number","_law_name"]) fun _ _ _ _ _ _ us hl=>bd3 (fun _ _ _=>rfl) us hl,F.kp,hmg⟩
abbrev cu:Stmt:=top 12
theorem d7:iz ["_law_kind","_law_number","_law_name"] ["_law_kind","_law_number","_law_name"] (bf cu):=⟨rfl,rfl,rfl,by decide +kernel,rfl,by decide +kernel,by decide +kernel⟩
theorem wz (F:Fun K "_law_raised" "_law_raised" cu f fd) (Z:Six P w K mg base cl Ca bm):lq P w K mg base (CXx P w) 3 f fd ["_law_kind","_law_number","_law_name"] (spX K (["_law_kind","_law_number","_law_name"]:List Str).length (cl 0) (_root_.K.fld 0) _root_.K.gw):=by
  refine o8 (N:=["_law_kind","_law_number","_law_name"]) F d7 (by decide) fun cdv A outer s H E B hr=>?_
  have hu:=vf hr
  have hq:=hr.units
  have nd:(["_law_kind","_law_number","_law_name"]:List Str).Nodup:=d7.nd
  have hr2:=hr.mono (show 2≤2 by decide)
  refine dh ?_ ?_
  · exact j8 (dz (fu hq) (aj 0 (pv 0)) bw (dj _))   (fj (jz Z.r0 Du hr2 (by rfl) (aj 1 (pv 1))))   (bh dw)
  · refine dh ?_ ?_
    · exact j8 (dz (fu hq) (aj 0 (pv 0)) bw (dj _))   (fj d9)   (bh dw)
    · refine dh ?_ ?_
      · exact j8 (dz (fu hq) (aj 0 (pv 0)) bw (dj _))   (fj d9)   (bh dw)
      · exact dh (j8 (dz (fu hq) (aj 0 (pv 0)) bw (dj _))   (fj d9)   (bh dw))   (dh (j8 (dz (fu hq) (aj 0 (pv 0)) bw (dj _))   (fj d9)   (bh dw))   (fj d9))
theorem w6 (F:Fun K "_law_raised" "_law_raised" cu f fd) (hmg:mg "_law_raised" = some (.ref f)) (Z:Six P w K mg base cl Ca bm):ji P w K mg base "_law_raised" 3 ["_law_kind","_law_number","_law_name"] (cl 0) (_root_.K.fld 0) _root_.K.gw :=
  ⟨f,fd,wz F Z,F.binds (ps:=["_law_kind","_law_number","_law_name"]) fun _ _ _ _ _ _ us hl=>bd3 (fun _ _ _=>rfl) us hl,F.kp,hmg⟩
theorem wj (F:Fun K "_law_raised" "_law_raised" cu f fd) (Z:Six P w K mg base cl Ca bm):lq P w K mg base (CXx P w) 3 f fd ["_law_kind","_law_number","_law_name"] (spX K (["_law_kind","_law_number","_law_name"]:List Str).length (cl 1) (_root_.K.fld 1) _root_.K.gj):=by
  refine o8 (N:=["_law_kind","_law_number","_law_name"]) F d7 (by decide) fun cdv A outer s H E B hr=>?_
  have hu:=vf hr
  have hq:=hr.units
  have nd:(["_law_kind","_law_number","_law_name"]:List Str).Nodup:=d7.nd
  have hr2:=hr.mono (show 2≤2 by decide)
  refine dh ?_ ?_
  · exact j8 (dz (fu hq) (aj 0 (pv 0)) bw (dj _))   (fj d9)   (bh dw)
  · refine dh ?_ ?_
    · exact j8 (dz (fu hq) (aj 0 (pv 0)) bw (dj _))   (fj (jz Z.r1 Du hr2 (by rfl) (aj 2 (pv 2))))   (bh dw)
    · refine dh ?_ ?_
      · exact j8 (dz (fu hq) (aj 0 (pv 0)) bw (dj _))   (fj d9)   (bh dw)
      · exact dh (j8 (dz (fu hq) (aj 0 (pv 0)) bw (dj _))   (fj d9)   (bh dw))   (dh (j8 (dz (fu hq) (aj 0 (pv 0)) bw (dj _))   (fj d9)   (bh dw))   (fj d9))
theorem vm (F:Fun K "_law_raised" "_law_raised" cu f fd) (hmg:mg "_law_raised" = some (.ref f)) (Z:Six P w K mg base cl Ca bm):ji P w K mg base "_law_raised" 3 ["_law_kind","_law_number","_law_name"] (cl 1) (_root_.K.fld 1) _root_.K.gj :=
  ⟨f,fd,wj F Z,F.binds (ps:=["_law_kind","_law_number","_law_name"]) fun _ _ _ _ _ _ us hl=>bd3 (fun _ _ _=>rfl) us hl,F.kp,hmg⟩
theorem xr (F:Fun K "_law_raised" "_law_raised" cu f fd) (Z:Six P w K mg base cl Ca bm):lq P w K mg base (CXx P w) 3 f fd ["_law_kind","_law_number","_law_name"] (spX K (["_law_kind","_law_number","_law_name"]:List Str).length (cl 2) (_root_.K.fld 2) _root_.K.gn):=by
  refine o8 (N:=["_law_kind","_law_number","_law_name"]) F d7 (by decide) fun cdv A outer s H E B hr=>?_
  have hu:=vf hr
  have hq:=hr.units
  have nd:(["_law_kind","_law_number","_law_name"]:List Str).Nodup:=d7.nd
  have hr2:=hr.mono (show 2≤2 by decide)
  refine dh ?_ ?_
  · exact j8 (dz (fu hq) (aj 0 (pv 0)) bw (dj _))   (fj d9)   (bh dw)
  · refine dh ?_ ?_
    · exact j8 (dz (fu hq) (aj 0 (pv 0)) bw (dj _))   (fj d9)   (bh dw)
    · refine dh ?_ ?_
      · exact j8 (dz (fu hq) (aj 0 (pv 0)) bw (dj _))   (fj (jz Z.r2 Du hr2 (by rfl) (aj 2 (pv 2))))   (bh dw)
      · exact dh (j8 (dz (fu hq) (aj 0 (pv 0)) bw (dj _))   (fj d9)   (bh dw))   (dh (j8 (dz (fu hq) (aj 0 (pv 0)) bw (dj _))   (fj d9)   (bh dw))   (fj d9))
theorem wu (F:Fun K "_law_raised" "_law_raised" cu f fd) (hmg:mg "_law_raised" = some (.ref f)) (Z:Six P w K mg base cl Ca bm):ji P w K mg base "_law_raised" 3 ["_law_kind","_law_number","_law_name"] (cl 2) (_root_.K.fld 2) _root_.K.gn :=
  ⟨f,fd,xr F Z,F.binds (ps:=["_law_kind","_law_number","_law_name"]) fun _ _ _ _ _ _ us hl=>bd3 (fun _ _ _=>rfl) us hl,F.kp,hmg⟩
theorem xg (F:Fun K "_law_raised" "_law_raised" cu f fd) (Z:Six P w K mg base cl Ca bm):lq P w K mg base (CXx P w) 3 f fd ["_law_kind","_law_number","_law_name"] (spX K (["_law_kind","_law_number","_law_name"]:List Str).length (cl 3) (_root_.K.fld 3) _root_.K.gq):=by
  refine o8 (N:=["_law_kind","_law_number","_law_name"]) F d7 (by decide) fun cdv A outer s H E B hr=>?_
  have hu:=vf hr
  have hq:=hr.units
  have nd:(["_law_kind","_law_number","_law_name"]:List Str).Nodup:=d7.nd
  have hr2:=hr.mono (show 2≤2 by decide)
  refine dh ?_ ?_
  · exact j8 (dz (fu hq) (aj 0 (pv 0)) bw (dj _))   (fj d9)   (bh dw)
  · refine dh ?_ ?_
    · exact j8 (dz (fu hq) (aj 0 (pv 0)) bw (dj _))   (fj d9)   (bh dw)
    · refine dh ?_ ?_
      · exact j8 (dz (fu hq) (aj 0 (pv 0)) bw (dj _))   (fj d9)   (bh dw)
      · exact dh (j8 (dz (fu hq) (aj 0 (pv 0)) bw (dj _))   (fj (jz Z.r3 Du hr2 (by rfl) (aj 1 (pv 1))))   (bh dw))   (dh (j8 (dz (fu hq) (aj 0 (pv 0)) bw (dj _))   (fj d9)   (bh dw))   (fj d9))
theorem wk (F:Fun K "_law_raised" "_law_raised" cu f fd) (hmg:mg "_law_raised" = some (.ref f)) (Z:Six P w K mg base cl Ca bm):ji P w K mg base "_law_raised" 3 ["_law_kind","_law_number","_law_name"] (cl 3) (_root_.K.fld 3) _root_.K.gq :=
  ⟨f,fd,xg F Z,F.binds (ps:=["_law_kind","_law_number","_law_name"]) fun _ _ _ _ _ _ us hl=>bd3 (fun _ _ _=>rfl) us hl,F.kp,hmg⟩
theorem xq (F:Fun K "_law_raised" "_law_raised" cu f fd) (Z:Six P w K mg base cl Ca bm):lq P w K mg base (CXx P w) 3 f fd ["_law_kind","_law_number","_law_name"] (spX K (["_law_kind","_law_number","_law_name"]:List Str).length (cl 4) (_root_.K.fld 4) _root_.K.gb):=by
  refine o8 (N:=["_law_kind","_law_number","_law_name"]) F d7 (by decide) fun cdv A outer s H E B hr=>?_
  have hu:=vf hr
  have hq:=hr.units
  have nd:(["_law_kind","_law_number","_law_name"]:List Str).Nodup:=d7.nd
  have hr2:=hr.mono (show 2≤2 by decide)
  refine dh ?_ ?_
  · exact j8 (dz (fu hq) (aj 0 (pv 0)) bw (dj _))   (fj d9)   (bh dw)
  · refine dh ?_ ?_
    · exact j8 (dz (fu hq) (aj 0 (pv 0)) bw (dj _))   (fj d9)   (bh dw)
    · refine dh ?_ ?_
      · exact j8 (dz (fu hq) (aj 0 (pv 0)) bw (dj _))   (fj d9)   (bh dw)
      · exact dh (j8 (dz (fu hq) (aj 0 (pv 0)) bw (dj _))   (fj d9)   (bh dw))   (dh (j8 (dz (fu hq) (aj 0 (pv 0)) bw (dj _))   (fj (jz Z.r4 Du hr2 (by rfl) (aj 1 (pv 1))))   (bh dw))   (fj d9))
theorem yc (F:Fun K "_law_raised" "_law_raised" cu f fd) (hmg:mg "_law_raised" = some (.ref f)) (Z:Six P w K mg base cl Ca bm):ji P w K mg base "_law_raised" 3 ["_law_kind","_law_number","_law_name"] (cl 4) (_root_.K.fld 4) _root_.K.gb :=
  ⟨f,fd,xq F Z,F.binds (ps:=["_law_kind","_law_number","_law_name"]) fun _ _ _ _ _ _ us hl=>bd3 (fun _ _ _=>rfl) us hl,F.kp,hmg⟩
theorem yg (F:Fun K "_law_raised" "_law_raised" cu f fd) (Z:Six P w K mg base cl Ca bm):lq P w K mg base (CXx P w) 3 f fd ["_law_kind","_law_number","_law_name"] (spX K (["_law_kind","_law_number","_law_name"]:List Str).length (cl 5) (_root_.K.fld 5) _root_.K.gk):=by
  refine o8 (N:=["_law_kind","_law_number","_law_name"]) F d7 (by decide) fun cdv A outer s H E B hr=>?_
  have hu:=vf hr
  have hq:=hr.units
  have nd:(["_law_kind","_law_number","_law_name"]:List Str).Nodup:=d7.nd
  have hr2:=hr.mono (show 2≤2 by decide)
  refine dh ?_ ?_
  · exact j8 (dz (fu hq) (aj 0 (pv 0)) bw (dj _))   (fj d9)   (bh dw)
  · refine dh ?_ ?_
    · exact j8 (dz (fu hq) (aj 0 (pv 0)) bw (dj _))   (fj d9)   (bh dw)
    · refine dh ?_ ?_
      · exact j8 (dz (fu hq) (aj 0 (pv 0)) bw (dj _))   (fj d9)   (bh dw)
      · exact dh (j8 (dz (fu hq) (aj 0 (pv 0)) bw (dj _))   (fj d9)   (bh dw))   (dh (j8 (dz (fu hq) (aj 0 (pv 0)) bw (dj _))   (fj d9)   (bh dw))   (fj (jz Z.r5 Du hr2 (by rfl) (aj 1 (pv 1)))))
theorem yh (F:Fun K "_law_raised" "_law_raised" cu f fd) (hmg:mg "_law_raised" = some (.ref f)) (Z:Six P w K mg base cl Ca bm):ji P w K mg base "_law_raised" 3 ["_law_kind","_law_number","_law_name"] (cl 5) (_root_.K.fld 5) _root_.K.gk :=
  ⟨f,fd,yg F Z,F.binds (ps:=["_law_kind","_law_number","_law_name"]) fun _ _ _ _ _ _ us hl=>bd3 (fun _ _ _=>rfl) us hl,F.kp,hmg⟩
abbrev yw:Stmt:=top 13
theorem Jl:iz ["_law_script","_law_number","_law_name","_law_kind","_law_made_here","_law_caught","_law_e"] ["_law_script"] (bf yw):=⟨rfl,rfl,rfl,by decide +kernel,rfl,by decide +kernel,by decide +kernel⟩
theorem Oj (F:Fun K "law" "law" yw f fd) (d_law_cell_at:vo P w K mg base "_law_cell_at" 1 ["_law_script","_law_k"] _root_.K.iy) (d_law_kinds:vo P w K mg base "_law_kinds" 1 ["_law_e"] (_root_.K.j4 cl)) (d_law_made:vo P w K mg base "_law_made" 3 ["_law_kind","_law_number","_law_name"] (_root_.K.j7 cl)) (dx0:ji P w K mg base "_law_raised" 3 ["_law_kind","_law_number","_law_name"] (cl 0) (_root_.K.fld 0) _root_.K.gw) (dx1:ji P w K mg base "_law_raised" 3 ["_law_kind","_law_number","_law_name"] (cl 1) (_root_.K.fld 1) _root_.K.gj) (dx2:ji P w K mg base "_law_raised" 3 ["_law_kind","_law_number","_law_name"] (cl 2) (_root_.K.fld 2) _root_.K.gn) (dx3:ji P w K mg base "_law_raised" 3 ["_law_kind","_law_number","_law_name"] (cl 3) (_root_.K.fld 3) _root_.K.gq) (dx4:ji P w K mg base "_law_raised" 3 ["_law_kind","_law_number","_law_name"] (cl 4) (_root_.K.fld 4) _root_.K.gb) (dx5:ji P w K mg base "_law_raised" 3 ["_law_kind","_law_number","_law_name"] (cl 5) (_root_.K.fld 5) _root_.K.gk) (Z:Six P w K mg base cl Ca bm) (b_ValueError:mg "ValueError" = none) (b_isinstance:mg "isinstance" = none) (b_range:mg "range" = none):lq P w K mg base CX0 4 f fd ["_law_script"] (spF K (["_law_script"]:List Str).length (_root_.K.Io cl)):=by
  have d_law_cell_at:=d_law_cell_at.mono (show 1≤3 by decide)
  have d_law_kinds:=d_law_kinds.mono (show 1≤3 by decide)
  have d_law_made:=d_law_made.mono (show 3≤3 by decide)
  have dx0:=dx0.mono (show 3≤3 by decide)
  obtain ⟨D0,k0⟩:=Z.k 0 (by decide)
  have dx1:=dx1.mono (show 3≤3 by decide)
  obtain ⟨D1,k1⟩:=Z.k 1 (by decide)
  have dx2:=dx2.mono (show 3≤3 by decide)
  obtain ⟨D2,k2⟩:=Z.k 2 (by decide)
  have dx3:=dx3.mono (show 3≤3 by decide)
  obtain ⟨D3,k3⟩:=Z.k 3 (by decide)
  have dx4:=dx4.mono (show 3≤3 by decide)
  obtain ⟨D4,k4⟩:=Z.k 4 (by decide)
  have dx5:=dx5.mono (show 3≤3 by decide)
  obtain ⟨D5,k5⟩:=Z.k 5 (by decide)
  refine zp (N:=["_law_script","_law_number","_law_name","_law_kind","_law_made_here","_law_caught","_law_e"]) F Jl (by decide) fun cdv A outer s H E B hr=>?_
  have hu:=vf hr
  have hq:=hr.units
  have nd:(["_law_script","_law_number","_law_name","_law_kind","_law_made_here","_law_caught","_law_e"]:List Str).Nodup:=Jl.nd
  refine ig ?_ ?_
  · exact n6 1 (je nd rfl (Or.inl rfl) (Iz Er (qj d_law_cell_at hr (by rfl) (ak (aj 0 (pv 0)) (ak bw j6)) (f9 (f9 eq_nil))) (Iz K5 bw bw))) (fun _ _ _ h=>h)
  · refine ig ?_ ?_
    · exact n6 2 (je nd rfl (Or.inl rfl) (Hz Nz (Iz Er (qj d_law_cell_at hr (by rfl) (ak (aj 0 (pv 0)) (ak bw j6)) (f9 (f9 eq_nil))) bw))) (fun _ _ _ h=>h)
    · refine ig ?_ ?_
      · refine O5 ?_ ?_ ?_ ?_ ?_ ?_
        · exact PassesOwn.never
        · exact rfl
        · exact Df (by rfl) b_range bw
        · exact Gy 3 (Hi nd rfl (Or.inr rfl))
        · refine ig ?_ ?_
          · exact n6 4 (je nd rfl (Or.inl rfl) (qj d_law_made hr (by rfl) (ak (aj 3 (pv 3)) (ak (aj 1 (pv 1)) (ak (aj 2 (pv 2)) j6))) (f9 (f9 (f9 eq_nil))))) (fun _ _ _ h=>h)
          · refine ig ?_ ?_
            · refine Aa ?_ ?_ ?_
              · refine PW.pt ?_
                · refine Nt ?_ ?_
                  · exact Eo (Gw (sy (cv:=.ref Ca) (cw:=.ref Ca) (fun u r=>r) (mj (by rfl) Z.kc.2 rfl) (by rfl) b_isinstance (Cp hu (aj 4 (pv 4)) bw (fun _ _=>rfl)) (htC Z)))
                  · refine Nt ?_ ?_
                    · exact Eo (Gw (sy (cv:=.ty "ValueError") (cw:=.type "ValueError") (fun u r=>r) (M4 (v:=.ty "ValueError") (by rfl) b_ValueError PyProof.Rows.Boot.«ValueError» rfl) (by rfl) b_isinstance (Cp hu (aj 4 (pv 4)) bw (fun _ _=>rfl)) (htV Z)))
                    · exact Oh (dz (Jm hq) (Cp hu (aj 4 (pv 4)) bw (fun _ _=>rfl)) (Cp hu (aj 4 (pv 4)) bw (fun _ _=>rfl)) (dj _))
              · exact jt (kh Iv)
              · exact dw
            · refine ig ?_ ?_
              · refine Aa ?_ ?_ ?_
                · refine dz (Jm hq) ?_ ?_ ?_
                  · exact qj d_law_kinds hr (by rfl) (ak (Cp hu (aj 4 (pv 4)) bw (fun _ _=>rfl)) j6) (f9 eq_nil)
                  · refine Jg ?_
                    · refine Ly (N:=["_law_k","_law_kind"]) ?_ ?_ ?_ ?_ ?_ ?_ ?_ ?_
                      · exact ⟨rfl,fun j k h=>match j,h with | 0,h=>(by cases h; exact ⟨_,rfl,rfl,⟨.inl rfl,.inr (.inl rfl),.inl rfl⟩⟩) | _+1,h=>(by cases h)⟩
                      · exact ⟨rfl,rfl,by decide +kernel,by decide +kernel⟩
                      · exact rfl
                      · exact Df (by rfl) b_range bw
                      · exact Cw
                      · exact fun C s₀ H₀ ex pn=>pgE fun B=>(Gy 0 (Hi (show (["_law_k","_law_kind"]:List Str).Nodup by decide +kernel) rfl (Or.inl rfl)))
                      · exact fun C s₀ H₀ ex pn=>Ij
                      · exact fun C s₀ H₀ ex pn=>peE fun B=>(O8 (fu hq) (aj 0 (pv 0)) (aj 1 (pv 1)) (dj _))
                  · exact dj _
                · exact jt (kh Iv)
                · exact dw
              · refine ig ?_ ?_
                · exact n6 5 (je nd rfl (Or.inl rfl) Ng) (fun _ _ _ h=>h)
                · refine ig ?_ ?_
                  · refine K3 ?_
                    · refine Qn ?_ ?_ ?_ ?_ ?_ ?_
                      · exact qm dx0 rfl rfl hr (by rfl) (ak (aj 3 (pv 3)) (ak (aj 1 (pv 1)) (ak (aj 2 (pv 2)) j6))) (f9 (f9 (f9 eq_nil))) (qp (fun _=>hr.hd) nd rfl rfl k0.1 Z.kc.1 k0.2 (by rfl) Z.kc.2 (fun a=>m5 (je nd rfl (Or.inl rfl) (pv 6)))) oh
                      · exact qm dx1 rfl rfl hr (by rfl) (ak (aj 3 (pv 3)) (ak (aj 1 (pv 1)) (ak (aj 2 (pv 2)) j6))) (f9 (f9 (f9 eq_nil))) (qp (fun _=>hr.hd) nd rfl rfl k1.1 Z.kc.1 k1.2 (by rfl) Z.kc.2 (fun a=>m5 (je nd rfl (Or.inl rfl) (pv 6)))) oh
                      · exact qm dx2 rfl rfl hr (by rfl) (ak (aj 3 (pv 3)) (ak (aj 1 (pv 1)) (ak (aj 2 (pv 2)) j6))) (f9 (f9 (f9 eq_nil))) (qp (fun _=>hr.hd) nd rfl rfl k2.1 Z.kc.1 k2.2 (by rfl) Z.kc.2 (fun a=>m5 (je nd rfl (Or.inl rfl) (pv 6)))) oh
                      · exact qm dx3 rfl rfl hr (by rfl) (ak (aj 3 (pv 3)) (ak (aj 1 (pv 1)) (ak (aj 2 (pv 2)) j6))) (f9 (f9 (f9 eq_nil))) (qp (fun _=>hr.hd) nd rfl rfl k3.1 Z.kc.1 k3.2 (by rfl) Z.kc.2 (fun a=>m5 (je nd rfl (Or.inl rfl) (pv 6)))) oh
                      · exact qm dx4 rfl rfl hr (by rfl) (ak (aj 3 (pv 3)) (ak (aj 1 (pv 1)) (ak (aj 2 (pv 2)) j6))) (f9 (f9 (f9 eq_nil))) (qp (fun _=>hr.hd) nd rfl rfl k4.1 Z.kc.1 k4.2 (by rfl) Z.kc.2 (fun a=>m5 (je nd rfl (Or.inl rfl) (pv 6)))) oh
                      · exact qm dx5 rfl rfl hr (by rfl) (ak (aj 3 (pv 3)) (ak (aj 1 (pv 1)) (ak (aj 2 (pv 2)) j6))) (f9 (f9 (f9 eq_nil))) (qp (fun _=>hr.hd) nd rfl rfl k5.1 Z.kc.1 k5.2 (by rfl) Z.kc.2 (fun a=>m5 (je nd rfl (Or.inl rfl) (pv 6)))) oh
                  · exact jt (Aa (Eo (Gw (Cp hu (qj d_law_kinds hr (by rfl) (ak (aj 5 (pv 5)) j6) (f9 eq_nil)) (aj 3 (pv 3)) (fun _ _=>rfl))))   (jt (kh Iv))   dw)
        · exact Cw
      · exact jt (kh Iv)
end
end D
end
section
namespace C
open PySem
theorem Az {α:Type} {h f:α→T} {g:G} {c:M Bool} {e:M T} {nv:Nat} {cap:List Slot} {sto:List SO} (hcap:cap.map Jj=cap) :
    ∀ (l:List α) (acc:List T) (pre:List Slot),pre.length=nv→acc.length+l.length≤lim →
      (∀ a∈l,∀ pre:List Slot,pre.length=nv→∃ pre',pre'.length=nv∧g (h a) ⟨pre++cap,sto⟩=some ⟨pre'++cap,sto⟩∧c ⟨pre'++cap,sto⟩=some (true,⟨pre'++cap,sto⟩)∧e ⟨pre'++cap,sto⟩=some (f a,⟨pre'++cap,sto⟩)) →
      ∃ s',qw g c e (l.map h) ⟨pre++cap,sto⟩ acc=some (acc++l.map f,s')∧s'.sto=sto
  | [],acc,pre,hp,hl,H=>⟨⟨pre++cap,sto⟩,by simp [qw],rfl⟩
  | a::l,acc,pre,hp,hl,H=>by
    obtain ⟨pre',p1,p2,p3,p4⟩:=H a List.mem_cons_self pre hp
    have hlen:acc.length<lim:=by simp at hl ⊢; (clear p4 p3 p2 p1 H hp hcap; omega)
    obtain ⟨s',q1,q2⟩:=Az hcap l (acc++[f a]) (pre'.map Jj) (by simpa using p1) (by simp at hl ⊢; (clear hlen p4 p3 p2 p1 H hp hcap; omega)) fun b hb=>H b (List.mem_cons_of_mem _ hb)
    refine ⟨s',?_,q2⟩
    rw [List.map_cons,qw,p2]
    dsimp only
    rw [p3]
    dsimp only
    rw [p4]
    dsimp only
    rw [if_pos hlen,iu]
    dsimp only
    rw [List.map_append,hcap,q1]
    simp
theorem Fp {α:Type} (h f:α→T) (l:List α) {g:G} {c:M Bool} {e:M T} {nv:Nat} {ci:List Nat} {it:M (List T)} {s s1:Sta} (env:List Slot) (cap:List Slot) (hit:it s=some (l.map h,s1)) (henv:g8 ci s1.env=env) (hci:ci.map (fun i=>(env[i]?).getD none)=cap) (hcap:cap.map Jj=cap) (hl:l.length≤lim)
    (H:∀ a∈l,∀ pre:List Slot,pre.length=nv→∃ pre',pre'.length=nv∧g (h a) ⟨pre++cap,s1.sto⟩=some ⟨pre'++cap,s1.sto⟩∧c ⟨pre'++cap,s1.sto⟩=some (true,⟨pre'++cap,s1.sto⟩)∧e ⟨pre'++cap,s1.sto⟩=some (f a,⟨pre'++cap,s1.sto⟩)) :
    zy nv ci g it c e s=some (.lst (l.map f),⟨env,s1.sto⟩):=by
  obtain ⟨s',q1,q2⟩:=Az hcap l [] (List.replicate nv none) (by simp) (by simpa using hl) H
  unfold zy
  rw [hit]
  dsimp only
  rw [henv,hci,q1]
  dsimp only
  rw [q2]; rfl
def okS (x:Str):Prop:=PyData.canLay0 (.str x)=true
theorem Mg {x:Str} (h:okS x):dat (.str x)=some (.str x):=by
  unfold okS at h
  simp [dat,h]
def Pl (n:Nat) (t:T):Prop:=∃ d,dat t=some d∧d.depth≤n
theorem Og (n:Nat) (i:Int):Pl n (.int i):=⟨.int i,by simp [dat],by simp [PyData.depth]⟩
theorem Nr (n:Nat) {x:Str} (h:okS x):Pl n (.str x):=⟨.str x,Mg h,by simp [PyData.depth]⟩
mutual
theorem Cy:∀ d:PyData,d.canLay0=true→PyData.eqv d d=true
  | .none,_=>by simp [PyData.eqv]
  | .bool b,_=>by simp [PyData.eqv] -- here
  | .int i,_=>by simp [PyData.eqv] -- here
  | .str x,_=>by simp [PyData.eqv] -- here
  | .list xs,h=>by simp only [PyData.eqv]; exact uq xs (by simpa [PyData.canLay0] using h)
  | .tuple xs,h=>by simp only [PyData.eqv]; exact uq xs (by simpa [PyData.canLay0] using h)
  | .dict _,h=>by simp [PyData.canLay0] at h
theorem uq:∀ xs:List PyData,PyData.canLayAll0 xs=true→PyData.eqvAll xs xs=true
  | [],_=>by simp [PyData.eqvAll]
  | x::xs,h=>by
    simp only [PyData.canLayAll0,Bool.and_eq_true] at h
    simp only [PyData.eqvAll,Cy x h.1,uq xs h.2,Bool.and_self]
end
end C
namespace C
open PySem
end C
namespace C
open PySem
theorem Ii {α:Type} (h:α→T) (l:List α) {k:Nat} (hk:k<l.length):jj (.lst (l.map h)) (.int (k:Int))=some (h l[k]):=by
  have h1:(k:Int)<(l.length:Int):=by omega
  simp [jj,ixI,h1,List.getElem?_eq_getElem hk]
end C
end
open C
local macro_rules | `(tactic| simp! [$ls,*])=>`(tactic| simp [vp,ni,sIf,vh,sNew,v8,jg,sNx,Lb,sGo,J6,K1,Ke,Kw,Ig,dg,Ek,Sh,mOr,Qc,mIf,mOp,mUn,cj,Ak,c7,qe,au,Ov,m7,j5,hName,Rp,nj,Rm,ltT,leT,G3,Pa,Rk,Mp,Qk,Rz,Rh,O9,Fd,g8,Jj,$ls,*])
section
namespace C
open PySem
theorem J3 {n:Nat} {t:T} (h:Pl n t) (hn:n≤40):eqD t t=some true:=by
  obtain ⟨d,e1,e2⟩:=h
  have:d.depth≤40:=Nat.le_trans e2 hn
  simp [eqD,e1,this,Cy d (mq _ e1)]
theorem Ip {n:Nat} {t:T} (h:Pl n t) (hn:n≤40):eqT t t=some true:=by
  cases t with
  | dic k=>obtain ⟨d,e1,_⟩:=h; simp [dat] at e1
  | _=>exact J3 h hn
theorem J8 {n:Nat} {t:T} (h:Pl n t) (hn:n≤40):neO t t=some (.bl false):=by simp [neO,Ip h hn]
theorem n8 {a b:Int}:eqO (.int a) (.int b)=some (.bl (a==b)):=rfl
theorem Bu {xs:List T} {k:Nat} {t:T} (h:xs[k]? = some t):jj (.tup xs) (.int (k:Int))=some t:=by
  have hk:k<xs.length:=(List.getElem?_eq_some_iff.mp h).1
  have h1:(k:Int)<(xs.length:Int):=by omega
  simp [jj,ixI,h1,h]
theorem Jp {a:T} {r:List T}:jj (.tup (a::r)) (.int 0)=some a:=Bu (k:=0) rfl
theorem Nk {a b:T} {r:List T}:jj (.tup (a::b::r)) (.int 1)=some b:=Bu (k:=1) rfl
theorem Oe {a b c:T} {r:List T}:jj (.tup (a::b::c::r)) (.int 2)=some c:=Bu (k:=2) rfl
end C
end
section
namespace K
open C PySem
section
variable {a b:M T} {l r:M (List T)} {s s1 s2:Sta} {t u v:T} {ts:List T} {i:Nat} {F:Fn} {z:List SO} {x y:S}
theorem zo {f:T→T→Option T} (h1:a s=some (t,s1)) (h2:b s1=some (u,s2)) (h3:f t u=some v):mOp f a b s=some (v,s2):=by
  unfold mOp; rw [h1]; dsimp only; rw [h2]; dsimp only; rw [h3]
theorem zm {f:List T→Option T} (h:l s=some (ts,s1)) (h2:f ts=some u):Ak f l s=some (u,s1):=by
  unfold Ak; rw [h]; dsimp only; rw [h2]
theorem zc (h:a s=some (t,s1)) (h2:l s1=some (ts,s2)):c7 a l s=some (t::ts,s2):=by
  unfold c7; rw [h]; dsimp only; rw [h2]
theorem zf (h:l s=some (ts,s1)) (h2:F ts s1.sto=some (t,z)):m7 F l s=some (t,⟨s1.env,z⟩):=by
  unfold m7; rw [h]; dsimp only; rw [h2]
theorem zs (h:a s=some (t,s1)):vh i a s=some (.next,j5 i t false s1):=by unfold vh; rw [h]
theorem zr (h:a s=some (t,s1)):v8 a s=some (.ret t,s1):=by unfold v8; rw [h]
theorem zq {q:Option (C.Flow × Sta)} (h:x s=some (.next,s1)) (h2:y s1=q):ni x y s=q:=by unfold ni; rw [h]; exact h2
theorem zt {k:Bool} (h:a s=some (.bl k,s1)):dg a s=some (k,s1):=by unfold dg; rw [h]
theorem zk {c:M Bool} (h:c s=some (true,s1)) {q:Option (C.Flow × Sta)} (h2:x s1=q):sIf c x y s=q:=by unfold sIf; rw [h]; exact h2
theorem ze {c:M Bool} (h:c s=some (false,s1)) {q:Option (C.Flow × Sta)} (h2:y s1=q):sIf c x y s=q:=by unfold sIf; rw [h]; exact h2
theorem md {i j:Int} (h:0<j):Mp (.int i) (.int j)=some (.int (i%j)):=if_pos h
theorem R9 {α:Type} {f:α→T} {l:List α}:G3 [.lst (l.map f)]=some (.int l.length):=by show some (T.int ((l.map f).length:Int))=_; rw [List.length_map]
theorem zqr (h:x s=some (.ret t,s1)):ni x y s=some (.ret t,s1):=by unfold ni; rw [h]
theorem Qo {c:M Bool} {k:Bool} (h:c s=some (k,s1)):Ek c s=some (!k,s1):=by unfold Ek; rw [h]
theorem R8 {c d:M Bool} {q:Option (Bool × Sta)} (h:c s=some (false,s1)) (h2:d s1=q):mOr c d s=q:=by unfold mOr; rw [h]; exact h2
theorem S8 {p q:Int} (h:p<q):ltT (.int p) (.int q)=some (.bl true):=by show some (T.bl (decide (p<q)))=_; rw [decide_eq_true h]
theorem Ra {p q:Int} (h:¬ p<q):ltT (.int p) (.int q)=some (.bl false):=by show some (T.bl (decide (p<q)))=_; rw [decide_eq_false h]
theorem zf0 (h:l s=some (ts,s1)) (h2:F ts s1.sto=some (t,s1.sto)):m7 F l s=some (t,s1):=by
  unfold m7; rw [h]; dsimp only; rw [h2]
theorem Q0 {g:G} {q:S} {w:List T} (h:g t s=some s1) (hb:q s1=some (.next,s2)):forL g q (t::w) s=forL g q w s2:=by
  rw [forL]; dsimp only; rw [h]; dsimp only; rw [hb]
theorem Sx {g:G} {q:S} {m:M (List T)} {r0:Option (C.Flow × Sta)} (h:m s=some (ts,s1)) (h2:forL g q ts s1=r0):K1 g m q s=r0:=by
  unfold K1; rw [h]; exact h2
theorem zrun {n:Nat} {A:List T} {z0:List SO} (h:x ⟨A.map (fun t=>some (t,false))++List.replicate (n - A.length) none,z0⟩=some (.ret t,s1)) (h2:s1.sto=z):vp n x A z0=some (t,z):=by
  unfold vp; rw [h]; dsimp only; rw [h2]
end
end K
end
section
namespace C
open PySem
end C
end
section
namespace C
open PySem
end C
end
section
namespace C
open PySem PySem.W PyProof.Rows
end C
end
section
namespace K
open C PySem
end K
namespace K
open C PySem
end K
namespace K
open C PySem
theorem zrg {a:M T} {s s1:Sta} {m:Nat} (h:a s=some (.int (m:Int),s1)) (hl:m<lim):nj a s=some ((List.range m).map (fun (k:Nat)=>T.int (k:Int)),s1):=by
  unfold nj; rw [h]; dsimp only; unfold rangeT; simp [hl]
end K
end
section
namespace K
open C PySem
abbrev scr (cs:List Int):T:=.lst (cs.map .int)
def fv (j:Nat) (n:Int) (x:Str):T:=if j=1∨j=2 then .str x else .int n
section
variable {cl:Nat→Nat} {sto:List SO} {n:Int} {x:Str}
theorem six {P:Nat→Prop} (h0:P 0) (h1:P 1) (h2:P 2) (h3:P 3) (h4:P 4) (h5:P 5):∀ j,j<6→P j:=fun j hj=>by
  match j,hj with
  | 0,_=>exact h0
  | 1,_=>exact h1
  | 2,_=>exact h2
  | 3,_=>exact h3
  | 4,_=>exact h4
  | 5,_=>exact h5
theorem made:∀ j:Nat,j<6→j7 cl [.int (j:Int),.int n,.str x] sto=some (.tup [.obj sto.length,fv j n x,fv j n x],sto++[.exc (cl j) (fld j) (fv j n x)]):=by
  refine six ?_ ?_ ?_ ?_ ?_ ?_ <;> (unfold j7; simp [vp,ni,sIf,vh,v8,jg,dg,mOp,cj,Ak,c7,qe,au,j5,n8,vq,mXf,fv,fld])
theorem Km:gw [.int 0,.int n,.str x] sto=some (.inr (fv 0 n x),sto):=by unfold gw; simp [ju,lu,xIf,jo,lx,jg,dg,mOp,cj,au,n8,fv]
theorem Kf:gj [.int 1,.int n,.str x] sto=some (.inr (fv 1 n x),sto):=by unfold gj; simp [ju,lu,xIf,jo,lx,jg,dg,mOp,cj,au,n8,fv]
theorem Jy:gn [.int 2,.int n,.str x] sto=some (.inr (fv 2 n x),sto):=by unfold gn; simp [ju,lu,xIf,jo,lx,jg,dg,mOp,cj,au,n8,fv]
theorem M9:gq [.int 3,.int n,.str x] sto=some (.inr (fv 3 n x),sto):=by unfold gq; simp [ju,lu,xIf,jo,lx,jg,dg,mOp,cj,au,n8,fv]
theorem Lf:gb [.int 4,.int n,.str x] sto=some (.inr (fv 4 n x),sto):=by unfold gb; simp [ju,lu,xIf,jo,lx,jg,dg,mOp,cj,au,n8,fv]
theorem Ko:gk [.int 5,.int n,.str x] sto=some (.inr (fv 5 n x),sto):=by unfold gk; simp [ju,lu,xIf,jo,lx,jg,dg,mOp,cj,au,n8,fv]
theorem M6 {f:Nat→Bool} (hd:∀ j k,j<6→k<6→cl j=cl k→j=k) {j:Nat} (hj:j<6):((List.range 6).map fun i=>(cl i,fld i,f i)).find? (fun p=>p.1==cl j&&p.2.1==fld j)=some (cl j,fld j,f j):=by
  have gen:∀ l:List Nat,(∀ i∈l,i<6)→j∈l→(l.map fun i=>(cl i,fld i,f i)).find? (fun p=>p.1==cl j&&p.2.1==fld j)=some (cl j,fld j,f j):=by
    intro l
    induction l with
    | nil=>intro _ h; cases h
    | cons i l ih =>
      intro h hm
      rw [List.map_cons,List.find?_cons]
      by_cases e:i=j
      · subst e
        have:(cl i==cl i&&fld i==fld i)=true:=by simp
        rw [this]
      · have ne:cl i≠cl j:=fun z=>e (hd i j (h i List.mem_cons_self) hj z)
        have:(cl i==cl j&&fld i==fld j)=false:=by rw [beq_eq_false_iff_ne.mpr ne]; rfl
        rw [this]
        refine ih (fun k hk=>h k (List.mem_cons_of_mem _ hk)) ?_
        rcases List.mem_cons.mp hm with z | z
        · exact absurd z.symm e
        · exact z
  exact gen _ (fun i hi=>List.mem_range.mp hi) (List.mem_range.mpr hj)
theorem isX {f:Nat→Bool} {j m:Nat} {t:T} {a:M T} {s s1:Sta} (hd:∀ j k,j<6→k<6→cl j=cl k→j=k) (hj:j<6) (ha:a s=some (.obj m,s1)) (hs:s1.sto[m]? = some (.exc (cl j) (fld j) t)):Bp ((List.range 6).map fun i=>(cl i,fld i,f i)) a s=some (.bl (f j),s1):=by
  unfold Bp
  rw [ha]
  dsimp only
  rw [hs]
  dsimp only
  rw [M6 hd hj]
theorem kinds {j m:Nat} {t:T} (hd:∀ j k,j<6→k<6→cl j=cl k→j=k) (hj:j<6) (hs:sto[m]? = some (.exc (cl j) (fld j) t)):j4 cl [.obj m] sto=some (.lst [.bl (j==0),.bl (j==1),.bl (j==2),.bl (j==3),.bl (j==4),.bl (j==5)],sto):=by
  have q:∀ k s1,(∃ o,s1=(⟨[some (.obj m,false),o],sto⟩:Sta))→Bp (tbK cl k) (cj 0) s1=some (.bl (j==k),s1):=fun k s1 z9=>by
    obtain ⟨o,e⟩:=z9
    subst e
    exact isX (f:=fun i=>i==k) hd hj rfl hs
  exact zrun (n:=2) (zq (zs (zm (zc (q 0 _ ⟨_,rfl⟩) (zc (q 1 _ ⟨_,rfl⟩) (zc (q 2 _ ⟨_,rfl⟩) (zc (q 3 _ ⟨_,rfl⟩) rfl)))) rfl)) (zr (zo rfl (zm (zc (q 4 _ ⟨_,rfl⟩) (zc (q 5 _ ⟨_,rfl⟩) rfl)) rfl) rfl))) rfl
end
end K
end
section
namespace K
open C PySem
def cell (cs:List Int) (k:Nat):Int:=cs.getD k 0
theorem Gf {cs:List Int} {k:Nat} {sto:List SO}:iy [scr cs,.int (k:Int)] sto=some (.int (cell cs k),sto):=by
  unfold cell
  by_cases h:k<cs.length
  · have h':(k:Int)<(cs.length:Int):=by omega
    have e:=Ii T.int cs h
    rw [List.getD_eq_getElem?_getD,List.getElem?_eq_getElem h]
    exact zrun (n:=2) (zqr (zk (zt (zo rfl (zm (zc rfl rfl) R9) (S8 h'))) (zr (zo rfl rfl e)))) rfl
  · have h':¬ (k:Int)<(cs.length:Int):=by omega
    rw [List.getD_eq_getElem?_getD,List.getElem?_eq_none (Nat.le_of_not_lt h)]
    exact zrun (n:=2) (zq (ze (zt (zo rfl (zm (zc rfl rfl) R9) (Ra h'))) rfl) (zr rfl)) rfl
theorem tails:∀ k:Fin 8,(decide ((zj "qzxhilld" (k.1:Int)).length<1000000)&&PyData.canLay0 (.str (zj "qzxhilld" (k.1:Int))))=true:=by decide +kernel
theorem Lr {i:Int} (h0:0≤i) (h1:i<8):Kc (.str "qzxhilld") (.int i)=some (.str (zj "qzxhilld" i))∧okS (zj "qzxhilld" i):=by
  have h:=tails ⟨i.toNat,by omega⟩
  rw [Bool.and_eq_true,decide_eq_true_eq] at h
  have e:((i.toNat:Nat):Int)=i:=by omega
  dsimp only at h
  rw [e] at h
  exact ⟨if_pos h.1,h.2⟩
section
variable {cl:Nat→Nat} {sto:List SO} {n:Int} {x:Str} {cs:List Int}
abbrev qG (cs:List Int) (n:Int) (x:Str) (j:Nat) (o4 o5 o6:Slot) (sto:List SO):Sta:=⟨[some (scr cs,false),some (.int n,false),some (.str x,false),some (.int (j:Int),false),o4,o5,o6],sto⟩
abbrev agG:M (List T):=(c7 (cj 3) (c7 (cj 1) (c7 (cj 2) qe)))
abbrev bdG (cl:Nat→Nat):S:=(ni (vh 4 (m7 (j7 cl) (c7 (cj 3) (c7 (cj 1) (c7 (cj 2) qe)))))
  (ni (sIf (mOr (Ek (dg (Bp (tbT cl) (mOp jj (cj 4) (au (.int 0)))))) (mOr (Ek (dg (Bp (tbT cl) (mOp jj (cj 4) (au (.int 0)))))) (dg (mOp neO (mOp jj (cj 4) (au (.int 1))) (mOp jj (cj 4) (au (.int 2)))))))
  (v8 (au (.bl false)))
  jg)
  (ni (sIf (dg (mOp neO (m7 (j4 cl) (c7 (mOp jj (cj 4) (au (.int 0))) qe)) (zy 1 [3] (hName 0) (nj (au (.int 6))) Fd (mOp eqO (cj 0) (cj 1)))))
  (v8 (au (.bl false)))
  jg)
  (ni (vh 5 (au .non))
  (ni (Gu 3 [jr (cl 0) (fld 0) gw agG 6 5,jr (cl 1) (fld 1) gj agG 6 5,jr (cl 2) (fld 2) gn agG 6 5,jr (cl 3) (fld 3) gq agG 6 5,jr (cl 4) (fld 4) gb agG 6 5,jr (cl 5) (fld 5) gk agG 6 5])
  (sIf (Ek (dg (mOp jj (m7 (j4 cl) (c7 (cj 5) qe)) (cj 3))))
  (v8 (au (.bl false)))
  jg))))))
theorem Qt {j:Nat} (hx:okS x):Pl 0 (fv j n x):=by
  unfold fv
  split
  · exact Nr 0 hx
  · exact Og 0 n
theorem yq {c:Nat} {f:Str} {F:FnX} {j:Nat} {o4 o5 o6:Slot} (h:F [.int (j:Int),.int n,.str x] sto=some (.inr (fv j n x),sto)) :
    jr c f F agG 6 5 (qG cs n x j o4 o5 o6 sto)=some (.next,qG cs n x j o4 (some (.obj sto.length,false)) none (sto++[.exc c f (fv j n x)])):=by
  unfold jr
  have e:agG (qG cs n x j o4 o5 o6 sto)=some ([.int (j:Int),.int n,.str x],qG cs n x j o4 o5 o6 sto):=rfl
  rw [e]
  dsimp only
  rw [h]
  rfl
theorem La {o4 o5 o6:Slot}:∀ j:Nat,j<6→Gu 3 [jr (cl 0) (fld 0) gw agG 6 5,jr (cl 1) (fld 1) gj agG 6 5,jr (cl 2) (fld 2) gn agG 6 5,jr (cl 3) (fld 3) gq agG 6 5,jr (cl 4) (fld 4) gb agG 6 5,jr (cl 5) (fld 5) gk agG 6 5] (qG cs n x j o4 o5 o6 sto)=some (.next,qG cs n x j o4 (some (.obj sto.length,false)) none (sto++[.exc (cl j) (fld j) (fv j n x)])) :=
  six (yq Km) (yq Kf) (yq Jy) (yq M9) (yq Lf) (yq Ko)
theorem M5 {j:Nat} {o4 o5 o6:Slot}:zy 1 [3] (hName 0) (nj (au (.int 6))) Fd (mOp eqO (cj 0) (cj 1)) (qG cs n x j o4 o5 o6 sto)=some (.lst ((List.range 6).map fun (k:Nat)=>T.bl ((k:Int)==(j:Int))),qG cs n x j o4 o5 o6 sto):=by
  refine Fp (fun k:Nat=>T.int (k:Int)) _ (List.range 6) (s1:=qG cs n x j o4 o5 o6 sto) _ [some (.int (j:Int),false)] (zrg (m:=6) rfl (by decide)) rfl rfl rfl (by decide) ?_
  intro k _ pre hp
  match pre,hp with
  | [a],_=>exact ⟨[some (.int (k:Int),false)],rfl,rfl,rfl,zo rfl rfl n8⟩
theorem Eb:∀ j:Nat,j<6→neO (.lst [.bl (j==0),.bl (j==1),.bl (j==2),.bl (j==3),.bl (j==4),.bl (j==5)]) (.lst ((List.range 6).map fun (k:Nat)=>T.bl ((k:Int)==(j:Int))))=some (.bl false):=by
  refine six ?_ ?_ ?_ ?_ ?_ ?_ <;> (simp [neO,eqT,eqD,dat,yx,PyData.depth,PyData.depthAll,PyData.eqv,PyData.eqvAll,List.range,List.range.loop])
theorem Ds:∀ j:Nat,j<6→jj (.lst [.bl (j==0),.bl (j==1),.bl (j==2),.bl (j==3),.bl (j==4),.bl (j==5)]) (.int (j:Int))=some (.bl true) :=
  six rfl rfl rfl rfl rfl rfl
theorem K4 (hd:∀ j k,j<6→k<6→cl j=cl k→j=k) (hx:okS x) {j:Nat} (hj:j<6) {o4 o5 o6:Slot} :
    ∃ (p4 p5 p6:Slot) (sto':List SO),bdG cl (qG cs n x j o4 o5 o6 sto)=some (.next,qG cs n x j p4 p5 p6 sto'):=by
  have hm:=made (cl:=cl) (sto:=sto) (n:=n) (x:=x) j hj
  have g1:(sto++[SO.exc (cl j) (fld j) (fv j n x)])[sto.length]? = some (.exc (cl j) (fld j) (fv j n x)):=by simp
  have hk:=kinds hd hj g1
  have g2:(sto++[SO.exc (cl j) (fld j) (fv j n x)]++[SO.exc (cl j) (fld j) (fv j n x)])[(sto++[SO.exc (cl j) (fld j) (fv j n x)]).length]? = some (.exc (cl j) (fld j) (fv j n x)):=by
    rw [List.getElem?_append_right (Nat.le_refl _),Nat.sub_self]; rfl
  have hk2:=kinds hd hj g2
  have ne:=J8 (Qt (n:=n) (j:=j) hx) (by decide:0≤40)
  generalize hs1:sto++[SO.exc (cl j) (fld j) (fv j n x)]=s1 at *
  have isT:Bp (tbT cl) (mOp jj (cj 4) (au (.int 0))) (qG cs n x j (some (.tup [.obj sto.length,fv j n x,fv j n x],false)) o5 o6 s1)=some (.bl true,qG cs n x j (some (.tup [.obj sto.length,fv j n x,fv j n x],false)) o5 o6 s1) :=
    isX (f:=fun _=>true) hd hj (zo rfl rfl Jp) g1
  refine ⟨_,_,_,_,zq (s1:=qG cs n x j (some (.tup [.obj sto.length,fv j n x,fv j n x],false)) o5 o6 s1) ?_ (zq (ze (R8 (Qo (k:=true) (zt isT)) (R8 (Qo (k:=true) (zt isT)) (zt (zo (zo rfl rfl Nk) (zo rfl rfl Oe) ne)))) rfl) (zq (ze (zt (zo (zf0 (zc (zo rfl rfl Jp) rfl) hk) M5 (Eb j hj))) rfl) (zq (s1:=qG cs n x j (some (.tup [.obj sto.length,fv j n x,fv j n x],false)) (some (.non,false)) o6 s1) rfl (zq (La j hj) (ze (Qo (k:=true) (zt (zo (zf0 (zc rfl rfl) hk2) rfl (Ds j hj)))) rfl)))))⟩
  unfold vh
  have e:m7 (j7 cl) agG (qG cs n x j o4 o5 o6 sto)=some (.tup [.obj sto.length,fv j n x,fv j n x],qG cs n x j o4 o5 o6 s1):=zf (s1:=qG cs n x j o4 o5 o6 sto) (ts:=[.int (j:Int),.int n,.str x]) rfl hm
  rw [e]
  rfl
theorem Fz (hd:∀ j k,j<6→k<6→cl j=cl k→j=k) (hx:okS x):∀ (m k:Nat) (o3:Slot) (o4 o5 o6:Slot) (sto:List SO),k+m=6→∃ (s':Sta),forL (hName 3) (bdG cl) ((List.range' k m).map fun (j:Nat)=>T.int (j:Int)) ⟨[some (scr cs,false),some (.int n,false),some (.str x,false),o3,o4,o5,o6],sto⟩=some (.next,s')
  | 0,k,o3,o4,o5,o6,sto,_=>⟨_,rfl⟩
  | m+1,k,o3,o4,o5,o6,sto,e=>by
    obtain ⟨p4,p5,p6,sto',h⟩:=K4 (cs:=cs) (sto:=sto) (n:=n) hd hx (j:=k) (by omega) (o4:=o4) (o5:=o5) (o6:=o6)
    obtain ⟨s',ih⟩:=Fz hd hx m (k+1) (some (.int (k:Int),false)) p4 p5 p6 sto' (by omega)
    refine ⟨s',?_⟩
    rw [List.range'_succ,List.map_cons]
    exact (Q0 (t:=.int (k:Int)) (s1:=qG cs n x k o4 o5 o6 sto) rfl h).trans ih
end
theorem Je {cs:List Int} {cl:Nat→Nat} (hd:∀ j k,j<6→k<6→cl j=cl k→j=k):∃ st,Io cl [scr cs] []=some (.bl true,st):=by
  have c0:=Gf (cs:=cs) (k:=0) (sto:=[])
  have c1:=Gf (cs:=cs) (k:=1) (sto:=[])
  have p6:Mz (.int 10) (.int 6)=some (.int 1000000):=by simp [Mz]
  have m8:0≤cell cs 1%8∧cell cs 1%8<8:=by omega
  obtain ⟨tt,tk⟩:=Lr m8.1 m8.2
  obtain ⟨s',L⟩:=Fz (cs:=cs) (n:=cell cs 0%1000000) hd tk 6 0 none none none none [] rfl
  refine ⟨s'.sto,?_⟩
  rw [← List.range_eq_range'] at L
  unfold Io
  generalize iy=G at *
  exact zrun (n:=7) (zq (zs (zo (zf0 (zc rfl (zc rfl rfl)) c0) (zo rfl rfl p6) (md (by decide)))) (zq (zs (zo rfl (zo (zf0 (zc rfl (zc rfl rfl)) c1) rfl (md (by decide))) tt)) (zq (Sx (zrg (m:=6) rfl (by decide)) L) (zr rfl)))) rfl
end K
end
section
namespace D
open PySem L2 C
structure FA (K:PySem.W.Frag) (x:Str) (st:Stmt) (f:Addr) (fd:FuncData):Prop where
  a:PySem.W.nsIn K mainGlobals x=some (some (.ref f))
  F:Fun K x x st f fd
theorem Qe {K:PySem.W.Frag} {x:Str} {st:Stmt} {f:Addr} {oc:Value} {od an:Option Addr} {osl:Array (Option Value)} {kV doc pm cdv ct:Value} (a:PySem.W.nsIn K mainGlobals x=some (some (.ref f)))
    (l:K.lookup f=some ⟨oc,od,.func (PySem.W.fnOf x x (nq st) (jh st) (bf st) .none kV doc pm an cdv ct),osl⟩) (c:PySem.W.codeIn K cdv x=true) (k:PySem.W.keepIn K (.ref f)=true):FA K x st f (PySem.W.fnOf x x (nq st) (jh st) (bf st) .none kV doc pm an cdv ct):=⟨a,qy l c k⟩
theorem FA.m {K:PySem.W.Frag} {x:Str} {st:Stmt} {f:Addr} {fd:FuncData} {hp:Heap} {mg:Str→Option Value} (h:FA K x st f fd) (X:K.In hp) (G:hp.Ns mainGlobals mg):mg x=some (.ref f):=PySem.W.mg_of X G h.a
theorem Eh {K:PySem.W.Frag} {Cl D fI:Addr} {f nm q:Str} {Na:Addr} {bs:List Value} {sn:List Str} {sub:List Value} {ab:Bool} {col:Option Bool} {dd:Option Addr} {k0 k1 k2 k3 k5:Option Value}
    (lk:K.lookup Cl=some (excClassObj nm q Cl Na bs (.ref D::My.vB) true sn sub ab col dd k0 k1 k2 k3 k5 "ValueError.__new__")) (b:PySem.W.excIn K D My.vB "ValueError.__new__" = true) (i:PySem.W.findIn K (.ref Cl) "__init__" = some (some (.ref fI))) (fn:PySem.W.isFn K (.ref fI)=true)
    (sa:PySem.W.findIn K (.ref Cl) "__setattr__" = some (some (.builtin "object.__setattr__"))) (ob:PySem.W.mroIn K Cl (.type "object")=some true) (na:PySem.W.findIn K (.ref Cl) f=some none) (kp:PySem.W.keepIn K (.ref Cl)=true):XC K Cl D fI f∧XCl K Cl (.ref D::My.vB) :=
  ⟨⟨⟨nm,q,Na,bs,sn,sub,ab,col,dd,k0,k1,k2,k3,k5,lk⟩,b,i,fn,sa,ob,na,kp⟩,by simp,nm,q,Na,bs,true,sn,sub,ab,col,dd,k0,k1,k2,k3,k5,lk⟩
theorem Mu {K:PySem.W.Frag} {Cl:Addr} {bm:List Value} {nm q:Str} {Na:Addr} {bs:List Value} {hd:Bool} {sn:List Str} {sub:List Value} {ab:Bool} {col:Option Bool} {dd:Option Addr} {k0 k1 k2 k3 k5:Option Value}
    (lk:K.lookup Cl=some (excClassObj nm q Cl Na bs bm hd sn sub ab col dd k0 k1 k2 k3 k5 "ValueError.__new__")) (b:bm.contains (.type "BaseException")=true):XCl K Cl bm:=⟨b,nm,q,Na,bs,hd,sn,sub,ab,col,dd,k0,k1,k2,k3,k5,lk⟩
def Inj (cl:Nat→Nat):Prop:=∀ j k,j<6→k<6→cl j=cl k→j=k
def spL (K:PySem.W.Frag):Sp:=fun vs H Q E=>∀ cl,Inj cl→spF K 1 (_root_.K.Io cl) vs H Q E
theorem Six.one {P:Program} {w:World} {K:PySem.W.Frag} {mg:Str→Option Value} {base:Heap} {cl:Nat→Nat} {Ca:Addr} {bm:List Value} (Z:Six P w K mg base cl Ca bm):Inj cl:=fun j k hj hk e=>by
  have h1:=Z.kit j k hj hk
  have h2:=Z.kit j j hj hj
  rw [← e,h2] at h1
  have h3:(j==j)=(j==k):=by injection h1
  have:(j==k)=true:=by rw [← h3]; simp
  exact eq_of_beq this
theorem all_mk {C0 D0 I0:Addr} {fdI0:FuncData} {C1 D1 I1:Addr} {fdI1:FuncData} {C2 D2 I2:Addr} {fdI2:FuncData} {C3 D3 I3:Addr} {fdI3:FuncData} {C4 D4 I4:Addr} {fdI4:FuncData} {C5 D5 I5:Addr} {fdI5:FuncData} {Ca:Addr} {bm:List Value} {l:PySem.W.OpenLaw} {w:World} {K:PySem.W.Frag} {h:Heap} {mg:Str→Option Value} {fa f1 f2 f3 f4 f5:Addr} {fd1 fd2 fd3 fd4:FuncData} (X:K.In h) (G:h.Ns mainGlobals mg) (hfa:mg "law" = some (.ref fa))
    {od5 an5:Option Addr} {sl5:Array (Option Value)} {oc5 kV5 dc5 pm5 cd5 ct5:Value}
    (h1:FA K "_law_cell_at" jk f1 fd1)
    (h2:FA K "_law_kinds" lg f2 fd2)
    (h3:FA K "_law_made" p7 f3 fd3)
    (h4:FA K "_law_raised" cu f4 fd4)
    (a5:PySem.W.nsIn K mainGlobals "law" = some (some (.ref f5))) (l5:K.lookup f5=some ⟨oc5,od5,.func (PySem.W.fnOf "law" "law" (nq yw) (jh yw) (bf yw) .none kV5 dc5 pm5 an5 cd5 ct5),sl5⟩) (c5:PySem.W.codeIn K cd5 "law" = true) (k5:PySem.W.keepIn K (.ref f5)=true)
    (z_ValueError:PySem.W.nsIn K mainGlobals "ValueError" = some none)
    (z_isinstance:PySem.W.nsIn K mainGlobals "isinstance" = some none)
    (z_len:PySem.W.nsIn K mainGlobals "len" = some none)
    (z_range:PySem.W.nsIn K mainGlobals "range" = some none)
    (xa0:PySem.W.nsIn K mainGlobals "NoText" = some (some (.ref C0))) (xx0:XC K C0 D0 I0 "row" ∧ XCl K C0 (.ref D0::My.vB)) (xg0:XG K C0 "row") (xF0:Fun K "__init__" "NoText.__init__" uo I0 fdI0) (xt0:(Value.ref C0 :: .ref D0::My.vB).contains (.ref Ca)=true) (xc0:PySem.W.kitOne K (.ref C0) (.ref Ca)=some true)
    (xa1:PySem.W.nsIn K mainGlobals "NoName" = some (some (.ref C1))) (xx1:XC K C1 D1 I1 "name" ∧ XCl K C1 (.ref D1::My.vB)) (xg1:XG K C1 "name") (xF1:Fun K "__init__" "NoName.__init__" v9 I1 fdI1) (xt1:(Value.ref C1 :: .ref D1::My.vB).contains (.ref Ca)=true) (xc1:PySem.W.kitOne K (.ref C1) (.ref Ca)=some true)
    (xa2:PySem.W.nsIn K mainGlobals "Twice" = some (some (.ref C2))) (xx2:XC K C2 D2 I2 "name" ∧ XCl K C2 (.ref D2::My.vB)) (xg2:XG K C2 "name") (xF2:Fun K "__init__" "Twice.__init__" zu I2 fdI2) (xt2:(Value.ref C2 :: .ref D2::My.vB).contains (.ref Ca)=true) (xc2:PySem.W.kitOne K (.ref C2) (.ref Ca)=some true)
    (xa3:PySem.W.nsIn K mainGlobals "TooMany" = some (some (.ref C3))) (xx3:XC K C3 D3 I3 "most" ∧ XCl K C3 (.ref D3::My.vB)) (xg3:XG K C3 "most") (xF3:Fun K "__init__" "TooMany.__init__" qt I3 fdI3) (xt3:(Value.ref C3 :: .ref D3::My.vB).contains (.ref Ca)=true) (xc3:PySem.W.kitOne K (.ref C3) (.ref Ca)=some true)
    (xa4:PySem.W.nsIn K mainGlobals "NoStep" = some (some (.ref C4))) (xx4:XC K C4 D4 I4 "place" ∧ XCl K C4 (.ref D4::My.vB)) (xg4:XG K C4 "place") (xF4:Fun K "__init__" "NoStep.__init__" uy I4 fdI4) (xt4:(Value.ref C4 :: .ref D4::My.vB).contains (.ref Ca)=true) (xc4:PySem.W.kitOne K (.ref C4) (.ref Ca)=some true)
    (xa5:PySem.W.nsIn K mainGlobals "NoLock" = some (some (.ref C5))) (xx5:XC K C5 D5 I5 "step" ∧ XCl K C5 (.ref D5::My.vB)) (xg5:XG K C5 "step") (xF5:Fun K "__init__" "NoLock.__init__" vd I5 fdI5) (xt5:(Value.ref C5 :: .ref D5::My.vB).contains (.ref Ca)=true) (xc5:PySem.W.kitOne K (.ref C5) (.ref Ca)=some true)
    (xaC:PySem.W.nsIn K mainGlobals "CalmError" = some (some (.ref Ca))) (xlC:XCl K Ca bm)
    (t00:PySem.W.kitOne K (.ref C0) (.ref C0)=some true) (t01:PySem.W.kitOne K (.ref C0) (.ref C1)=some false) (t02:PySem.W.kitOne K (.ref C0) (.ref C2)=some false) (t03:PySem.W.kitOne K (.ref C0) (.ref C3)=some false) (t04:PySem.W.kitOne K (.ref C0) (.ref C4)=some false) (t05:PySem.W.kitOne K (.ref C0) (.ref C5)=some false)
    (t10:PySem.W.kitOne K (.ref C1) (.ref C0)=some false) (t11:PySem.W.kitOne K (.ref C1) (.ref C1)=some true) (t12:PySem.W.kitOne K (.ref C1) (.ref C2)=some false) (t13:PySem.W.kitOne K (.ref C1) (.ref C3)=some false) (t14:PySem.W.kitOne K (.ref C1) (.ref C4)=some false) (t15:PySem.W.kitOne K (.ref C1) (.ref C5)=some false)
    (t20:PySem.W.kitOne K (.ref C2) (.ref C0)=some false) (t21:PySem.W.kitOne K (.ref C2) (.ref C1)=some false) (t22:PySem.W.kitOne K (.ref C2) (.ref C2)=some true) (t23:PySem.W.kitOne K (.ref C2) (.ref C3)=some false) (t24:PySem.W.kitOne K (.ref C2) (.ref C4)=some false) (t25:PySem.W.kitOne K (.ref C2) (.ref C5)=some false)
    (t30:PySem.W.kitOne K (.ref C3) (.ref C0)=some false) (t31:PySem.W.kitOne K (.ref C3) (.ref C1)=some false) (t32:PySem.W.kitOne K (.ref C3) (.ref C2)=some false) (t33:PySem.W.kitOne K (.ref C3) (.ref C3)=some true) (t34:PySem.W.kitOne K (.ref C3) (.ref C4)=some false) (t35:PySem.W.kitOne K (.ref C3) (.ref C5)=some false)
    (t40:PySem.W.kitOne K (.ref C4) (.ref C0)=some false) (t41:PySem.W.kitOne K (.ref C4) (.ref C1)=some false) (t42:PySem.W.kitOne K (.ref C4) (.ref C2)=some false) (t43:PySem.W.kitOne K (.ref C4) (.ref C3)=some false) (t44:PySem.W.kitOne K (.ref C4) (.ref C4)=some true) (t45:PySem.W.kitOne K (.ref C4) (.ref C5)=some false)
    (t50:PySem.W.kitOne K (.ref C5) (.ref C0)=some false) (t51:PySem.W.kitOne K (.ref C5) (.ref C1)=some false) (t52:PySem.W.kitOne K (.ref C5) (.ref C2)=some false) (t53:PySem.W.kitOne K (.ref C5) (.ref C3)=some false) (t54:PySem.W.kitOne K (.ref C5) (.ref C4)=some false) (t55:PySem.W.kitOne K (.ref C5) (.ref C5)=some true)
    : ∃ fd:FuncData,(∀ (s:Shared) (v:Value),BindsTo s fd ⟨[v],[]⟩ [("_law_script",v)])∧∀ base:Heap,K.In base→base.Ns mainGlobals mg→lq l.prog w K mg base CX0 4 fa fd ["_law_script"] (spL K):=by
  have e:=hfa.symm.trans (PySem.W.mg_of X G a5)
  cases e
  have F5:=qy (st:=yw) l5 c5 k5
  have b_ValueError:=PySem.W.mg_none_of X G z_ValueError
  have b_isinstance:=PySem.W.mg_none_of X G z_isinstance
  have b_len:=PySem.W.mg_none_of X G z_len
  have b_range:=PySem.W.mg_none_of X G z_range
  refine ⟨PySem.W.fnOf "law" "law" (nq yw) (jh yw) (bf yw) .none kV5 dc5 pm5 an5 cd5 ct5,fun s v=>.of_eq rfl,fun base _ _=>?_⟩
  have d_law_cell_at:=yd (P:=l.prog) (w:=w) (base:=base) h1.F (h1.m X G) b_len
  let cl:Nat→Nat:=fun j=>[C0,C1,C2,C3,C4,C5].getD j 0
  have Z:Six l.prog w K mg base cl Ca bm:={
    r0:=Fe xx0.1 xF0 (PySem.W.mg_of X G xa0)
    r1:=Es xx1.1 xF1 (PySem.W.mg_of X G xa1)
    r2:=Jd xx2.1 xF2 (PySem.W.mg_of X G xa2)
    r3:=Dk xx3.1 xF3 (PySem.W.mg_of X G xa3)
    r4:=Gv xx4.1 xF4 (PySem.W.mg_of X G xa4)
    r5:=Fl xx5.1 xF5 (PySem.W.mg_of X G xa5)
    g:=(_root_.K.six (P:=fun j=>XG K (cl j) (_root_.K.fld j)) xg0 xg1 xg2 xg3 xg4 xg5)
    k:=(_root_.K.six (P:=fun j=>∃ D:Addr,XCl K (cl j) (.ref D::My.vB)∧(Value.ref (cl j) :: .ref D::My.vB).contains (.ref Ca)=true) ⟨D0,xx0.2,xt0⟩ ⟨D1,xx1.2,xt1⟩ ⟨D2,xx2.2,xt2⟩ ⟨D3,xx3.2,xt3⟩ ⟨D4,xx4.2,xt4⟩ ⟨D5,xx5.2,xt5⟩)
    kc:=⟨xlC,PySem.W.mg_of X G xaC⟩
    kit:=fun j k hj hk=>(_root_.K.six (P:=fun j=>∀ k,k<6→PySem.W.kitOne K (.ref (cl j)) (.ref (cl k))=some (j==k)) (_root_.K.six (P:=fun j=>PySem.W.kitOne K (.ref C0) (.ref (cl j))=some (0==j)) t00 t01 t02 t03 t04 t05) (_root_.K.six (P:=fun j=>PySem.W.kitOne K (.ref C1) (.ref (cl j))=some (1==j)) t10 t11 t12 t13 t14 t15) (_root_.K.six (P:=fun j=>PySem.W.kitOne K (.ref C2) (.ref (cl j))=some (2==j)) t20 t21 t22 t23 t24 t25) (_root_.K.six (P:=fun j=>PySem.W.kitOne K (.ref C3) (.ref (cl j))=some (3==j)) t30 t31 t32 t33 t34 t35) (_root_.K.six (P:=fun j=>PySem.W.kitOne K (.ref C4) (.ref (cl j))=some (4==j)) t40 t41 t42 t43 t44 t45) (_root_.K.six (P:=fun j=>PySem.W.kitOne K (.ref C5) (.ref (cl j))=some (5==j)) t50 t51 t52 t53 t54 t55)) j hj k hk
    kitC:=(_root_.K.six (P:=fun j=>PySem.W.kitOne K (.ref (cl j)) (.ref Ca)=some true) xc0 xc1 xc2 xc3 xc4 xc5) }
  have d_law_kinds:=Aq (P:=l.prog) (w:=w) (base:=base) h2.F (h2.m X G) Z b_isinstance
  have d_law_made:=Br (P:=l.prog) (w:=w) (base:=base) h3.F (h3.m X G) Z
  have dx0:=w6 (P:=l.prog) (w:=w) (base:=base) h4.F (h4.m X G) Z
  have dx1:=vm (P:=l.prog) (w:=w) (base:=base) h4.F (h4.m X G) Z
  have dx2:=wu (P:=l.prog) (w:=w) (base:=base) h4.F (h4.m X G) Z
  have dx3:=wk (P:=l.prog) (w:=w) (base:=base) h4.F (h4.m X G) Z
  have dx4:=yc (P:=l.prog) (w:=w) (base:=base) h4.F (h4.m X G) Z
  have dx5:=yh (P:=l.prog) (w:=w) (base:=base) h4.F (h4.m X G) Z
  exact (Oj F5 d_law_cell_at d_law_kinds d_law_made dx0 dx1 dx2 dx3 dx4 dx5 Z b_ValueError b_isinstance b_range).imp fun _ _ _ _ h=>h cl Z.one
theorem walk {l:PySem.W.OpenLaw} {q:Program} {loose:List Str} {XP:(Str→Option Value)→Heap→Prop} {YP:World→Heap→Prop} {d:DefRec} {K:Params→PySem.W.Frag} (hn:l.most=some 63) (hdf:d.params.defaults=[])
    (hY:∀ (w:World) (h:Heap),YP w h→(K w.params).In h)
    (F:∀ (w:World) (mg:Str→Option Value) (fa:Addr) (h:Heap),(K w.params).In h→h.Ns mainGlobals mg→mg d.name=some (.ref fa) →
      ∃ fd:FuncData,(∀ (s:Shared) (u:Value),BindsTo s fd ⟨[u],[]⟩ [("_law_script",u)])∧∀ base:Heap,(K w.params).In base→base.Ns mainGlobals mg→lq l.prog w (K w.params) mg base CX0 4 fa fd ["_law_script"] (spL (K w.params))) :
    PySem.W.WalkO q loose XP YP l.row.toRowW d [] (fun f vs=>PySem.call f vs) :=
  L2.Lj (n:=63) (k:=4) (x := "_law_script") (CX:=fun _=>CX0) (sp:=fun w=>spL (K w.params)) hn (by decide) hdf ⟨rfl,by decide,by decide⟩ hY F (fun w H a ns hl _ hS=>fun cl hd=>Li hS (_root_.K.Je (cs:=ns) hd)) fun _ _ _ _ _ z=>z
end D
open PySem PySem.W PyProof.Rows
set_option maxRecDepth 100000 in
set_option maxHeartbeats 0 in
theorem PySem.Challenge.cw_calm_k04_refusals_holds : PySem.Challenge.rw_calm_k04_refusals.Holds := by
  w_on; o_law; k_head; (case hw=>w_witness2)
  k_fill
  refine D.walk (l:=PySem.Challenge.rw_calm_k04_refusals) rfl rfl (fun w h Y=>PySem.W.kIn_of Y) ?F
  case F =>
    intro w mg fa h KX G hmg
    refine' D.all_mk KX G hmg ?h1 ?h2 ?h3 ?h4 ?a5 ?l5 ?c5 ?k5 ?z_ValueError ?z_isinstance ?z_len ?z_range ?xa0 ?xx0 ?xg0 ?xF0 ?xt0 ?xc0 ?xa1 ?xx1 ?xg1 ?xF1 ?xt1 ?xc1 ?xa2 ?xx2 ?xg2 ?xF2 ?xt2 ?xc2 ?xa3 ?xx3 ?xg3 ?xF3 ?xt3 ?xc3 ?xa4 ?xx4 ?xg4 ?xF4 ?xt4 ?xc4 ?xa5 ?xx5 ?xg5 ?xF5 ?xt5 ?xc5 ?xaC ?xlC ?t00 ?t01 ?t02 ?t03 ?t04 ?t05 ?t10 ?t11 ?t12 ?t13 ?t14 ?t15 ?t20 ?t21 ?t22 ?t23 ?t24 ?t25 ?t30 ?t31 ?t32 ?t33 ?t34 ?t35 ?t40 ?t41 ?t42 ?t43 ?t44 ?t45 ?t50 ?t51 ?t52 ?t53 ?t54 ?t55
    (case xa0=>k_is)
    (case xx0=>refine' D.Eh ?lk ?b ?i ?fn ?sa ?ob ?na ?kp; (case lk=>k_is); (case b=>k_exc); (case i=>k_is); (case fn=>k_is); (case sa=>k_is); (case ob=>k_is); (case na=>k_is); (case kp=>k_is))
    (case xa1=>k_is)
    (case xx1=>refine' D.Eh ?lk ?b ?i ?fn ?sa ?ob ?na ?kp; (case lk=>k_is); (case b=>k_exc); (case i=>k_is); (case fn=>k_is); (case sa=>k_is); (case ob=>k_is); (case na=>k_is); (case kp=>k_is))
    (case xa2=>k_is)
    (case xx2=>refine' D.Eh ?lk ?b ?i ?fn ?sa ?ob ?na ?kp; (case lk=>k_is); (case b=>k_exc); (case i=>k_is); (case fn=>k_is); (case sa=>k_is); (case ob=>k_is); (case na=>k_is); (case kp=>k_is))
    (case xa3=>k_is)
    (case xx3=>refine' D.Eh ?lk ?b ?i ?fn ?sa ?ob ?na ?kp; (case lk=>k_is); (case b=>k_exc); (case i=>k_is); (case fn=>k_is); (case sa=>k_is); (case ob=>k_is); (case na=>k_is); (case kp=>k_is))
    (case xa4=>k_is)
    (case xx4=>refine' D.Eh ?lk ?b ?i ?fn ?sa ?ob ?na ?kp; (case lk=>k_is); (case b=>k_exc); (case i=>k_is); (case fn=>k_is); (case sa=>k_is); (case ob=>k_is); (case na=>k_is); (case kp=>k_is))
    (case xa5=>k_is)
    (case xx5=>refine' D.Eh ?lk ?b ?i ?fn ?sa ?ob ?na ?kp; (case lk=>k_is); (case b=>k_exc); (case i=>k_is); (case fn=>k_is); (case sa=>k_is); (case ob=>k_is); (case na=>k_is); (case kp=>k_is))
    (case xaC=>k_is)
    (case xlC=>refine' D.Mu ?lk ?b; (case lk=>k_is); (case b=>rfl))
    (case xg0=>refine' L2.XG.mk ?ga0 ?gt0 ?bx0 ?dc0 ?na0 ?cl0 ?cg0 ?ct0 ?ob0 ?ve0; (case ve0=>kit_is); all_goals k_is)
    (case xF0=>refine' L2.qy ?l ?c ?k; (case l=>k_is); (case c=>k_is); (case k=>k_is))
    (case xt0=>rfl)
    (case xc0=>kit_is)
    (case xg1=>refine' L2.XG.mk ?ga1 ?gt1 ?bx1 ?dc1 ?na1 ?cl1 ?cg1 ?ct1 ?ob1 ?ve1; (case ve1=>kit_is); all_goals k_is)
    (case xF1=>refine' L2.qy ?l ?c ?k; (case l=>k_is); (case c=>k_is); (case k=>k_is))
    (case xt1=>rfl)
    (case xc1=>kit_is)
    (case xg2=>refine' L2.XG.mk ?ga2 ?gt2 ?bx2 ?dc2 ?na2 ?cl2 ?cg2 ?ct2 ?ob2 ?ve2; (case ve2=>kit_is); all_goals k_is)
    (case xF2=>refine' L2.qy ?l ?c ?k; (case l=>k_is); (case c=>k_is); (case k=>k_is))
    (case xt2=>rfl)
    (case xc2=>kit_is)
    (case xg3=>refine' L2.XG.mk ?ga3 ?gt3 ?bx3 ?dc3 ?na3 ?cl3 ?cg3 ?ct3 ?ob3 ?ve3; (case ve3=>kit_is); all_goals k_is)
    (case xF3=>refine' L2.qy ?l ?c ?k; (case l=>k_is); (case c=>k_is); (case k=>k_is))
    (case xt3=>rfl)
    (case xc3=>kit_is)
    (case xg4=>refine' L2.XG.mk ?ga4 ?gt4 ?bx4 ?dc4 ?na4 ?cl4 ?cg4 ?ct4 ?ob4 ?ve4; (case ve4=>kit_is); all_goals k_is)
    (case xF4=>refine' L2.qy ?l ?c ?k; (case l=>k_is); (case c=>k_is); (case k=>k_is))
    (case xt4=>rfl)
    (case xc4=>kit_is)
    (case xg5=>refine' L2.XG.mk ?ga5 ?gt5 ?bx5 ?dc5 ?na5 ?cl5 ?cg5 ?ct5 ?ob5 ?ve5; (case ve5=>kit_is); all_goals k_is)
    (case xF5=>refine' L2.qy ?l ?c ?k; (case l=>k_is); (case c=>k_is); (case k=>k_is))
    (case xt5=>rfl)
    (case xc5=>kit_is)
    (case t00=>kit_is)
    (case t01=>kit_is)
    (case t02=>kit_is)
    (case t03=>kit_is)
    (case t04=>kit_is)
    (case t05=>kit_is)
    (case t10=>kit_is)
    (case t11=>kit_is)
    (case t12=>kit_is)
    (case t13=>kit_is)
    (case t14=>kit_is)
    (case t15=>kit_is)
    (case t20=>kit_is)
    (case t21=>kit_is)
    (case t22=>kit_is)
    (case t23=>kit_is)
    (case t24=>kit_is)
    (case t25=>kit_is)
    (case t30=>kit_is)
    (case t31=>kit_is)
    (case t32=>kit_is)
    (case t33=>kit_is)
    (case t34=>kit_is)
    (case t35=>kit_is)
    (case t40=>kit_is)
    (case t41=>kit_is)
    (case t42=>kit_is)
    (case t43=>kit_is)
    (case t44=>kit_is)
    (case t45=>kit_is)
    (case t50=>kit_is)
    (case t51=>kit_is)
    (case t52=>kit_is)
    (case t53=>kit_is)
    (case t54=>kit_is)
    (case t55=>kit_is)
    case h1 | h2 | h3 | h4=>refine' D.Qe ?a ?l ?c ?k; (case a=>k_is); (case l=>k_is); (case c=>k_is); (case k=>k_is)
    case a5 | l5 | c5 | k5 | z_ValueError | z_isinstance | z_len | z_range=>k_is
#print axioms PySem.Challenge.cw_calm_k04_refusals_holds
end
