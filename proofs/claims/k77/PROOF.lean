import PyProof.Rows.All
import Wide.All
import OpenK.AllK
import Wide.FinOn
import PyProof.P3Statements
import PyProof.Lay0
import Lean
import PyProof.EqAt
import PyProof.EqKinds
import PyProof.TupleCall
import PyProof.P3Eq
import PyProof.NeData
import KE.KEqDict
import PyProof.ListRange
import KE.KDictSum
import PyProof.AttrMissHeap
import PyProof.WalksS
import KE.KDictOf
import KE.KRevSl
import PyProof.ZipIter
import PyProof.WalksMore
import PyProof.Rows.FactsT2
import PyProof.Rows.SetFrom
import PyProof.Rows.SortStr
import KE.KDictList
import PyProof.FactsAll.set
import PyProof.CollectWalk
import KE.KSortTup
import PyProof.DictWalks
import PyProof.DictItems
import KE.KDictLaws
import PyProof.WalkInts
import PyProof.SeqI3
import KE.KRevIter
import PyProof.TupleOfGen
import PyProof.CollectIter
import PyProof.EnumMake
import PyProof.Rows.EnumRows
import PyProof.FString
import PyProof.MeetsStr
import PyProof.StrLaws
import PyProof.StrLawsJoin
import PyProof.StrOps
import PyProof.SliceStr2
import PyProof.StrLoop
import KE.KIntText
import PyProof.StrLawsTight
import PyProof.StrLawsChain
import PyProof.Rows.RuleB_pow
import PyProof.CallStr
import KE.KSortKey
import PyProof.StrLawsIn
import PySem.Challenge.RW_calm_k77_papers_written_and_read
set_option Elab.async false
set_option linter.all false
set_option maxRecDepth 100000
set_option maxHeartbeats 8000000
noncomputable section
section
namespace C
open PySem
theorem gj {α:Type} {w:α} {P:Prop} (h:none=some w):P:=nomatch h
theorem qz {α:Type} {c:Prop} [Decidable c] {o:Option α} {w:α} (h:(if c then o else none)=some w):c/\o=some w:=by
 by_cases z:c
 ·rw [if_pos z] at h; exact ⟨z,h⟩
 ·rw [if_neg z] at h; exact gj h
abbrev Key:=Sum Int Str
inductive T where
 | non | bl (b:Bool) | int (i:Int) | str (x:Str)
 | tup (xs:List T) | lst (xs:List T) | dic (ag:List (Key × T)) | obj (n:Nat)
 | adr (n:Nat)
instance:Inhabited T:=⟨.non⟩
inductive SO where
 | dic (ag:List (Key × T)) | lst (xs:List T) | dit (ag:List (List Key × T))
 | exc (C:Nat) (f:Str) (t:T)
 | ins (C:Nat) (fs:List (Str × T))
 | fdc (ag:List (Key × T))
abbrev Slot:=Option (T × Bool)
structure Sta where
 env:List Slot
 sto:List SO
abbrev M (α:Type):=Sta->Option (α × Sta)
def U6 (k:Key):List (Key × T)->Option T
 | []=>none
 | (q,t)::r=>if q=k then some t else U6 k r
def keyOf:T->Option Key
 | .int i=>some (.inl i)
 | .str x=>some (.inr x)
 | _=>none
mutual
def dat:T->Option PyData
 | .non=>some .none
 | .bl b=>some (.bool b)
 | .int i=>some (.int i)
 | .str x=>if PyData.canLay0 (.str x) then some (.str x) else none
 | .tup xs=>(Gb xs).map .tuple
 | .lst xs=>(Gb xs).map .list
 | .dic _=>none
 | .obj _=>none
 | .adr _=>none
def Gb:List T->Option (List PyData)
 | []=>some []
 | x::r=>match dat x with
  | some a=>(Gb r).map (a :: ·)
  | none=>none
end
noncomputable def eqD (a b:T):Option Bool:=match dat a with
 | some x=>match dat b with
  | some y=>if x.depth<=40 then some (PyData.eqv x y) else none
  | none=>none
 | none=>none
noncomputable def Zr:List (Key × T)->List (Key × T)->Option Bool
 | [],_=>some true
 | (k,x)::r,ys=>match U6 k ys with
  | none=>some false
  | some y=>match eqD x y with
   | some e=>(Zr r ys).map (e && ·)
   | none=>none
noncomputable def eqT:T->T->Option Bool
 | .dic a,.dic b=>if a.length=b.length then Zr a b else some false
 | x,y=>eqD x y
def Hr (t:T):M T:=fun s=>some (t,s)
noncomputable def a2p (i:Nat):M T:=fun s=>match s.env[i]? with
 | some (some (t,false))=>some (t,s)
 | some (some (t,true))=>some (t,{ s with env:=s.env.set i (some (t,false)) })
 | _=>none
def U9:M (List T):=fun s=>some ([],s)
noncomputable def Bb (a:M T) (r:M (List T)):M (List T):=fun s=>match a s with
 | some (t,s1)=>match r s1 with
  | some (ts,s2)=>some (t::ts,s2)
  | none=>none
 | none=>none
def Wf:List Str->M (List T)
 | []=>U9
 | x::r=>Bb (Hr (.str x)) (Wf r)
noncomputable def Ow (f:List T->Option T) (a:M (List T)):M T:=fun s=>match a s with
 | some (ts,s1)=>match f ts with
  | some t=>some (t,s1)
  | none=>none
 | none=>none
noncomputable def mUn (f:T->Option T) (a:M T):M T:=fun s=>match a s with
 | some (t,s1)=>match f t with
  | some u=>some (u,s1)
  | none=>none
 | none=>none
noncomputable def mOp (f:T->T->Option T) (a b:M T):M T:=fun s=>match a s with
 | some (t,s1)=>match b s1 with
  | some (u,s2)=>match f t u with
   | some v=>some (v,s2)
   | none=>none
  | none=>none
 | none=>none
abbrev Fn:=List T->List SO->Option (T × List SO)
noncomputable def Tp (F:Fn) (a:M (List T)):M T:=fun s=>match a s with
 | some (ts,s1)=>match F ts s1.sto with
  | some (t,sto)=>some (t,{ s1 with sto:=sto })
  | none=>none
 | none=>none
def Bc (a:M T):M Bool:=fun s=>match a s with
 | some (.bl b,s1)=>some (b,s1)
 | _=>none
def a1s (a:M Bool):M Bool:=fun s=>match a s with
 | some (b,s1)=>some (!b,s1)
 | none=>none
noncomputable def a2f (a b:M Bool):M Bool:=fun s=>match a s with
 | some (true,s1)=>b s1
 | some (false,s1)=>some (false,s1)
 | none=>none
noncomputable def mOr (a b:M Bool):M Bool:=fun s=>match a s with
 | some (true,s1)=>some (true,s1)
 | some (false,s1)=>b s1
 | none=>none
def O1 (a:M Bool):M T:=fun s=>match a s with
 | some (b,s1)=>some (.bl b,s1)
 | none=>none
noncomputable def mIf (c:M Bool) (a b:M T):M T:=fun s=>match c s with
 | some (true,s1)=>a s1
 | some (false,s1)=>b s1
 | none=>none
abbrev lim:Nat:=1000000
def a0j (i:Int):Bool:=decide (-(2 ^ 64)<i/\i<2 ^ 64)
noncomputable def a4a:T->T->Option T
 | .int i,.int j=>some (.int (i+j))
 | .str x,.str y=>if x.length+y.length<lim then some (.str (x++y)) else none
 | .tup x,.tup y=>if x.length+y.length<lim then some (.tup (x++y)) else none
 | .lst x,.lst y=>if x.length+y.length<lim then some (.lst (x++y)) else none
 | _,_=>none
def a3x:T->T->Option T
 | .int i,.int j=>some (.int (i - j))
 | _,_=>none
noncomputable def a4z:T->T->Option T
 | .int i,.int j=>if a0j i||a0j j then some (.int (i * j)) else none
 | .str x,.int j=>if 0<=j/\j<=1000/\x.length<=100 then some (.str ⟨((List.replicate j.toNat x.cps.toList).flatten).toArray⟩) else none
 | _,_=>none
def a4q:T->T->Option T
 | .int i,.int j=>if 0<j then some (.int (i%j)) else none
 | _,_=>none
def fdl:Nat:=2 ^ 200
noncomputable def Yi:T->T->Option T
 | .int i,.int j=>if 0<j/\(j<1073741824\/j.natAbs<fdl) then some (.int (i / j)) else none
 | _,_=>none
noncomputable def a5j:T->T->Option T
 | .int i,.int j=>if 0<=j/\j<=1000/\i.natAbs<1000 then some (.int (i ^ j.toNat)) else none
 | _,_=>none
def a3n:T->Option T
 | .int i=>some (.int (-i))
 | _=>none
def ltT:T->T->Option T
 | .int i,.int j=>some (.bl (decide (i<j)))
 | _,_=>none
def leT:T->T->Option T
 | .int i,.int j=>some (.bl (decide (i<=j)))
 | _,_=>none
def gtT:T->T->Option T
 | .int i,.int j=>some (.bl (decide (j<i)))
 | _,_=>none
def geT:T->T->Option T
 | .int i,.int j=>some (.bl (decide (j<=i)))
 | _,_=>none
def eqO (x y:T):Option T:=match eqT x y with
 | some b=>some (.bl b)
 | none=>none
def neO (x y:T):Option T:=match eqT x y with
 | some b=>some (.bl (!b))
 | none=>none
noncomputable def ixI (n:Nat) (i:Int):Option Nat:=if 0<=i then (if i<n then some i.toNat else none) else if -(n:Int)<=i then some (i+n).toNat else none
noncomputable def Zu:T->T->Option T
 | .tup xs,.int i=>(ixI xs.length i).bind (xs[·]?)
 | .lst xs,.int i=>(ixI xs.length i).bind (xs[·]?)
 | .str x,.int i=>if x.length<lim then (ixI x.cps.toList.length i).bind fun j=>(x.cps.toList[j]?).map fun c=>.str ⟨#[c]⟩ else none
 | .dic ag,k=>(keyOf k).bind (U6 · ag)
 | _,_=>none
noncomputable def V9:List T->Option T
 | [.tup xs]=>some (.int xs.length)
 | [.lst xs]=>some (.int xs.length)
 | [.str x]=>if x.length<lim then some (.int x.length) else none
 | [.dic ag]=>some (.int ag.length)
 | _=>none
noncomputable def inL (x:T):List T->Option Bool
 | []=>some false
 | y::r=>match eqD y x with
  | some e=>(inL x r).map (e || ·)
  | none=>none
noncomputable def inT (x y:T):Option T:=match y with
 | .dic ag=>(keyOf x).map fun q=>.bl (U6 q ag).isSome
 | _=>if (dat x).isSome then (match y with
  | .tup ys=>(inL x ys).map .bl
  | .lst ys=>(inL x ys).map .bl
  | _=>none) else none
def Wh (x y:T):Option T:=match inT x y with
 | some (.bl b)=>some (.bl (!b))
 | _=>none
def Dy:List T->Option T
 | [.lst xs]=>some (.tup xs)
 | [.tup xs]=>some (.tup xs)
 | _=>none
def Oi:List T->Option T
 | [.lst xs]=>some (.lst xs)
 | [.tup xs]=>some (.lst xs)
 | _=>none
def Yp:List T->Option (List Int)
 | []=>some []
 | .int i::r=>(Yp r).map (i :: ·)
 | _=>none
def a66:List T->Option T
 | [.lst xs]=>(Yp xs).map fun l=>.int l.sum
 | _=>none
def M8:List T->Option (List Bool)
 | []=>some []
 | .bl b::r=>(M8 r).map (b :: ·)
 | _=>none
def a6i:List T->Option T
 | [.lst xs]=>(M8 xs).map fun l=>.bl (l.all id)
 | _=>none
def a73:List T->Option T
 | [.lst xs]=>(M8 xs).map fun l=>.bl (l.any id)
 | _=>none
def Ti:List T->Option (List Str)
 | []=>some []
 | .str x::r=>(Ti r).map (x :: ·)
 | _=>none
noncomputable def isTup:List T->Option T
 | [.tup _]=>some (.bl true)
 | [.obj _]=>none
 | [.adr _]=>none
 | [_]=>some (.bl false)
 | _=>none
noncomputable def isInt:List T->Option T
 | [.int _]=>some (.bl true)
 | [.bl _]=>some (.bl true)
 | [.obj _]=>none
 | [.adr _]=>none
 | [_]=>some (.bl false)
 | _=>none
noncomputable def a4r:List T->Option T
 | [.bl _]=>some (.bl true)
 | [.obj _]=>none
 | [.adr _]=>none
 | [_]=>some (.bl false)
 | _=>none
noncomputable def isStr:List T->Option T
 | [.str _]=>some (.bl true)
 | [.obj _]=>none
 | [.adr _]=>none
 | [_]=>some (.bl false)
 | _=>none
noncomputable def a4u:T->Option T
 | .lst xs=>some (.lst xs.reverse)
 | .tup xs=>some (.tup xs.reverse)
 | _=>none
noncomputable def Jk (i:Nat):M T:=fun s=>match s.env[i]? with
 | some (some (.lst xs,_))=>some (.int xs.length,s)
 | some (some (.dic xs,_))=>some (.int xs.length,s)
 | _=>none
def vo (i:Nat) (s:Sta):Bool:=match s.env[i]? with
 | some (some (.lst _,_))=>true
 | _=>false
noncomputable def Sh (o k:M T):M T:=fun s=>match o s with
 | some (.obj n,s1)=>match k s1 with
  | some (.int i,s2)=>match s2.sto[n]? with
   | some (.lst xs)=>match (ixI xs.length i).bind (xs[·]?) with
    | some t=>some (t,s2)
    | none=>none
   | _=>none
  | _=>none
 | _=>none
noncomputable def K6 (o:M T):M T:=fun s=>match o s with
 | some (.obj n,s1)=>match s1.sto[n]? with
  | some (.lst xs)=>some (.int xs.length,s1)
  | _=>none
 | _=>none
noncomputable def Kl (a:M (List T)):M T:=fun s=>match a s with
 | some (ts,s1)=>some (.obj s1.sto.length,{ s1 with sto:=s1.sto++[.lst ts] })
 | none=>none
inductive Flow where
 | next | ret (t:T) | brk | cont
abbrev S:=Sta->Option (Flow × Sta)
def a5r:S:=fun s=>some (.next,s)
def a2n (a b:S):S:=fun s=>match a s with
 | some (.next,s1)=>b s1
 | r=>r
def a2m (e:M T):S:=fun s=>match e s with
 | some (t,s1)=>some (.ret t,s1)
 | none=>none
noncomputable def sIf (c:M Bool) (a b:S):S:=fun s=>match c s with
 | some (true,s1)=>a s1
 | some (false,s1)=>b s1
 | none=>none
def jj (i:Nat) (t:T) (own:Bool) (s:Sta):Sta:={ s with env:=s.env.set i (some (t,own)) }
noncomputable def Yu (i:Nat) (e:M T):S:=fun s=>match e s with
 | some (t,s1)=>some (.next,jj i t false s1)
 | none=>none
noncomputable def sNew (i:Nat) (e:M T):S:=fun s=>match e s with
 | some (t,s1)=>some (.next,jj i t true s1)
 | none=>none
noncomputable def G4 (i:Nat) (e:M T):S:=fun s=>if vo i s then (match e s with
 | some (t,s1)=>match s1.env[i]? with
  | some (some (.lst xs,true))=>if xs.length<lim then some (.next,jj i (.lst (xs++[t])) true s1) else none
  | _=>none
 | none=>none) else none
def Ci:T->Option (List T)
 | .lst xs=>some xs
 | .tup xs=>some xs
 | _=>none
noncomputable def Fw (i:Nat) (e:M T):S:=fun s=>if vo i s then (match e s with
 | some (t,s1)=>match Ci t,s1.env[i]? with
  | some ys,some (some (.lst xs,true))=>if xs.length+ys.length<lim then some (.next,jj i (.lst (xs++ys)) true s1) else none
  | _,_=>none
 | none=>none) else none
noncomputable def Py (o k v:M T):S:=fun s=>match v s with
 | some (t,s1)=>match o s1 with
  | some (.obj n,s2)=>match k s2 with
   | some (.int i,s3)=>match s3.sto[n]? with
    | some (.lst xs)=>match ixI xs.length i with
     | some j=>some (.next,{ s3 with sto:=s3.sto.set n (.lst (xs.set j t)) })
     | none=>none
    | _=>none
   | _=>none
  | _=>none
 | none=>none
noncomputable def K4 (i:Nat) (v:M T):S:=fun s=>match s.env[i]? with
 | some (some (.obj n,false))=>match s.sto[n]? with
  | some (.lst _)=>match v s with
   | some (t,s1)=>match s1.sto[n]? with
    | some (.lst xs)=>if xs.length<lim then some (.next,{ s1 with sto:=s1.sto.set n (.lst (xs++[t])) }) else none
    | _=>none
   | none=>none
  | _=>none
 | _=>none
abbrev G:=T->Sta->Option Sta
def hName (i:Nat):G:=fun t s=>some (jj i t false s)
noncomputable def a5m (is:List Nat):G:=fun t s=>match t with
 | .tup xs=>if xs.length=is.length then some ((is.zip xs).foldl (fun s p=>jj p.1 p.2 false s) s) else none
 | _=>none
noncomputable def sGo (g:G) (m:M T):S:=fun s=>match m s with
 | some (t,s1)=>match g t s1 with
  | some s2=>some (.next,s2)
  | none=>none
 | none=>none
noncomputable def forL (g:G) (b:S):List T->S
 | []=>fun s=>some (.next,s)
 | t::r=>fun s=>match g t s with
  | some s1=>match b s1 with
   | some (.next,s2)=>forL g b r s2
   | some (.cont,s2)=>forL g b r s2
   | some (.brk,s2)=>some (.next,s2)
   | some (.ret v,s2)=>some (.ret v,s2)
   | none=>none
  | none=>none
noncomputable def a2o (g:G) (it:M (List T)) (b:S):S:=fun s=>match it s with
 | some (ts,s1)=>forL g b ts s1
 | none=>none
def rangeT (n:Nat):List T:=(List.range n).map fun (k:Nat)=>.int (k:Int)
noncomputable def Im (a:M T):M (List T):=fun s=>match a s with
 | some (.int n,s1)=>if n.natAbs<lim then some (rangeT n.toNat,s1) else none
 | _=>none
noncomputable def a00 (a:M T):M (List T):=fun s=>match a s with
 | some (.lst xs,s1)=>if xs.length<lim then some (xs,s1) else none
 | some (.tup xs,s1)=>if xs.length<lim then some (xs,s1) else none
 | _=>none
def Zi (s:Slot):Slot:=match s with
 | some (t,_)=>some (t,false)
 | none=>none
def jg (s:Sta):Sta:={ s with env:=s.env.map Zi }
noncomputable def Dt (g:G) (c:M Bool) (e:M T):List T->Sta->List T->Option (List T × Sta)
 | [],s,acc=>some (acc,s)
 | t::r,s,acc=>match g t s with
  | some s1=>match c s1 with
   | some (true,s2)=>match e s2 with
    | some (u,s3)=>if acc.length<lim then Dt g c e r (jg s3) (acc++[u]) else none
    | none=>none
   | some (false,s2)=>Dt g c e r (jg s2) acc
   | none=>none
  | none=>none
def a0x:M Bool:=fun s=>some (true,s)
noncomputable def j9 (is:List Nat) (env:List Slot):List Slot:=is.foldl (fun e i=>match e[i]? with
 | some (some (t,_))=>e.set i (some (t,false))
 | _=>e) env
noncomputable def Uj (nv:Nat) (az:List Nat) (g:G) (it:M (List T)) (c:M Bool) (e:M T):M T:=fun s=>match it s with
 | some (ts,s1) =>
  let env:=j9 az s1.env
  match Dt g c e ts ⟨List.replicate nv none++az.map (fun i=>(env[i]?).getD none),s1.sto⟩ [] with
  | some (us,s2)=>some (.lst us,⟨env,s2.sto⟩)
  | none=>none
 | none=>none
noncomputable def Ql (n:Nat) (b:S):Fn:=fun ts sto=>match b ⟨ts.map (fun t=>some (t,false))++List.replicate (n - ts.length) none,sto⟩ with
 | some (.ret t,s)=>some (t,s.sto)
 | some (.next,s)=>some (.non,s.sto)
 | _=>none
section
variable {s s':Sta} {t v:T} {a b:M T}
theorem Dh {f:T->T->Option T} (h:mOp f a b s=some (v,s')):∃ t s1 u,a s=some (t,s1)/\b s1=some (u,s')/\f t u=some v:=by
 unfold mOp at h;cases ha:a s with
 | none=>rw [ha] at h; cases h
 | some p =>
  obtain ⟨t,s1⟩:=p; rw [ha] at h; dsimp only at h;cases hb:b s1 with
  | none=>rw [hb] at h; cases h
  | some p =>
   obtain ⟨u,s2⟩:=p; rw [hb] at h; dsimp only at h;cases hf:f t u with
   | none=>rw [hf] at h; cases h
   | some w=>rw [hf] at h; cases h; exact ⟨t,s1,u,rfl,hb,hf⟩
theorem R8 {f:T->Option T} (h:mUn f a s=some (v,s')):∃ t,a s=some (t,s')/\f t=some v:=by
 unfold mUn at h;cases ha:a s with
 | none=>rw [ha] at h; cases h
 | some p =>
  obtain ⟨t,s1⟩:=p; rw [ha] at h; dsimp only at h;cases hf:f t with
  | none=>rw [hf] at h; cases h
  | some w=>rw [hf] at h; cases h; exact ⟨t,rfl,hf⟩
theorem yh {f:List T->Option T} {a:M (List T)} (h:Ow f a s=some (v,s')):∃ ts,a s=some (ts,s')/\f ts=some v:=by
 unfold Ow at h;cases ha:a s with
 | none=>rw [ha] at h; cases h
 | some p =>
  obtain ⟨t,s1⟩:=p; rw [ha] at h; dsimp only at h;cases hf:f t with
  | none=>rw [hf] at h; cases h
  | some w=>rw [hf] at h; cases h; exact ⟨t,rfl,hf⟩
theorem zu {r:M (List T)} {ts:List T} (h:Bb a r s=some (ts,s')):∃ t s1 us,a s=some (t,s1)/\r s1=some (us,s')/\ts=t::us:=by
 unfold Bb at h;cases ha:a s with
 | none=>rw [ha] at h; cases h
 | some p =>
  obtain ⟨t,s1⟩:=p; rw [ha] at h; dsimp only at h;cases hb:r s1 with
  | none=>rw [hb] at h; cases h
  | some p=>obtain ⟨u,s2⟩:=p; rw [hb] at h; cases h; exact ⟨t,s1,u,rfl,hb,rfl⟩
theorem T5 {F:Fn} {a:M (List T)} (h:Tp F a s=some (v,s')):∃ ts s1 sto,a s=some (ts,s1)/\F ts s1.sto=some (v,sto)/\s' = { s1 with sto:=sto }:=by
 unfold Tp at h;cases ha:a s with
 | none=>rw [ha] at h; cases h
 | some p =>
  obtain ⟨t,s1⟩:=p; rw [ha] at h; dsimp only at h;cases hf:F t s1.sto with
  | none=>rw [hf] at h; cases h
  | some w=>obtain ⟨w,sto⟩:=w; rw [hf] at h; cases h; exact ⟨t,s1,sto,rfl,hf,rfl⟩
theorem o8 {b:Bool} (h:Bc a s=some (b,s')):a s=some (.bl b,s'):=by
 unfold Bc at h;cases ha:a s with
 | none=>rw [ha] at h; cases h
 | some p =>
  obtain ⟨t,s1⟩:=p; rw [ha] at h;cases t <;> first | (cases h; rfl) | (cases h)
theorem Bq {c:M Bool} (h:O1 c s=some (v,s')):∃ b,c s=some (b,s')/\v=.bl b:=by
 unfold O1 at h;cases ha:c s with
 | none=>rw [ha] at h; cases h
 | some p=>obtain ⟨t,s1⟩:=p; rw [ha] at h; cases h; exact ⟨t,rfl,rfl⟩
theorem Km {c:M Bool} {b:Bool} (h:a1s c s=some (b,s')):∃ k,c s=some (k,s')/\b=!k:=by
 unfold a1s at h;cases ha:c s with
 | none=>rw [ha] at h; cases h
 | some p=>obtain ⟨t,s1⟩:=p; rw [ha] at h; cases h; exact ⟨t,rfl,rfl⟩
theorem M7 {c d:M Bool} {b:Bool} (h:a2f c d s=some (b,s')):(∃ s1,c s=some (true,s1)/\d s1=some (b,s'))\/(c s=some (false,s')/\b=false):=by
 unfold a2f at h;cases ha:c s with
 | none=>rw [ha] at h; cases h
 | some p =>
  obtain ⟨k,s1⟩:=p; rw [ha] at h;cases k with
  | true=>exact .inl ⟨s1,rfl,h⟩
  | false=>cases h; exact .inr ⟨rfl,rfl⟩
theorem Ra {c d:M Bool} {b:Bool} (h:mOr c d s=some (b,s')):(∃ s1,c s=some (false,s1)/\d s1=some (b,s'))\/(c s=some (true,s')/\b=true):=by
 unfold mOr at h;cases ha:c s with
 | none=>rw [ha] at h; cases h
 | some p =>
  obtain ⟨k,s1⟩:=p; rw [ha] at h;cases k with
  | false=>exact .inl ⟨s1,rfl,h⟩
  | true=>cases h; exact .inr ⟨rfl,rfl⟩
theorem Yy {c:M Bool} (h:mIf c a b s=some (v,s')):(∃ s1,c s=some (true,s1)/\a s1=some (v,s'))\/(∃ s1,c s=some (false,s1)/\b s1=some (v,s')):=by
 unfold mIf at h;cases ha:c s with
 | none=>rw [ha] at h; cases h
 | some p =>
  obtain ⟨k,s1⟩:=p; rw [ha] at h;cases k with
  | true=>exact .inl ⟨s1,rfl,h⟩
  | false=>exact .inr ⟨s1,rfl,h⟩
theorem Uq {i:Nat} (h:a2p i s=some (v,s')):(s.env[i]? = some (some (v,false))/\s'=s)\/(s.env[i]? = some (some (v,true))/\s' = { s with env:=s.env.set i (some (v,false)) }):=by
 unfold a2p at h;split at h
 ·rename_i t e; cases h; exact .inl ⟨e,rfl⟩
 ·rename_i t e; cases h; exact .inr ⟨e,rfl⟩
 ·cases h
end
mutual
theorem qd:∀ (t:T) {d:PyData},dat t=some d->d.canLay0=true
 | .non,_,h=>by simp only [dat] at h; cases h; simp only [PyData.canLay0]
 | .bl b,_,h=>by simp only [dat] at h; cases h; simp only [PyData.canLay0]
 | .int i,_,h=>by simp only [dat] at h; cases h; simp only [PyData.canLay0]
 | .str x,_,h=>by
  simp only [dat] at h;split at h
  ·rename_i hx; cases h; exact hx
  ·cases h
 | .tup xs,_,h=>by
  simp only [dat] at h;obtain ⟨l,e1,e2⟩:=Option.map_eq_some_iff.mp h;subst e2;simp only [PyData.canLay0];exact Ew xs e1
 | .lst xs,_,h=>by
  simp only [dat] at h;obtain ⟨l,e1,e2⟩:=Option.map_eq_some_iff.mp h;subst e2;simp only [PyData.canLay0];exact Ew xs e1
 | .dic _,_,h=>by simp only [dat] at h; cases h
 | .obj _,_,h=>by simp only [dat] at h; cases h
theorem Ew:∀ (ts:List T) {l:List PyData},Gb ts=some l->PyData.canLayAll0 l=true
 | [],_,h=>by simp only [Gb] at h; cases h; simp only [PyData.canLayAll0]
 | x::r,_,h=>by
  simp only [Gb] at h;split at h
  ·rename_i a ea;obtain ⟨l,e1,e2⟩:=Option.map_eq_some_iff.mp h;subst e2;simp only [PyData.canLayAll0];rw [qd x ea,Ew r e1]; rfl
  ·cases h
end
theorem U4 {x:T} {r:List T} {l:List PyData} (h:Gb (x::r)=some l):∃ a l',dat x=some a/\Gb r=some l'/\l=a::l':=by
 simp only [Gb] at h;split at h
 ·rename_i a ea;obtain ⟨l,e1,e2⟩:=Option.map_eq_some_iff.mp h;exact ⟨a,l,ea,e1,e2.symm⟩
 ·cases h
theorem J6 {t u:T} {b:Bool} (h:eqD t u=some b):∃ x y,dat t=some x/\dat u=some y/\x.depth<=40/\b=PyData.eqv x y:=by
 unfold eqD at h;split at h
 ·rename_i x ex;split at h
  ·rename_i y ey;split at h
   ·rename_i hd; cases h; exact ⟨x,y,ex,ey,hd,rfl⟩
   ·cases h
  ·cases h
 ·cases h
theorem Yk {t u:T} {b:Bool} (h:eqT t u=some b):(∃ x y,t=.dic x/\u=.dic y/\((x.length=y.length/\Zr x y=some b)\/(x.length≠y.length/\b=false)))\/eqD t u=some b:=by
 unfold eqT at h;split at h
 ·split at h
  ·rename_i hl; exact .inl ⟨_,_,rfl,rfl,.inl ⟨hl,h⟩⟩
  ·rename_i hl; cases h; exact .inl ⟨_,_,rfl,rfl,.inr ⟨hl,rfl⟩⟩
 ·exact .inr h
end C
end
section
namespace L2
open PySem PySem.Spec PyProof.Rows
abbrev Key:=Sum Int Str
def O2:Key->Value->Bool
 | .inl k,v=>Value.isInt k v
 | .inr x,v=>Value.isStrOf x v
def a71 (w:World):Key->Int
 | .inl k=>hashInt k
 | .inr x=>hashStr w x
theorem jy:∀ {k:Key} {v:Value},O2 k v=true->(∃ i t,k=Sum.inl i/\v=Value.int i t)\/(∃ x t,k=Sum.inr x/\v=Value.str x t)
 | .inl i,v,h=>by
  obtain ⟨t,e⟩:=Value.isInt_shape (k:=i) (v:=v) h;exact .inl ⟨i,t,rfl,e⟩
 | .inr x,v,h=>by
  obtain ⟨t,e⟩:=Value.isStrOf_shape (x:=x) (v:=v) h;exact .inr ⟨x,t,rfl,e⟩
theorem Px (i:Int) (t:Tok):O2 (.inl i) (.int i t)=true:=by simp [O2,Value.isInt]
theorem Sv (x:Str) (t:Tok):O2 (.inr x) (.str x t)=true:=by simp [O2,Value.isStrOf]
theorem a1t (a b:Int):decide ((Sum.inl a:Key)=Sum.inl b)=(a==b):=by
 by_cases e:a=b
 ·subst e; simp
 ·have h:¬ (Sum.inl a:Key)=Sum.inl b:=fun q=>e (Sum.inl.inj q);rw [decide_eq_false h];exact (beq_eq_false_iff_ne.mpr e).symm
theorem a1z (a b:Str):decide ((Sum.inr a:Key)=Sum.inr b)=decide (a=b):=by
 by_cases e:a=b
 ·subst e; simp
 ·have h:¬ (Sum.inr a:Key)=Sum.inr b:=fun q=>e (Sum.inr.inj q);rw [decide_eq_false h,decide_eq_false e]
theorem a0e (a:Int) (b:Str):decide ((Sum.inl a:Key)=Sum.inr b)=false:=decide_eq_false (fun q=>nomatch q)
theorem a0h (a:Str) (b:Int):decide ((Sum.inr a:Key)=Sum.inl b)=false:=decide_eq_false (fun q=>nomatch q)
noncomputable def qt (prog:Program) (w:World):PySem.KeyKind prog w Key where
 is:=O2
 hash:=a71 w
 inj:=fun v a b ha hb=>by
  rcases jy ha with ⟨i,t,rfl,rfl⟩ | ⟨x,t,rfl,rfl⟩
  ·rcases jy hb with ⟨j,u,rfl,e⟩ | ⟨y,u,rfl,e⟩
   ·injection e with e1 _; rw [e1]
   ·exact nomatch e
  ·rcases jy hb with ⟨j,u,rfl,e⟩ | ⟨y,u,rfl,e⟩
   ·exact nomatch e
   ·injection e with e1 _; rw [e1]
 byValue:=fun k v h=>by
  rcases jy h with ⟨i,t,rfl,rfl⟩ | ⟨x,t,rfl,rfl⟩ <;> rfl
 pyHash:=fun hv h=>by
  rcases jy hv with ⟨i,t,rfl,rfl⟩ | ⟨x,t,rfl,rfl⟩
  ·exact wpAny_pyHash_int h
  ·exact wpAny_pyHash_str h
 eqBool:=fun hu hv h=>by
  rcases jy hu with ⟨i,t,rfl,rfl⟩ | ⟨x,t,rfl,rfl⟩
  ·rcases jy hv with ⟨j,u,rfl,rfl⟩ | ⟨y,u,rfl,rfl⟩
   ·rw [a1t] at h; exact wpAny_eqBool_int h
   ·rw [a0e] at h; exact SeqAt.EqAt.int_str i t y u _ _ _ _ h
  ·rcases jy hv with ⟨j,u,rfl,rfl⟩ | ⟨y,u,rfl,rfl⟩
   ·rw [a0h] at h; exact SeqAt.EqAt.str_int x t j u _ _ _ _ h
   ·rw [a1z] at h; exact wpAny_eqBool_str h
 «strs»:=fun k x t v h=>by
  rcases jy h with ⟨i,u,rfl,e⟩ | ⟨y,u,rfl,e⟩
  ·exact nomatch e
  ·injection e with e1 _;subst e1;cases v <;> rfl
theorem J2 (prog:Program) (w:World) (i:Int) (t:Tok):(qt prog w).is (.inl i) (.int i t)=true:=Px i t
theorem Je (prog:Program) (w:World) (x:Str) (t:Tok):(qt prog w).is (.inr x) (.str x t)=true:=Sv x t
end L2
namespace L2
open PySem PySem.Spec PyProof.Rows
inductive V where
 | non | bl (b:Bool) | int (i:Int) | str (x:Str) | byt (b:Array UInt8) | flt (b:UInt64) | ref (a:Addr) | ty (n:String)
 deriving DecidableEq
def RelV:V->Value->Prop
 | .non,u=>u=Value.none
 | .bl b,u=>u=Value.bool b
 | .int i,u=>∃ t,u=Value.int i t
 | .str x,u=>∃ t,u=Value.str x t
 | .byt b,u=>∃ t,u=Value.bytes b t
 | .flt b,u=>∃ t,u=Value.float b t
 | .ref a,u=>u=Value.ref a
 | .ty n,u=>u=Value.type n
abbrev Vals:List V->List Value->Prop:=Paired RelV
theorem Vals.length {xs:List V} {us:List Value} (r:Vals xs us):xs.length=us.length:=Paired.length r
theorem Vals.get:∀ {xs:List V} {us:List Value} {i:Nat} {x:V},Vals xs us->xs[i]? = some x->∃ u,us[i]? = some u/\RelV x u
 | _,_,_,_,.nil,e=>by simp at e
 | _,_,0,_,.cons r _,e=>by simp at e; subst e; exact ⟨_,rfl,r⟩
 | _,_,i+1,x,.cons _ t,e=>by
  obtain ⟨u,h1,h2⟩:=Vals.get (i:=i) (x:=x) t (by simpa using e);exact ⟨u,by simpa using h1,h2⟩
theorem Vals.set {x:V} {u:Value} (r:RelV x u):∀ {xs:List V} {us:List Value} (i:Nat),Vals xs us->Vals (xs.set i x) (us.set i u)
 | _,_,_,.nil=>.nil
 | _,_,0,.cons _ t=>.cons r t
 | _,_,i+1,.cons q t=>.cons q (Vals.set r i t)
theorem Vals.append {xs ys:List V} {us ws:List Value} (r:Vals xs us) (s:Vals ys ws):Vals (xs++ys) (us++ws):=by
 induction r with
 | nil=>exact s
 | cons r _ ih=>exact .cons r ih
theorem Vals.take:∀ {xs:List V} {us:List Value} (n:Nat),Vals xs us->Vals (xs.take n) (us.take n)
 | _,_,0,_=>.nil
 | _,_,_+1,.nil=>.nil
 | _,_,n+1,.cons r t=>.cons r (Vals.take n t)
theorem Vals.drop:∀ {xs:List V} {us:List Value} (n:Nat),Vals xs us->Vals (xs.drop n) (us.drop n)
 | _,_,0,r=>r
 | _,_,_+1,.nil=>.nil
 | _,_,n+1,.cons _ t=>Vals.drop n t
def Ge:Option V->Option Value->Prop
 | some v,some u=>RelV v u
 | none,none=>True
 | _,_=>False
def KV {κ:Type}:List (κ × V)->List (κ × Value)->Prop:=Paired fun (p:κ × V) (q:κ × Value)=>p.1=q.1/\RelV p.2 q.2
def kV:Key->V
 | .inl i=>.int i
 | .inr x=>.str x
inductive HO where
 | lst (xs:List V)
 | tup (xs:List V)
 | dK (ag:List (Key × V)) | dT (ag:List (List Key × V))
 | set (S:Int->Bool) (n:Nat)
 | ins (C dx:Addr) (fs:List (Str × V))
 | own (x:Addr)
 | xd (fs:List (Str × V))
 | met (f x:Addr)
 | rng (lo hi:Int)
 | frz (o:Obj) (u:HO)
 | tbl (ps:Array Value)
 | ext (φ:Heap->Prop)
abbrev Hp:=Addr->Option HO
def upd (H:Hp) (a:Addr) (o:HO):Hp:=fun b=>if b=a then some o else H b
theorem bw {H:Hp} {a:Addr} {o:HO}:upd H a o a=some o:=by unfold upd; rw [if_pos rfl]
theorem dj {H:Hp} {a b:Addr} {o:HO} (h:b≠a):upd H a o b=H b:=by unfold upd; rw [if_neg h]
theorem ju {H:Hp} {a b:Addr} {o:HO} (h:H a=some o) (h':H b=none):a≠b:=by
 intro e; subst e; rw [h] at h'; cases h'
def Ug (h:Heap) (a:Addr) (items:Array Value):Prop:=∃ o,h.get? a=some o/\o.cls=.type "tuple" /\ o.dict=none/\∃ n,o.data=.seq items n
theorem Ug.is {h:Heap} {a:Addr} {items:Array Value} (x:Ug h a items):IsTup h a items:=let ⟨o,e,c,_,d⟩:=x; ⟨o,e,c,d⟩
theorem Ug.new (h:Heap) (items:Array Value):Ug (h.push { cls:=.type "tuple",data:=.seq items }) h.objs.size items:=⟨_,Heap.get?_push_size _ rfl,rfl,rfl,0,rfl⟩
section
variable (P:Program) (w:World)
def mz (H:Hp) (h:Heap) (a:Addr):HO->Prop
 | .lst xs=>xs.length<=sizeLine/\∃ (its:List Value) (n:Nat),Vals xs its/\h.get? a=some { cls:=.type "list",data:=.seq its.toArray n }
 | .tup xs=>xs.length<=sizeLine/\∃ its:List Value,Vals xs its/\Ug h a its.toArray
 | .dK ag=>ag.length<=sizeLine/\(a==sysModules)=false/\∃ vs,KV ag vs/\h.DictOf (qt P w) a vs
 | .dT ag=>ag.length<=sizeLine/\(a==sysModules)=false/\∃ xs:List (List Key × Addr × Value),
   Paired (fun (p:List Key × V) (q:List Key × Addr × Value)=>p.1=q.1/\H q.2.1=some (.tup (p.1.map kV))/\RelV p.2 q.2.2) ag xs /\
   ∃ o es ep,h.get? a=some o/\o.ExactDict/\o.data=.dict es ep/\es.toList=xs.map (entryOfKey (tupleKind (qt P w)))/\(xs.map (·.1)).Nodup
 | .set S n=>h.SetOf (intKind P w) a S n
 | .ins C dx fs=>H dx=some (.own a)/\fs.length<=1000/\dx≠a/\h.get? a=some (PySem.W.instObj C dx) /\
   ∃ mA,h.Ns1 dx mA/\(∀ f,Ge (fs.lookup f) (mA f))/\PySem.Within mA (fs.map (·.1))
 | .own _=>∃ o,h.get? a=some o
 | .xd fs=>∃ mA,h.Ns1 a mA/\∀ f,Ge (fs.lookup f) (mA f)
 | .rng lo hi=>∃ t u v,h.get? a=some { cls:=.type "range",data:=.fields #[.int lo t,.int hi u,.int 1 v] }
 | .frz o u=>h.get? a=some o/\mz H h a u
 | .tbl ps=>h.get? a=some { cls:=.none,data:=.fields ps }
 | .met f x=>h.get? a=some (PySem.W.methodObj (.ref f) (.ref x))
 | .ext φ=>φ h/\(∃ o,h.get? a=some o)/\∀ h1 h2:Heap,φ h1->(∀ o,h1.get? a=some o->h2.get? a=some o)->φ h2
def HOk (H:Hp) (h:Heap):Prop:=∀ a o,H a=some o->mz P w H h a o
end
section
variable {P:Program} {w:World} {H H':Hp} {h h':Heap} {a:Addr} {o:HO}
theorem mz.lt (x:mz P w H h a o):a<h.objs.size:=by
 cases o with
 | lst xs=>obtain ⟨_,_,_,_,e⟩:=x; exact Heap.lt_size e
 | tup xs=>obtain ⟨_,_,_,p⟩:=x; exact p.is.lt
 | dK ag=>obtain ⟨_,_,_,_,o,_,_,e,_⟩:=x; exact Heap.lt_size e
 | dT ag=>obtain ⟨_,_,_,_,o,_,_,e,_⟩:=x; exact Heap.lt_size e
 | set S n=>obtain ⟨o,_,_,_,e,_⟩:=x; exact Heap.lt_size e
 | ins C dx fs=>obtain ⟨_,_,_,e,_⟩:=x; exact Heap.lt_size e
 | own y=>obtain ⟨_,e⟩:=x; exact Heap.lt_size e
 | xd fs=>obtain ⟨_,⟨_,_,_,e,_⟩,_⟩:=x; exact Heap.lt_size e
 | rng lo hi=>obtain ⟨_,_,_,e⟩:=x; exact Heap.lt_size e
 | frz ob u=>obtain ⟨e,_⟩:=x; exact Heap.lt_size e
 | tbl ps=>exact Heap.lt_size (show h.get? a=some _ from x)
 | met f y=>exact Heap.lt_size (show h.get? a=some _ from x)
 | ext φ=>obtain ⟨_,⟨_,e⟩,_⟩:=x; exact Heap.lt_size e
theorem Paired.a6c {α β:Type} {F G:α->β->Prop} {c8:List α} {cP:List β} (r:Paired F c8 cP) (f:∀ a b,F a b->G a b):Paired G c8 cP:=by
 induction r with
 | nil=>exact .nil
 | cons r _ ih=>exact .cons (f _ _ r) ih
theorem mz.stay (x:mz P w H h a o) (k:∀ b u,(b=a\/H b=some (.own a))->h.get? b=some u->h'.get? b=some u)
  (ho:∀ b,H b=some (.own a)->H' b=some (.own a)) (ht:∀ b xs,H b=some (.tup xs)->H' b=some (.tup xs)):mz P w H' h' a o:=by
 induction o with
 | lst xs=>obtain ⟨z,its,n,r,e⟩:=x; exact ⟨z,its,n,r,k _ _ (.inl rfl) e⟩
 | tup xs=>obtain ⟨z,its,r,ob,e,c⟩:=x; exact ⟨z,its,r,ob,k _ _ (.inl rfl) e,c⟩
 | dK ag=>obtain ⟨z,y,vs,r,ob,es,ep,e,c⟩:=x; exact ⟨z,y,vs,r,ob,es,ep,k _ _ (.inl rfl) e,c⟩
 | dT ag =>
  obtain ⟨z,y,xs,r,ob,es,ep,e,c⟩:=x;exact ⟨z,y,xs,Paired.a6c r fun p q z=>⟨z.1,ht _ _ z.2.1,z.2.2⟩,ob,es,ep,k _ _ (.inl rfl) e,c⟩
 | set S n=>obtain ⟨ob,es,ep,t,e,c⟩:=x; exact ⟨ob,es,ep,t,k _ _ (.inl rfl) e,c⟩
 | ins C dx fs =>
  obtain ⟨d,z,ne,e,mA,⟨od,es,ep,e2,c⟩,r⟩:=x;exact ⟨ho _ d,z,ne,k _ _ (.inl rfl) e,mA,⟨od,es,ep,k _ _ (.inr d) e2,c⟩,r⟩
 | own y=>obtain ⟨ob,e⟩:=x; exact ⟨ob,k _ _ (.inl rfl) e⟩
 | xd fs=>obtain ⟨mA,⟨od,es,ep,e,c⟩,r⟩:=x; exact ⟨mA,⟨od,es,ep,k _ _ (.inl rfl) e,c⟩,r⟩
 | rng lo hi=>obtain ⟨t,u,v,e⟩:=x; exact ⟨t,u,v,k _ _ (.inl rfl) e⟩
 | frz ob u ih=>obtain ⟨e,q⟩:=x; exact ⟨k _ _ (.inl rfl) e,ih q⟩
 | tbl ps =>
  have e:h.get? a=some { cls:=.none,data:=.fields ps }:=x;show h'.get? a=some { cls:=.none,data:=.fields ps };exact k a _ (.inl rfl) e
 | met f y =>
  have e:h.get? a=some (PySem.W.methodObj (.ref f) (.ref y)):=x;show h'.get? a=some (PySem.W.methodObj (.ref f) (.ref y));exact k a _ (.inl rfl) e
 | ext φ=>obtain ⟨p,⟨o,e⟩,st⟩:=x; exact ⟨st _ _ p fun o q=>k _ _ (.inl rfl) q,⟨o,k _ _ (.inl rfl) e⟩,st⟩
theorem HOk.lt (x:HOk P w H h) (e:H a=some o):a<h.objs.size:=(x a o e).lt
theorem HOk.fresh (x:HOk P w H h) (e:h.objs.size<=a):H a=none:=by
 cases q:H a with
 | none=>rfl
 | some u=>exact absurd (Nat.lt_of_lt_of_le (x.lt q) e) (Nat.lt_irrefl _)
theorem HOk.kept (x:HOk P w H h) (k:∀ b u,h.get? b=some u->h'.get? b=some u):HOk P w H h':=fun a o e =>
 (x a o e).stay (fun b u _ q=>k b u q) (fun _ q=>q) fun _ _ q=>q
theorem HOk.laid (x:HOk P w H h) (k:∀ b u,h.get? b=some u->h'.get? b=some u) (hp:h.objs.size<=a) (new:mz P w (upd H a o) h' a o):HOk P w (upd H a o) h':=fun b u e=>by
 have hn:=x.fresh hp
 by_cases hb:b=a
 ·subst hb; rw [bw] at e; cases e; exact new
 ·rw [dj hb] at e;exact (x b u e).stay (fun c v _ q=>k c v q) (fun c q=>by rw [dj (ju q hn)]; exact q) fun c xs q=>by rw [dj (ju q hn)]; exact q
end
def Rd (H:Hp) (a:Addr) (u:HO):Prop:=H a=some u\/∃ o,H a=some (.frz o u)
theorem Rd.ok {P:Program} {w:World} {H:Hp} {h:Heap} {a:Addr} {u:HO} (r:Rd H a u) (x:HOk P w H h):mz P w H h a u:=by
 rcases r with r | ⟨o,r⟩
 ·exact x a u r
 ·obtain ⟨_,q⟩:=x a _ r;exact q
def Mut:Option HO->Prop
 | some (.lst _)=>True
 | some (.dK _)=>True
 | some (.dT _)=>True
 | some (.set _ _)=>True
 | some (.ins _ _ _)=>True
 | some (.ext _)=>True
 | _=>False
section
variable {P:Program} {w:World} {H:Hp} {h h':Heap} {x e:Addr} {o':HO}
theorem HOk.write (ok:HOk P w H h) (mu:Mut (H x)) (he:e=x\/H e=some (.own x)) (k:∀ b u,b≠e->h.get? b=some u->h'.get? b=some u) (cF:∃ u,h'.get? e=some u)
  (new:mz P w (upd H x o') h' x o'):HOk P w (upd H x o') h':=fun b u q=>by
 have cH:∀ c y,H c=some (.own y)->c≠x:=fun c y r z=>by subst z; rw [r] at mu; exact mu
 have dI:∀ c xs,H c=some (.tup xs)->c≠x:=fun c xs r z=>by subst z; rw [r] at mu; exact mu
 by_cases hb:b=x
 ·subst hb; rw [bw] at q; cases q; exact new
 ·rw [dj hb] at q
  by_cases hbe:b=e
  ·have q':H b=some (.own x):=by
    rcases he with z | z
    ·exact absurd (hbe.trans z) hb
    ·rw [hbe]; exact z
   rw [q] at q'; cases q';obtain ⟨v,hv⟩:=cF;exact ⟨v,by rw [hbe]; exact hv⟩
  ·refine (ok b u q).stay (fun c v hc r=>k c v ?_ r) (fun c r=>by rw [dj (cH c b r)]; exact r) fun c xs r=>by rw [dj (dI c xs r)]; exact r
   rcases hc with rfl | hc
   ·exact hbe
   ·rintro rfl;rcases he with z | z
    ·exact cH c b hc z
    ·rw [hc] at z; cases z; exact hb rfl
end
structure Un (fs ex:List Addr) (H H':Hp) (h h':Heap):Prop where
 keep:∀ b o,h.get? b=some o->H b=none->b∉fs->b∉ex->h'.get? b=some o
 slot:∀ b o,h.get? b=some o->H b=none->b∈fs->b∉ex->∃ sl,h'.get? b=some { o with slots:=sl }
 free:∀ b o,h.get? b=some o->H b=none->b∉ex->H' b=none
 there:∀ b o,h.get? b=some o->b∉ex->∃ o',h'.get? b=some o'
 tups:∀ b xs,H b=some (.tup xs)->H' b=some (.tup xs)
 frzs:∀ b o u,H b=some (.frz o u)->H' b=some (.frz o u)
 tbls:∀ b ps,H b=some (.tbl ps)->∃ more,H' b=some (.tbl (ps++more))
section
variable {fs cV ex gm:List Addr} {H H1 H2:Hp} {h h1 h2 h':Heap} {a x e:Addr} {o:HO}
theorem Un.any (u:Un fs ex H H1 h h1) {b:Addr} {ob:Obj} (q:h.get? b=some ob) (n:H b=none) (hx:b∉ex):∃ sl,h1.get? b=some { ob with slots:=sl }:=by
 by_cases hb:b∈fs
 ·exact u.slot b ob q n hb hx
 ·exact ⟨ob.slots,u.keep b ob q n hb hx⟩
theorem Un.kept (k:∀ b u,h.get? b=some u->h'.get? b=some u):Un fs ex H H h h' :=
 ⟨fun b ob q _ _ _=>k b ob q,fun b ob q _ _ _=>⟨ob.slots,k b ob q⟩,fun _ _ _ n _=>n,fun b ob q _=>⟨ob,k b ob q⟩,fun _ _ q=>q,fun _ _ _ q=>q,fun _ ps q=>⟨#[],by rw [q]; simp⟩⟩
theorem Un.refl:Un fs ex H H h h:=Un.kept fun _ _ q=>q
theorem Un.laid (k:∀ b u,h.get? b=some u->h'.get? b=some u) (hp:h.objs.size<=a) (hn:H a=none):Un fs ex H (upd H a o) h h' where
 keep:=fun b u q _ _ _=>k b u q
 slot:=fun b u q _ _ _=>⟨u.slots,k b u q⟩
 free:=fun b u q n _=>by rw [dj (Nat.ne_of_lt (Nat.lt_of_lt_of_le (Heap.lt_size q) hp))]; exact n
 there:=fun b u q _=>⟨u,k b u q⟩
 tups:=fun b xs q=>by rw [dj (ju q hn)]; exact q
 frzs:=fun b u xs q=>by rw [dj (ju q hn)]; exact q
 tbls:=fun b ps q=>⟨#[],by rw [dj (ju q hn),q]; simp⟩
theorem Un.write (mu:Mut (H x)) (he:e=x\/H e=some (.own x)) (k:∀ b u,b≠e->h.get? b=some u->h'.get? b=some u) (cF:∃ u,h'.get? e=some u):Un fs ex H (upd H x o) h h':=by
 have hx:∀ b,H b=none->b≠x:=fun b n z=>by subst z; rw [n] at mu; exact mu
 have hb:∀ b,H b=none->b≠e:=fun b n z=>by
  subst z;rcases he with r | r
  ·exact hx b n r
  ·rw [n] at r; cases r
 have hm:∀ b u,H b=some u->¬ Mut (some u)->b≠x:=fun b u q nm z=>by subst z; rw [q] at mu; exact nm mu
 refine ⟨fun b u q n _ _=>k b u (hb b n) q,fun b u q n _ _=>⟨u.slots,k b u (hb b n) q⟩,fun b u q n _=>by rw [dj (hx b n)]; exact n,fun b u q _=>?_,
  fun b xs q=>by rw [dj (hm b _ q fun z=>z)]; exact q,fun b u xs q=>by rw [dj (hm b _ q fun z=>z)]; exact q,fun b ps q=>⟨#[],by rw [dj (hm b _ q fun z=>z),q]; simp⟩⟩
 by_cases hbe:b=e
 ·subst hbe; exact cF
 ·exact ⟨u,k b u hbe q⟩
end
def trk (h:Heap) (H:Hp):List Addr:=(List.range h.objs.size).filter fun a=>(H a).isSome
def Ve (h:Heap) (H:Hp):Heap:=PySem.W.hideAll h (trk h H)
theorem Pa (h:Heap) (H:Hp):(Ve h H).objs.size=h.objs.size:=PySem.W.hideAll_size _ _
theorem Vd {h:Heap} {H:Hp} {b:Addr} {o:Obj} (e:h.get? b=some o) (n:H b=none):(Ve h H).get? b=some o :=
 PySem.W.hideAll_get _ e fun hm=>by
  have q:(H b).isSome=true:=(List.mem_filter.mp hm).2;rw [n] at q; simp at q
theorem Zg {h:Heap} {H:Hp} {b:Addr} {o:Obj} (e:(Ve h H).get? b=some o):h.get? b=some o/\H b=none:=by
 have e':h.get? b=some o:=PySem.W.of_hideAll (trk h H) e;refine ⟨e',?_⟩;cases q:H b with
 | none=>rfl
 | some x =>
  have hm:b∈trk h H:=List.mem_filter.mpr ⟨List.mem_range.mpr (Heap.lt_size e'),by simp [q]⟩;have z:(Ve h H).get? b=none:=PySem.W.hideAll_none (trk h H) hm;rw [z] at e; cases e
end L2
namespace L2
open PySem PySem.Spec PyProof.Rows
structure Mod (K:PySem.W.Frag) (mg:Str->Option Value) (base:Heap):Prop where
 kin:K.In base
 glob:base.Ns mainGlobals mg
 blt:∃ mb,base.Ns builtinsNs mb/\∀ x:Str,x ≠ "__name__" -> mb x=bootBuiltins x
 nolimit:base.NoLimit
structure Cx where
 prog:Program
 w:World
 K:PySem.W.Frag
 mg:Str->Option Value
 base:Heap
 A:Around
 N:List Str
 s₀:Shared
 H₀:Hp
 env:Env
 outer:List Env
 stack:List Env
 ex:List Addr
 fn:Str->Bool
 calm:Bool
 pn:List (Addr × Obj)
 xe:Value->Shared->Prop
def frs (l:List Env):List Addr:=l.filterMap (·.frame)
abbrev Cx.fs (X:Cx):List Addr:=frs X.outer
def Vis (sc:Scope) (x:Str):Prop:=sc.names.lookup x=some .local\/sc.names.lookup x=some .cell\/sc.names.lookup x=some .free
def Loc (sc:Scope) (x:Str):Prop:=sc.names.lookup x=some .local\/sc.names.lookup x=some .cell
def Look (env:Env) (h:Heap) (m:Str->Option Value) (x:Str) (u:Value):Prop :=
 (env.kindOf x=some .local/\m x=some u)\/((env.kindOf x=some .cell\/env.kindOf x=some .free)/\∃ c,env.cells.lookup x=some c/\h.IsCell c (some u))
structure Cx.Ok (X:Cx):Prop where
 mod:Mod X.K X.mg X.base
 kind:X.env.scope.kind=.function
 glob:X.env.globals=mainGlobals
 blt:X.env.builtins=builtinsNs
 above:X.s₀.heap.objs.size<=X.env.locals
 inj:∀ x y c,X.env.cells.lookup x=some c->X.env.cells.lookup y=some c->x=y
 has:∀ x,(X.env.kindOf x=some .cell\/X.env.kindOf x=some .free)->∃ c,X.env.cells.lookup x=some c
 cab:∀ x c,X.fn x=true->X.env.cells.lookup x=some c->X.s₀.heap.objs.size<=c
 hd:X.calm=true->X.A.handled=none
 frames:X.A.frames=some X.stack
 stk:X.stack=X.outer\/(X.stack=X.env::X.outer/\X.env.frame=some X.env.locals)
 exf:∀ b∈X.ex,b≠X.env.locals/\∀ x c,X.env.cells.lookup x=some c->c≠b
 bs:∀ b o,X.base.get? b=some o->X.s₀.heap.get? b=some o/\X.H₀ b=none
 bsz:X.base.objs.size<=X.s₀.heap.objs.size
 noex:∀ b o,X.base.get? b=some o->b∉X.ex
 exfs:∀ b∈X.ex,b∉X.fs
 Ov:X.s₀.heap.FunFrames X.base X.outer
 frf:∀ b∈X.fs,X.H₀ b=none
structure Inv (X:Cx) (pins:List (Addr × Obj)) (σ:List (Option V)) (H:Hp) (s:Shared):Prop where
 ok:X.Ok
 os:s.os=X.s₀.os
 bare:AllBare s.gens
 base:Un X.fs X.ex X.H₀ H X.s₀.heap s.heap
 loc:∃ m,s.heap.Ns X.env.locals m/\∀ (i:Nat) (x:Str) (v:V),X.N[i]? = some x->σ[i]? = some (some v)->Vis X.env.scope x->∃ u,RelV v u/\Look X.env s.heap m x u
 cell:∀ x c,X.env.cells.lookup x=some c->∃ v,s.heap.IsCell c v
 free:H X.env.locals=none
 freeC:∀ x c,X.env.cells.lookup x=some c->H c=none
 pin:∀ p∈X.pn++pins,s.heap.get? p.1=some p.2/\H p.1=none/\p.1≠X.env.locals/\p.1∉X.fs/\∀ v,p.2.data≠.cell v
 hok:HOk X.prog X.w H s.heap
 len:σ.length=X.N.length
section
variable {X:Cx} {pins:List (Addr × Obj)} {σ:List (Option V)} {H H':Hp} {s:Shared} {h':Heap}
theorem Cx.Ok.a6s (ok:X.Ok) {b:Addr} {o:Obj} (e:X.base.get? b=some o):b∉X.fs:=fun hb=>by
 have:=(ok.Ov.mem hb).1;rw [e] at this; cases this
theorem Inv.bs (I:Inv X pins σ H s):∀ b o,X.base.get? b=some o->s.heap.get? b=some o/\H b=none:=fun b o e =>
 ⟨I.base.keep b o (I.ok.bs b o e).1 (I.ok.bs b o e).2 (I.ok.a6s e) (I.ok.noex b o e),I.base.free b o (I.ok.bs b o e).1 (I.ok.bs b o e).2 (I.ok.noex b o e)⟩
theorem Inv.bk (I:Inv X pins σ H s):∀ b o,X.base.get? b=some o->s.heap.get? b=some o:=fun b o e=>(I.bs b o e).1
theorem Inv.mod (I:Inv X pins σ H s):Mod X.K X.mg X.base:=I.ok.mod
theorem Inv.kIn (I:Inv X pins σ H s):X.K.In s.heap:=I.ok.mod.kin.keeps I.bk
theorem Inv.lt (I:Inv X pins σ H s):X.env.locals<s.heap.objs.size:=let ⟨_,hn,_⟩:=I.loc; hn.lt
theorem Inv.sz (I:Inv X pins σ H s):X.s₀.heap.objs.size<=s.heap.objs.size:=Nat.le_trans I.ok.above (Nat.le_of_lt I.lt)
theorem Inv.a6y (I:Inv X pins σ H s) {a:Addr} (h:s.heap.objs.size<=a):a∉X.fs:=fun hb=>by
 obtain ⟨_,o,ho,_⟩:=I.ok.Ov.mem hb;exact absurd (Nat.lt_of_lt_of_le (Heap.lt_size ho) (Nat.le_trans I.sz h)) (Nat.lt_irrefl _)
theorem Inv.cne (I:Inv X pins σ H s):∀ x c,X.env.cells.lookup x=some c->c≠X.env.locals:=fun x c e z=>by
 obtain ⟨v,o,ho,hd⟩:=I.cell x c e;obtain ⟨m,⟨o',es,ep,aY,hd',_⟩,_⟩:=I.loc;rw [z,aY] at ho; cases ho; rw [hd'] at hd; cases hd
theorem Inv.Ov (I:Inv X pins σ H s):s.heap.FunFrames X.base X.outer:=by
 have all:∀ (l:List Env),(∀ b∈frs l,b∈X.fs)->X.s₀.heap.FunFrames X.base l->s.heap.FunFrames X.base l:=by
  intro l
  induction l with
  | nil=>intro _ _; trivial
  | cons env r ih =>
   intro hs hl;obtain ⟨hk,⟨L,o,hf,hn,ho,hd⟩,hr⟩:=hl;have hL:L∈X.fs:=hs L (by unfold frs; rw [List.filterMap_cons,hf]; exact List.mem_cons_self);obtain ⟨sl,e⟩:=I.base.slot L o ho (I.ok.frf L hL) hL fun z=>I.ok.exfs L z hL;exact ⟨hk,⟨L,_,hf,hn,e,hd⟩,ih (fun b hb=>hs b (by unfold frs; rw [List.filterMap_cons,hf]; exact List.mem_cons_of_mem _ hb)) hr⟩
 exact all X.outer (fun _ hb=>hb) I.ok.Ov
theorem Inv.stack (I:Inv X pins σ H s):s.heap.FunFrames X.base X.stack:=by
 rcases I.ok.stk with e | ⟨e,hf⟩
 ·rw [e]; exact I.Ov
 ·rw [e];obtain ⟨m,hn,_⟩:=I.loc;refine .cons (by rw [I.ok.kind]; decide) hf hn ?_ I.Ov;exact Heap.get?_none_of_le (Nat.le_trans I.ok.bsz I.ok.above)
theorem Inv.Ij (I:Inv X pins σ H s):∀ b∈frs X.stack,b∈X.env.locals::X.fs:=fun b hb=>by
 rcases I.ok.stk with e | ⟨e,hf⟩
 ·rw [e] at hb; exact List.mem_cons_of_mem _ hb
 ·rw [e] at hb;unfold frs at hb;rw [List.filterMap_cons,hf] at hb;exact hb
theorem Inv.Iz (I:Inv X pins σ H s):∀ b∈frs X.stack,H b=none:=fun b hb=>by
 rcases List.mem_cons.mp (I.Ij b hb) with e | hb
 ·rw [e]; exact I.free
 ·obtain ⟨_,o,ho,_⟩:=I.ok.Ov.mem hb;exact I.base.free b o ho (I.ok.frf b hb) fun z=>I.ok.exfs b z hb
theorem Inv.step {g':Array GenState} {t':Nat} {d':Drawn} {ch:List Addr} (I:Inv X pins σ H s)
  (aQ:∀ b∈ch,(b∈X.ex\/X.s₀.heap.objs.size<=b)/\b≠X.env.locals/\(∀ x c,X.env.cells.lookup x=some c->c≠b)/\∀ p∈X.pn++pins,p.1≠b)
  (keep:∀ b o,b≠X.env.locals->b∉X.fs->b∉ch->s.heap.get? b=some o->H b=none->h'.get? b=some o)
  (slot:∀ b o,b≠X.env.locals->b∈X.fs->b∉ch->s.heap.get? b=some o->H b=none->∃ sl,h'.get? b=some { o with slots:=sl }) (free:∀ b o,b∉ch->s.heap.get? b=some o->H b=none->H' b=none)
  (there:∀ b o,b∉ch->s.heap.get? b=some o->∃ o',h'.get? b=some o')
  (tups:∀ b xs,H b=some (.tup xs)->H' b=some (.tup xs)) (frzs:∀ b o u,H b=some (.frz o u)->H' b=some (.frz o u)) (tbls:∀ b ps,H b=some (.tbl ps)->∃ more,H' b=some (.tbl (ps++more)))
  (ns:∀ m,s.heap.Ns X.env.locals m->h'.Ns X.env.locals m) (hok:HOk X.prog X.w H' h') (hg:AllBare g') :
  Inv X pins σ H' { s with heap:=h',gens:=g',drawn:=d',toks:=t' }:=by
 have eQ:∀ b o,X.s₀.heap.get? b=some o->b≠X.env.locals:=fun b o e=>Nat.ne_of_lt (Nat.lt_of_lt_of_le (Heap.lt_size e) I.ok.above)
 have dk:∀ b o,X.s₀.heap.get? b=some o->b∉X.ex->b∉ch:=fun b o e hx hb=>by
  rcases (aQ b hb).1 with z | z
  ·exact hx z
  ·exact absurd (Nat.lt_of_lt_of_le (Heap.lt_size e) z) (Nat.lt_irrefl _)
 have cellK:∀ x c,X.env.cells.lookup x=some c->∀ v,s.heap.IsCell c v->h'.IsCell c v:=fun x c e v z9=>by
  obtain ⟨o,ho,hd⟩:=z9;have bW:c∉ch:=fun z=>(aQ c z).2.2.1 x c e rfl
  by_cases hc:c∈X.fs
  ·obtain ⟨sl,q⟩:=slot c o (I.cne x c e) hc bW ho (I.freeC x c e);exact ⟨_,q,hd⟩
  ·exact ⟨o,keep c o (I.cne x c e) hc bW ho (I.freeC x c e),hd⟩
 refine ⟨I.ok,I.os,hg,⟨fun b o e n hb hx=>?_,fun b o e n hb hx=>?_,fun b o e n hx=>?_,fun b o e hx=>?_,fun b xs e=>tups b xs (I.base.tups b xs e),fun b o xs e=>frzs b o xs (I.base.frzs b o xs e),fun b ps e=>?_⟩,?_,fun x c e=>?_,?_,fun x c e=>?_,fun p hp=>?_,hok,I.len⟩
 ·exact keep b o (eQ b o e) hb (dk b o e hx) (I.base.keep b o e n hb hx) (I.base.free b o e n hx)
 ·obtain ⟨sl,e1⟩:=I.base.slot b o e n hb hx;obtain ⟨sl',e2⟩:=slot b _ (eQ b o e) hb (dk b o e hx) e1 (I.base.free b o e n hx);exact ⟨sl',e2⟩
 ·obtain ⟨o',e1⟩:=I.base.there b o e hx;exact free b o' (dk b o e hx) e1 (I.base.free b o e n hx)
 ·obtain ⟨o',e1⟩:=I.base.there b o e hx;exact there b o' (dk b o e hx) e1
 ·obtain ⟨m1,e1⟩:=I.base.tbls b ps e;obtain ⟨m2,e2⟩:=tbls b _ e1;exact ⟨m1++m2,by rw [e2,Array.append_assoc]⟩
 ·obtain ⟨m,hn,hl⟩:=I.loc;refine ⟨m,ns m hn,fun i x v e1 e2 e3=>?_⟩;obtain ⟨u,r,l⟩:=hl i x v e1 e2 e3;refine ⟨u,r,?_⟩;rcases l with l | ⟨k,c,e,z⟩
  ·exact .inl l
  ·exact .inr ⟨k,c,e,cellK x c e _ z⟩
 ·obtain ⟨v,z⟩:=I.cell x c e;exact ⟨v,cellK x c e v z⟩
 ·obtain ⟨m,⟨o,_,_,ho,_⟩,_⟩:=I.loc;exact free _ o (fun z=>(aQ _ z).2.1 rfl) ho I.free
 ·obtain ⟨v,o,ho,hd⟩:=I.cell x c e;exact free c o (fun z=>(aQ c z).2.2.1 x c e rfl) ho (I.freeC x c e)
 ·obtain ⟨e,n,ne,nf,d⟩:=I.pin p hp;have bW:p.1∉ch:=fun z=>(aQ p.1 z).2.2.2 p hp rfl;exact ⟨keep p.1 p.2 ne nf bW e n,free p.1 p.2 bW e n,ne,nf,d⟩
theorem Inv.un {t':Nat} (I:Inv X pins σ H s) (u:Un X.fs [] H H' s.heap h') (hok:HOk X.prog X.w H' h'):Inv X pins σ H' { s with heap:=h',toks:=t' }:=by
 obtain ⟨m,⟨o,es,ep,ho,r⟩,_⟩:=id I.loc;obtain ⟨sl,hL⟩:=u.any ho I.free (by simp)
 exact I.step (g':=s.gens) (d':=s.drawn) (ch:=[]) (fun _ z=>nomatch z) (fun b o _ hb _ e n=>u.keep b o e n hb (by simp)) (fun b o _ hb _ e n=>u.slot b o e n hb (by simp)) (fun b o _ e n=>u.free b o e n (by simp)) (fun b o _ e=>u.there b o e (by simp)) u.tups u.frzs u.tbls (fun m' hm=>by
  obtain ⟨o',es',ep',aY,r'⟩:=hm;rw [ho] at aY; cases aY;exact ⟨_,es',ep',hL,r'⟩) hok I.bare
theorem Inv.call {g':Array GenState} {t':Nat} {d':Drawn} {ch:List Addr} (I:Inv X pins σ H s) (u:Un (frs X.stack) ch H H' s.heap h') (hok:HOk X.prog X.w H' h') (hg:AllBare g')
  (aQ:∀ b∈ch,(b∈X.ex\/X.s₀.heap.objs.size<=b)/\b≠X.env.locals/\(∀ x c,X.env.cells.lookup x=some c->c≠b)/\∀ p∈X.pn++pins,p.1≠b) :
  Inv X pins σ H' { s with heap:=h',gens:=g',drawn:=d',toks:=t' }:=by
 obtain ⟨m,⟨o,es,ep,ho,r⟩,_⟩:=id I.loc;obtain ⟨sl,hL⟩:=u.any ho I.free fun z=>(aQ _ z).2.1 rfl
 exact I.step (ch:=ch) aQ (fun b o hL hb hc e n=>u.keep b o e n (fun z=>(List.mem_cons.mp (I.Ij b z)).elim hL hb) hc) (fun b o _ _ hc e n=>u.any e n hc) (fun b o hc e n=>u.free b o e n hc) (fun b o hc e=>u.there b o e hc) u.tups u.frzs u.tbls (fun m' hm=>by
  obtain ⟨o',es',ep',aY,r'⟩:=hm;rw [ho] at aY; cases aY;exact ⟨_,es',ep',hL,r'⟩) hok hg
theorem Inv.turned {t':Nat} {it:Addr} (I:Inv X pins σ H s) (k:∀ b o,b≠it->s.heap.get? b=some o->h'.get? b=some o) (hn:H it=none) (hL:it≠X.env.locals)
  (h1:it∈X.ex\/X.s₀.heap.objs.size<=it) (h2:∀ x c,X.env.cells.lookup x=some c->c≠it) (h3:∀ p∈X.pn++pins,p.1≠it):Inv X pins σ H { s with heap:=h',toks:=t' }:=by
 have eC:∀ b u,H b=some u->b≠it:=fun b u e z=>by rw [z,hn] at e; cases e
 refine I.step (g':=s.gens) (d':=s.drawn) (ch:=[it]) (fun b hb=>?_) (fun b o _ _ hc e _=>k b o (fun z=>hc (by simp [z])) e) (fun b o _ _ hc e _=>⟨o.slots,k b o (fun z=>hc (by simp [z])) e⟩) (fun _ _ _ _ n=>n)
  (fun b o hc e=>⟨o,k b o (fun z=>hc (by simp [z])) e⟩) (fun _ _ e=>e) (fun _ _ _ e=>e) (fun b ps e=>⟨#[],by rw [e]; simp⟩) (fun m hm=>?_) (fun b u e=>?_) I.bare
 ·have e:b=it:=by simpa using hb
  subst e;exact ⟨h1,hL,h2,h3⟩
 ·obtain ⟨o,es,ep,ho,r⟩:=hm;exact ⟨o,es,ep,k _ o (Ne.symm hL) ho,r⟩
 ·refine (I.hok b u e).stay (fun c v hc q=>k c v ?_ q) (fun _ q=>q) fun _ _ q=>q;rcases hc with z | z
  ·rw [z]; exact eC b u e
  ·exact eC c _ z
theorem Inv.tok (I:Inv X pins σ H s) (t:Nat):Inv X pins σ H { s with toks:=t }:=I.un (h':=s.heap) (t':=t) Un.refl I.hok
theorem Inv.kept {t':Nat} (I:Inv X pins σ H s) (k:∀ b u,s.heap.get? b=some u->h'.get? b=some u):Inv X pins σ H { s with heap:=h',toks:=t' }:=I.un (Un.kept k) (I.hok.kept k)
theorem Inv.laid {a:Addr} {o:HO} {t':Nat} (I:Inv X pins σ H s) (k:∀ b u,s.heap.get? b=some u->h'.get? b=some u) (hp:s.heap.objs.size<=a) (new:mz X.prog X.w (upd H a o) h' a o) :
  Inv X pins σ (upd H a o) { s with heap:=h',toks:=t' }:=I.un (Un.laid k hp (I.hok.fresh hp)) (I.hok.laid k hp new)
theorem Inv.write {x e:Addr} {o:HO} {t':Nat} (I:Inv X pins σ H s) (mu:Mut (H x)) (he:e=x\/H e=some (.own x)) (k:∀ b u,b≠e->s.heap.get? b=some u->h'.get? b=some u) (cF:∃ u,h'.get? e=some u)
  (new:mz X.prog X.w (upd H x o) h' x o):Inv X pins σ (upd H x o) { s with heap:=h',toks:=t' }:=I.un (Un.write mu he k cF) (I.hok.write mu he k cF new)
theorem Inv.xq {pins':List (Addr × Obj)} (I:Inv X pins σ H s) (h:∀ p∈pins',s.heap.get? p.1=some p.2/\H p.1=none/\p.1≠X.env.locals/\p.1∉X.fs/\∀ v,p.2.data≠.cell v):Inv X pins' σ H s :=
 ⟨I.ok,I.os,I.bare,I.base,I.loc,I.cell,I.free,I.freeC,fun p hp=>(List.mem_append.mp hp).elim (fun z=>I.pin p (List.mem_append_left _ z)) (h p),I.hok,I.len⟩
theorem Kv {N:List Str} (hN:N.Nodup) {i j:Nat} {x:Str} (a:N[i]? = some x) (b:N[j]? = some x):i=j:=by
 obtain ⟨h1,e1⟩:=List.getElem?_eq_some_iff.mp a;obtain ⟨h2,e2⟩:=List.getElem?_eq_some_iff.mp b;exact (List.getElem_inj hN).mp (e1.trans e2.symm)
theorem T7 {M:Model} {A:Around} {E:Value->Shared->Prop} {i:Nat} {x:Str} {v:V} {u:Value} {Q:Unit->Shared->Prop} (I:Inv X pins σ H s) (hN:X.N.Nodup) (hi:X.N[i]? = some x) (hx:Loc X.env.scope x) (r:RelV v u)
  (h:∀ s',Inv X pins (σ.set i (some v)) H s'->(∃ a,Heap.SameBut a s.heap s'.heap/\(a=X.env.locals\/X.env.cells.lookup x=some a))->Q () s') (hf:X.fn x=true\/X.env.scope.names.lookup x=some .local:=by first | exact .inl rfl | exact .inr rfl | assumption):wpAny M A (storeName X.env x u) Q E s:=by
 obtain ⟨m,hn,hl⟩:=id I.loc;have dD:(X.env.scope.kind == .class||(X.env.scope.kind == .module&&X.env.locals != X.env.globals))=false:=by rw [I.ok.kind]; rfl
 have c5:i<σ.length:=by rw [I.len]; exact (List.getElem?_eq_some_iff.mp hi).1
 have cne:=I.cne
 have tracked:∀ {a:Addr} {h':Heap},(∃ o,s.heap.get? a=some o/\H a=none)->Heap.SameBut a s.heap h'->HOk X.prog X.w H h':=fun {a h'} ha hs b ob e=>by
  obtain ⟨_,_,hfree⟩:=ha;refine (I.hok b ob e).stay (fun c w' hc q=>(hs.2 c ?_).trans q) (fun _ q=>q) fun _ _ q=>q;rintro rfl;rcases hc with rfl | hc
  ·rw [hfree] at e; cases e
  ·rw [hfree] at hc; cases hc
 rcases hx with hk | hk
 ·refine wpAny_storeName_local hk hn (fun h' fJ hs=>?_) dD;obtain ⟨oL,_,_,hoL,_⟩:=id hn;refine h _ ⟨I.ok,I.os,I.bare,⟨fun b o e n hb hx=>?_,fun b o e n hb hx=>?_,I.base.free,fun b o e hx=>?_,I.base.tups,I.base.frzs,I.base.tbls⟩,⟨_,fJ,fun j y v' e1 e2 e3=>?_⟩,fun y c e=>?_,I.free,I.freeC,fun p hp=>?_,tracked ⟨oL,hoL,I.free⟩ hs,by simpa using I.len⟩ ⟨_,hs,.inl rfl⟩
  ·exact (hs.2 b (Nat.ne_of_lt (Nat.lt_of_lt_of_le (Heap.lt_size e) I.ok.above))).trans (I.base.keep b o e n hb hx)
  ·obtain ⟨sl,e1⟩:=I.base.slot b o e n hb hx;exact ⟨sl,(hs.2 b (Nat.ne_of_lt (Nat.lt_of_lt_of_le (Heap.lt_size e) I.ok.above))).trans e1⟩
  ·obtain ⟨o',e1⟩:=I.base.there b o e hx;exact ⟨o',(hs.2 b (Nat.ne_of_lt (Nat.lt_of_lt_of_le (Heap.lt_size e) I.ok.above))).trans e1⟩
  ·by_cases hj:j=i
   ·subst hj;rw [hi] at e1; cases e1;rw [List.getElem?_set_self c5] at e2;cases e2;exact ⟨u,r,.inl ⟨hk,by simp⟩⟩
   ·rw [List.getElem?_set_ne (Ne.symm hj)] at e2;obtain ⟨u',r',q⟩:=hl j y v' e1 e2 e3;refine ⟨u',r',?_⟩;rcases q with ⟨k,e⟩ | ⟨k,c,e,z⟩
    ·refine .inl ⟨k,?_⟩;have:y≠x:=fun e=>hj (Kv hN e1 (e ▸ hi));simp [this,e]
    ·exact .inr ⟨k,c,e,z.sameBut hs (cne y c e)⟩
  ·obtain ⟨w',z⟩:=I.cell y c e;exact ⟨w',z.sameBut hs (cne y c e)⟩
  ·obtain ⟨e,n,ne,nf,d⟩:=I.pin p hp;exact ⟨(hs.2 p.1 ne).trans e,n,ne,nf,d⟩
 ·have dM:X.fn x=true:=by
   rcases hf with z | z
   ·exact z
   ·rw [z] at hk; cases hk
  obtain ⟨c,hc⟩:=I.ok.has x (.inl hk);obtain ⟨w',z⟩:=I.cell x c hc;refine wpAny_storeName_cell I.ok.kind hk hc z (fun h' bX hs=>?_);obtain ⟨oc,hoc,hocd⟩:=id z;refine h { s with heap:=h' } ⟨I.ok,I.os,I.bare,⟨fun b o e n hb hx=>?_,fun b o e n hb hx=>?_,I.base.free,fun b o e hx=>?_,I.base.tups,I.base.frzs,I.base.tbls⟩,⟨m,hn.sameBut hs (Ne.symm (cne x c hc)),fun j y v' e1 e2 e3=>?_⟩,fun y c' e=>?_,I.free,I.freeC,fun p hp=>?_,tracked ⟨oc,hoc,I.freeC x c hc⟩ hs,by simpa using I.len⟩ ⟨c,hs,.inr hc⟩
  ·exact (hs.2 b (Nat.ne_of_lt (Nat.lt_of_lt_of_le (Heap.lt_size e) (I.ok.cab x c dM hc)))).trans (I.base.keep b o e n hb hx)
  ·obtain ⟨sl,e1⟩:=I.base.slot b o e n hb hx;exact ⟨sl,(hs.2 b (Nat.ne_of_lt (Nat.lt_of_lt_of_le (Heap.lt_size e) (I.ok.cab x c dM hc)))).trans e1⟩
  ·obtain ⟨o',e1⟩:=I.base.there b o e hx;exact ⟨o',(hs.2 b (Nat.ne_of_lt (Nat.lt_of_lt_of_le (Heap.lt_size e) (I.ok.cab x c dM hc)))).trans e1⟩
  ·by_cases hj:j=i
   ·subst hj;rw [hi] at e1; cases e1;rw [List.getElem?_set_self c5] at e2;cases e2;exact ⟨u,r,.inr ⟨.inl hk,c,hc,bX⟩⟩
   ·rw [List.getElem?_set_ne (Ne.symm hj)] at e2;obtain ⟨u',r',q⟩:=hl j y v' e1 e2 e3;refine ⟨u',r',?_⟩;rcases q with q | ⟨k,c',e,z'⟩
    ·exact .inl q
    ·refine .inr ⟨k,c',e,z'.sameBut hs ?_⟩;rintro rfl;exact hj (Kv hN e1 (I.ok.inj _ _ _ e hc ▸ hi))
  ·by_cases hcc:c'=c
   ·subst hcc; exact ⟨_,bX⟩
   ·obtain ⟨w2,z2⟩:=I.cell y c' e;exact ⟨w2,z2.sameBut hs hcc⟩
  ·obtain ⟨e,n,ne,nf,d⟩:=I.pin p hp;refine ⟨(hs.2 p.1 ?_).trans e,n,ne,nf,d⟩;intro q;rw [q,hoc] at e;have q':oc=p.2:=Option.some.inj e;exact d w' (by rw [<- q']; exact hocd)
theorem M9 {M:Model} {A:Around} {E:Value->Shared->Prop} {i:Nat} {x:Str} {v:V} {u:Value} {Q:Unit->Shared->Prop} (I:Inv X pins σ H s) (hN:X.N.Nodup) (hi:X.N[i]? = some x) (hx:Loc X.env.scope x) (r:RelV v u)
  (h:∀ s',Inv X pins (σ.set i (some v)) H s'->Q () s') (hf:X.fn x=true\/X.env.scope.names.lookup x=some .local:=by first | exact .inl rfl | exact .inr rfl | assumption):wpAny M A (storeName X.env x u) Q E s :=
 T7 I hN hi hx r (fun s' I' _=>h s' I') hf
theorem Inv.call' {s':Shared} {ch:List Addr} (I:Inv X pins σ H s) (ho:s'.os=s.os) (u:Un (frs X.stack) ch H H' s.heap s'.heap) (hok:HOk X.prog X.w H' s'.heap) (hg:AllBare s'.gens)
  (aQ:∀ b∈ch,(b∈X.ex\/X.s₀.heap.objs.size<=b)/\b≠X.env.locals/\(∀ x c,X.env.cells.lookup x=some c->c≠b)/\∀ p∈X.pn++pins,p.1≠b):Inv X pins σ H' s':=by
 obtain ⟨h',g',d',t',o'⟩:=s';have e:o'=s.os:=ho;subst e;exact I.call (g':=g') (t':=t') (d':=d') u hok hg aQ
end
abbrev XK:=Value->Option Addr->Hp->Prop
abbrev St:=List (Option V)
abbrev VK:=V->Hp->Prop
abbrev TE:=St->Hp->VK->Prop
abbrev TT:=St->Hp->(Bool->Hp->Prop)->Prop
abbrev TA:=St->Hp->(List V->Hp->Prop)->Prop
structure Ends where
 nx:St->Hp->Prop
 rt:VK
 bk:St->Hp->Prop:=fun _ _=>False
 ct:St->Hp->Prop:=fun _ _=>False
abbrev TS:=Ends->St->Hp->Prop
inductive EP (X:Cx) (pins:List (Addr × Obj)) (σ:St) (Q:VK) (u:Value) (s':Shared):Prop
 | mk (v:V) (H':Hp) (I:Inv X pins σ H' s') (r:RelV v u) (q:Q v H')
def TP (X:Cx) (pins:List (Addr × Obj)) (σ:St) (Q:Bool->Hp->Prop) (b:Bool) (s':Shared):Prop:=∃ H',Inv X pins σ H' s'/\Q b H'
inductive AP (X:Cx) (pins:List (Addr × Obj)) (σ:St) (Q:List V->Hp->Prop) (us:List Value) (s':Shared):Prop
 | mk (vs:List V) (H':Hp) (I:Inv X pins σ H' s') (r:Vals vs us) (q:Q vs H')
def SP (X:Cx) (pins:List (Addr × Obj)) (D:Ends) (f:Flow) (s':Shared):Prop :=
 match f with
 | .next=>∃ af H',Inv X pins af H' s'/\D.nx af H'
 | .brk=>∃ af H',Inv X pins af H' s'/\D.bk af H'
 | .cont=>∃ af H',Inv X pins af H' s'/\D.ct af H'
 | .ret u=>∃ v af H',Inv X pins af H' s'/\RelV v u/\D.rt v H'
def PE (X:Cx) (e:Expr) (t:TE):Prop :=
 ∀ (pins:List (Addr × Obj)) (s:Shared) (σ:St) (H:Hp) (Q:VK),Inv X pins σ H s->t σ H Q->wpAny (model X.prog X.w) X.A (eval e X.env) (EP X pins σ Q) X.xe s
def PT (X:Cx) (e:Expr) (t:TT):Prop :=
 ∀ (pins:List (Addr × Obj)) (s:Shared) (σ:St) (H:Hp) (Q:Bool->Hp->Prop),Inv X pins σ H s->t σ H Q->wpAny (model X.prog X.w) X.A (isTrue e X.env (eval e X.env)) (TP X pins σ Q) X.xe s
def PW (X:Cx) (e:Expr) (t:TT):Prop :=
 ∀ (whole:Sem Value) (pins:List (Addr × Obj)) (s:Shared) (σ:St) (H:Hp) (Q:Bool->Hp->Prop),Inv X pins σ H s->t σ H Q->wpAny (model X.prog X.w) X.A (isTrue e X.env whole) (TP X pins σ Q) X.xe s
theorem PW.pt {X:Cx} {e:Expr} {t:TT} (h:PW X e t):PT X e t:=h _
def PA (X:Cx) (es:List Expr) (t:TA):Prop :=
 ∀ (pos:Pos) (pins:List (Addr × Obj)) (s:Shared) (σ:St) (H:Hp) (Q:List V->Hp->Prop),Inv X pins σ H s->t σ H Q->wpAny (model X.prog X.w) X.A (spliced (backTo pos (starEach es X.env))) (AP X pins σ Q) X.xe s
def PS (X:Cx) (st:Stmt) (t:TS):Prop :=
 ∀ (pins:List (Addr × Obj)) (s:Shared) (σ:St) (H:Hp) (D:Ends),Inv X pins σ H s->t D σ H->wpAny (model X.prog X.w) X.A (exec st X.env) (SP X pins D) X.xe s
def PSs (X:Cx) (st:List Stmt) (t:TS):Prop :=
 ∀ (pins:List (Addr × Obj)) (s:Shared) (σ:St) (H:Hp) (D:Ends),Inv X pins σ H s->t D σ H->wpAny (model X.prog X.w) X.A (execs st X.env) (SP X pins D) X.xe s
theorem thn {α:Type} {t:Sem α} {Q Q':α->Shared->Prop} {M:Model} {A:Around} {E:Value->Shared->Prop} {s:Shared} (h:wpAny M A t Q E s) (hQ:∀ a s,Q a s->Q' a s):wpAny M A t Q' E s:=wpAny_mono h hQ fun _ _ x=>x
end L2
namespace L2
open PySem PySem.Spec PyProof.Rows
section
variable {X:Cx}
def Ol (i:Nat):TE:=fun σ H Q=>∃ v,σ[i]? = some (some v)/\Q v H
def tC (v:V):TE:=fun _ H Q=>Q v H
theorem R7 {i:Nat} {x:Str} {pos:Pos} (hN:X.N[i]? = some x) (hv:Vis X.env.scope x) (hd:(x==("__debug__" : Str))=false:=by decide) (bq:(x==("__classdict__" : Str))=false:=by decide):PE X (.Name x pos) (Ol i):=by
 intro pins s σ H Q I h;obtain ⟨v,e,h⟩:=h;obtain ⟨m,hn,hl⟩:=I.loc;obtain ⟨u,r,l⟩:=hl i x v hN e hv;have fin:EP X pins σ Q u s:=⟨v,H,I,r,h⟩;rcases l with ⟨hk,hm⟩ | ⟨hk,c,hc,hcell⟩
 ·exact wpAny_Name (wpAny_loadName_local I.ok.kind hk hn hm fin) hd
 ·rcases hk with hk | hk
  ·exact wpAny_Name (wpAny_loadName_cell I.ok.kind hk hc hcell fin) hd
  ·exact wpAny_Name (wpAny_loadName_free I.ok.kind hk hc hcell fin bq) hd
theorem X6 {i j pos}:PE X (.Constant (.int i) j pos) (tC (.int i)):=fun _ _ _ H _ I h=>wpAny_Constant_int ⟨.int i,H,I.tok _,⟨_,rfl⟩,h⟩
theorem a4d {b j pos}:PE X (.Constant (.bool b) j pos) (tC (.bl b)):=fun _ _ _ H _ I h=>Constant_bool ⟨.bl b,H,I,rfl,h⟩
theorem a0q {x j pos}:PE X (.Constant (.str x) j pos) (tC (.str x)):=fun _ _ _ H _ I h=>Calls.Constant_str ⟨.str x,H,I.tok _,⟨_,rfl⟩,h⟩
def Gl (X:Cx) (x:Str):Prop:=X.env.kindOf x=some .globalImplicit
theorem G9 {E:Value->Shared->Prop} {pins:List (Addr × Obj)} {s:Shared} {σ:St} {H:Hp} {x:Str} {u:Value} {pos:Pos} {Q:Value->Shared->Prop} (I:Inv X pins σ H s) (hg:Gl X x) (hm:X.mg x=some u) (h:Q u s)
  (hd:(x==("__debug__" : Str))=false:=by decide):wpAny (model X.prog X.w) X.A (eval (.Name x pos) X.env) Q E s :=
 Calls.Name_function_global I.ok.kind hg (Calls.loadGlobal_global (by rw [I.ok.glob]; exact I.mod.glob.keeps I.bk) hm h) hd
theorem Ek {E:Value->Shared->Prop} {pins:List (Addr × Obj)} {s:Shared} {σ:St} {H:Hp} {x:Str} {u:Value} {pos:Pos} {Q:Value->Shared->Prop} (I:Inv X pins σ H s) (hg:Gl X x) (hm:X.mg x=none) (hv:bootBuiltins x=some u) (h:Q u s)
  (hn:x ≠ "__name__" := by decide) (hd:(x==("__debug__" : Str))=false:=by decide):wpAny (model X.prog X.w) X.A (eval (.Name x pos) X.env) Q E s:=by
 obtain ⟨mb,h1,h2⟩:=I.mod.blt;exact Calls.Name_function_global I.ok.kind hg (Calls.loadGlobal_builtin (by rw [I.ok.glob]; exact I.mod.glob.keeps I.bk) hm (by rw [I.ok.blt]; exact h1.keeps I.bk) ((h2 x hn).trans hv) h) hd
theorem Sd {x:Str} {v:V} {u:Value} {pos:Pos} (hg:Gl X x) (hm:X.mg x=some u) (r:RelV v u) (hd:(x==("__debug__" : Str))=false:=by decide):PE X (.Name x pos) (tC v) :=
 fun _ _ _ H _ I h=>G9 I hg hm ⟨v,H,I,r,h⟩ hd
theorem Rb {x:Str} {v:V} {u:Value} {pos:Pos} (hg:Gl X x) (hm:X.mg x=none) (hv:bootBuiltins x=some u) (r:RelV v u) (hn:x ≠ "__name__" := by decide) (hd:(x==("__debug__" : Str))=false:=by decide):PE X (.Name x pos) (tC v) :=
 fun _ _ _ H _ I h=>Ek I hg hm hv ⟨v,H,I,r,h⟩ hn hd
variable {a b:Expr} {ta tb:TE} {pos:Pos}
def tB (t:TE):TT:=fun σ H Q=>t σ H fun x H1=>∃ c,x=.bl c/\Q c H1
theorem a1l {e:Expr} {t:TE} (h:PE X e t) (he:∀ whole,isTrue e X.env whole=(do let v <- whole; standAt e.pos; holding [v] (truthy v)):=by intro _; rfl):PT X e (tB t):=by
 intro pins s σ H Q I hw;refine isTrue_plain (thn (h pins s σ H _ I hw) fun v s1 z0=>?_) (he _);obtain ⟨x,H1,I1,r1,q1⟩:=z0;obtain ⟨d,rfl,q⟩:=q1;cases r1;exact wpAny_truthy_bool ⟨H1,I1,q⟩
variable {tA c9:TT} {rest:List Expr}
def a5v (t u:TT):TT:=fun σ H Q=>t σ H fun c H1=>if c=true then u σ H1 Q else Q false H1
def tOr (t u:TT):TT:=fun σ H Q=>t σ H fun c H1=>if c=true then Q true H1 else u σ H1 Q
def a6w (t:TT):TT:=fun σ H Q=>t σ H fun c H1=>Q (!c) H1
theorem pw_and1 (ha:PT X a tA):PW X (.BoolOp .And [a] pos) tA:=by
 intro wh pins s σ H Q I h;refine isTrue_and (thn (ha pins s σ H Q I h) fun c s1 e=>?_);cases c with
 | true=>exact isTrue_and_nil e
 | false=>exact e
theorem pw_or1 (ha:PT X a tA):PW X (.BoolOp .Or [a] pos) tA:=by
 intro wh pins s σ H Q I h;refine isTrue_or (thn (ha pins s σ H Q I h) fun c s1 e=>?_);cases c with
 | false=>exact isTrue_or_nil e
 | true=>exact e
theorem pw_and (ha:PT X a tA) (hb:PW X (.BoolOp .And (b::rest) pos) c9):PW X (.BoolOp .And (a::b::rest) pos) (a5v tA c9):=by
 intro wh pins s σ H Q I h;refine isTrue_and (thn (ha pins s σ H _ I h) fun c s1 z0=>?_);obtain ⟨H1,I1,q1⟩:=z0;cases c with
 | true=>exact hb wh pins s1 σ H1 Q I1 q1
 | false=>exact ⟨H1,I1,q1⟩
theorem pw_or (ha:PT X a tA) (hb:PW X (.BoolOp .Or (b::rest) pos) c9):PW X (.BoolOp .Or (a::b::rest) pos) (tOr tA c9):=by
 intro wh pins s σ H Q I h;refine isTrue_or (thn (ha pins s σ H _ I h) fun c s1 z0=>?_);obtain ⟨H1,I1,q1⟩:=z0;cases c with
 | true=>exact ⟨H1,I1,q1⟩
 | false=>exact hb wh pins s1 σ H1 Q I1 q1
theorem a0c (ha:PT X a tA):PT X (.UnaryOp .Not a pos) (a6w tA):=by
 intro pins s σ H Q I h;exact isTrue_not (ha pins s σ H (fun c H1=>Q (!c) H1) I h)
noncomputable def a3e (ta tb:TE):TE:=fun σ H Q=>ta σ H fun x H1=>∃ c,x=.bl c/\if c=true then tb σ H1 Q else Q (.bl false) H1
noncomputable def a6p (ta tb:TE):TE:=fun σ H Q=>ta σ H fun x H1=>∃ c,x=.bl c/\if c=true then Q (.bl true) H1 else tb σ H1 Q
def a3w (ta:TE):TE:=fun σ H Q=>ta σ H fun x H1=>∃ c,x=.bl c/\Q (.bl (!c)) H1
theorem a0k {op} {t:TE} (h:PE X a t):PE X (.BoolOp op [a] pos) t:=fun pins s σ H Q I hw=>BoolOp_one (h pins s σ H Q I hw)
theorem Zv (ha:PE X a ta) (hb:PE X (.BoolOp .And (b::rest) pos) tb):PE X (.BoolOp .And (a::b::rest) pos) (a3e ta tb):=by
 intro pins s σ H Q I h;refine BoolOp_and (thn (ha pins s σ H _ I h) fun v s1 z0=>?_);obtain ⟨x,H1,I1,r1,q1⟩:=z0;obtain ⟨c,rfl,q1⟩:=q1;cases r1;refine wpAny_truthy_bool ?_;cases c with
 | true=>exact hb pins s1 σ H1 Q I1 q1
 | false=>exact ⟨.bl false,H1,I1,rfl,q1⟩
theorem a4g (ha:PE X a ta) (hb:PE X (.BoolOp .Or (b::rest) pos) tb):PE X (.BoolOp .Or (a::b::rest) pos) (a6p ta tb):=by
 intro pins s σ H Q I h;refine BoolOp_or (thn (ha pins s σ H _ I h) fun v s1 z0=>?_);obtain ⟨x,H1,I1,r1,q1⟩:=z0;obtain ⟨c,rfl,q1⟩:=q1;cases r1;refine wpAny_truthy_bool ?_;cases c with
 | false=>exact hb pins s1 σ H1 Q I1 q1
 | true=>exact ⟨.bl true,H1,I1,rfl,q1⟩
theorem a1o (ha:PE X a ta):PE X (.UnaryOp .Not a pos) (a3w ta):=by
 intro pins s σ H Q I h;refine UnaryOp_ (thn (ha pins s σ H _ I h) fun v s1 z0=>?_);obtain ⟨x,H1,I1,r1,q1⟩:=z0;obtain ⟨c,rfl,q1⟩:=q1;cases r1;exact not_of (wpAny_truthy_bool ⟨.bl (!c),H1,I1,rfl,q1⟩)
noncomputable def tIf (t:TT) (ta tb:TE):TE:=fun σ H Q=>t σ H fun c H1=>if c=true then ta σ H1 Q else tb σ H1 Q
theorem Vc {c:Expr} (hc:PT X c tA) (ha:PE X a ta) (hb:PE X b tb):PE X (.IfExp c a b pos) (tIf tA ta tb):=by
 intro pins s σ H Q I h;refine wpAny_IfExp (thn (hc pins s σ H _ I h) fun d s1 z0=>?_);obtain ⟨H1,I1,q1⟩:=z0;cases d with
 | true=>exact ha pins s1 σ H1 Q I1 q1
 | false=>exact hb pins s1 σ H1 Q I1 q1
end
end L2
namespace L2
open PySem PySem.Spec PyProof.Rows
def SqL (K:PySem.W.Frag) (H:Hp) (a:Addr) (xs:List V):Prop :=
 Rd H a (.lst xs) \/
  ∃ (o:Obj) (its:Array Value) (n:Nat),K.lookup a=some o/\o.cls=.type "list" /\ o.dict=none/\o.data=.seq its n/\its.size<=sizeLine/\Vals xs its.toList
def SqT (K:PySem.W.Frag) (H:Hp) (a:Addr) (xs:List V):Prop :=
 Rd H a (.tup xs) \/
  ∃ (o:Obj) (its:Array Value) (n:Nat),K.lookup a=some o/\o.cls=.type "tuple" /\ o.dict=none/\o.data=.seq its n/\its.size<=sizeLine/\Vals xs its.toList
noncomputable def a72:Value->Option V
 | .none=>some .non
 | .bool b=>some (.bl b)
 | .int i _=>some (.int i)
 | .str x _=>some (.str x)
 | .bytes b _=>some (.byt b)
 | .float b _=>some (.flt b)
 | .ref a=>some (.ref a)
 | .type n=>some (.ty n)
 | _=>none
theorem RelV.abs {x:V} {u:Value} (r:RelV x u):a72 u=some x:=by
 cases x with
 | non=>cases r; rfl
 | bl _=>cases r; rfl
 | int _=>obtain ⟨t,rfl⟩:=r; rfl
 | str _=>obtain ⟨t,rfl⟩:=r; rfl
 | byt _=>obtain ⟨t,rfl⟩:=r; rfl
 | flt _=>obtain ⟨t,rfl⟩:=r; rfl
 | ref _=>cases r; rfl
 | ty _=>cases r; rfl
theorem RelV.inj {x y:V} {u:Value} (r:RelV x u) (q:RelV y u):x=y:=Option.some.inj (r.abs.symm.trans q.abs)
theorem Vals.inj {xs ys:List V} {us:List Value} (h:Vals xs us):Vals ys us->xs=ys:=by
 induction h generalizing ys with
 | nil=>intro k; cases k; rfl
 | cons r t ih=>intro k; cases k with | cons r' t'=>rw [r.inj r',ih t']
section
variable {X:Cx} {pins:List (Addr × Obj)} {σ:St} {H:Hp} {s:Shared} {a:Addr} {xs ys:List V}
theorem SqL.of {K:PySem.W.Frag} (h:H a=some (.lst xs)):SqL K H a xs:=.inl (.inl h)
theorem SqT.of {K:PySem.W.Frag} (h:H a=some (.tup xs)):SqT K H a xs:=.inl (.inl h)
theorem Inv.list (I:Inv X pins σ H s) (h:SqL X.K H a xs):∃ its:List Value,Vals xs its/\PlainL s.heap a its.toArray/\xs.length<=sizeLine:=by
 rcases h with h | ⟨o,its,n,hk,hc,hd,hs,hz,r⟩
 ·obtain ⟨z,its,n,r,e⟩:=h.ok I.hok;exact ⟨its,r,⟨_,n,e,rfl,rfl,rfl⟩,z⟩
 ·refine ⟨its.toList,r,⟨o,n,I.kIn a o hk,hc,hd,by simpa using hs⟩,?_⟩;have e:=r.length;simp only [Array.length_toList] at e;omega
theorem Inv.tuple (I:Inv X pins σ H s) (h:SqT X.K H a xs):∃ its:List Value,Vals xs its/\IsTup s.heap a its.toArray/\xs.length<=sizeLine:=by
 rcases h with h | ⟨o,its,n,hk,hc,hdn,hs,hz,r⟩
 ·obtain ⟨z,its,r,p⟩:=h.ok I.hok;exact ⟨its,r,p.is,z⟩
 ·refine ⟨its.toList,r,⟨o,I.kIn a o hk,hc,n,by simpa using hs⟩,?_⟩;have e:=r.length;simp only [Array.length_toList] at e;omega
theorem Inv.Mu (I:Inv X pins σ H s) (h:SqL X.K H a xs) (h':SqL X.K H a ys):xs=ys:=by
 obtain ⟨its,r,⟨o,n,e,_,_,d⟩,_⟩:=I.list h;obtain ⟨its',r',⟨o',n',e',_,_,d'⟩,_⟩:=I.list h';rw [e] at e'; cases e';rw [d] at d';injection d' with d1 _;have:its=its':=by simpa using congrArg Array.toList d1
 subst this;exact r.inj r'
theorem Inv.Gm (I:Inv X pins σ H s) (h:SqT X.K H a xs) (h':SqT X.K H a ys):xs=ys:=by
 obtain ⟨its,r,⟨o,e,_,n,d⟩,_⟩:=I.tuple h;obtain ⟨its',r',⟨o',e',_,n',d'⟩,_⟩:=I.tuple h';rw [e] at e'; cases e';rw [d] at d';injection d' with d1 _;have:its=its':=by simpa using congrArg Array.toList d1
 subst this;exact r.inj r'
end
abbrev Cx.wish (X:Cx) (E:Value->Shared->Prop):Cx:={ X with xe:=E }
abbrev Cx.nox (X:Cx):Cx:=X.wish fun _ _=>False
theorem Cx.Ok.wish {X:Cx} (ok:X.Ok) (E:Value->Shared->Prop):(X.wish E).Ok :=
 ⟨ok.mod,ok.kind,ok.glob,ok.blt,ok.above,ok.inj,ok.has,ok.cab,ok.hd,ok.frames,ok.stk,ok.exf,ok.bs,ok.bsz,ok.noex,ok.exfs,ok.Ov,ok.frf⟩
theorem Cx.Ok.w6 {X:Cx} {E:Value->Shared->Prop} (ok:(X.wish E).Ok):X.Ok :=
 ⟨ok.mod,ok.kind,ok.glob,ok.blt,ok.above,ok.inj,ok.has,ok.cab,ok.hd,ok.frames,ok.stk,ok.exf,ok.bs,ok.bsz,ok.noex,ok.exfs,ok.Ov,ok.frf⟩
section
variable {X:Cx} {pins:List (Addr × Obj)} {σ:St} {H:Hp} {s:Shared} {E:Value->Shared->Prop}
theorem Inv.wish (I:Inv X pins σ H s) (E:Value->Shared->Prop):Inv (X.wish E) pins σ H s:=⟨I.ok.wish E,I.os,I.bare,I.base,I.loc,I.cell,I.free,I.freeC,I.pin,I.hok,I.len⟩
theorem Inv.w6 (I:Inv (X.wish E) pins σ H s):Inv X pins σ H s:=⟨I.ok.w6,I.os,I.bare,I.base,I.loc,I.cell,I.free,I.freeC,I.pin,I.hok,I.len⟩
theorem SP.w6 {D:Ends} {f:Flow} {s':Shared} (h:SP (X.wish E) pins D f s'):SP X pins D f s':=by
 cases f with
 | next=>obtain ⟨af,H',I,q⟩:=h; exact ⟨af,H',I.w6,q⟩
 | brk=>obtain ⟨af,H',I,q⟩:=h; exact ⟨af,H',I.w6,q⟩
 | cont=>obtain ⟨af,H',I,q⟩:=h; exact ⟨af,H',I.w6,q⟩
 | ret u=>obtain ⟨v,af,H',I,r,q⟩:=h; exact ⟨v,af,H',I.w6,r,q⟩
theorem PSs.nox {st:List Stmt} {t:TS} (h:PSs X.nox st t):PSs X st t:=fun pins s σ H D I hw =>
 wpAny_mono (h pins s σ H D (I.wish _) hw) (fun _ _ q=>q.w6) fun _ _ z=>False.elim z
end
section
variable {X:Cx} {st:Stmt} {rest:List Stmt} {t u:TS} {e:Expr} {te:TE} {pos:Pos}
def a3m:TS:=fun D σ H=>D.nx σ H
def a6a (t u:TS):TS:=fun D σ H=>t { D with nx:=u D } σ H
theorem Xj:PSs X [] a3m:=fun _ _ σ H _ I h=>wpAny_execs_nil ⟨σ,H,I,h⟩
theorem Kr (h1:PS X st t) (h2:PSs X rest u):PSs X (st::rest) (a6a t u):=by
 intro pins s σ H D I h;refine wpAny_execs_cons (thn (h1 pins s σ H { D with nx:=u D } I h) fun f s1 q=>?_);cases f with
 | next =>
  obtain ⟨af,H',I',q⟩:=q;exact h2 pins s1 af H' D I' q
 | ret v=>exact q
 | brk=>exact q
 | cont=>exact q
theorem Ja (h1:PS X st t):PSs X [st] t:=by
 intro pins s σ H D I h;refine wpAny_execs_cons (thn (h1 pins s σ H D I h) fun f s1 q=>?_);cases f with
 | next=>exact wpAny_execs_nil q
 | ret v=>exact q
 | brk=>exact q
 | cont=>exact q
theorem Inv.quiet {pins:List (Addr × Obj)} {σ:St} {H:Hp} {s:Shared} (I:Inv X pins σ H s):interactive X.env=false:=by simp [interactive,I.ok.kind]
def Nz (te:TE):TS:=fun D σ H=>te σ H fun _ H1=>D.nx σ H1
theorem pq (he:PE X e te) (hs:swapsWith e none pos.line X.env=pure false:=by rfl):PS X (.Expr e pos) (Nz te):=by
 intro pins s σ H D I h;exact wpAny_Expr_any (thn (he pins s σ H _ I h) fun v s1 z7=>by obtain ⟨x,H1,I1,r1,q1⟩:=z7; exact ⟨σ,H1,I1,q1⟩) I.quiet hs
def a6l (te:TE):TS:=fun D σ H=>te σ H D.rt
theorem Wo (he:PE X e te):PS X (.Return (some e) pos) (a6l te):=by
 intro pins s σ H D I h;exact wpAny_Return_some (thn (he pins s σ H _ I h) fun v s1 z7=>by obtain ⟨x,H1,I1,r1,q1⟩:=z7; exact ⟨x,σ,H1,I1,r1,q1⟩)
def a6x (c:TT) (t u:TS):TS:=fun D σ H=>c σ H fun b H1=>if b=true then t D σ H1 else u D σ H1
theorem a1x {c:Expr} {a b:List Stmt} {tc:TT} (hc:PT X c tc) (ha:PSs X a t) (hb:PSs X b u):PS X (.If c a b pos) (a6x tc t u):=by
 intro pins s σ H D I h;refine wpAny_If (thn (hc pins s σ H _ I h) fun d s1 z0=>?_);obtain ⟨H1,I1,q1⟩:=z0;cases d with
 | true=>exact ha pins s1 σ H1 D I1 q1
 | false=>exact hb pins s1 σ H1 D I1 q1
end
abbrev TG:=V->St->Hp->(St->Hp->Prop)->Prop
abbrev TGs:=List V->St->Hp->(St->Hp->Prop)->Prop
def PG (X:Cx) (target:Expr) (t:TG):Prop :=
 ∀ (pins:List (Addr × Obj)) (s:Shared) (σ:St) (H:Hp) (v:V) (u:Value) (Q:St->Hp->Prop),Inv X pins σ H s->RelV v u->t v σ H Q ->
  wpAny (model X.prog X.w) X.A (assign target X.env u) (fun _ s'=>∃ af H',Inv X pins af H' s'/\Q af H') X.xe s
def PGs (X:Cx) (ts:List Expr) (t:TGs):Prop :=
 ∀ (pins:List (Addr × Obj)) (s:Shared) (σ:St) (H:Hp) (vs:List V) (us:List Value) (Q:St->Hp->Prop),Inv X pins σ H s->Vals vs us->t vs σ H Q ->
  wpAny (model X.prog X.w) X.A (assignInOrder ((assignEach ts X.env).map (·.2)) us) (fun _ s'=>∃ af H',Inv X pins af H' s'/\Q af H') X.xe s
abbrev a4k:=V->V->V->Hp->(Hp->Prop)->Prop
def a5o (X:Cx) (t:a4k):Prop :=
 ∀ (pins:List (Addr × Obj)) (s:Shared) (σ:St) (H:Hp) (o i v:V) (ov iv u:Value) (Q:Hp->Prop),Inv X pins σ H s->RelV o ov->RelV i iv->RelV v u->t o i v H Q ->
  wpAny (model X.prog X.w) X.A (setItem ov iv u) (fun _ s'=>∃ H',Inv X pins σ H' s'/\Q H') X.xe s
section
variable {X:Cx} {pos:Pos}
def Er (i:Nat):TG:=fun v σ H Q=>Q (σ.set i (some v)) H
theorem iy {i:Nat} {x:Str} (hN:X.N.Nodup) (hi:X.N[i]? = some x) (hx:Loc X.env.scope x) (hf:X.fn x=true\/X.env.scope.names.lookup x=some .local:=by first | exact .inl rfl | exact .inr rfl | assumption):PG X (.Name x pos) (Er i):=by
 intro pins s σ H v u Q I r h;exact wpAny_assign_Name (M9 I hN hi hx r (fun s' I'=>⟨_,H,I',h⟩) hf)
def a5g:TGs:=fun vs σ H Q=>vs=[]/\Q σ H
def a0u (t:TG) (u:TGs):TGs:=fun vs σ H Q=>∃ v r,vs=v::r/\t v σ H fun af H'=>u r af H' Q
theorem Jz:PGs X [] a5g:=by
 intro pins s σ H vs us Q I r h;obtain ⟨e,h⟩:=h;subst e;cases r;exact assignInOrder_nil ⟨σ,H,I,h⟩
theorem vm {e:Expr} {es:List Expr} {t:TG} {u:TGs} (h1:PG X e t) (h2:PGs X es u)
  (hs:(assignEach (e::es) X.env).map (·.2)=assign e X.env::(assignEach es X.env).map (·.2):=by rfl):PGs X (e::es) (a0u t u):=by
 intro pins s σ H vs us Q I r h;obtain ⟨v,vr,e1,h⟩:=h;subst e1;cases r with
 | cons r rr =>
  rw [hs];refine assignInOrder_cons (thn (h1 pins s σ H _ _ _ I r h) fun _ s1 z0=>?_);obtain ⟨σ1,H1,I1,q1⟩:=z0;exact h2 pins s1 σ1 H1 _ _ Q I1 rr q1
noncomputable def a5q (K:PySem.W.Frag) (n:Nat) (t:TGs):TG:=fun v σ H Q=>∃ a xs,v=.ref a/\SqT K H a xs/\xs.length=n/\t xs σ H Q
theorem T4 {es:List Expr} {k:Nat} {t:TGs} {n:Nat} (hc:X.calm=true) (h:PGs X es t)
  (hn:(assignEach es X.env).length=n:=by rfl) (hst:(assignEach es X.env).findIdx? (·.1)=none:=by rfl):PG X (.Tuple es k pos) (a5q X.K n t):=by
 intro pins s σ H v u Q I r hw;obtain ⟨a,xs,e1,hq,hl,hw⟩:=hw;subst e1;cases r;obtain ⟨its,rv,ht,hz⟩:=I.tuple hq;refine assign_Tuple_tuple (I.ok.hd hc) ht (by simp [hn,<- hl,rv.length]) hst fun h' hx=>?_;have I1:Inv X pins σ H { s with heap:=h' }:=I.kept (t':=s.toks) fun b o e=>hx b o (Nat.ne_of_lt (Heap.lt_size e)) e;exact h pins _ σ H xs _ Q I1 (by simpa using rv) hw
noncomputable def a5s (to ti:TE) (t:a4k):TG:=fun v σ H Q=>to σ H fun o H1=>ti σ H1 fun i H2=>t o i v H2 fun H3=>Q σ H3
theorem Wg {o i:Expr} {to ti:TE} {t:a4k} (ho:PE X o to) (hi:PE X i ti) (hs:a5o X t)
  (ha:∀ v,assign (.Subscript o i pos) X.env v=(do
   let ov <- holding [v] (eval o X.env)
   let iv <- holding [v,ov] (eval i X.env)
   standAt pos
   holding [v,ov,iv] (setItem ov iv v)
   release [v,ov,iv] []):=by intro _; rfl):PG X (.Subscript o i pos) (a5s to ti t):=by
 intro pins s σ H v u Q I r h;rw [ha];refine wpAny_bind (wpAny_holding (thn (ho pins s σ H _ I h) fun ov s1 z0=>?_));obtain ⟨x,H1,I1,r1,q1⟩:=z0;refine wpAny_bind (wpAny_holding (thn (hi pins s1 σ H1 _ I1 q1) fun iv s2 z0=>?_));obtain ⟨y,H2,I2,r2,q2⟩:=z0;refine wpAny_bind (wpAny_standAt (wpAny_bind (wpAny_holding (thn (hs pins s2 σ H2 x y v ov iv u _ I2 r1 r2 r q2) fun _ s3 z0=>?_))));obtain ⟨H3,I3,q3⟩:=z0;exact wpAny_release ⟨σ,H3,I3,q3⟩
def Xl (te:TE) (g:TG):TS:=fun D σ H=>te σ H fun x H1=>g x σ H1 D.nx
theorem Rf {tg e:Expr} {te:TE} {g:TG} (he:PE X e te) (hg:PG X tg g) (hs:swapsWithSole [tg] e pos.line X.env=pure false:=by rfl) (hw:swappedStores [tg] e X.env=pure none:=by rfl)
  (h1:(assignEach [tg] X.env).map (·.2)=[assign tg X.env]:=by rfl):PS X (.Assign [tg] e pos) (Xl te g):=by
 intro pins s σ H D I h;refine wpAny_Assign_stores (thn (he pins s σ H _ I h) fun v s1 z0=>?_) hs hw;obtain ⟨x,H1,I1,r1,q1⟩:=z0;rw [h1];exact thn (hg pins s1 σ H1 x v _ I1 r1 q1) fun _ s2 q=>q
theorem ud {i:Nat} {x:Str} {e:Expr} {te:TE} {pos':Pos} (hN:X.N.Nodup) (hi:X.N[i]? = some x) (hx:Loc X.env.scope x) (he:PE X e te) (hs:swapsWith e (some (.Name x pos')) pos.line X.env=pure false:=by rfl) (hf:X.fn x=true\/X.env.scope.names.lookup x=some .local:=by first | exact .inl rfl | exact .inr rfl | assumption) :
  PS X (.Assign [.Name x pos'] e pos) (Xl te (Er i)):=by
 intro pins s σ H D I h;refine wpAny_Assign_Name (thn (he pins s σ H _ I h) fun v s1 z0=>?_) hs;obtain ⟨y,H1,I1,r1,q1⟩:=z0;exact M9 I1 hN hi hx r1 (fun s2 I2=>⟨_,H1,I2,q1⟩) hf
end
section
variable {X:Cx} {pos:Pos}
noncomputable def a0g (c:TT) (tb:TS):TS:=fun D σ H=>∃ W:Nat->St->Hp->Prop,(∃ m,W m σ H)/\∀ m σ H,W m σ H ->
 c σ H fun b H1=>if b=true then ∃ N:St->Hp->Prop,(∀ af H',N af H'->∃ m',m'<m/\W m' af H')/\tb { D with nx:=N,ct:=N,bk:=D.nx } σ H1 else D.nx σ H1
theorem Ml {c:Expr} {body:List Stmt} {tc:TT} {tb:TS} (hp:PassesOwn (model X.prog X.w) X.A X.env X.xe) (hc:PT X c tc) (hb:PSs X body tb):PS X (.While c body [] pos) (a0g tc tb):=by
 intro pins s σ H D I h;obtain ⟨W,⟨m0,w0⟩,turn⟩:=h;refine wpAny_While (codeAny_whileLoop (fun n s'=>∃ af H',Inv X pins af H' s'/\W n af H') ?_ m0 ⟨σ,H,I,w0⟩);rintro n s1 ⟨σ1,H1,I1,w1⟩;refine wpAny_passesOwn hp (thn (hc pins s1 σ1 H1 _ I1 (turn n σ1 H1 w1)) fun b s2 z0=>?_);obtain ⟨H2,I2,q2⟩:=z0;cases b with
 | true =>
  obtain ⟨N,hN,q2⟩:=q2;rw [if_pos rfl];refine wpAny_passesOwn hp (thn (hb pins s2 σ1 H2 _ I2 q2) fun f s3 q3=>?_);cases f with
  | next =>
   obtain ⟨bI,H3,I3,n3⟩:=q3;obtain ⟨m',hm,w3⟩:=hN bI H3 n3;exact ⟨m',hm,bI,H3,I3,w3⟩
  | cont =>
   obtain ⟨bI,H3,I3,n3⟩:=q3;obtain ⟨m',hm,w3⟩:=hN bI H3 n3;exact ⟨m',hm,bI,H3,I3,w3⟩
  | brk=>exact q3
  | ret v=>exact q3
 | false =>
  rw [if_neg Bool.false_ne_true];exact wpAny_execs_nil ⟨σ1,H2,I2,q2⟩
end
structure It where
 go:Nat->Hp->Prop
 yld:Nat->Hp->V->Hp->Prop
 stop:Nat->Hp->Prop
def Dj (X:Cx) (pins:List (Addr × Obj)) (H:Hp) (b:Addr):Prop :=
 H b=none/\b≠X.env.locals/\b∉X.fs/\(b∈X.ex\/X.s₀.heap.objs.size<=b)/\(∀ x c,X.env.cells.lookup x=some c->c≠b)/\∀ p∈X.pn++pins,p.1≠b
theorem Inv.Xw {X:Cx} {pins:List (Addr × Obj)} {σ:St} {H H':Hp} {s:Shared} {b:Addr} (I:Inv X pins σ H s) (hb:s.heap.objs.size<=b) (hn:H' b=none):Dj X pins H' b:=by
 refine ⟨hn,Nat.ne_of_gt (Nat.lt_of_lt_of_le I.lt hb),I.a6y hb,.inr (Nat.le_trans I.sz hb),fun x c e z=>?_,fun p hp z=>?_⟩
 ·obtain ⟨v,q⟩:=I.cell x c e;exact absurd (Nat.lt_of_lt_of_le q.lt (by rw [z]; exact hb)) (Nat.lt_irrefl _)
 ·exact absurd (Nat.lt_of_lt_of_le (Heap.lt_size (I.pin p hp).1) (by rw [z]; exact hb)) (Nat.lt_irrefl _)
structure Turn (P:Program) (w:World) (K:PySem.W.Frag) (tg:Expr) (J:It) (fp:List Addr) (it:Addr) (tn:Nat->Heap->Prop):Prop where
 mem:it∈fp
 obj:∀ i h,tn i h->∀ b∈fp,∃ o,h.get? b=some o/\∀ v,o.data≠.cell v
 keep:∀ i h h',tn i h->(∀ b∈fp,∀ o,h.get? b=some o->h'.get? b=some o)->tn i h'
 item:∀ (X:Cx),X.prog=P->X.w=w->X.K=K->X.calm=true->∀ (i:Nat) (pins:List (Addr × Obj)) (s:Shared) (σ:St) (H:Hp) (E:Value->Shared->Prop),Inv X pins σ H s->(∀ b∈fp,Dj X pins H b)->tn i s.heap->J.go i H ->
  wpAny (model P w) X.A (pyNext (.ref it)) (fun r s1=>∃ u,r=some u /\
   wpAny (model P w) X.A (letOwnedTupleGo tg (.ref it) u) (fun _ s2=>∃ x H',Inv X pins σ H' s2/\RelV x u/\J.yld i H x H'/\tn (i+1) s2.heap/\∀ b∈fp,H' b=none) E s1) E s
 done:∀ (X:Cx),X.prog=P->X.w=w->X.K=K->X.calm=true->∀ (i:Nat) (pins:List (Addr × Obj)) (s:Shared) (σ:St) (H:Hp) (E:Value->Shared->Prop),Inv X pins σ H s->(∀ b∈fp,Dj X pins H b)->tn i s.heap->J.stop i H ->
  wpAny (model P w) X.A (pyNext (.ref it)) (fun r s1=>r=none/\Inv X pins σ H s1) E s
 self:∀ (A:Around) (i:Nat) (s:Shared) (Q:Value->Shared->Prop) (E:Value->Shared->Prop),tn i s.heap->Q (.ref it) s->wpAny (model P w) A (pyIter (.ref it)) Q E s
abbrev TI:=St->Hp->(It->Hp->Prop)->Prop
def PIE (X:Cx) (pins:List (Addr × Obj)) (σ:St) (tg:Expr) (R:It->Hp->Prop) (bY:Value) (s2:Shared):Prop :=
 ∃ (it:Addr) (fp:List Addr) (tn:Nat->Heap->Prop) (J:It) (H':Hp),bY=.ref it/\Inv X pins σ H' s2/\Turn X.prog X.w X.K tg J fp it tn/\tn 0 s2.heap/\(∀ b∈fp,Dj X pins H' b)/\R J H'
def PI (X:Cx) (tg iter:Expr) (wi:TI):Prop :=
 ∀ (pins:List (Addr × Obj)) (s:Shared) (σ:St) (H:Hp) (R:It->Hp->Prop),Inv X pins σ H s->wi σ H R ->
  wpAny (model X.prog X.w) X.A (eval iter X.env) (fun v s1=>wpAny (model X.prog X.w) X.A (pyIter v) (PIE X pins σ tg R) X.xe s1) X.xe s
theorem Pr {M:Model} {A:Around} {E:Value->Shared->Prop} {s:Shared} {tg:Expr} {it:Addr} {u:Value} {o:Obj} {n:String} {vs:Array Value} {Q:Unit->Shared->Prop} (ho:s.heap.get? it=some o) (hc:o.cls=.type n) (hd:o.data=.fields vs)
  (hn:["enumerate","zip","dict_itemiterator","dict_reverseitemiterator","odict_iterator","itertools.zip_longest","itertools.pairwise"].contains n=false) (hQ:Q () s):wpAny M A (letOwnedTupleGo tg (.ref it) u) Q E s:=by
 unfold letOwnedTupleGo
 cases tg <;> first
  | exact wpAny_pure hQ
  | (cases u <;> first
    | exact wpAny_pure hQ
    | (refine wpAny_bind (wpAny_load ho ?_)
       rw [hc,hd];show wpAny M A (if (["enumerate","zip","dict_itemiterator","dict_reverseitemiterator","odict_iterator","itertools.zip_longest","itertools.pairwise"].contains n&&vs[0]? == some (rawInt _))=true then _ else _) Q E s;rw [if_neg (by intro h; rw [hn,Bool.false_and] at h; cases h)];exact wpAny_pure hQ))
noncomputable def Itl (K:PySem.W.Frag) (a:Addr):It :=
 ⟨fun i H=>∃ xs x,SqL K H a xs/\xs[i]? = some x,fun i H x H'=>H'=H/\∀ xs,SqL K H a xs->xs[i]? = some x,fun i H=>∃ xs,SqL K H a xs/\xs.length<=i⟩
noncomputable def Itt (K:PySem.W.Frag) (a:Addr):It :=
 ⟨fun i H=>∃ xs x,SqT K H a xs/\xs[i]? = some x,fun i H x H'=>H'=H/\∀ xs,SqT K H a xs->xs[i]? = some x,fun i H=>∃ xs,SqT K H a xs/\xs.length<=i⟩
def Itr (lo:Int) (n:Nat):It:=⟨fun i _=>i<n,fun i H x H'=>H'=H/\x=.int (lo+i),fun i _=>n<=i⟩
theorem Rq {P:Program} {w:World} {K:PySem.W.Frag} {tg:Expr} (a it:Addr):Turn P w K tg (Itl K a) [it] it (fun i h=>h.IsListIter it a i) where
 mem:=by simp
 obj:=fun i h st b hb=>by
  have e:b=it:=by simpa using hb
  subst e;obtain ⟨o,e,c,d⟩:=st;exact ⟨o,e,fun v z=>by rw [d] at z; cases z⟩
 keep:=fun i h h' st k=>st.at fun o e=>k it (by simp) o e
 item:=by
  intro X hP hw hK hc i pins s σ H E I hf st hg;subst hP hw hK;obtain ⟨xs,x,hq,hx⟩:=hg;obtain ⟨its,rv,p,hz⟩:=I.list hq;obtain ⟨u,hu,ru⟩:=rv.get hx;obtain ⟨f0,f1,f2,f3,f4,f5⟩:=hf it (by simp);refine wpAny_pyNext_list_item st p.isList (x:=u) (by simpa using hu) fun h' aa sb=>?_;have I1:Inv X pins σ H { s with heap:=h' }:=I.turned (t':=s.toks) (fun b o hb e=>(sb.2 b hb).trans e) f0 f1 f3 f4 f5;obtain ⟨o,e,c,d⟩:=id aa;exact ⟨u,rfl,Pr (s:={ s with heap:=h' }) e c d (by decide) ⟨x,H,I1,ru,⟨rfl,fun ys hy=>by rw [I.Mu hy hq]; exact hx⟩,aa,fun b hb=>(hf b hb).1⟩⟩
 done:=by
  intro X hP hw hK hc i pins s σ H E I hf st hg;subst hP hw hK;obtain ⟨xs,hq,hx⟩:=hg;obtain ⟨its,rv,p,hz⟩:=I.list hq;obtain ⟨f0,f1,f2,f3,f4,f5⟩:=hf it (by simp);have hl:=rv.length;exact wpAny_pyNext_list_end (I.ok.hd hc) st p.isList (by simp; omega) fun h' eb=>⟨rfl,I.turned (t':=s.toks) (fun b o hb e=>eb b o hb e) f0 f1 f3 f4 f5⟩
 self:=fun _ _ _ _ _ st h=>wpAny_pyIter_listiter st h
theorem Oe {P:Program} {w:World} {K:PySem.W.Frag} {tg:Expr} (a it:Addr):Turn P w K tg (Itt K a) [it] it (fun i h=>h.IsTupleIter it a i) where
 mem:=by simp
 obj:=fun i h st b hb=>by
  have e:b=it:=by simpa using hb
  subst e;obtain ⟨o,e,c,d⟩:=st;exact ⟨o,e,fun v z=>by rw [d] at z; cases z⟩
 keep:=fun i h h' st k=>st.at fun o e=>k it (by simp) o e
 item:=by
  intro X hP hw hK hc i pins s σ H E I hf st hg;subst hP hw hK;obtain ⟨xs,x,hq,hx⟩:=hg;obtain ⟨its,rv,p,hz⟩:=I.tuple hq;obtain ⟨u,hu,ru⟩:=rv.get hx;obtain ⟨f0,f1,f2,f3,f4,f5⟩:=hf it (by simp);refine wpAny_pyNext_tuple_item st (show s.heap.IsTuple a its.toArray from p) (x:=u) (by simpa using hu) fun h' aa sb=>?_;have I1:Inv X pins σ H { s with heap:=h' }:=I.turned (t':=s.toks) (fun b o hb e=>(sb.2 b hb).trans e) f0 f1 f3 f4 f5;obtain ⟨o,e,c,d⟩:=id aa;exact ⟨u,rfl,Pr (s:={ s with heap:=h' }) e c d (by decide) ⟨x,H,I1,ru,⟨rfl,fun ys hy=>by rw [I.Gm hy hq]; exact hx⟩,aa,fun b hb=>(hf b hb).1⟩⟩
 done:=by
  intro X hP hw hK hc i pins s σ H E I hf st hg;subst hP hw hK;obtain ⟨xs,hq,hx⟩:=hg;obtain ⟨its,rv,p,hz⟩:=I.tuple hq;obtain ⟨f0,f1,f2,f3,f4,f5⟩:=hf it (by simp);have hl:=rv.length;exact wpAny_pyNext_tuple_end (I.ok.hd hc) st (show s.heap.IsTuple a its.toArray from p) (by simp; omega) fun h' eb=>⟨rfl,I.turned (t':=s.toks) (fun b o hb e=>eb b o hb e) f0 f1 f3 f4 f5⟩
 self:=fun _ _ _ _ _ st h=>wpAny_pyIter_tupleiter st h
theorem Nq {P:Program} {w:World} {K:PySem.W.Frag} {tg:Expr} (it:Addr) (lo:Int) (n:Nat):Turn P w K tg (Itr lo n) [it] it (fun i h=>IsRangeIter h it (lo+(i:Nat) * 1) ((n:Int) - (i:Nat)) 1) where
 mem:=by simp
 obj:=fun i h st b hb=>by
  have e:b=it:=by simpa using hb
  subst e
  exact ⟨_,st,fun v z=>by
   have z':Data.fields _=Data.cell v:=z;cases z'⟩
 keep:=fun i h h' st k=>k it (by simp) _ st
 item:=by
  intro X hP hw hK hc i pins s σ H E I hf st hg;subst hP hw hK;obtain ⟨f0,f1,f2,f3,f4,f5⟩:=hf it (by simp);have W:=Walks.range (prog:=X.prog) (w:=X.w) (I.ok.hd hc) it lo 1 n;refine W.item i s _ _ hg st fun v h' tk hv aa kk=>?_;obtain ⟨t,rfl⟩:=hv;have I1:Inv X pins σ H { s with heap:=h',toks:=tk }:=I.turned (fun b o hb e=>kk b o (by simpa using hb) e) f0 f1 f3 f4 f5;refine ⟨_,rfl,Pr (s:={ s with heap:=h',toks:=tk }) (n := "range_iterator") aa rfl rfl (by decide) ⟨.int (lo+i),H,I1,⟨t,?_⟩,⟨rfl,rfl⟩,aa,fun b hb=>(hf b hb).1⟩⟩;rw [Int.mul_one]
 done:=by
  intro X hP hw hK hc i pins s σ H E I hf st hg;subst hP hw hK;obtain ⟨f0,f1,f2,f3,f4,f5⟩:=hf it (by simp);exact wpAny_pyNext_range_end (I.ok.hd hc) st (by have:n<=i:=hg; omega) fun h' eb=>⟨rfl,I.turned (t':=s.toks) (fun b o hb e=>eb b o hb e) f0 f1 f3 f4 f5⟩
 self:=fun _ _ _ _ _ st h=>wpAny_pyIter_rangeiter st h
end L2
namespace L2
open PySem PySem.Spec PyProof.Rows
section
variable {X:Cx} {tg:Expr}
theorem Uc {pins:List (Addr × Obj)} {σ:St} {H:Hp} {s:Shared} {R:It->Hp->Prop} {E:Value->Shared->Prop} {lo hi:Int} {t u v:Tok} {tk:Nat} (I:Inv X pins σ H s) (h1:-(2 ^ 62)<=lo) (h2:lo<2 ^ 62) (h3:-(2 ^ 62)<=hi) (h4:hi<2 ^ 62)
  (q:R (Itr lo (hi - lo).toNat) H):wpAny (model X.prog X.w) X.A (pyIter (.ref s.heap.objs.size)) (PIE X pins σ tg R) E { s with heap:=s.heap.push { cls:=.type "range",data:=.fields #[.int lo t,.int hi u,.int 1 v] },toks:=tk }:=by
 refine wpAny_pyIter_range (IsRange.new ..) (small_one h1 h2 h3 h4) ?_;have I1:Inv X pins σ H { s with heap:=s.heap.push { cls:=.type "range",data:=.fields #[.int lo t,.int hi u,.int 1 v] },toks:=tk }:=I.kept fun b o e=>Heap.get?_push_of_some _ e
 refine ⟨(s.heap.push { cls:=.type "range",data:=.fields #[.int lo t,.int hi u,.int 1 v] }).objs.size,[(s.heap.push { cls:=.type "range",data:=.fields #[.int lo t,.int hi u,.int 1 v] }).objs.size],_,_,H,rfl,
  I1.kept (t':=tk) fun b o e=>Heap.get?_push_of_some _ e,Nq _ lo (hi - lo).toNat,?_,fun b hb=>?_,q⟩
 ·have e1:lo+((0:Nat):Int) * 1=lo:=by simp
  have e2:(((hi - lo).toNat:Nat):Int) - ((0:Nat):Int)=Builtin.Range.rangeSize lo hi 1:=by rw [rangeSize_one]; split <;> omega
  show IsRangeIter _ _ (lo+((0:Nat):Int) * 1) ((((hi - lo).toNat:Nat):Int) - ((0:Nat):Int)) 1;rw [e1,e2];exact Heap.get?_push_size _ rfl
 ·have e:b=(s.heap.push { cls:=.type "range",data:=.fields #[.int lo t,.int hi u,.int 1 v] }).objs.size:=by simpa using hb
  subst e;exact I1.Xw (Nat.le_refl _) (I1.hok.fresh (Nat.le_refl _))
noncomputable def a2y (ta:TA):TI:=fun σ H R=>ta σ H fun vs H1=>∃ j:Int,vs=[.int j]/\-(2 ^ 62)<=j/\j<2 ^ 62/\R (Itr 0 j.toNat) H1
theorem Tz {a:Expr} {ta:TA} {p pos:Pos} (hg:Gl X "range") (hm:X.mg "range" = none) (ha:PA X [a] ta) (hs:starEach [a] X.env=[(false,eval a X.env)]:=by rfl):PI X tg (.Call (.Name "range" p) [a] [] pos) (a2y ta):=by
 intro pins s σ H R I h;refine Call_ (Ek I hg hm boot_range (PyProof.Rows.callWith_type1 (thn (ha pos pins s σ H _ I h) fun us s1 z0=>?_) hs rfl));obtain ⟨vs,H1,I1,r1,q1⟩:=z0;obtain ⟨j,e,q1,q2,q⟩:=q1;subst e;cases r1 with
 | cons r rr =>
  cases rr;obtain ⟨t,rfl⟩:=r;exact call_range_1 (Uc I1 (by omega) (by omega) q1 q2 (by simpa using q))
noncomputable def a6t (wi:TI) (g:TG) (tb:TS):TS:=fun D σ H=>wi σ H fun J H1=>∃ W:Nat->Nat->St->Hp->Prop,(∃ m,W 0 m σ H1)/\∀ i m σ H,W i m σ H ->
 (J.stop i H/\D.nx σ H)\/(J.go i H/\∃ N:St->Hp->Prop,(∀ af H',N af H'->∃ m',m'<m/\W (i+1) m' af H')/\∀ x H',J.yld i H x H'->g x σ H' fun bt H2=>tb { D with nx:=N,ct:=N,bk:=D.nx } bt H2)
def Ie (fp:List Addr) (h:Heap):List (Addr × Obj):=fp.filterMap fun b=>(h.get? b).map fun o=>(b,o)
theorem u9 {fp:List Addr} {h:Heap} {b:Addr} {o:Obj} (hb:b∈fp) (e:h.get? b=some o):(b,o)∈Ie fp h:=List.mem_filterMap.mpr ⟨b,hb,by rw [e]; rfl⟩
theorem Rg {fp:List Addr} {h:Heap} {p:Addr × Obj} (hp:p∈Ie fp h):p.1∈fp/\h.get? p.1=some p.2:=by
 obtain ⟨b,hb,e⟩:=List.mem_filterMap.mp hp;cases q:h.get? b with
 | none=>rw [q] at e; cases e
 | some o =>
  rw [q] at e;have e':(b,o)=p:=Option.some.inj e;subst e';exact ⟨hb,q⟩
theorem Inv.pinned {pins:List (Addr × Obj)} {σ:St} {H:Hp} {s:Shared} {fp:List Addr} (I:Inv X pins σ H s) (hf:∀ b∈fp,Dj X pins H b) (ho:∀ b∈fp,∃ o,s.heap.get? b=some o/\∀ v,o.data≠.cell v):Inv X (pins++Ie fp s.heap) σ H s :=
 I.xq fun p hp=>(List.mem_append.mp hp).elim (fun z=>I.pin p (List.mem_append_right _ z)) fun z=>by
  obtain ⟨hb,e⟩:=Rg z;obtain ⟨f0,f1,f2,_⟩:=hf p.1 hb;obtain ⟨o,e',d⟩:=ho p.1 hb;rw [e] at e'; cases e';exact ⟨e,f0,f1,f2,d⟩
theorem Inv.zq {pins pl:List (Addr × Obj)} {σ:St} {H:Hp} {s:Shared} (I:Inv X (pins++pl) σ H s):Inv X pins σ H s:=I.xq fun p hp=>I.pin p (List.mem_append_right _ (List.mem_append_left _ hp))
theorem a0t {iter:Expr} {body:List Stmt} {wi:TI} {g:TG} {tb:TS} {pos:Pos} (hp:PassesOwn (model X.prog X.w) X.A X.env X.xe) (hc:X.calm=true) (hi:PI X tg iter wi) (hg:PG X tg g) (hb:PSs X body tb)
  (hs:∀ x,foldedSetIterable iter X.env x=pure x:=by intro _; rfl):PS X (.For tg iter body [] pos) (a6t wi g tb):=by
 intro pins s σ H D I h;refine wpAny_For (thn (hi pins s σ H _ I h) fun v s1 h1=>thn h1 fun bY s2 h2=>?_) hs;obtain ⟨it,fp,tn,J,H2,e,I2,T,bc,f2,W,⟨m0,w0⟩,turn⟩:=h2;subst e;have bA:∀ {H':Hp},(∀ b∈fp,H' b=none)->∀ b∈fp,Dj X pins H' b:=fun hn b hb=>⟨hn b hb,(f2 b hb).2⟩;refine codeAny_forLoop_any (fun n s'=>∃ i af H',Inv X pins af H' s'/\tn i s'.heap/\(∀ b∈fp,H' b=none)/\W i n af H') ?_ m0 ⟨0,σ,H2,I2,bc,fun b hb=>(f2 b hb).1,w0⟩;rintro n s3 ⟨i,bI,H3,I3,st3,fr3,w3⟩;rcases turn i n bI H3 w3 with ⟨stop,qn⟩ | ⟨go,N,hN,step⟩
 ·refine wpAny_passesOwn hp (thn (T.done X rfl rfl rfl hc i pins s3 bI H3 X.xe I3 (bA fr3) st3 stop) fun r s4 z0=>?_);obtain ⟨hr,I4⟩:=z0;subst hr;exact wpAny_execs_nil ⟨bI,H3,I4,qn⟩
 ·refine wpAny_passesOwn hp (thn (T.item X rfl rfl rfl hc i pins s3 bI H3 X.xe I3 (bA fr3) st3 go) fun r s4 z0=>?_);obtain ⟨u,hr,h4⟩:=z0;subst hr;refine wpAny_passesOwn hp (thn h4 fun _ s5 z0=>?_);obtain ⟨x,H5,I5,r5,y5,st5,fr5⟩:=z0;have fo:=I5.pinned (bA fr5) (T.obj _ _ st5);refine wpAny_passesOwn hp (thn (hg _ s5 bI H5 x u _ fo r5 (step x H5 y5)) fun _ s6 z0=>?_);obtain ⟨σ6,H6,I6,q6⟩:=z0;refine wpAny_passesOwn hp (thn (hb _ s6 σ6 H6 _ I6 q6) fun f s7 q7=>?_)
  have again:∀ {bp:St} {H7:Hp},Inv X (pins++Ie fp s5.heap) bp H7 s7->N bp H7->∃ m,m<n/\∃ i af H',Inv X pins af H' s7/\tn i s7.heap/\(∀ b∈fp,H' b=none)/\W i m af H':=fun {bp H7} I7 n7=>by
   obtain ⟨m',hm,w7⟩:=hN bp H7 n7;refine ⟨m',hm,i+1,bp,H7,I7.zq,T.keep _ _ _ st5 fun b hb o e=>(I7.pin (b,o) (List.mem_append_right _ (List.mem_append_right _ (u9 hb e)))).1,fun b hb=>?_,w7⟩;obtain ⟨o,e,d⟩:=T.obj _ _ st5 b hb;exact (I7.pin (b,o) (List.mem_append_right _ (List.mem_append_right _ (u9 hb e)))).2.1
  cases f with
  | next=>obtain ⟨bp,H7,I7,n7⟩:=q7; exact again I7 n7
  | cont=>obtain ⟨bp,H7,I7,n7⟩:=q7; exact again I7 n7
  | brk=>obtain ⟨bp,H7,I7,q7⟩:=q7; exact ⟨bp,H7,I7.zq,q7⟩
  | ret v=>obtain ⟨x7,bp,H7,I7,r7,q7⟩:=q7; exact ⟨x7,bp,H7,I7.zq,r7,q7⟩
end
end L2
namespace L2
open PySem PySem.Spec PyProof.Rows
abbrev R2:=V->V->Hp->VK->Prop
def OpR (X:Cx) (f:Value->Value->Sem Value) (r:R2):Prop :=
 ∀ (pins:List (Addr × Obj)) (s:Shared) (σ:St) (H:Hp) (x y:V) (v u:Value) (Q:VK),Inv X pins σ H s->RelV x v->RelV y u->r x y H Q ->
  wpAny (model X.prog X.w) X.A (f v u) (EP X pins σ Q) X.xe s
def UnR (X:Cx) (f:Value->Sem Value) (r:V->Hp->VK->Prop):Prop :=
 ∀ (pins:List (Addr × Obj)) (s:Shared) (σ:St) (H:Hp) (x:V) (v:Value) (Q:VK),Inv X pins σ H s->RelV x v->r x H Q ->
  wpAny (model X.prog X.w) X.A (f v) (EP X pins σ Q) X.xe s
def Bp (X:Cx) (f:Value) (r:List V->Hp->VK->Prop):Prop :=
 ∀ (pins:List (Addr × Obj)) (s:Shared) (σ:St) (H:Hp) (xs:List V) (us:List Value) (Q:VK),Inv X pins σ H s->Vals xs us->r xs H Q ->
  wpAny (model X.prog X.w) X.A (call f us) (EP X pins σ Q) X.xe s
def tOp (r:R2) (ta tb:TE):TE:=fun σ H Q=>ta σ H fun x H1=>tb σ H1 fun y H2=>r x y H2 Q
def tUn (r:V->Hp->VK->Prop) (ta:TE):TE:=fun σ H Q=>ta σ H fun x H1=>r x H1 Q
def rI (C:Int->Int->Prop) (g:Int->Int->V):R2:=fun x y H Q=>∃ i j,x=.int i/\y=.int j/\C i j/\Q (g i j) H
def rI0 (g:Int->Int->V):R2:=fun x y H Q=>∃ i j,x=.int i/\y=.int j/\Q (g i j) H
def rU (g:Int->V):V->Hp->VK->Prop:=fun x H Q=>∃ i,x=.int i/\Q (g i) H
section
variable {X:Cx} {a b c:Expr} {ta tb tc:TE} {pos:Pos}
theorem a4t (ha:PE X a ta) (hb:PE X b tb) {pins:List (Addr × Obj)} {s:Shared} {σ:St} {H:Hp} {R:V->V->Hp->Prop} (I:Inv X pins σ H s)
  (h:ta σ H fun x H1=>tb σ H1 fun y H2=>R x y H2) {Q:Value->Shared->Prop} {f:Value->Value->Sem Value}
  (hf:∀ v u s2 x y H2,Inv X pins σ H2 s2->RelV x v->RelV y u->R x y H2->wpAny (model X.prog X.w) X.A (f v u) Q X.xe s2) :
  wpAny (model X.prog X.w) X.A (eval a X.env) (fun v av=>wpAny (model X.prog X.w) X.A (eval b X.env) (fun u ax=>wpAny (model X.prog X.w) X.A (f v u) Q X.xe ax) X.xe av) X.xe s:=by
 refine thn (ha pins s σ H _ I h) fun v s1 z0=>?_;obtain ⟨x,H1,I1,r1,q1⟩:=z0;refine thn (hb pins s1 σ H1 _ I1 q1) fun u s2 z0=>?_;obtain ⟨y,H2,I2,r2,q2⟩:=z0;exact hf v u s2 x y H2 I2 r1 r2 q2
theorem Xb {op:Operator} {r:R2} (ho:OpR X (binaryOp op) r) (ha:PE X a ta) (hb:PE X b tb):PE X (.BinOp a op b pos) (tOp r ta tb):=by
 intro pins s σ H Q I h;exact wpAny_BinOp (a4t ha hb I h fun v u s2 x y H2 I2 rx ry q=>ho pins s2 σ H2 x y v u Q I2 rx ry q)
theorem Yv {op:UnaryOp} {r:V->Hp->VK->Prop} (ho:UnR X (unaryOp op) r) (ha:PE X a ta):PE X (.UnaryOp op a pos) (tUn r ta):=by
 intro pins s σ H Q I h;exact UnaryOp_ (thn (ha pins s σ H _ I h) fun v s1 z7=>by obtain ⟨x,H1,I1,r1,q1⟩:=z7; exact ho pins s1 σ H1 x v Q I1 r1 q1)
theorem opI {f:Value->Value->Sem Value} {C:Int->Int->Prop} {g:Int->Int->Int}
  (rule:∀ (i j:Int) (t u:Tok) (s:Shared) (Q:Value->Shared->Prop) (E:Value->Shared->Prop),C i j->Q (.int (g i j) s.toks) { s with toks:=s.toks+1 }->wpAny (model X.prog X.w) X.A (f (.int i t) (.int j u)) Q E s) :
  OpR X f (rI C fun i j=>.int (g i j)):=by
 intro pins s σ H x y v u Q I rx ry h;obtain ⟨i,j,rfl,rfl,hc,q⟩:=h;obtain ⟨t,rfl⟩:=rx;obtain ⟨t',rfl⟩:=ry;exact rule i j t t' s _ _ hc ⟨.int (g i j),H,I.tok _,⟨_,rfl⟩,q⟩
theorem a5k {f:Value->Value->Sem Value} {g:Int->Int->Int}
  (rule:∀ (i j:Int) (t u:Tok) (s:Shared) (Q:Value->Shared->Prop) (E:Value->Shared->Prop),Q (.int (g i j) s.toks) { s with toks:=s.toks+1 }->wpAny (model X.prog X.w) X.A (f (.int i t) (.int j u)) Q E s) :
  OpR X f (rI0 fun i j=>.int (g i j)):=by
 intro pins s σ H x y v u Q I rx ry h;obtain ⟨i,j,rfl,rfl,q⟩:=h;obtain ⟨t,rfl⟩:=rx;obtain ⟨t',rfl⟩:=ry;exact rule i j t t' s _ _ ⟨.int (g i j),H,I.tok _,⟨_,rfl⟩,q⟩
theorem a2r {f:Value->Value->Sem Value} {g:Int->Int->Bool}
  (rule:∀ (i j:Int) (t u:Tok) (s:Shared) (Q:Value->Shared->Prop) (E:Value->Shared->Prop),Q (.bool (g i j)) s->wpAny (model X.prog X.w) X.A (f (.int i t) (.int j u)) Q E s) :
  OpR X f (rI0 fun i j=>.bl (g i j)):=by
 intro pins s σ H x y v u Q I rx ry h;obtain ⟨i,j,rfl,rfl,q⟩:=h;obtain ⟨t,rfl⟩:=rx;obtain ⟨t',rfl⟩:=ry;exact rule i j t t' s _ _ ⟨.bl (g i j),H,I,rfl,q⟩
def a6e (i j:Int):Prop:=0<=j/\j<=1000000/\i.natAbs<2 ^ 64
def a4i (i j:Int):Prop:=(-(2 ^ 64)<i/\i<2 ^ 64)\/(-(2 ^ 64)<j/\j<2 ^ 64)
theorem a4i.ok {i j:Int} (h:a4i i j):IntMulOk i j:=by
 rcases h with ⟨h1,h2⟩ | ⟨h1,h2⟩
 ·exact .of_left (intBits_le_64 h1 h2)
 ·exact .of_right (intBits_le_64 h1 h2)
theorem a0s:OpR X (binaryOp .Add) (rI0 fun i j=>.int (i+j)):=a5k fun _ _ _ _ _ _ _ q=>add_int q
theorem a01:OpR X (binaryOp .Sub) (rI0 fun i j=>.int (i - j)):=a5k fun _ _ _ _ _ _ _ q=>sub_int q
theorem Zz:OpR X (binaryOp .Mult) (rI a4i fun i j=>.int (i * j)):=opI fun _ _ _ _ _ _ _ hc q=>mul_int q hc.ok
theorem a08:OpR X (binaryOp .Mod) (rI (fun _ j=>0<j) fun i j=>.int (i%j)):=opI fun i j _ _ _ _ _ hc q=>by
 have h1:(0:Int)<j:=hc;exact mod_int' (by omega) (by rw [Int.fmod_eq_emod_of_nonneg i (by omega)]; exact q)
theorem a1m:OpR X (binaryOp .Pow) (rI a6e fun i j=>.int (i ^ j.toNat)):=opI fun _ _ _ _ _ _ _ hc q=>pow_int_small hc.1 hc.2.1 hc.2.2 q
theorem unI {f:Value->Sem Value} {g:Int->Int}
  (rule:∀ (i:Int) (t:Tok) (s:Shared) (Q:Value->Shared->Prop) (E:Value->Shared->Prop),Q (.int (g i) s.toks) { s with toks:=s.toks+1 }->wpAny (model X.prog X.w) X.A (f (.int i t)) Q E s) :
  UnR X f (rU fun i=>.int (g i)):=by
 intro pins s σ H x v Q I rx h;obtain ⟨i,rfl,q⟩:=h;obtain ⟨t,rfl⟩:=rx;exact rule i t s _ _ ⟨.int (g i),H,I.tok _,⟨_,rfl⟩,q⟩
theorem Wu:UnR X (unaryOp .USub) (rU fun i=>.int (-i)):=unI fun _ _ _ _ _ q=>neg_int q
end
section
variable {X:Cx} {a b c:Expr} {ta tb tc:TE} {pos:Pos}
theorem a4o:OpR X (compareOp .Lt) (rI0 fun i j=>.bl (decide (i<j))):=a2r fun _ _ _ _ _ _ _ q=>lt_int q
theorem a2s:OpR X (compareOp .LtE) (rI0 fun i j=>.bl (decide (i<=j))):=a2r fun _ _ _ _ _ _ _ q=>le_int q
theorem a3r:OpR X (compareOp .Gt) (rI0 fun i j=>.bl (decide (j<i))):=a2r fun _ _ _ _ _ _ _ q=>gt_int q
theorem a3u:OpR X (compareOp .GtE) (rI0 fun i j=>.bl (decide (j<=i))):=a2r fun _ _ _ _ _ _ _ q=>ge_int q
theorem dz (b:Expr) {op:CmpOp} (h:op≠.In:=by decide) (h2:op≠.NotIn:=by decide):behindInMarks op b=false:=by
 have e1:(op==CmpOp.In)=false:=by cases op <;> first | rfl | exact absurd rfl h
 have e2:(op==CmpOp.NotIn)=false:=by cases op <;> first | rfl | exact absurd rfl h2
 cases b <;> simp [behindInMarks,e1,e2]
theorem T8 {op:CmpOp} {r:R2} (ho:OpR X (compareOp op) r) (ha:PE X a ta) (hb:PE X b tb) (hm:behindInMarks op b=false):PE X (.Compare a [op] [b] pos) (tOp r ta tb):=by
 intro pins s σ H Q I h;exact wpAny_Compare1 (a4t ha hb I h fun v u s2 x y H2 I2 rx ry q=>ho pins s2 σ H2 x y v u Q I2 rx ry q) hm
def a0o (t:TE):TT:=fun σ H Q=>t σ H fun x H'=>∃ k,x=.bl k/\Q k H'
theorem Qs {op:CmpOp} {r:R2} (ho:OpR X (compareOp op) r) (ha:PE X a ta) (hb:PE X b tb) (hm:behindInMarks op b=false):PT X (.Compare a [op] [b] pos) (a0o (tOp r ta tb)):=by
 intro pins s σ H Q I h
 refine wpAny_isTrue_Compare1 (thn (ha pins s σ H _ I h) fun v s1 ⟨x,H1,I1,r1,q1⟩=>thn (hb pins s1 σ H1 _ I1 q1) fun u s2 ⟨y,H2,I2,r2,q2⟩ =>
  thn (ho pins s2 σ H2 x y v u _ I2 r1 r2 q2) fun c s3 ⟨z,H3,I3,r3,k,e,q3⟩=>?_) hm
 subst e;cases r3;exact wpAny_truthy_bool ⟨H3,I3,q3⟩
noncomputable def Wn (r r':R2) (ta tb tc:TE):TE:=fun σ H Q=>ta σ H fun x H1=>tb σ H1 fun y H2=>r x y H2 fun z H3=>∃ k,z=.bl k /\
 (if k=true then tc σ H3 fun w' H4=>r' y w' H4 Q else Q (.bl false) H3)
theorem Vo {op cz:CmpOp} {r r':R2} (ho:OpR X (compareOp op) r) (aY:OpR X (compareOp cz) r') (ha:PE X a ta) (hb:PE X b tb) (hc:PE X c tc)
  (hm:lastMarks [op,cz] [b,c]=false:=by with_unfolding_all rfl):PE X (.Compare a [op,cz] [b,c] pos) (Wn r r' ta tb tc):=by
 intro pins s σ H Q I h
 refine Compare_chain (thn (ha pins s σ H _ I h) fun v s1 ⟨x,H1,I1,r1,q1⟩=>chain_link (thn (hb pins s1 σ H1 _ I1 q1) fun u s2 ⟨y,H2,I2,r2,q2⟩ =>
  thn (ho pins s2 σ H2 x y v u _ I2 r1 r2 q2) fun d s3 ⟨z,H3,I3,r3,k,e,q3⟩=>?_)) hm
 subst e;cases r3;refine wpAny_truthy_bool ?_;cases k with
 | false=>exact ite_ff ⟨.bl false,H3,I3,rfl,q3⟩
 | true=>exact ite_tt (chain_last (thn (hc pins s3 σ H3 _ I3 q3) fun w' s4 z7=>by obtain ⟨z',H4,I4,r4,q4⟩:=z7; exact aY pins s4 σ H4 y z' u w' Q I4 r2 r4 q4))
theorem Eb:(sizeLine:Nat)<2 ^ 63:=by rw [sizeLine_eq]; decide
theorem Ng:OpR X (binaryOp .Add) (fun x y H Q=>∃ i j,x=.str i/\y=.str j/\i.length+j.length<=sizeLine/\Q (.str (i++j)) H):=by
 intro pins s σ H x y v u Q I rx ry h;obtain ⟨i,j,rfl,rfl,hz,q⟩:=h;obtain ⟨t,rfl⟩:=rx;obtain ⟨t',rfl⟩:=ry;exact add_str (fun t' tk=>⟨.str (i++j),H,I.tok _,⟨_,rfl⟩,q⟩) hz
theorem vals1 {x:V} {us:List Value} (r:Vals [x] us):∃ u,us=[u]/\RelV x u:=by
 cases r with
 | cons r1 r2=>cases r2; exact ⟨_,rfl,r1⟩
theorem vals2 {x y:V} {us:List Value} (r:Vals [x,y] us):∃ u w',us=[u,w']/\RelV x u/\RelV y w':=by
 cases r with
 | cons r1 r2 =>
  cases r2 with
  | cons r3 r4=>cases r4; exact ⟨_,_,rfl,r1,r3⟩
theorem Pq (hc:X.calm=true):Bp X (.builtin "min") (fun xs H Q=>∃ i j,xs=[.int i,.int j]/\Q (.int (if j<i then j else i)) H):=by
 intro pins s σ H xs us Q I r h;obtain ⟨i,j,rfl,q⟩:=h;obtain ⟨u,w',rfl,⟨t,rfl⟩,⟨t',rfl⟩⟩:=vals2 r;refine min_two_ints (I.ok.hd hc) fun h' tk k=>⟨_,H,I.kept k,?_,q⟩
 by_cases hj:j<i
 ·rw [if_pos hj,if_pos hj]; exact ⟨_,rfl⟩
 ·rw [if_neg hj,if_neg hj]; exact ⟨_,rfl⟩
end
end L2
namespace L2
open PySem PySem.Spec PyProof.Rows
structure Zb (h:Heap) (x dx C:Addr) (mA:Str->Option Value):Prop where
 obj:h.get? x=some (PySem.W.instObj C dx)
 ns:h.Ns1 dx mA
 ne:dx≠x
theorem Sx {h:Heap} {dx:Addr} {mA:Str->Option Value} (n:h.Ns1 dx mA):∃ od,h.get? dx=some od/\∀ name,PySem.W.lookIn name od=some (mA name):=by
 obtain ⟨o,es,ep,ho,hd,hk,_,hm⟩:=n;refine ⟨o,ho,fun name=>?_⟩;have e:=hm name;unfold nsFind findBy at e;rw [<- Array.find?_toList] at e;unfold PySem.W.lookIn;rw [hd];dsimp only;split
 ·rename_i y q;rw [q] at e;exact congrArg some e
 ·rename_i q;rw [q] at e
  have a:es.toList.any (·.refKey)=false:=by
   rw [List.any_eq_false];intro y hy;obtain ⟨z,t,hkey⟩:=hk y (Array.mem_toList_iff.mp hy);simp [DictEntry.refKey,hkey]
  have a':¬ es.toList.any (·.refKey)=true:=by rw [a]; exact Bool.false_ne_true
  rw [if_neg a'];exact congrArg some e
theorem Zb.look {h:Heap} {x dx C:Addr} {mA:Str->Option Value} (I:Zb h x dx C mA):∃ od,PySem.W.InstAt h x (PySem.W.instObj C dx) C (some od)/\∀ name,PySem.W.lookIn name od=some (mA name) :=
 let ⟨od,ho,hl⟩:=Sx I.ns
 ⟨od,⟨I.obj,rfl,rfl,ho⟩,hl⟩
section
variable {prog:Program} {w:World} {A:Around} {E:Value->Shared->Prop} {s:Shared} {K:PySem.W.Frag} {x dx C f:Addr} {mA:Str->Option Value} {name:Str} {v:Value}
theorem get_map {expr:Bool} {Q:Value->Shared->Prop} (X:K.In s.heap) (I:Zb s.heap x dx C mA) (hg:PySem.W.plainGet K C name=true) (hh:PySem.W.hasDictIn K C=true)
  (ha:PySem.W.findIn K (.ref C) name=some none) (hv:mA name=some v) (fi:PySem.W.handedIn v=true) (h:Q v { s with toks:=s.toks+1 }) :
  wpAny (model prog w) A (getAttr (.ref x) name expr) Q E s:=by
 obtain ⟨od,J,hl⟩:=I.look;exact PySem.W.get_value X J (PySem.W.plainGet_of hg).1 (PySem.W.findObj_own hh ha rfl (by rw [hl,hv])) fi h
theorem V7 {pl:Sem Bool} {Q:Value × List Value->Shared->Prop} (X:K.In s.heap) (I:Zb s.heap x dx C mA) (hg:PySem.W.plainGet K C name=true)
  (hf:PySem.W.findIn K (.ref C) name=some (some (.ref f))) (ht:PySem.W.isFn K (.ref f)=true) (hv:mA name=none) (h:Q (.ref f,[.ref x]) s) :
  wpAny (model prog w) A (getMethod (.ref x) name pl) Q E s:=by
 obtain ⟨od,J,hl⟩:=I.look;exact PySem.W.method_fn X J (PySem.W.plainGet_of hg).1 (PySem.W.plainGet_of hg).2 hf (beq_iff_eq.mp ht) (by show (PySem.W.lookIn name od).map (·.isSome)=some false; rw [hl,hv]; rfl) h
theorem Yg {ns:List Str} {Q:Unit->Shared->Prop} (X:K.In s.heap) (I:Zb s.heap x dx C mA)
  (hs:PySem.W.findIn K (.ref C) "__setattr__" = some (some (.builtin "object.__setattr__"))) (hp:PySem.W.plainOver K C=true) (ht:PySem.W.takerIn K C name=some none) (hh:PySem.W.hasDictIn K C=true)
  (hw:PySem.Within mA ns) (bz:ns.length<=sizeLine)
  (h:∀ h',Zb h' x dx C (fun y=>if y=name then some v else mA y)->Heap.SameBut dx s.heap h'->Q () { s with heap:=h',toks:=s.toks+2 }) :
  wpAny (model prog w) A (setAttr (.ref x) name v) Q E s:=by
 obtain ⟨od,J,hl⟩:=I.look;refine PySem.W.set_plain X J hs (PySem.W.osa_open (s:={ s with toks:=s.toks+1 }) (r:=none) X J hp ht fun b=>?_);obtain ⟨cd,hc,hd'⟩:=PySem.W.any_some hh;have hx:s.heap.get? x=some ⟨.ref C,some dx,.plain,#[]⟩:=I.obj;refine wpAny_bind (wpAny_pure (wpAny_bind (wpAny_bind (wpAny_loadPart hx (wpAny_bind (PySem.W.Looks.here (s:={ s with toks:=s.toks+1 }) (PySem.W.looks_clsIn X hc) ?_))))));rw [hd'];refine wpAny_pure (a:=some dx) (wpAny_bind (wpAny_pure (wpAny_bind ?_)));refine wpAny_nsSet1 (s:={ s with toks:=s.toks+1 }) I.ns fun h' dm aO=>?_;obtain ⟨oD,esD,epD,hoD,hdD,hcD⟩:=dm.count (PySem.Within.cons name v hw);refine wpAny_bind (wpAny_lookBehind hoD (by rw [hdD]; exact pastItsLine_dict (Nat.le_trans hcD (by rw [List.length_cons]; omega))) ?_);exact wpAny_pure (h _ ⟨(aO.2 _ (Ne.symm I.ne)).trans I.obj,dm,I.ne⟩ aO)
theorem W8 {R:Result->Shared->Prop} {vs:List Value} {kw:List (Str × Value)} (X:K.In s.heap) (hm:PySem.W.makesIn K C=true)
  (hi:PySem.W.findIn K (.ref C) "__init__" = some (some (.ref f))) (hf:PySem.W.typeIn K (.ref f)=some (.type "function"))
  (h:codeAny (model prog w) (A.under (.builtin "type.__call__" ⟨.ref C::vs,kw⟩)) (.call (.ref f) ⟨.ref (s.heap.objs.size+1)::vs,kw⟩) (PySem.W.InitBack (s.heap.objs.size+1) R)
   { s with heap:=(s.heap.push PySem.W.emptyDict).push (PySem.W.instObj C s.heap.objs.size) }) :
  codeAny (model prog w) A (.call (.ref C) ⟨vs,kw⟩) R s:=by
 obtain ⟨hh,g,d,t,os⟩:=s;exact PySem.W.make_core (PySem.W.makes_of X hm) (PySem.W.looks_findIn X hi) (fun self=>PySem.W.bind_fn X self hf) (.inl rfl) h
end
noncomputable def Fq (f:Str) (v:V):List (Str × V)->List (Str × V)
 | []=>[(f,v)]
 | (g,x)::r=>if g=f then (g,v)::r else (g,x)::Fq f v r
theorem Bu (f g:Str) (v:V):∀ fs:List (Str × V),(Fq f v fs).lookup g=if g=f then some v else fs.lookup g
 | []=>by
  show List.lookup g [(f,v)]=_
  by_cases h:g=f
  ·have hb:(g==f)=true:=beq_iff_eq.mpr h;simp only [List.lookup,hb,if_pos h]
  ·have hb:(g==f)=false:=beq_eq_false_iff_ne.mpr h;simp only [List.lookup,hb,if_neg h]
 | (k,x)::r=>by
  have ih:=Bu f g v r;rw [show Fq f v ((k,x)::r)=(if k=f then (k,v)::r else (k,x)::Fq f v r) from rfl]
  by_cases hk:k=f
  ·rw [if_pos hk]
   by_cases h:g=k
   ·have hb:(g==k)=true:=beq_iff_eq.mpr h;simp only [List.lookup,hb,if_pos (h.trans hk)]
   ·have hb:(g==k)=false:=beq_eq_false_iff_ne.mpr h;simp only [List.lookup,hb,if_neg (fun e:g=f=>h (e.trans hk.symm))]
  ·rw [if_neg hk]
   by_cases h:g=k
   ·have hb:(g==k)=true:=beq_iff_eq.mpr h;simp only [List.lookup,hb,if_neg (fun e:g=f=>hk (h.symm.trans e))]
   ·have hb:(g==k)=false:=beq_eq_false_iff_ne.mpr h;simp only [List.lookup,hb];exact ih
theorem Cd (f:Str) (v:V):∀ fs:List (Str × V),f∈(Fq f v fs).map (·.1)/\∀ g,g∈fs.map (·.1)->g∈(Fq f v fs).map (·.1)
 | []=>⟨by simp [Fq],fun g h=>by simp at h⟩
 | (k,x)::r=>by
  obtain ⟨i1,i2⟩:=Cd f v r;rw [show Fq f v ((k,x)::r)=(if k=f then (k,v)::r else (k,x)::Fq f v r) from rfl]
  by_cases hk:k=f
  ·rw [if_pos hk];subst hk;exact ⟨by simp,fun g h=>by simpa using h⟩
  ·rw [if_neg hk];refine ⟨?_,fun g h=>?_⟩
   ·rw [List.map_cons];exact List.mem_cons_of_mem _ i1
   ·rw [List.map_cons] at h ⊢;rcases List.mem_cons.mp h with e | e
    ·exact List.mem_cons.mpr (.inl e)
    ·exact List.mem_cons_of_mem _ (i2 g e)
theorem Cv (f:Str) (v:V):∀ fs:List (Str × V),(Fq f v fs).length<=fs.length+1
 | []=>by simp [Fq]
 | (k,x)::r=>by
  have ih:=Cv f v r;rw [show Fq f v ((k,x)::r)=(if k=f then (k,v)::r else (k,x)::Fq f v r) from rfl]
  by_cases hk:k=f
  ·rw [if_pos hk,List.length_cons,List.length_cons]; omega
  ·rw [if_neg hk,List.length_cons,List.length_cons]; omega
theorem Ge.some_of {v:V} {o:Option Value} (r:Ge (some v) o):∃ u,o=some u/\RelV v u:=by
 cases o with
 | none=>exact (show False from r).elim
 | some u=>exact ⟨u,rfl,r⟩
theorem Ge.none_of {o:Option Value} (r:Ge none o):o=none:=by
 cases o with
 | none=>rfl
 | some u=>exact (show False from r).elim
theorem Tv {v:V} {u:Value} (r:RelV v u):PySem.W.handedIn u=true:=by
 cases v with
 | non=>cases (show u=Value.none from r); rfl
 | bl b=>cases (show u=Value.bool b from r); rfl
 | int i=>obtain ⟨t,e⟩:=(show ∃ t,u=Value.int i t from r); cases e; rfl
 | str x=>obtain ⟨t,e⟩:=(show ∃ t,u=Value.str x t from r); cases e; rfl
 | byt b=>obtain ⟨t,e⟩:=(show ∃ t,u=Value.bytes b t from r); cases e; rfl
 | flt b=>obtain ⟨t,e⟩:=(show ∃ t,u=Value.float b t from r); cases e; rfl
 | ref a=>cases (show u=Value.ref a from r); rfl
 | ty n=>cases (show u=Value.type n from r); rfl
section
variable {P:Program} {w:World} {H H':Hp} {h h':Heap} {a C dx:Addr} {fs cV:List (Str × V)}
theorem Fp (hok:HOk P w H h) (e:H a=some (.ins C dx fs)):∃ mA,Zb h a dx C mA/\(∀ f,Ge (fs.lookup f) (mA f))/\PySem.Within mA (fs.map (·.1))/\fs.length<=1000/\H dx=some (.own a):=by
 obtain ⟨d,z,ne,ob,mA,n,r,q⟩:=(show mz P w H h a (.ins C dx fs) from hok a _ e);exact ⟨mA,⟨ob,n,ne⟩,r,q,z,d⟩
end
structure Cls (K:PySem.W.Frag) (C:Addr):Prop where
 pg:PySem.W.plainGet K C Str.empty=true
 hd:PySem.W.hasDictIn K C=true
 po:PySem.W.plainOver K C=true
 sa:PySem.W.findIn K (.ref C) "__setattr__" = some (some (.builtin "object.__setattr__"))
theorem Cls.get {K:PySem.W.Frag} {C:Addr} (c:Cls K C) (f:Str):PySem.W.plainGet K C f=true:=c.pg
def wz (K:PySem.W.Frag) (C:Addr) (f:Str):Prop:=PySem.W.findIn K (.ref C) f=some none
theorem wz.taker {K:PySem.W.Frag} {C:Addr} {f:Str} (n:wz K C f):PySem.W.takerIn K C f=some none:=by
 unfold PySem.W.takerIn;rw [show PySem.W.findIn K (.ref C) f=some none from n];rfl
structure Con (K:PySem.W.Frag) (C:Addr) (f:Str) (v:V) (u:Value):Prop where
 at_:PySem.W.findIn K (.ref C) f=some (some u)
 rel:RelV v u
 get:PySem.W.specialIn K u "__get__" = some none
 cp:PySem.W.copiedNames.contains f=false
structure Meth (K:PySem.W.Frag) (C:Addr) (m:Str) (f:Addr):Prop where
 at_:PySem.W.findIn K (.ref C) m=some (some (.ref f))
 fn:PySem.W.isFn K (.ref f)=true
 kp:PySem.W.keepIn K (.ref f)=true
section
variable {X:Cx} {pins:List (Addr × Obj)} {σ:St} {H:Hp} {s:Shared} {a C dx:Addr} {fs:List (Str × V)} {f:Str} {v:V} {A:Around} {E:Value->Shared->Prop}
theorem Od {b:Bool} {Q:Value->Shared->Prop} (I:Inv X pins σ H s) (e:H a=some (.ins C dx fs)) (c:Cls X.K C) (n:wz X.K C f) (l:fs.lookup f=some v)
  (h:∀ u s',Inv X pins σ H s'->RelV v u->Q u s'):wpAny (model X.prog X.w) A (getAttr (.ref a) f b) Q E s:=by
 obtain ⟨mA,O,r,_,_,_⟩:=Fp I.hok e;obtain ⟨u,hu,ru⟩:=Ge.some_of (v:=v) (o:=mA f) (by rw [<- l]; exact r f);exact get_map I.kIn O (c.get f) c.hd n hu (Tv ru) (h u _ (I.tok _) ru)
theorem Dv {m:Str} {g:Addr} {pl:Sem Bool} {Q:Value × List Value->Shared->Prop} (I:Inv X pins σ H s) (e:H a=some (.ins C dx fs)) (c:Cls X.K C) (k:Meth X.K C m g) (l:fs.lookup m=none)
  (h:Q (.ref g,[.ref a]) s):wpAny (model X.prog X.w) A (getMethod (.ref a) m pl) Q E s:=by
 obtain ⟨mA,O,r,_,_,_⟩:=Fp I.hok e;have hn:mA m=none:=Ge.none_of (by rw [<- l]; exact r m);exact V7 I.kIn O (c.get m) k.at_ k.fn hn h
theorem O7 {y:V} {u:Value} {Q:Unit->Shared->Prop} (I:Inv X pins σ H s) (e:H a=some (.ins C dx fs)) (c:Cls X.K C) (n:wz X.K C f) (hl:fs.length<1000) (ry:RelV y u)
  (h:∀ s',Inv X pins σ (upd H a (.ins C dx (Fq f y fs))) s'->Q () s'):wpAny (model X.prog X.w) A (setAttr (.ref a) f u) Q E s:=by
 obtain ⟨mA,O,r,wi,_,ho⟩:=Fp I.hok e;have hz:(fs.map (·.1)).length<=sizeLine:=by rw [List.length_map,sizeLine_eq]; omega
 refine Yg I.kIn O c.sa c.po n.taker c.hd wi hz fun h' O' sb=>h _ ?_;have hd:∃ o,h'.get? dx=some o:=let ⟨o,_,_,e',_⟩:=O'.ns; ⟨o,e'⟩;refine I.write (x:=a) (e:=dx) (by rw [e]; exact True.intro) (.inr ho) (fun b q hb z=>(sb.2 b hb).trans z) hd ?_;refine ⟨by rw [dj O.ne]; exact ho,?_,O.ne,O'.obj,_,O'.ns,fun g=>?_,fun g hg=>?_⟩
 ·have:=Cv f y fs; omega
 ·show Ge ((Fq f y fs).lookup g) (if g=f then some u else mA g);rw [Bu]
  by_cases q:g=f
  ·rw [if_pos q,if_pos q]; exact ry
  ·rw [if_neg q,if_neg q]; exact r g
 ·by_cases q:g=f
  ·rw [q]; exact (Cd f y fs).1
  ·refine (Cd f y fs).2 g (wi g fun z=>hg ?_);show (if g=f then some u else mA g)=none;rw [if_neg q]; exact z
theorem Inv.made (I:Inv X pins σ H s):Inv X pins σ (upd (upd H s.heap.objs.size (.own (s.heap.objs.size+1))) (s.heap.objs.size+1) (.ins C s.heap.objs.size []))
  { s with heap:=(s.heap.push PySem.W.emptyDict).push (PySem.W.instObj C s.heap.objs.size) }:=by
 have e1:(s.heap.push PySem.W.emptyDict).get? s.heap.objs.size=some PySem.W.emptyDict:=Heap.get?_push_size s.heap rfl
 have e2:((s.heap.push PySem.W.emptyDict).push (PySem.W.instObj C s.heap.objs.size)).get? (s.heap.objs.size+1)=some (PySem.W.instObj C s.heap.objs.size):=by
  have:=Heap.get?_push_size (s.heap.push PySem.W.emptyDict) (o:=PySem.W.instObj C s.heap.objs.size) rfl
  rwa [Heap.size_push] at this
 have e3:(s.heap.push PySem.W.emptyDict).Ns s.heap.objs.size (fun _=>none):=⟨PySem.W.emptyDict,#[],_,e1,rfl,(fun e he=>absurd he (by simp)),fun _=>rfl⟩;have I1:=I.laid (a:=s.heap.objs.size) (o:=.own (s.heap.objs.size+1)) (h':=s.heap.push PySem.W.emptyDict) (t':=s.toks) (fun b u q=>Heap.get?_push_of_some _ q) (Nat.le_refl _) ⟨_,e1⟩;refine I1.laid (a:=s.heap.objs.size+1) (o:=.ins C s.heap.objs.size []) (t':=s.toks) (fun b u q=>Heap.get?_push_of_some _ q) (Nat.le_of_eq (Heap.size_push _ _)) ?_;have ne:s.heap.objs.size≠s.heap.objs.size+1:=Nat.ne_of_lt (Nat.lt_succ_self _);refine ⟨by rw [dj ne,bw],Nat.zero_le _,ne,e2,fun _=>none,(Heap.Ns1.of_empty e3).at fun o q=>Heap.get?_push_of_some _ q,fun _=>True.intro,fun y hy=>absurd rfl hy⟩
theorem Z1 {prog:Program} {w:World} {env:Env} {e:Expr} {f:Str} {pos:Pos} {s:Shared} {Q:Value->Shared->Prop} (hb:attributeBase e f env (eval e env)=eval e env)
  (h:wpAny (model prog w) A (eval e env) (fun o av=>wpAny (model prog w) A (getAttr o f true) Q E av) E s):wpAny (model prog w) A (eval (.Attribute e f pos) env) Q E s :=
 Attribute_any_ h (by rw [arm_eval_Attribute,hb])
end
noncomputable def a5y (K:PySem.W.Frag) (ta:TE) (f:Str):TE:=fun σ H Q=>ta σ H fun x H1=>∃ a C dx fs v,x=.ref a/\H1 a=some (.ins C dx fs)/\Cls K C/\wz K C f/\fs.lookup f=some v/\Q v H1
noncomputable def a68 (K:PySem.W.Frag) (ta tv:TE) (f:Str):TS:=fun D σ H=>tv σ H fun y H1=>ta σ H1 fun x H2=>∃ a C dx fs,x=.ref a/\H2 a=some (.ins C dx fs)/\Cls K C/\wz K C f/\fs.length<1000 /\
 D.nx σ (upd H2 a (.ins C dx (Fq f y fs)))
section
variable {X:Cx} {o e value:Expr} {f:Str} {pos pos' aM:Pos} {ta tv:TE}
theorem a1c (he:PE X e ta) (hb:attributeBase e f X.env (eval e X.env)=eval e X.env):PE X (.Attribute e f pos) (a5y X.K ta f):=by
 intro pins s σ H Q I h;refine Z1 hb (thn (he pins s σ H _ I h) fun u s1 z0=>?_);obtain ⟨x,H1,I1,rx,a,C,dx,fs,v,ex,ea,c,n,l,q⟩:=z0;subst ex;obtain rfl:u=Value.ref a:=rx;exact Od I1 ea c n l fun u' s2 I2 ru=>⟨v,H1,I2,ru,q⟩
theorem a06 (ha:PE X o ta) (hv:PE X value tv) (hs:swapsWith value (some (.Attribute o f pos')) pos.line X.env=pure false):PS X (.Assign [.Attribute o f pos'] value pos) (a68 X.K ta tv f):=by
 intro pins s σ H D I h;refine plainObj_wpAny_Assign_Attribute (thn (hv pins s σ H _ I h) fun u s1 ⟨y,H1,I1,ry,q⟩=>thn (ha pins s1 σ H1 _ I1 q) fun ov s2 ⟨x,H2,I2,rx,a,C,dx,fs,ex,ea,c,n,l,q2⟩=>?_) hs;subst ex;obtain rfl:ov=Value.ref a:=rx;exact O7 I2 ea c n l ry fun s3 I3=>⟨σ,_,I3,q2⟩
end
section
variable {X:Cx} {pins:List (Addr × Obj)} {σ:St} {H:Hp} {s:Shared} {A:Around} {E:Value->Shared->Prop} {Q:Value->Shared->Prop} {c:Value} {b:Bool}
inductive Oz (K:PySem.W.Frag) (H:Hp):V->Value->Prop where
 | non:Oz K H .non (.type "NoneType")
 | bl (x:Bool):Oz K H (.bl x) (.type "bool")
 | int (i:Int):Oz K H (.int i) (.type "int")
 | str (x:Str):Oz K H (.str x) (.type "str")
 | flt (x:UInt64):Oz K H (.flt x) (.type "float")
 | lst {a:Addr} {xs:List V} (e:H a=some (.lst xs)):Oz K H (.ref a) (.type "list")
 | frz {a:Addr} {o:Obj} {xs:List V} (e:H a=some (.frz o (.lst xs))):Oz K H (.ref a) (.type "list")
 | tup {a:Addr} {xs:List V} (e:H a=some (.tup xs)):Oz K H (.ref a) (.type "tuple")
 | dK {a:Addr} {ag:List (Key × V)} (e:H a=some (.dK ag)):Oz K H (.ref a) (.type "dict")
 | dT {a:Addr} {ag:List (List Key × V)} (e:H a=some (.dT ag)):Oz K H (.ref a) (.type "dict")
 | ins {a C dx:Addr} {fs:List (Str × V)} (e:H a=some (.ins C dx fs)) (cl:Cls K C) (ha:PySem.W.findIn K (.ref C) "__class__" = some (some (.builtin "object.__class__")))
   (hn:PySem.W.specialIn K (.builtin "object.__class__") "__get__" = some (some (.builtin "getset_descriptor.__get__"))) (eN:PySem.W.takesIn K (.builtin "object.__class__")=some true)
   (hm:PySem.W.mroIn K C (.type "object")=some true):Oz K H (.ref a) (.ref C)
theorem yt {x:V} {u t:Value} (I:Inv X pins σ H s) (rx:RelV x u) (ty:Oz X.K H x t) (e:PySem.W.kitOne X.K t c=some b) (h:∀ tk,Q (.bool b) { s with toks:=tk }) :
  wpAny (model X.prog X.w) A (call (.builtin "isinstance") [u,c]) Q E s:=by
 cases ty with
 | non=>cases (show u=Value.none from rx); exact PySem.W.kia_one PySem.W.kitx_none I.kIn True.intro e (fun z=>nomatch z) h
 | bl y=>cases (show u=Value.bool y from rx); exact PySem.W.kia_one PySem.W.kitx_bool I.kIn True.intro e (fun z=>nomatch z) h
 | int i=>obtain ⟨t,q⟩:=(show ∃ t,u=Value.int i t from rx); cases q; exact PySem.W.kia_one PySem.W.kitx_int I.kIn True.intro e (fun z=>nomatch z) h
 | str y=>obtain ⟨t,q⟩:=(show ∃ t,u=Value.str y t from rx); cases q; exact PySem.W.kia_one PySem.W.kitx_str I.kIn True.intro e (fun z=>nomatch z) h
 | flt y=>obtain ⟨t,q⟩:=(show ∃ t,u=Value.float y t from rx); cases q; exact PySem.W.kia_one PySem.W.kitx_float I.kIn True.intro e (fun z=>nomatch z) h
 | @lst a xs ea =>
  cases (show u=Value.ref a from rx);obtain ⟨_,_,n,_,h1⟩:=(show mz X.prog X.w H s.heap a (.lst xs) from I.hok a _ ea);exact PySem.W.kia_one PySem.W.kitx_list I.kIn ⟨_,h1,rfl⟩ e (fun z=>nomatch z) h
 | @frz a ob xs ea =>
  cases (show u=Value.ref a from rx);obtain ⟨_,_,_,n,_,h1⟩:=(show mz X.prog X.w H s.heap a (.frz ob (.lst xs)) from I.hok a _ ea);exact PySem.W.kia_one PySem.W.kitx_list I.kIn ⟨_,h1,rfl⟩ e (fun z=>nomatch z) h
 | @tup a xs ea =>
  cases (show u=Value.ref a from rx);obtain ⟨_,_,_,p⟩:=(show mz X.prog X.w H s.heap a (.tup xs) from I.hok a _ ea);obtain ⟨o,h1,h2,_⟩:=p;exact PySem.W.kia_one PySem.W.kitx_tuple I.kIn ⟨o,h1,h2⟩ e (fun z=>nomatch z) h
 | @dK a ag ea =>
  cases (show u=Value.ref a from rx);obtain ⟨_,_,vs,_,p⟩:=(show mz X.prog X.w H s.heap a (.dK ag) from I.hok a _ ea);obtain ⟨o,es,ep,h1,h2,_⟩:=p;exact PySem.W.kia_one PySem.W.kitx_dict I.kIn ⟨o,h1,h2.1⟩ e (fun z=>nomatch z) h
 | @dT a ag ea =>
  cases (show u=Value.ref a from rx);obtain ⟨_,_,xs,_,o,es,ep,h1,h2,_⟩:=(show mz X.prog X.w H s.heap a (.dT ag) from I.hok a _ ea);exact PySem.W.kia_one PySem.W.kitx_dict I.kIn ⟨o,h1,h2.1⟩ e (fun z=>nomatch z) h
 | @ins a C dx fs ea cl ha hn eN hm =>
  cases (show u=Value.ref a from rx);obtain ⟨mA,O,_⟩:=Fp I.hok ea;obtain ⟨od,J,_⟩:=O.look;exact PySem.W.kia_one (PySem.W.kitx_own (cl.get _) cl.hd ha hn eN hm) I.kIn J e (fun z=>nomatch z) h
end
end L2
namespace L2
open PySem PySem.Spec PyProof.Rows
structure uf (k:Nat) (A:Around):Prop where
 hd:A.handled=none
 dp:A.depth+3 * k+5<recursionLimit
 un:A.units+16 * k+200<cLine
theorem uf.mono {j k:Nat} {A:Around} (r:uf k A) (h:j<=k):uf j A:=⟨r.hd,by have:=r.dp; omega,by have:=r.un; omega⟩
theorem uf.deeper {k:Nat} {A:Around} (r:uf (k+1) A) (env:Env):uf k (A.deeper env) :=
 ⟨r.hd,by have:=r.dp; show A.depth+1+3 * k+5<_; omega,by have:=r.un; show A.units+3+16 * k+200<_; omega⟩
theorem Ou {A:Around} {C:Addr} {us:List Value} {kw:List (Str × Value)}:(A.under (.builtin "type.__call__" ⟨.ref C::us,kw⟩)).depth=A.depth+1:=by
 first | rfl | simp [Around.under,Code.weight,Code.isCreation,Code.isGuard,Code.isCaller,Code.frames,Code.isFrame,guardIds]
theorem Oq {A:Around} {C:Addr} {us:List Value} {kw:List (Str × Value)}:(A.under (.builtin "type.__call__" ⟨.ref C::us,kw⟩)).units=A.units+1:=by
 first | rfl | simp [Around.under,Code.cUnits,Code.frames,Code.isFrame]
theorem uf.make {k:Nat} {A:Around} (r:uf (k+1) A) (C:Addr) (us:List Value) (kw:List (Str × Value)):uf k (A.under (.builtin "type.__call__" ⟨.ref C::us,kw⟩)) :=
 ⟨r.hd,by have:=r.dp; rw [Ou]; omega,by have:=r.un; rw [Oq]; omega⟩
theorem uf.depth {k:Nat} {A:Around} (r:uf k A):A.depth<recursionLimit:=by have:=r.dp; omega
theorem uf.units {k:Nat} {A:Around} (r:uf k A):A.units+64<cLine:=by have:=r.un; omega
def U7:TA:=fun _ H Q=>Q [] H
def Bf (ta:TE) (tr:TA):TA:=fun σ H Q=>ta σ H fun x H1=>tr σ H1 fun xs H2=>Q (x::xs) H2
section
variable {X:Cx} {e:Expr} {es:List Expr} {te:TE} {t:TA} {pos:Pos}
theorem lg:PA X [] U7:=fun _ _ _ _ H Q I h=>Calls.spliced_nil ⟨[],H,I,.nil,h⟩
theorem jc (ha:PE X e te) (hr:PA X es t) (hs:starEach (e::es) X.env=(false,eval e X.env)::starEach es X.env:=by rfl):PA X (e::es) (Bf te t):=by
 intro pos pins s σ H Q I h;rw [hs];show wpAny _ _ (spliced ((false,eval e X.env)::backTo pos (starEach es X.env))) _ _ s;refine Calls.spliced_cons (thn (ha pins s σ H _ I h) fun u s1 z0=>?_);obtain ⟨x,H1,I1,r1,q1⟩:=z0;exact thn (hr pos pins s1 σ H1 _ I1 q1) fun us s2 ⟨xs,H2,I2,r2,q2⟩=>⟨x::xs,H2,I2,.cons r1 r2,q2⟩
noncomputable def a6m (t:TA):TE:=fun σ H Q=>t σ H fun xs H1=>xs.length<=sizeLine/\∀ p,H1 p=none->Q (.ref p) (upd H1 p (.tup xs))
noncomputable def a65 (t:TA):TE:=fun σ H Q=>t σ H fun xs H1=>xs.length<=sizeLine/\∀ p,H1 p=none->Q (.ref p) (upd H1 p (.lst xs))
theorem Wm {x1} (h:PA X es t):PE X (.Tuple es x1 pos) (a6m t):=by
 intro pins s σ H Q I hq;refine wpAny_Tuple_spliced (thn (h pos pins s σ H _ I hq) fun us s1 ⟨xs,H1,I1,r,z,q⟩=>⟨by rw [<- r.length]; exact z,?_⟩);have hf:H1 s1.heap.objs.size=none:=I1.hok.fresh (Nat.le_refl _);refine ⟨.ref s1.heap.objs.size,upd H1 s1.heap.objs.size (.tup xs),I1.laid (t':=s1.toks) (fun b u e=>Heap.get?_push_of_some _ e) (Nat.le_refl _) ?_,rfl,q _ hf⟩;exact ⟨z,us,r,⟨_,Heap.get?_push_size _ rfl,rfl,rfl,_,rfl⟩⟩
theorem Tj (h:PA X es t):PE X (.List es pos) (a65 t):=by
 intro pins s σ H Q I hq;refine wpAny_List_spliced (thn (h pos pins s σ H _ I hq) fun us s1 ⟨xs,H1,I1,r,z,q⟩=>⟨by rw [<- r.length]; exact z,?_⟩);have hf:H1 s1.heap.objs.size=none:=I1.hok.fresh (Nat.le_refl _);refine ⟨.ref s1.heap.objs.size,upd H1 s1.heap.objs.size (.lst xs),I1.laid (t':=s1.toks) (fun b u e=>Heap.get?_push_of_some _ e) (Nat.le_refl _) ?_,rfl,q _ hf⟩;exact ⟨z,us,0,r,Heap.get?_push_size _ rfl⟩
end
abbrev Sp:=List V->Hp->VK->XK->Prop
abbrev CXT:=List Env->Hp->Shared->XK->Value->Shared->Prop
structure Xu (P:Program) (w:World) (K:PySem.W.Frag) (mg:Str->Option Value) (base:Heap) (A:Around) (outer:List Env) (s:Shared) (H:Hp):Prop where
 frames:A.frames=some outer
 mod:Mod K mg base
 bs:∀ b o,base.get? b=some o->s.heap.get? b=some o/\H b=none
 bsz:base.objs.size<=s.heap.objs.size
 Ov:s.heap.FunFrames base outer
 frf:∀ b∈frs outer,H b=none
 hok:HOk P w H s.heap
 bare:AllBare s.gens
def CE (outer:List Env) (P:Program) (w:World) (H:Hp) (s:Shared) (Q:VK) (u:Value) (s':Shared):Prop :=
 ∃ v H',s'.os=s.os/\AllBare s'.gens/\Un (frs outer) [] H H' s.heap s'.heap/\HOk P w H' s'.heap/\RelV v u/\Q v H'
def CR (CX:CXT) (outer:List Env) (P:Program) (w:World) (H:Hp) (s:Shared) (Q:VK) (E:XK) (r:Result) (s':Shared):Prop :=
 match r with
 | .ok (.ret u)=>CE outer P w H s Q u s'
 | .ok _=>False
 | .error e=>CX outer H s E e s'
structure ur (P:Program) (w:World) (K:PySem.W.Frag) (mg:Str->Option Value) (base:Heap) (CX:CXT) (k:Nat) (f:Addr) (fd:FuncData) (ps:List Str) (sp:Sp):Prop where
 len:∀ vs H Q E,sp vs H Q E->vs.length=ps.length
 run:∀ (A:Around) (outer:List Env) (s:Shared) (H:Hp) (args:Args) (us:List Value) (vs:List V) (Q:VK) (E:XK),uf k A->Xu P w K mg base A outer s H->BindsTo s fd args (ps.zip us)->Vals vs us->sp vs H Q E ->
  codeAny (model P w) A (.call (.ref f) args) (CR CX outer P w H s Q E) s
theorem ur.mono {P:Program} {w:World} {K:PySem.W.Frag} {mg:Str->Option Value} {base:Heap} {CX:CXT} {j k:Nat} {f:Addr} {fd:FuncData} {ps:List Str} {sp:Sp} (F:ur P w K mg base CX j f fd ps sp) (h:j<=k) :
  ur P w K mg base CX k f fd ps sp:=⟨F.len,fun A outer s H args us vs Q E hr=>F.run A outer s H args us vs Q E (hr.mono h)⟩
theorem ur.imp {P:Program} {w:World} {K:PySem.W.Frag} {mg:Str->Option Value} {base:Heap} {CX:CXT} {k:Nat} {f:Addr} {fd:FuncData} {ps:List Str} {sp eA:Sp} (F:ur P w K mg base CX k f fd ps sp)
  (h:∀ vs H Q E,eA vs H Q E->sp vs H Q E):ur P w K mg base CX k f fd ps eA :=
 ⟨fun vs H Q E q=>F.len vs H Q E (h _ _ _ _ q),fun A outer s H args us vs Q E hr he hb hv hs=>F.run A outer s H args us vs Q E hr he hb hv (h _ _ _ _ hs)⟩
theorem Xu.make {P:Program} {w:World} {K:PySem.W.Frag} {mg:Str->Option Value} {base:Heap} {A:Around} {outer:List Env} {s:Shared} {H:Hp} (e:Xu P w K mg base A outer s H) (C:Addr) (us:List Value) (kw:List (Str × Value)) :
  Xu P w K mg base (A.under (.builtin "type.__call__" ⟨.ref C::us,kw⟩)) outer s H:=⟨by first | exact e.frames | (simpa [Around.under,Code.envs,Code.isFrame,pushEnvs] using e.frames),e.mod,e.bs,e.bsz,e.Ov,e.frf,e.hok,e.bare⟩
section
variable {X:Cx} {pins:List (Addr × Obj)} {σ:St} {H:Hp} {s s':Shared}
theorem Inv.env0 (I:Inv X pins σ H s):Xu X.prog X.w X.K X.mg X.base X.A X.stack s H :=
 ⟨I.ok.frames,I.ok.mod,I.bs,Nat.le_trans I.ok.bsz I.sz,I.stack,I.Iz,I.hok,I.bare⟩
theorem Inv.after {Q:VK} {u:Value} (I:Inv X pins σ H s) (h:CE X.stack X.prog X.w H s Q u s'):EP X pins σ Q u s':=by
 obtain ⟨v,H',os,bare,un,hok,r,q⟩:=h;obtain ⟨hh,g,d,t,os'⟩:=s';obtain rfl:os'=s.os:=os;exact ⟨v,H',I.call (h':=hh) (g':=g) (d':=d) (t':=t) (ch:=[]) un hok bare (fun b z=>absurd z (by simp)),r,q⟩
end
def a3f (sp:Sp) (aT:List V) (E:XK) (t:TA):TE:=fun σ H Q=>t σ H fun vs H1=>sp (vs++aT) H1 Q E
noncomputable def a0l (C:Addr) (m:Str) (sp:Sp) (aT:List V) (E:XK) (ta:TE) (t:TA):TE:=fun σ H Q=>ta σ H fun x H1=>∃ a dx fs,x=.ref a/\H1 a=some (.ins C dx fs)/\fs.lookup m=none /\
 t σ H1 fun vs H2=>sp (x::(vs++aT)) H2 Q E
noncomputable def a4l (C:Addr) (sp:Sp) (aT:List V) (E:XK) (t:TA):TE:=fun σ H Q=>t σ H fun vs H1=>∀ x dx,H1 x=none->H1 dx=none->dx≠x ->
 sp (.ref x::(vs++aT)) (upd (upd H1 dx (.own x)) x (.ins C dx [])) (fun v H2=>v=.non/\Q (.ref x) H2) E
def Binds (K:PySem.W.Frag) (fd:FuncData) (ps:List Str) (ds:List Value):Prop :=
 ∀ (s:Shared) (us:List Value),K.In s.heap->(us++ds).length=ps.length->BindsTo s fd ⟨us,[]⟩ (ps.zip (us++ds))
theorem Binds.all {K:PySem.W.Frag} {fd:FuncData} {ps:List Str} (h:∀ us:List Value,us.length=ps.length->bindArgs fd ⟨us,[]⟩=pure (ps.zip us)):Binds K fd ps []:=fun s us _ hl=>by
 rw [List.append_nil] at hl ⊢;exact .of_eq (h us hl)
def Passes (CX:CXT) (X:Cx) (E:XK):Prop:=∀ (pins:List (Addr × Obj)) (σ:St) (H:Hp) (s:Shared) (e:Value) (s':Shared),Inv X pins σ H s->CX X.stack H s E e s'->X.xe e s'
section
variable {X:Cx} {CX:CXT} {k:Nat} {f C:Addr} {fd:FuncData} {ps:List Str} {sp:Sp} {aT:List V} {ds:List Value} {E:XK} {x m:Str} {p pos apos:Pos} {e o:Expr} {es:List Expr} {ta:TE} {t:TA}
theorem U5 {pins:List (Addr × Obj)} {σ:St} {H:Hp} {s:Shared} {Q:VK} {us:List Value} {vs:List V} (F:ur X.prog X.w X.K X.mg X.base CX k f fd ps sp) (hr:uf k X.A) (hb:Binds X.K fd ps ds) (hd:Vals aT ds) (hx:Passes CX X E)
  (I:Inv X pins σ H s) (r:Vals vs us) (h:sp (vs++aT) H Q E):wpAny (model X.prog X.w) X.A (call (.ref f) us) (EP X pins σ Q) X.xe s:=by
 have r2:Vals (vs++aT) (us++ds):=r.append hd;have hl:(us++ds).length=ps.length:=by rw [<- r2.length]; exact F.len _ _ _ _ h
 refine wpAny_call (codeAny_mono (F.run X.A X.stack s H ⟨us,[]⟩ (us++ds) (vs++aT) Q E hr I.env0 (hb s us I.kIn hl) r2 h) fun r s' hq=>?_);cases r with
 | error e=>exact hx pins σ H s e s' I hq
 | ok fl =>
  cases fl with
  | ret u=>exact I.after hq
  | next=>exact False.elim hq
  | brk=>exact False.elim hq
  | cont=>exact False.elim hq
theorem Qj (F:ur X.prog X.w X.K X.mg X.base CX k f fd ps sp) (hr:uf k X.A) (hg:Gl X x) (hm:X.mg x=some (.ref f)) (hk:PySem.W.keepIn X.K (.ref f)=true) (hb:Binds X.K fd ps ds) (hd:Vals aT ds) (hx:Passes CX X E)
  (ha:PA X (e::es) t) (aW:(x==("__debug__" : Str))=false:=by decide) (he:starEach (e::es) X.env=(false,eval e X.env)::starEach es X.env:=by rfl) (aL:(backTo pos (starEach es X.env)).any (·.1)=false:=by rfl) :
  PE X (.Call (.Name x p) (e::es) [] pos) (a3f sp aT E t):=by
 intro pins s σ H Q I h;refine wpAny_Call_Name_kw (G9 I hg hm ?_ aW);refine PySem.W.callWith_K (h₀:=X.base) I.ok.mod.kin hk (thn (ha pos pins s σ H _ I h) fun us s1 ⟨vs,H1,I1,r,q⟩=>⟨I1.kIn,?_⟩) he aL;exact U5 F hr hb hd hx I1 r q
theorem Xp {pl:Sem Bool} (he:PE X o ta) (c:Cls X.K C) (hm:Meth X.K C m f) (F:ur X.prog X.w X.K X.mg X.base CX k f fd ps sp) (hr:uf k X.A) (hb:Binds X.K fd ps ds) (hd:Vals aT ds) (hx:Passes CX X E) (ha:PA X (e::es) t)
  (hst:starEach (e::es) X.env=(false,eval e X.env)::starEach es X.env:=by rfl) (aL:(backTo pos (starEach es X.env)).any (·.1)=false:=by rfl)
  (ht:eval (.Call (.Attribute o m apos) (e::es) [] pos) X.env=(do
   let ov <- eval o X.env
   standAt apos.atName
   let (f,first) <- holding [ov] (getMethod ov m pl)
   callWith pos f first (backTo pos (starEach (e::es) X.env)) (backToKw pos (keywordEach [] X.env))):=by rfl) :
  PE X (.Call (.Attribute o m apos) (e::es) [] pos) (a0l C m sp aT E ta t):=by
 intro pins s σ H Q I h;refine PySem.W.methodCall_KW (pl:=pl) (thn (he pins s σ H _ I h) fun u s1 z0=>?_) ht;obtain ⟨x,H1,I1,rx,a,dx,fs,ex,ea,l,q⟩:=z0;subst ex;obtain rfl:u=Value.ref a:=rx;refine Dv I1 ea c hm l ?_;refine PySem.W.callWith_K (first:=[.ref a]) (h₀:=X.base) I.ok.mod.kin hm.kp (thn (ha pos pins s1 σ H1 _ I1 q) fun us s2 ⟨vs,H2,I2,r,q2⟩=>⟨I2.kIn,?_⟩) hst aL;exact U5 (us:=.ref a::us) (vs:=.ref a::vs) F hr hb hd hx I2 (.cons rfl r) q2
theorem Uv {pl:Sem Bool} (he:PE X o ta) (c:Cls X.K C) (hm:Meth X.K C m f) (F:ur X.prog X.w X.K X.mg X.base CX k f fd ps sp) (hr:uf k X.A) (hb:Binds X.K fd ps ds) (hd:Vals aT ds) (hx:Passes CX X E)
  (ht:eval (.Call (.Attribute o m apos) [] [] pos) X.env=(do
   let ov <- eval o X.env
   standAt apos.atName
   let (f,first) <- holding [ov] (getMethod ov m pl)
   callWith pos f first (backTo pos (starEach [] X.env)) (backToKw pos (keywordEach [] X.env))):=by rfl) :
  PE X (.Call (.Attribute o m apos) [] [] pos) (a0l C m sp aT E ta U7):=by
 intro pins s σ H Q I h;refine PySem.W.methodCall_KW (pl:=pl) (thn (he pins s σ H _ I h) fun u s1 z0=>?_) ht;obtain ⟨x,H1,I1,rx,a,dx,fs,ex,ea,l,q⟩:=z0;subst ex;obtain rfl:u=Value.ref a:=rx;refine Dv I1 ea c hm l ?_;exact PySem.W.callWith_K0 (first:=[.ref a]) I1.kIn hm.kp (U5 (us:=[.ref a]) (vs:=[.ref a]) F hr hb hd hx I1 (.cons rfl .nil) q)
structure Mk (K:PySem.W.Frag) (C f:Addr):Prop where
 makes:PySem.W.makesIn K C=true
 init:PySem.W.findIn K (.ref C) "__init__" = some (some (.ref f))
 fn:PySem.W.isFn K (.ref f)=true
 kp:PySem.W.keepIn K (.ref C)=true
theorem Ui {pins:List (Addr × Obj)} {σ:St} {H:Hp} {s:Shared} {Q:VK} {us:List Value} {vs:List V} (M:Mk X.K C f) (F:ur X.prog X.w X.K X.mg X.base CX k f fd ps sp) (hr:uf (k+1) X.A) (hb:Binds X.K fd ps ds) (hd:Vals aT ds)
  (hx:Passes CX X E) (I:Inv X pins σ H s) (r:Vals vs us)
  (h:∀ x dx,H x=none->H dx=none->dx≠x->sp (.ref x::(vs++aT)) (upd (upd H dx (.own x)) x (.ins C dx [])) (fun v H2=>v=.non/\Q (.ref x) H2) E) :
  wpAny (model X.prog X.w) X.A (call (.ref C) us) (EP X pins σ Q) X.xe s:=by
 have hq:=h (s.heap.objs.size+1) s.heap.objs.size (I.hok.fresh (Nat.le_succ _)) (I.hok.fresh (Nat.le_refl _)) (Nat.ne_of_lt (Nat.lt_succ_self _));have I2:=Inv.made (C:=C) I;have r2:Vals (V.ref (s.heap.objs.size+1)::(vs++aT)) (Value.ref (s.heap.objs.size+1)::(us++ds)):=.cons rfl (r.append hd)
 have hl:(Value.ref (s.heap.objs.size+1)::us++ds).length=ps.length:=by
  have e:=r2.length;rw [F.len _ _ _ _ hq] at e;exact e.symm
 refine wpAny_call (W8 (f:=f) I.kIn M.makes M.init (beq_iff_eq.mp M.fn) (codeAny_mono (F.run _ X.stack _ _ ⟨Value.ref (s.heap.objs.size+1)::us,[]⟩ (Value.ref (s.heap.objs.size+1)::(us++ds)) _ _ E (hr.make C us [])
  (I2.env0.make C us []) (hb _ (Value.ref (s.heap.objs.size+1)::us) I2.kIn hl) r2 hq) fun r s' cI=>?_))
 cases r with
 | error e=>exact hx pins σ _ _ e s' I2 cI
 | ok fl =>
  cases fl with
  | ret u =>
   obtain ⟨v,H',I3,rv,ev,q3⟩:=I2.after cI;subst ev;exact ⟨rv,⟨V.ref (s.heap.objs.size+1),H',I3,rfl,q3⟩⟩
  | next=>exact False.elim cI
  | brk=>exact False.elim cI
  | cont=>exact False.elim cI
theorem Y8 (M:Mk X.K C f) (F:ur X.prog X.w X.K X.mg X.base CX k f fd ps sp) (hr:uf (k+1) X.A) (hg:Gl X x) (hm:X.mg x=some (.ref C)) (hb:Binds X.K fd ps ds) (hd:Vals aT ds) (hx:Passes CX X E)
  (ha:PA X (e::es) t) (aW:(x==("__debug__" : Str))=false:=by decide) (he:starEach (e::es) X.env=(false,eval e X.env)::starEach es X.env:=by rfl) (aL:(backTo pos (starEach es X.env)).any (·.1)=false:=by rfl) :
  PE X (.Call (.Name x p) (e::es) [] pos) (a4l C sp aT E t):=by
 intro pins s σ H Q I h;refine wpAny_Call_Name_kw (G9 I hg hm ?_ aW);refine PySem.W.callWith_K (h₀:=X.base) I.ok.mod.kin M.kp (thn (ha pos pins s σ H _ I h) fun us s1 ⟨vs,H1,I1,r,q⟩=>⟨I1.kIn,?_⟩) he aL;exact Ui M F hr hb hd hx I1 r q
end
section
variable {X:Cx} {CX:CXT} {k:Nat} {f C:Addr} {fd:FuncData} {ps ks:List Str} {sp:Sp} {E:XK} {x m:Str} {p pos apos dJ:Pos} {e o:Expr} {es:List Expr} {f7:List Keyword} {te ta:TE} {t tk:TA} {nm:Option Str}
structure a5t (K:PySem.W.Frag) (fd:FuncData) (ps ks:List Str) (g:List Value->List Value->List Value) (gV:List V->List V->List V):Prop where
 to:∀ (s:Shared) (us ws:List Value),K.In s.heap->(g us ws).length=ps.length->BindsTo s fd ⟨us,ks.zip ws⟩ (ps.zip (g us ws))
 rel:∀ {vs:List V} {us:List Value} {zs:List V} {ws:List Value},Vals vs us->Vals zs ws->Vals (gV vs zs) (g us ws)
variable {g:List Value->List Value->List Value} {gV:List V->List V->List V}
end
structure rm (N P:List Str) (sc:Scope):Prop where
 kind:sc.kind=.function
 co:sc.isCoroutine=false
 gen:sc.isGenerator=false
 nd:N.Nodup
 pre:N.take P.length=P
 par:∀ x∈P,sc.names.lookup x=some .local\/sc.names.lookup x=some .cell
 nofree:∀ y∈sc.names,y.2≠.free
theorem Ht {kindOf:Str->Option NameKind} {x:Str}:∀ {binds:List (Str × Value)} {m:Str->Option Value},(∀ v,(x,v)∉binds)->bindL kindOf binds m x=m x
 | [],_,_=>rfl
 | (n,v)::r,m,h=>by
  unfold bindL;rw [Ht fun w hw=>h w (List.mem_cons_of_mem _ hw)];split
  ·have:x≠n:=by rintro rfl; exact h v List.mem_cons_self
   simp [this]
  ·rfl
theorem Io {kindOf:Str->Option NameKind} {x:Str}:∀ {binds:List (Str × Value)} {m:Str->Option Value},(∀ v,(x,v)∉binds)->bindC kindOf binds m x=m x
 | [],_,_=>rfl
 | (n,v)::r,m,h=>by
  unfold bindC;rw [Io fun w hw=>h w (List.mem_cons_of_mem _ hw)];split
  ·rfl
  ·have:x≠n:=by rintro rfl; exact h v List.mem_cons_self
   simp [this]
theorem Gu {kindOf:Str->Option NameKind} {x:Str} {v:Value}:∀ {P:List Str} {vs:List Value} {i:Nat} {m:Str->Option Value},P.Nodup->P[i]? = some x->vs[i]? = some v->kindOf x=some .local ->
  bindL kindOf (P.zip vs) m x=some v
 | [],_,_,_,_,h,_,_=>by simp at h
 | _::_,[],_,_,_,_,h,_=>by simp at h
 | p::P,w::vs,0,m,nd,h1,h2,hk=>by
  simp at h1 h2; subst h1; subst h2;show bindL kindOf ((p,w)::P.zip vs) m p=_;unfold bindL;rw [Ht fun v hv=>(List.nodup_cons.mp nd).1 (List.of_mem_zip hv).1,if_pos hk];simp
 | p::P,w::vs,i+1,m,nd,h1,h2,hk=>by
  show bindL kindOf ((p,w)::P.zip vs) m x=_;unfold bindL;exact Gu (i:=i) (List.nodup_cons.mp nd).2 (by simpa using h1) (by simpa using h2) hk
theorem Ik {kindOf:Str->Option NameKind} {x:Str} {v:Value}:∀ {P:List Str} {vs:List Value} {i:Nat} {m:Str->Option Value},P.Nodup->P[i]? = some x->vs[i]? = some v->kindOf x≠some .local ->
  bindC kindOf (P.zip vs) m x=some v
 | [],_,_,_,_,h,_,_=>by simp at h
 | _::_,[],_,_,_,_,h,_=>by simp at h
 | p::P,w::vs,0,m,nd,h1,h2,hk=>by
  simp at h1 h2; subst h1; subst h2;show bindC kindOf ((p,w)::P.zip vs) m p=_;unfold bindC;rw [Io fun v hv=>(List.nodup_cons.mp nd).1 (List.of_mem_zip hv).1,if_neg hk];simp
 | p::P,w::vs,i+1,m,nd,h1,h2,hk=>by
  show bindC kindOf ((p,w)::P.zip vs) m x=_;unfold bindC;exact Ik (i:=i) (List.nodup_cons.mp nd).2 (by simpa using h1) (by simpa using h2) hk
def start (N:List Str) (vs:List V):St:=vs.map some++List.replicate (N.length - vs.length) none
noncomputable def Hl (CX:CXT) (P:Program) (w:World) (K:PySem.W.Frag) (mg:Str->Option Value) (base:Heap) (N:List Str) (qual:Str) (scope:Scope) (f:Addr) (cd:Value) (A:Around) (outer:List Env) (s:Shared) (H:Hp) (E:XK):Cx where
 prog:=P
 w:=w
 K:=K
 mg:=mg
 base:=base
 A:=A.deeper (envOfC qual scope s.heap.objs.size f cd)
 N:=N
 s₀:=s
 H₀:=H
 env:=envOfC qual scope s.heap.objs.size f cd
 outer:=outer
 stack:=envOfC qual scope s.heap.objs.size f cd::outer
 ex:=[]
 calm:=true
 fn:=fun _=>true
 pn:=[]
 xe:=fun e s'=>wpAny (model P w) (A.deeper (envOfC qual scope s.heap.objs.size f cd)) (leaving (envOfC qual scope s.heap.objs.size f cd) e) (fun _ cJ=>CX outer H s E e cJ) (fun e' cJ=>CX outer H s E e' cJ) s'
theorem Lf {sc:Scope} {n:Nat} {x:Str} (h:sc.names.lookup x=some .cell):∃ c,(cellsFrom n sc.names []).lookup x=some c:=by
 have q:=PySem.W.cellsFrom_some sc.names n [] (.inl h);exact Option.isSome_iff_exists.mp q
theorem Rj {CX:CXT} {P:Program} {w:World} {K:PySem.W.Frag} {mg:Str->Option Value} {base:Heap} {N ps:List Str} {qual:Str} {scope:Scope} {f:Addr} {cd:Value} {A:Around} {outer:List Env} {s s1:Shared} {H:Hp} {E:XK} {us:List Value} {vs:List V}
  (S:rm N ps scope) (hd:A.handled=none) (e0:Xu P w K mg base A outer s H) (hl:vs.length=ps.length) (r:Vals vs us)
  (x:InCallC s s.heap.objs.size (bindL (envOfC qual scope s.heap.objs.size f cd).kindOf (ps.zip us) fun _=>none) (cellsFrom (s.heap.objs.size+1) scope.names []) (bindC (envOfC qual scope s.heap.objs.size f cd).kindOf (ps.zip us) fun _=>none) s1) :
  Inv (Hl CX P w K mg base N qual scope f cd A outer s H E) [] (start N vs) H s1:=by
 have aL:ps.length<=N.length:=by have:=congrArg List.length S.pre; rw [List.length_take] at this; omega
 obtain ⟨h1,tk,rfl,hk⟩:=x.done;have cW:∀ b:Addr,b∉(Hl CX P w K mg base N qual scope f cd A outer s H E).ex:=fun b z=>absurd (show b∈([]:List Addr) from z) (by simp)
 refine ⟨⟨e0.mod,S.kind,rfl,rfl,Nat.le_refl _,fun y z c h1 h2=>?_,fun y hy=>?_,fun y c _ h=>?_,fun _=>hd,Around.frames_deeper e0.frames,.inr ⟨rfl,rfl⟩,fun b z=>absurd z (cW b),e0.bs,e0.bsz,fun b _ _=>cW b,fun b z=>absurd z (cW b),e0.Ov,e0.frf⟩,
  rfl,e0.bare,Un.kept hk,⟨_,x.toInCall.ns,fun i y v h1 h2 h3=>?_⟩,fun y c h=>⟨_,x.cell y c h⟩,e0.hok.fresh (Nat.le_refl _),fun y c h=>?_,fun p hp=>absurd (show p∈([]:List (Addr × Obj)) from hp) (by simp),e0.hok.kept hk,?_⟩
 ·exact name_of_addr x.apart (PySem.mem_of_lookup h1) (PySem.mem_of_lookup h2)
 ·have hy:scope.names.lookup y=some .cell\/scope.names.lookup y=some .free:=hy;rcases hy with hy | hy
  ·exact Lf hy
  ·exact absurd rfl (S.nofree _ (PySem.mem_of_lookup hy))
 ·exact Nat.le_of_lt (x.above y c (PySem.mem_of_lookup h))
 ·have hi:i<vs.length:=by
   unfold start at h2
   by_cases hi:i<vs.length
   ·exact hi
   ·rw [List.getElem?_append_right (by simpa using hi)] at h2;rw [List.getElem?_replicate] at h2;split at h2 <;> cases h2
  have ha:vs[i]? = some v:=by
   unfold start at h2;rw [List.getElem?_append_left (by simpa using hi),List.getElem?_map] at h2;cases e:vs[i]? with
   | none=>rw [e] at h2; cases h2
   | some a=>rw [e] at h2; cases h2; rfl
  obtain ⟨u,hu,rv⟩:=r.get ha
  have hp:ps[i]? = some y:=by
   rw [<- S.pre,List.getElem?_take_of_lt (by omega)]; exact h1
  have ed:ps.Nodup:=by rw [<- S.pre]; exact S.nd.sublist (List.take_sublist _ _)
  refine ⟨u,rv,?_⟩;rcases S.par y (List.mem_of_getElem? hp) with k | k
  ·exact .inl ⟨k,Gu ed hp hu k⟩
  ·obtain ⟨c,e⟩:=Lf (n:=s.heap.objs.size+1) k;refine .inr ⟨.inl k,c,e,?_⟩;have q:=x.cell y c e;rw [Ik ed hp hu (by show scope.names.lookup y≠_; rw [k]; decide)] at q;exact q
 ·exact e0.hok.fresh (Nat.le_of_lt (x.above y c (PySem.mem_of_lookup h)))
 ·unfold start;show _=N.length;rw [List.length_append,List.length_map,List.length_replicate];omega
theorem Zw {CX:CXT} {P:Program} {w:World} {K:PySem.W.Frag} {mg:Str->Option Value} {base:Heap} {k:Nat} {f:Addr} {name qual:Str} {params:Arguments} {body:List Stmt} {scope:Scope} {dV kV doc pm aB ct oc:Value} {an od:Option Addr}
  {bF:Array (Option Value)} {N ps:List Str} {sp:Sp} (lk:K.lookup f=some ⟨oc,od,.func (PySem.W.fnOf name qual params body scope dV kV doc pm an aB ct),bF⟩) (bq:PySem.W.codeIn K aB qual=true) (S:rm N ps scope)
  (len:∀ vs H Q E,sp vs H Q E->vs.length=ps.length)
  (bP:∀ (A:Around) (outer:List Env) (s:Shared) (H:Hp) (vs:List V) (Q:VK) (E:XK),uf k (A.deeper (envOfC qual scope s.heap.objs.size f aB))->sp vs H Q E ->
   ∃ t,PSs (Hl CX P w K mg base N qual scope f aB A outer s H E) body t/\t { nx:=fun _ H'=>Q .non H',rt:=Q } (start N vs) H) :
  ur P w K mg base CX (k+1) f (PySem.W.fnOf name qual params body scope dV kV doc pm an aB ct) ps sp:=by
 refine ⟨len,fun A outer s H args us vs Q E hr e0 hb r cb=>?_⟩;have hl:=len _ _ _ _ cb;have KX:K.In s.heap:=e0.mod.kin.keeps fun b o e=>(e0.bs b o e).1;have lim:s.heap.NoLimit:=e0.mod.nolimit.keeps fun b o e=>(e0.bs b o e).1
 have cK:∀ y∈ps.zip us,scope.names.lookup y.1=some .local\/(scope.names.lookup y.1=some .cell/\((cellsFrom (s.heap.objs.size+1) scope.names []).lookup y.1).isSome=true):=fun ⟨n,v⟩ hy=>by
  rcases S.par n (List.of_mem_zip hy).1 with q | q
  ·exact .inl q
  ·exact .inr ⟨q,PySem.W.cellsFrom_some _ _ _ (.inl q)⟩
 refine codeAny_call_function hr.depth (KX _ _ lk) rfl S.co S.gen rfl (PySem.W.codeRec_of KX bq) (hb _ _ _ _ ?_);refine wpAny_newFunctionEnv_cells S.kind cK fun env he s1 x=>?_;subst he;refine ⟨lim.keeps x.toInCall.keep,codeAny_func ?_⟩;obtain ⟨t,ht,hq⟩:=bP A outer s H vs Q E (hr.deeper _) cb;have I:Inv (Hl CX P w K mg base N qual scope f aB A outer s H E) [] (start N vs) H s1:=Rj S hr.hd e0 hl r x;refine wpAny_mono (ht [] s1 (start N vs) H _ I hq) (fun fl s' hs=>?_) fun e s' hs=>hs
 have fin:∀ {af:St} {H':Hp} {v:V} {u:Value},Inv (Hl CX P w K mg base N qual scope f aB A outer s H E) [] af H' s'->RelV v u->Q v H'->CE outer P w H s Q u s' :=
  fun {af H' v u} J rv q=>⟨v,H',J.os,J.bare,J.base,J.hok,rv,q⟩
 cases fl with
 | ret u =>
  obtain ⟨v,af,H',J,rv,q⟩:=hs;exact fin J rv q
 | next =>
  obtain ⟨af,H',J,q⟩:=hs;exact fin (v:=V.non) (u:=Value.none) J rfl q
 | brk =>
  obtain ⟨_,_,_,q⟩:=hs;exact False.elim q
 | cont =>
  obtain ⟨_,_,_,q⟩:=hs;exact False.elim q
end L2
namespace L2
open PySem PySem.Spec PyProof.Rows
section
variable {X:Cx} {x:Str} {p pos:Pos} {e:Expr} {es:List Expr} {t:TA} {id T:String} {r:List V->Hp->VK->Prop}
def tCB (r:List V->Hp->VK->Prop) (t:TA):TE:=fun σ H Q=>t σ H fun vs H1=>r vs H1 Q
theorem gk (hc:Bp X (.builtin id) r) (hg:Gl X x) (hm:X.mg x=none) (hv:bootBuiltins x=some (.builtin id)) (ha:PA X (e::es) t) (hn:x ≠ "__name__" := by decide) (aW:(x==("__debug__" : Str))=false:=by decide)
  (he:starEach (e::es) X.env=(false,eval e X.env)::starEach es X.env:=by rfl) (aL:(backTo pos (starEach es X.env)).any (·.1)=false:=by rfl):PE X (.Call (.Name x p) (e::es) [] pos) (tCB r t):=by
 intro pins s σ H Q I h;refine wpAny_Call_Name_kw (Ek I hg hm hv ?_ hn aW);exact PyProof.Rows.callWith_builtin1 (thn (ha pos pins s σ H _ I h) fun us s1 z7=>by obtain ⟨vs,H1,I1,r1,q1⟩:=z7; exact hc pins s1 σ H1 vs us Q I1 r1 q1) he aL
theorem gn (hc:Bp X (.type T) r) (hg:Gl X x) (hm:X.mg x=none) (hv:bootBuiltins x=some (.type T)) (ha:PA X (e::es) t) (hn:x ≠ "__name__" := by decide) (aW:(x==("__debug__" : Str))=false:=by decide)
  (he:starEach (e::es) X.env=(false,eval e X.env)::starEach es X.env:=by rfl) (aL:(backTo pos (starEach es X.env)).any (·.1)=false:=by rfl):PE X (.Call (.Name x p) (e::es) [] pos) (tCB r t):=by
 intro pins s σ H Q I h;refine wpAny_Call_Name_kw (Ek I hg hm hv ?_ hn aW);exact PyProof.Rows.callWith_type1 (thn (ha pos pins s σ H _ I h) fun us s1 z7=>by obtain ⟨vs,H1,I1,r1,q1⟩:=z7; exact hc pins s1 σ H1 vs us Q I1 r1 q1) he aL
end
end L2
end
section
namespace HT
open PySem PyProof.Rows
section
open PySem.SeqAt
open PySem.AutoSeq1 (wpAny_loadPart')
open PySem.MeetsSeq PySem.MeetsSeq2 PySem.MeetsSeq3
end
section
variable {prog:Program} {w:World} {A:Around} {E:Value->Shared->Prop} {s:Shared}
theorem Yh {t b:Addr} {vs ws:List Value} {Q:Value->Shared->Prop} (ht:IsTup s.heap t vs.toArray) (hb:IsTup s.heap b ws.toArray) (hv:vs≠[])
  (h1:ws=[]->Q (.ref t) s) (h2:ws≠[]->Q (.ref s.heap.objs.size) { s with heap:=s.heap.push { cls:=.type "tuple",data:=.seq (vs++ws).toArray } })
  (bz:vs.length+ws.length<=sizeLine):wpAny (model prog w) A (binaryOp .Add (.ref t) (.ref b)) Q E s:=by
 obtain ⟨⟨cls,dd,data,sl⟩,ho,hc,n,hd⟩:=id ht;obtain ⟨⟨cls2,bG,data2,bJ⟩,ho2,hc2,n2,hd2⟩:=id hb;simp only at hc hd hc2 hd2;subst hc hd hc2 hd2;have e:vs.toArray++ws.toArray=(vs++ws).toArray:=by simp
 by_cases hw:ws=[]
 ·exact concat_meets ⟨_,ho,rfl⟩ ⟨_,ho2,rfl⟩ noFill_tuple_add seq_tuple_add PySem.F.slot_tuple_add PySem.F.entry_tuple_add (PySem.F.args_tuple_add_2 _ _)
   (tuple_addW1 t b vs.toArray ws.toArray n n2 dd bG sl bJ (by simpa using hv) (by simp [hw])) ⟨ho,ho2,h1 hw⟩
 ·refine concat_meets ⟨_,ho,rfl⟩ ⟨_,ho2,rfl⟩ noFill_tuple_add seq_tuple_add PySem.F.slot_tuple_add PySem.F.entry_tuple_add (PySem.F.args_tuple_add_2 _ _)
   (tuple_addW2 t b vs.toArray ws.toArray n n2 dd bG sl bJ (by simpa using hv) (by simpa using hw) (by rw [List.size_toArray,List.size_toArray]; exact bz)) ⟨ho,ho2,?_⟩
  rw [e];exact h2 hw
noncomputable def sIx (n d:Nat):Option Int->Nat
 | none=>d
 | some v=>if v<0 then (v+(n:Int)).toNat else min v.toNat n
theorem a0n (n d:Nat) (hd:d<=n) (o:Option Int):sIx n d o<=n:=by
 cases o with
 | none=>exact hd
 | some v =>
  show (if v<0 then (v+(n:Int)).toNat else min v.toNat n)<=n
  by_cases hv:v<0
  ·rw [if_pos hv]; omega
  ·rw [if_neg hv]; exact Nat.min_le_right _ _
theorem Q6 (v:Int) (n d:Nat):(if v<0 then max (v+(n:Int)) 0 else min v (n:Int))=((sIx n d (some v):Nat):Int):=by
 show (if v<0 then max (v+(n:Int)) 0 else min v (n:Int))=(((if v<0 then (v+(n:Int)).toNat else min v.toNat n):Nat):Int)
 by_cases hv:v<0
 ·simp only [if_pos hv]; omega
 ·simp only [if_neg hv]; omega
theorem Nh (lo hi:Option Int) (n:Nat):Builtin.Slice.sliceAdjust lo hi 1 (n:Int)=(((sIx n 0 lo:Nat):Int),((sIx n n hi:Nat):Int)):=by
 have h1:¬ ((1:Int)<0):=by omega
 unfold Builtin.Slice.sliceAdjust;simp only [h1,if_false];refine Prod.ext ?_ ?_
 ·cases lo with
  | none=>rfl
  | some v=>exact Q6 v n 0
 ·cases hi with
  | none=>rfl
  | some v=>exact Q6 v n n
theorem O5 (i j:Nat):Builtin.Slice.slicePlaces (i:Int) (j:Int) 1=j - i:=by
 unfold Builtin.Slice.slicePlaces;have h1:(1:Int) > 0:=by omega
 simp only [h1,if_true,Int.ediv_one];split <;> omega
theorem uc {v:Value} {o:Option Int} {Q:Option Int->Shared->Prop} (p:IsPart v o) (h:Q o s):wpAny (model prog w) A (Builtin.Slice.slicePartIndex v) Q E s:=by
 cases p with
 | none=>exact slicePart_none h
 | int i t=>exact slicePart_int h
theorem uq {sl:Addr} {vl vu:Value} {lo hi:Option Int} {n:Nat} {Q:Int × Int × Nat->Shared->Prop} (hs:s.heap.IsSliceOf sl vl vu .none) (pl:IsPart vl lo) (pu:IsPart vu hi)
  (h:Q (((sIx n 0 lo:Nat):Int),1,sIx n n hi - sIx n 0 lo) s):wpAny (model prog w) A (Builtin.Slice.sliceApplied (.ref sl) (pure (n:Int))) Q E s:=by
 obtain ⟨os,b7,hcs,hds⟩:=id hs;unfold Builtin.Slice.sliceApplied Builtin.Slice.sliceFields;refine wpAny_bind (wpAny_bind (wpAny_field b7 hds (x:=vl) rfl (wpAny_bind (wpAny_field b7 hds (x:=vu) rfl (wpAny_bind (wpAny_field b7 hds (x:=.none) rfl (wpAny_pure ?_)))))));refine wpAny_bind (slicePart_none ?_);show wpAny _ _ (if ((1:Int)==0)=true then _ else _) _ _ s;rw [if_neg (by decide)];refine wpAny_bind (uc pl (wpAny_bind (uc pu (wpAny_bind (wpAny_pure ?_)))));show wpAny _ _ (match Builtin.Slice.sliceAdjust lo hi 1 (n:Int) with | (lo,hi)=>pure (lo,(1:Int),Builtin.Slice.slicePlaces lo hi 1)) _ _ s;rw [Nh lo hi n];show wpAny _ _ (pure (((sIx n 0 lo:Nat):Int),(1:Int),Builtin.Slice.slicePlaces ((sIx n 0 lo:Nat):Int) ((sIx n n hi:Nat):Int) 1)) _ _ s;rw [O5];exact wpAny_pure h
theorem Vk (xs:Array Value) (i k:Nat):((List.range k).filterMap fun (m:Nat)=>xs[((i:Int)+(m:Int) * 1).toNat]?).toArray=((xs.toList.drop i).take k).toArray:=by
 have e:(fun (m:Nat)=>xs[((i:Int)+(m:Int) * 1).toNat]?)=fun m=>xs[i+m]?:=by
  funext m;have:((i:Int)+(m:Int) * 1).toNat=i+m:=by omega
  rw [this]
 rw [e];have:=pick_run xs i k;rw [List.filterMap_map] at this;have e2:((fun x=>xs[x]?) ∘ fun x=>i+x)=fun m=>xs[i+m]?:=rfl;rw [e2] at this;rw [this]
theorem Ag {t sl:Addr} {items:Array Value} {vl vu:Value} {lo hi:Option Int} {Q:Value->Shared->Prop} (ht:IsTup s.heap t items) (hs:s.heap.IsSliceOf sl vl vu .none) (pl:IsPart vl lo) (pu:IsPart vu hi)
  (hw:¬ (sIx items.size 0 lo=0/\sIx items.size items.size hi=items.size))
  (h:Q (.ref s.heap.objs.size) { s with heap:=s.heap.push { cls:=.type "tuple",data:=.seq ((items.toList.drop (sIx items.size 0 lo)).take (sIx items.size items.size hi - sIx items.size 0 lo)).toArray } })
  (bz:items.size<=sizeLine):wpAny (model prog w) A (getItem (.ref t) (.ref sl)) Q E s:=by
 have bH:sizeOk (.seq ((items.toList.drop (sIx items.size 0 lo)).take (sIx items.size items.size hi - sIx items.size 0 lo)).toArray):=by
  show ((items.toList.drop (sIx items.size 0 lo)).take (sIx items.size items.size hi - sIx items.size 0 lo)).toArray.size<=sizeLine;rw [List.size_toArray,List.length_take,List.length_drop,Array.length_toList];omega
 have hj:sIx items.size items.size hi<=items.size:=a0n _ _ (Nat.le_refl _) hi;obtain ⟨os,b7,hcs,hds⟩:=id hs;have dS:s.TypeIs (.ref sl) "slice" := ⟨os,b7,hcs⟩;unfold getItem
 try with_reducible refine wpAny_holding ?_
 first | refine wpAny_bind (wpAny_pure ?_) | skip
 refine wpAny_bind (wpAny_sequenceKey ht.typeIs (by decide) ?_)
 refine wpAny_bind (wpAny_callSpecial?_slot (name:=Str.ofString "__getitem__") ht.typeIs PyProof.Rows.slot_tuple_getitem
  (wpAny_call_entry PyProof.Rows.slot_tuple_getitem ht.typeIs entry_tuple_getitem ?_ (args_tuple_getitem _ _)))
 show wpAny _ _ (Builtin.Tuple.tupleItemsOf (.ref t) >>= _) _ _ s;refine wpAny_bind (tupleItemsOf_ ht ?_);refine wpAny_bind (wpAny_typeOf dS ?_);rw [if_pos (by decide)];refine wpAny_bind (uq hs pl pu ?_)
 have b4:¬ ((((sIx items.size 0 lo:Nat):Int)==0&&(1:Int)==1&&(sIx items.size items.size hi - sIx items.size 0 lo)==items.size)=true):=by
  intro q;rw [Bool.and_eq_true,Bool.and_eq_true] at q;have q1:((sIx items.size 0 lo:Nat):Int)=0:=eq_of_beq q.1.1;have q2:sIx items.size items.size hi - sIx items.size 0 lo=items.size:=eq_of_beq q.2;exact hw ⟨by omega,by omega⟩
 show wpAny _ _ (if (((sIx items.size 0 lo:Nat):Int)==0&&(1:Int)==1&&(sIx items.size items.size hi - sIx items.size 0 lo)==items.size)=true then _ else _) _ _ s;rw [if_neg b4,Vk]
 first
  | exact wpAny_bind (m:=Builtin.Tuple.tupleExact _) (wpAny_newObj_type (wpAny_pure ⟨_,rfl,wpAny_pure h⟩) bH)
  | exact wpAny_bind (m:=Builtin.Tuple.tupleExact _) (wpAny_newObj_type (wpAny_bind (wpAny_pure (wpAny_pure ⟨_,rfl,wpAny_pure h⟩))) bH)
  | exact wpAny_bind (wpAny_bind (m:=Builtin.Tuple.tupleExact _) (wpAny_newObj_type (wpAny_pure (wpAny_pure ⟨_,rfl,wpAny_pure h⟩)) bH))
  | exact wpAny_bind (wpAny_bind (m:=Builtin.Tuple.tupleExact _) (wpAny_newObj_type (wpAny_pure ⟨_,rfl,wpAny_pure h⟩) bH))
end
end HT
namespace L2
open PySem PySem.Spec PyProof.Rows
abbrev TO:=St->Hp->(Option Int->Hp->Prop)->Prop
def PO (X:Cx) (e:Option Expr) (t:TO):Prop :=
 ∀ (pins:List (Addr × Obj)) (s:Shared) (σ:St) (H:Hp) (Q:Option Int->Hp->Prop),Inv X pins σ H s->t σ H Q ->
  wpAny (model X.prog X.w) X.A (evalPart e X.env) (fun u s'=>∃ o H',Inv X pins σ H' s'/\IsPart u o/\Q o H') X.xe s
def Yz:TO:=fun _ H Q=>Q none H
def a3h (t:TE):TO:=fun σ H Q=>t σ H fun x H1=>∃ i,x=.int i/\Q (some i) H1
section
variable {X:Cx} {e:Expr} {te:TE} {lo hi:Option Expr} {tl th:TO} {pos p2:Pos}
theorem Xy:PO X none Yz:=by
 intro pins s σ H Q I h;rw [evalPart_none];exact wpAny_pure ⟨none,H,I,.none,h⟩
theorem Ye (h:PE X e te):PO X (some e) (a3h te):=by
 intro pins s σ H Q I hw;rw [evalPart_some];refine thn (h pins s σ H _ I hw) fun u s1 z0=>?_;obtain ⟨x,H1,I1,r1,q1⟩:=z0;obtain ⟨i,rfl,q⟩:=q1;obtain ⟨t,rfl⟩:=r1;exact ⟨some i,H1,I1,.int i t,q⟩
def SlR (X:Cx) (r:V->Option Int->Option Int->Hp->VK->Prop):Prop :=
 ∀ (pins:List (Addr × Obj)) (s:Shared) (σ:St) (H:Hp) (x:V) (v vl vu:Value) (lo hi:Option Int) (sl:Addr) (Q:VK),Inv X pins σ H s->RelV x v->s.heap.IsSliceOf sl vl vu .none->IsPart vl lo->IsPart vu hi->r x lo hi H Q ->
  ∃ T id,typeLookup (.type T) "__getitem__" = pure (some (.builtin id))/\s.TypeIs v T/\wpAny (model X.prog X.w) X.A (getItem v (.ref sl)) (EP X pins σ Q) X.xe s
theorem SlR.or {r r':V->Option Int->Option Int->Hp->VK->Prop} (h:SlR X r) (h':SlR X r'):SlR X (fun x lo hi H Q=>r x lo hi H Q\/r' x lo hi H Q):=by
 intro pins s σ H x v vl vu lo hi sl Q I rx hs pl pu q;rcases q with q | q
 ·exact h pins s σ H x v vl vu lo hi sl Q I rx hs pl pu q
 ·exact h' pins s σ H x v vl vu lo hi sl Q I rx hs pl pu q
def tSl (r:V->Option Int->Option Int->Hp->VK->Prop) (te:TE) (tl th:TO):TE:=fun σ H Q=>te σ H fun x H1=>tl σ H1 fun l H2=>th σ H2 fun u H3=>r x l u H3 Q
theorem Bl {r:V->Option Int->Option Int->Hp->VK->Prop} (hr:SlR X r) (he:PE X e te) (hl:PO X lo tl) (hu:PO X hi th):PE X (.Subscript e (.Slice lo hi none p2) pos) (tSl r te tl th):=by
 intro pins s σ H Q I h;refine Subscript_ (thn (he pins s σ H _ I h) fun v s1 z0=>?_);obtain ⟨x,H1,I1,r1,q1⟩:=z0;refine wpAny_Slice (thn (hl pins s1 σ H1 _ I1 q1) fun vl s2 ⟨l,H2,I2,pl,q2⟩=>thn (hu pins s2 σ H2 _ I2 q2) fun vu s3 ⟨u,H3,I3,pu,q3⟩=>?_);rw [evalPart_none];refine wpAny_pure ?_;have I4:Inv X pins σ H3 { s3 with heap:=s3.heap.push { cls:=.type "slice",data:=.fields #[vl,vu,.none] } }:=I3.kept (t':=s3.toks) fun b ob q=>Heap.get?_push_of_some _ q;obtain ⟨T,id,hT,ht,hg⟩:=hr pins { s3 with heap:=s3.heap.push { cls:=.type "slice",data:=.fields #[vl,vu,.none] } } σ H3 x v vl vu l u s3.heap.objs.size Q I4 r1 (Heap.IsSliceOf.new ..) pl pu q3;show wpAny (model X.prog X.w) X.A (subscriptTail e (.Slice lo hi none p2) v (.ref s3.heap.objs.size)) (EP X pins σ Q) X.xe { s3 with heap:=s3.heap.push { cls:=.type "slice",data:=.fields #[vl,vu,.none] } };exact tail_any (ops:=[.ref s3.heap.objs.size,v]) ht hT hg (by with_unfolding_all rfl)
noncomputable def Qa (xs:List V) (lo hi:Option Int):List V:=(xs.drop (HT.sIx xs.length 0 lo)).take (HT.sIx xs.length xs.length hi - HT.sIx xs.length 0 lo)
theorem Bx (xs:List V) (lo hi:Option Int):(Qa xs lo hi).length<=xs.length:=by
 unfold Qa;rw [List.length_take,List.length_drop];omega
def a6r (K:PySem.W.Frag):V->Option Int->Option Int->Hp->VK->Prop:=fun x lo hi H Q=>∃ a xs,x=.ref a/\SqT K H a xs /\
 ¬ (HT.sIx xs.length 0 lo=0/\HT.sIx xs.length xs.length hi=xs.length)/\∀ p,H p=none->Q (.ref p) (upd H p (.tup (Qa xs lo hi)))
theorem Wv:SlR X (a6r X.K):=by
 intro pins s σ H x v vl vu lo hi sl Q I rx hs pl pu h;obtain ⟨a,xs,rfl,hx,hw,q⟩:=h;cases rx;obtain ⟨its,r,ht,hz⟩:=I.tuple hx;have hlen:its.toArray.size=xs.length:=by rw [List.size_toArray]; exact r.length.symm
 refine ⟨"tuple",_,PyProof.Rows.slot_tuple_getitem.lookup,ht.typeIs,?_⟩;refine HT.Ag ht hs pl pu (by rw [hlen]; exact hw) ?_ (by rw [hlen]; exact hz);rw [hlen];refine ⟨.ref s.heap.objs.size,_,I.laid (t':=s.toks) (o:=.tup (Qa xs lo hi)) (fun b ob q=>Heap.get?_push_of_some _ q) (Nat.le_refl _) ?_,rfl,q _ (I.hok.fresh (Nat.le_refl _))⟩;exact ⟨Nat.le_trans (Bx xs lo hi) hz,_,(r.drop (HT.sIx xs.length 0 lo)).take (HT.sIx xs.length xs.length hi - HT.sIx xs.length 0 lo),Ug.new _ _⟩
noncomputable def a3i (K:PySem.W.Frag):R2:=fun x y H Q=>∃ a b xs ys,x=.ref a/\y=.ref b/\SqT K H a xs/\SqT K H b ys/\xs≠[]/\xs.length+ys.length<=sizeLine /\
 (ys=[]->Q (.ref a) H)/\(ys≠[]->∀ p,H p=none->Q (.ref p) (upd H p (.tup (xs++ys))))
theorem Vals.Kd {xs:List V} {us:List Value} (r:Vals xs us):us=[]↔xs=[]:=by
 cases r with
 | nil=>simp
 | cons _ _=>simp
theorem Xr:OpR X (binaryOp .Add) (a3i X.K):=by
 intro pins s σ H x y v u Q I rx ry h;obtain ⟨a,b,xs,ys,rfl,rfl,ha,hb,hx,hz,q1,q2⟩:=h;cases rx;cases ry;obtain ⟨its,r1,p1,_⟩:=I.tuple ha;obtain ⟨aC,r2,p2,_⟩:=I.tuple hb;refine HT.Yh p1 p2 (fun z=>hx (r1.Kd.mp z)) (fun z=>⟨.ref a,H,I,rfl,q1 (r2.Kd.mp z)⟩) (fun z=>?_) (by rw [<- r1.length,<- r2.length]; exact hz);refine ⟨.ref s.heap.objs.size,_,I.laid (t':=s.toks) (o:=.tup (xs++ys)) (fun b ob q=>Heap.get?_push_of_some _ q) (Nat.le_refl _) ?_,rfl,q2 (fun w=>z (r2.Kd.mpr w)) _ (I.hok.fresh (Nat.le_refl _))⟩;exact ⟨by rw [List.length_append]; exact hz,_,r1.append r2,Ug.new _ _⟩
end
end L2
namespace L2
open PySem PySem.Spec PyProof.Rows
noncomputable def ixN (n:Nat) (i:Int):Option Nat:=if 0<=i then (if i<n then some i.toNat else none) else if -(n:Int)<=i then some (i+n).toNat else none
def atI {α:Type} (xs:List α) (i:Int):Option α:=(ixN xs.length i).bind fun j=>xs[j]?
theorem Qk {n:Nat} {i:Int} {j:Nat} (h:ixN n i=some j):seqIndex? i n=some j/\j<n/\-(n:Int)<=i/\i<n:=by
 unfold ixN at h
 by_cases h0:0<=i
 ·rw [if_pos h0] at h
  by_cases h1:i<n
  ·rw [if_pos h1] at h;have e:i.toNat=j:=Option.some.inj h;exact ⟨by rw [seqIndex_of h0 h1,e],by omega,by omega,h1⟩
  ·rw [if_neg h1] at h; cases h
 ·rw [if_neg h0] at h
  by_cases h1:-(n:Int)<=i
  ·rw [if_pos h1] at h;have e:(i+n).toNat=j:=Option.some.inj h;exact ⟨by rw [seqIndex_neg (by omega) h1,e],by omega,h1,by omega⟩
  ·rw [if_neg h1] at h; cases h
theorem J9 {α:Type} {xs:List α} {i:Int} {v:α} (h:atI xs i=some v):∃ j,seqIndex? i xs.length=some j/\xs[j]? = some v/\j<xs.length/\-(xs.length:Int)<=i/\i<xs.length:=by
 unfold atI at h;cases e:ixN xs.length i with
 | none=>rw [e] at h; cases h
 | some j =>
  rw [e] at h;obtain ⟨h1,h2,h3,h4⟩:=Qk e;exact ⟨j,h1,h,h2,h3,h4⟩
def Ft (b:Expr):Prop:=∀ o i,subscripted b false o i=operate [o,i] (getItem o i)
def IxR (X:Cx) (r:R2):Prop :=
 ∀ (value slice:Expr) (pins:List (Addr × Obj)) (s:Shared) (σ:St) (H:Hp) (x y:V) (v u:Value) (Q:VK),Inv X pins σ H s->RelV x v->RelV y u->r x y H Q ->
  subscripted slice false v u=operate [v,u] (getItem v u)->wpAny (model X.prog X.w) X.A (subscriptTail value slice v u) (EP X pins σ Q) X.xe s
def MtR (X:Cx) (id:String) (r:V->List V->Hp->VK->Prop):Prop :=
 ∀ (pins:List (Addr × Obj)) (s:Shared) (σ:St) (H:Hp) (x:V) (xs:List V) (v:Value) (us:List Value) (Q:VK),Inv X pins σ H s->RelV x v->Vals xs us->r x xs H Q ->
  wpAny (model X.prog X.w) X.A (call (.builtin id) (v::us)) (EP X pins σ Q) X.xe s
section
variable {X:Cx} {a b:Expr} {ta tb:TE} {pos:Pos}
theorem Xz {r:R2} (hr:IxR X r) (ha:PE X a ta) (hb:PE X b tb) (hs:Ft b):PE X (.Subscript a b pos) (tOp r ta tb):=by
 intro pins s σ H Q I h;exact Subscript_ (a4t ha hb I h fun v u s2 x y H2 I2 rx ry q=>hr a b pins s2 σ H2 x y v u Q I2 rx ry q (hs _ _))
noncomputable def a6o (K:PySem.W.Frag):R2:=fun x y H Q=>∃ p xs i v,x=.ref p/\y=.int i/\SqL K H p xs/\atI xs i=some v/\Q v H
noncomputable def a5w (K:PySem.W.Frag):R2:=fun x y H Q=>∃ p xs i v,x=.ref p/\y=.int i/\SqT K H p xs/\atI xs i=some v/\Q v H
noncomputable def a5z:R2:=fun x y H Q=>∃ z i c,x=.str z/\y=.int i/\z.length<=sizeLine/\atI z.cps.toList i=some c/\Q (.str ⟨#[c]⟩) H
theorem Jl:IxR X (a6o X.K):=by
 intro value slice pins s σ H x y v u Q I rx ry h hs;obtain ⟨p,xs,i,z,rfl,rfl,hq,he,q⟩:=h;cases rx;obtain ⟨t,rfl⟩:=ry;obtain ⟨its,r,pl,hz⟩:=I.list hq;obtain ⟨j,h1,h2,h3,h4,h5⟩:=J9 he;obtain ⟨w,ew,rw'⟩:=r.get h2;have hl:=r.length;have hn:=Eb;have fin:EP X pins σ Q w s:=⟨z,H,I,rw',q⟩
 by_cases h0:0<=i
 ·have hj:i.toNat=j:=by
   rw [seqIndex_of h0 h5] at h1;exact Option.some.inj h1
  exact item_listR pl.isList h0 (by omega) (by rw [hj]; simpa using ew) fin hs
 ·have hj:(i+(its.toArray.size:Int)).toNat=j:=by
   rw [seqIndex_neg (by omega) h4] at h1;rw [List.size_toArray,<- hl];exact Option.some.inj h1
  exact subscriptTail_builtinR (x:=w) pl.isList.typeIs slot_list_getitem.lookup
   (wpAny_getItem_list_neg (Q:=fun r s'=>r=w/\EP X pins σ Q r s') pl.isList (by omega) (by rw [List.size_toArray] <;> omega) (by omega) (by rw [hj]; simpa using ew) ⟨rfl,fin⟩) hs
theorem a0z:IxR X (a5w X.K):=by
 intro value slice pins s σ H x y v u Q I rx ry h hs;obtain ⟨p,xs,i,z,rfl,rfl,hq,he,q⟩:=h;cases rx;obtain ⟨t,rfl⟩:=ry;obtain ⟨its,r,pl,hz⟩:=I.tuple hq;obtain ⟨j,h1,h2,h3,h4,h5⟩:=J9 he;obtain ⟨w,ew,rw'⟩:=r.get h2;have hl:=r.length;have hn:=Eb;have fin:EP X pins σ Q w s:=⟨z,H,I,rw',q⟩
 exact subscriptTail_builtinR (x:=w) pl.typeIs slot_tuple_getitem.lookup
  (getItem_tuple (j:=j) (Q:=fun r s'=>r=w/\EP X pins σ Q r s') pl (by omega) (by omega) (by rw [List.size_toArray,<- hl]; exact h1) (by simpa using ew) ⟨rfl,fin⟩) hs
theorem a0r:IxR X a5z:=by
 intro value slice pins s σ H x y v u Q I rx ry h hs;obtain ⟨z,i,c,rfl,rfl,hz,he,q⟩:=h;obtain ⟨t,rfl⟩:=rx;obtain ⟨t',rfl⟩:=ry;obtain ⟨j,h1,h2,h3,h4,h5⟩:=J9 he;have hl:z.cps.toList.length=z.length:=by simp [Str.length]
 rw [hl] at h1 h4 h5;have hn:=Eb
 exact tail_any (typeIs_str s z t) slot_str_getitem.lookup (getItem_str (c:=c) (by
  have e1:decide (i < -(2 ^ 63:Int))=false:=decide_eq_false (by omega);have e2:decide (i >= 2 ^ 63)=false:=decide_eq_false (by omega);rw [e1,e2,Bool.or_false]) (by rw [h1]; simpa using h2) ⟨.str ⟨#[c]⟩,H,I.tok _,⟨_,rfl⟩,q⟩) hs
theorem Nb (its:List Value) (n j:Nat) (u:Value):Obj.mapSeq (·.setIfInBounds j u) { cls:=.type "list",data:=.seq its.toArray n } = { cls:=.type "list",data:=.seq (its.set j u).toArray n }:=by
 simp [Obj.mapSeq]
theorem Inv.lst {pins:List (Addr × Obj)} {σ:St} {H:Hp} {s:Shared} {p:Addr} {xs:List V} (I:Inv X pins σ H s) (h:H p=some (.lst xs)) :
  ∃ (its:List Value) (n:Nat),Vals xs its/\s.heap.get? p=some { cls:=.type "list",data:=.seq its.toArray n }/\xs.length<=sizeLine:=by
 obtain ⟨z,its,n,r,e⟩:=I.hok p _ h;exact ⟨its,n,r,e,z⟩
theorem Inv.a1y {pins:List (Addr × Obj)} {σ:St} {H:Hp} {s:Shared} {p:Addr} {xs ys:List V} {its its':List Value} {n n':Nat} {f:Obj->Obj} (I:Inv X pins σ H s) (h:H p=some (.lst xs))
  (ho:s.heap.get? p=some { cls:=.type "list",data:=.seq its.toArray n }) (hf:f { cls:=.type "list",data:=.seq its.toArray n } = { cls:=.type "list",data:=.seq its'.toArray n' }) (r:Vals ys its') (hz:ys.length<=sizeLine) (t:Nat) :
  Inv X pins σ (upd H p (.lst ys)) { s with heap:=s.heap.update p f,toks:=t }:=by
 have e:(s.heap.update p f).get? p=some { cls:=.type "list",data:=.seq its'.toArray n' }:=by
  rw [Heap.get?_update_self f ho (by rw [hf] <;> rfl),hf]
 refine I.write (x:=p) (e:=p) (by rw [h]; trivial) (.inl rfl) (fun b u hb q=>(Heap.get?_update_other _ _ (Ne.symm hb)).trans q) ⟨_,e⟩ ?_;exact ⟨hz,its',n',r,e⟩
def a05:V->V->V->Hp->(Hp->Prop)->Prop:=fun o i v H Q=>∃ p xs k j,o=.ref p/\i=.int k/\H p=some (.lst xs)/\ixN xs.length k=some j/\Q (upd H p (.lst (xs.set j v)))
theorem set_list:a5o X a05:=by
 intro pins s σ H o i v ov iv u Q I ro ri rv h;obtain ⟨p,xs,k,j,rfl,rfl,hp,hj,q⟩:=h;cases ro;obtain ⟨t,rfl⟩:=ri;obtain ⟨its,n,r,ho,hz⟩:=I.lst hp;obtain ⟨h1,h2,h3,h4⟩:=Qk hj;have hl:=r.length;have hn:=Eb
 have I':Inv X pins σ (upd H p (.lst (xs.set j v))) { s with heap:=s.heap.update p (Obj.mapSeq (·.setIfInBounds j u)) } :=
  I.a1y hp ho (Nb its n j u) (r.set rv j) (by rw [List.length_set]; exact hz) s.toks
 by_cases h0:0<=k
 ·have hk:k.toNat=j:=by
   rw [seqIndex_of h0 h4] at h1;exact Option.some.inj h1
  exact PySem.W.ki_setAt ho h0 (by omega) (by rw [List.size_toArray,<- hl]; exact h4) (by rw [hk]; exact ⟨_,I',q⟩)
 ·have hk:(k+(its.toArray.size:Int)).toNat=j:=by
   rw [seqIndex_neg (by omega) h3] at h1;rw [List.size_toArray,<- hl];exact Option.some.inj h1
  exact PySem.W.ki_setBack ho (by omega) (by rw [List.size_toArray,<- hl]; exact h3) (by omega) (by rw [hk]; exact ⟨_,I',q⟩)
theorem Hv (lo hi:Option Int) (n:Nat):(sliceBounds lo hi none n).1=((HT.sIx n 0 lo:Nat):Int)/\(sliceBounds lo hi none n).2.1=((HT.sIx n n hi:Nat):Int)/\(sliceBounds lo hi none n).2.2=1:=by
 refine ⟨?_,?_,rfl⟩
 ·cases lo with
  | none=>simp [sliceBounds,HT.sIx]
  | some i =>
   simp only [sliceBounds,HT.sIx,Option.getD_none,show (1:Int) > 0 by decide,if_true]
   by_cases h:i<0
   ·simp only [h,if_true] <;> omega
   ·simp only [h,if_false] <;> omega
 ·cases hi with
  | none=>simp [sliceBounds,HT.sIx]
  | some i =>
   simp only [sliceBounds,HT.sIx,Option.getD_none,show (1:Int) > 0 by decide,if_true]
   by_cases h:i<0
   ·simp only [h,if_true] <;> omega
   ·simp only [h,if_false] <;> omega
theorem Eu (its:List Value) (lo hi:Option Int):slicePick its.toArray lo hi none=((its.drop (HT.sIx its.length 0 lo)).take (HT.sIx its.length its.length hi - HT.sIx its.length 0 lo)).toArray:=by
 obtain ⟨h1,h2,h3⟩:=Hv lo hi its.toArray.size;unfold slicePick;rw [h1,h2,h3];simp only [sliceRange_one,pick_run,List.size_toArray] <;> rfl
def a6h (K:PySem.W.Frag):V->Option Int->Option Int->Hp->VK->Prop:=fun x lo hi H Q=>∃ a xs,x=.ref a/\SqL K H a xs/\∀ p,H p=none->Q (.ref p) (upd H p (.lst (Qa xs lo hi)))
theorem Q5:SlR X (a6h X.K):=by
 intro pins s σ H x v vl vu lo hi sl Q I rx hs pl pu h;obtain ⟨a,xs,rfl,hx,q⟩:=h;cases rx;obtain ⟨its,r,ht,hz⟩:=I.list hx;have hlen:=r.length;refine ⟨"list",_,slot_list_getitem.lookup,ht.isList.typeIs,?_⟩;refine wpAny_getItem_list_slice ht.isList hs pl pu .none (by simp) ?_ (by rw [List.size_toArray] <;> omega);rw [Eu,<- hlen];refine ⟨.ref s.heap.objs.size,_,I.laid (t':=s.toks) (o:=.lst (Qa xs lo hi)) (fun b ob q=>Heap.get?_push_of_some _ q) (Nat.le_refl _) ?_,rfl,q _ (I.hok.fresh (Nat.le_refl _))⟩;exact ⟨Nat.le_trans (Bx xs lo hi) hz,_,0,(r.drop (HT.sIx xs.length 0 lo)).take (HT.sIx xs.length xs.length hi - HT.sIx xs.length 0 lo),Heap.get?_push_size _ rfl⟩
theorem qu:Bp X (.builtin "len") (fun xs H Q=>∃ p ys,xs=[.ref p]/\(SqL X.K H p ys\/SqT X.K H p ys)/\Q (.int ys.length) H):=by
 intro pins s σ H xs us Q I r h;obtain ⟨p,ys,rfl,hq,q⟩:=h;obtain ⟨u,rfl,rx⟩:=vals1 r;cases rx;have hn:=Eb;rcases hq with hq | hq
 ·obtain ⟨its,r',pl,hz⟩:=I.list hq;have hlen:=r'.length;exact Calls.call_len_list pl.isList (by simp only [List.size_toArray] <;> omega) ⟨.int ys.length,H,I.tok _,⟨s.toks+1,by rw [List.size_toArray,hlen]⟩,q⟩
 ·obtain ⟨its,r',pl,hz⟩:=I.tuple hq;have hlen:=r'.length;exact len_tuple pl (by simp only [List.size_toArray] <;> omega) ⟨.int ys.length,H,I.tok _,⟨s.toks+1,by rw [List.size_toArray,hlen]⟩,q⟩
theorem Hg:Bp X (.builtin "len") (fun xs H Q=>∃ z,xs=[.str z]/\z.length<=sizeLine/\Q (.int z.length) H):=by
 intro pins s σ H xs us Q I r h;obtain ⟨z,rfl,hz,q⟩:=h;obtain ⟨u,rfl,t,rfl⟩:=vals1 r;have hn:=Eb;exact len_str (by omega) ⟨.int z.length,H,I.tok _,⟨_,rfl⟩,q⟩
theorem Ba:Bp X (.type "list") (fun xs H Q=>∃ p ys,xs=[.ref p]/\(SqL X.K H p ys\/SqT X.K H p ys)/\∀ l,H l=none->Q (.ref l) (upd H l (.lst ys))):=by
 intro pins s σ H xs us Q I r h;obtain ⟨p,ys,rfl,hq,q⟩:=h;obtain ⟨u,rfl,rx⟩:=vals1 r;cases rx
 have fin:∀ (its:List Value),Vals ys its->ys.length<=sizeLine->∀ (h':Heap) (c':Nat),(∀ b o',s.heap.get? b=some o'->h'.get? b=some o') ->
   h'.get? s.heap.objs.size=some { cls:=.type "list",dict:=none,data:=.seq its.toArray c',slots:=#[] }->EP X pins σ Q (.ref s.heap.objs.size) { s with heap:=h' }:=fun its r' hz h' c' kp e =>
  ⟨.ref s.heap.objs.size,_,I.laid (t':=s.toks) kp (Nat.le_refl _) (show mz X.prog X.w _ h' _ (.lst ys) from ⟨hz,its,c',r',e⟩),rfl,q _ (I.hok.fresh (Nat.le_refl _))⟩
 rcases hq with hq | hq
 ·obtain ⟨its,r',pl,hz⟩:=I.list hq;have hlen:=r'.length;obtain ⟨o,ho,hc,n,hd⟩:=pl.isList;exact call_list_seq p (.inl rfl) ho hc hd (fun h' c' kp e=>fin its r' hz h' c' kp e) (by simp only [List.size_toArray] <;> omega)
 ·obtain ⟨its,r',pl,hz⟩:=I.tuple hq;have hlen:=r'.length;obtain ⟨o,ho,hc,n,hd⟩:=pl;exact call_list_seq p (.inr rfl) ho hc hd (fun h' c' kp e=>fin its r' hz h' c' kp e) (by simp only [List.size_toArray] <;> omega)
theorem uh:Bp X (.type "tuple") (fun xs H Q=>∃ p ys,xs=[.ref p]/\((SqL X.K H p ys/\∀ l,H l=none->Q (.ref l) (upd H l (.tup ys)))\/(SqT X.K H p ys/\Q (.ref p) H))):=by
 intro pins s σ H xs us Q I r h;obtain ⟨p,ys,rfl,h⟩:=h;obtain ⟨u,rfl,rx⟩:=vals1 r;cases rx;rcases h with ⟨hq,q⟩ | ⟨hq,q⟩
 ·obtain ⟨its,r',pl,hz⟩:=I.list hq;have hlen:=r'.length;refine call_tuple_list pl.isList (fun h' kp=>?_) (by simp only [List.size_toArray] <;> omega);have I1:Inv X pins σ H { s with heap:=h' }:=I.kept (t':=s.toks) kp
  have I2:Inv X pins σ (upd H h'.objs.size (.tup ys)) { s with heap:=h'.push { cls:=.type "tuple",data:=.seq its.toArray } } :=
   I1.laid (t':=s.toks) (fun b o e=>Heap.get?_push_of_some _ e) (Nat.le_refl _) (show mz X.prog X.w _ _ _ (.tup ys) from ⟨hz,its,r',Ug.new _ _⟩)
  exact ⟨.ref h'.objs.size,_,I2,rfl,q _ (I1.hok.fresh (Nat.le_refl _))⟩
 ·obtain ⟨its,r',pl,hz⟩:=I.tuple hq;exact call_tuple_same pl ⟨.ref p,H,I,rfl,q⟩
def tyV (K:PySem.W.Frag) (T:String) (x:V) (H:Hp):Prop:=match x with
 | .str _=>T = "str"
 | .int _=>T = "int"
 | .ref p=>(T = "list" /\ ∃ xs,SqL K H p xs)\/(T = "tuple" /\ ∃ o,K.lookup p=some o/\o.cls=.type "tuple" /\ o.dict=none) \/
   (T = "dict" /\ ((∃ ag,H p=some (.dK ag))\/∃ ag,H p=some (.dT ag)))\/(T = "set" /\ ∃ S n,H p=some (.set S n))
 | _=>False
theorem Ws {pins:List (Addr × Obj)} {σ:St} {H:Hp} {s:Shared} {T:String} {x:V} {v:Value} (I:Inv X pins σ H s) (r:RelV x v) (ty:tyV X.K T x H) :
  s.TypeIs v T/\∀ a,v=.ref a->∃ ob,s.heap.get? a=some ob/\ob.dict=none:=by
 cases x with
 | str z =>
  obtain ⟨t,rfl⟩:=r;cases (show T = "str" from ty);exact ⟨typeIs_str s z t,fun _ e=>nomatch e⟩
 | int i =>
  obtain ⟨t,rfl⟩:=r;cases (show T = "int" from ty);exact ⟨typeIs_int s i t,fun _ e=>nomatch e⟩
 | ref p =>
  cases r;rcases ty with ⟨rfl,xs,hq⟩ | ⟨rfl,o,hk,hc,hd⟩ | ⟨rfl,hk⟩ | ⟨rfl,S,n,hk⟩
  ·obtain ⟨its,_,pl,_⟩:=I.list hq;refine ⟨pl.isList.typeIs,fun a e=>?_⟩;cases e;obtain ⟨o,n,e,c,hd,_⟩:=pl;exact ⟨o,e,hd⟩
  ·refine ⟨⟨o,I.kIn p o hk,hc⟩,fun a e=>?_⟩;cases e;exact ⟨o,I.kIn _ o hk,hd⟩
  ·have z:∃ o,s.heap.get? p=some o/\o.ExactDict:=by
    rcases hk with ⟨ag,hk⟩ | ⟨ag,hk⟩
    ·obtain ⟨_,_,_,_,o,_,_,e,ex,_⟩:=I.hok p _ hk;exact ⟨o,e,ex⟩
    ·obtain ⟨_,_,_,_,o,_,_,e,ex,_⟩:=I.hok p _ hk;exact ⟨o,e,ex⟩
   obtain ⟨o,e,ex⟩:=z;refine ⟨⟨o,e,ex.1⟩,fun a e2=>?_⟩;cases e2;exact ⟨o,e,ex.2.1⟩
  ·obtain ⟨o,_,_,_,e,ex,_⟩:=I.hok p _ hk;refine ⟨⟨o,e,ex.1⟩,fun a e2=>?_⟩;cases e2;exact ⟨o,e,ex.2.1⟩
 | _=>exact False.elim ty
def a4n (K:PySem.W.Frag) (T:String) (r:V->List V->Hp->VK->Prop) (to:TE):TE:=fun σ H Q=>to σ H fun x H1=>tyV K T x H1/\r x [] H1 Q
def tBM (K:PySem.W.Frag) (T:String) (r:V->List V->Hp->VK->Prop) (to:TE) (t:TA):TE:=fun σ H Q=>to σ H fun x H1=>tyV K T x H1/\t σ H1 fun xs H2=>r x xs H2 Q
variable {o e:Expr} {es:List Expr} {to:TE} {t:TA} {name:Str} {apos aw:Pos} {T id:String} {r:V->List V->Hp->VK->Prop}
theorem Wr (pa:PlainAttrs T) (slot:Slot T name id) (br:typeOf (.builtin id)=pure (.type "method_descriptor")) (hm:MtR X id r) (ho:PE X o to)
  (aN:attributeBase o name X.env (eval o X.env)=eval o X.env:=by rfl) (aR:(apos.endLine==aw.line)=true:=by rfl):PE X (.Call (.Attribute o name apos) [] [] aw) (a4n X.K T r to):=by
 intro pins s σ H Q I h;refine wpAny_Call_method0_late aN aR (thn (ho pins s σ H _ I h) fun v s1 z0=>?_);obtain ⟨x,H1,I1,r1,ty,q1⟩:=z0;obtain ⟨h1,h2⟩:=Ws I1 r1 ty;exact ⟨T,id,pa,slot,br,h1,h2,Calls.callWith_builtin rfl (PySem.evalArgs_none (hm pins s1 σ H1 x [] v [] Q I1 r1 .nil q1))⟩
theorem Aj (pa:PlainAttrs T) (slot:Slot T name id) (br:typeOf (.builtin id)=pure (.type "method_descriptor")) (hm:MtR X id r) (ho:PE X o to) (ha:PA X (e::es) t)
  (aN:attributeBase o name X.env (eval o X.env)=eval o X.env:=by rfl)
  (bM:((backTo aw (starEach (e::es) X.env)).all (fun x=>!x.1)&&(backToKw aw (keywordEach [] X.env)).all (fun x=>x.1.isSome)
   && decide ((e::es).length+([]:List Keyword).length+(if ([]:List Keyword).isEmpty then 0 else 1)<30))=true:=by rfl)
  (aR:(apos.endLine==aw.line)=true:=by rfl) (hs:starEach (e::es) X.env=(false,eval e X.env)::starEach es X.env:=by rfl) (aS:(backTo aw (starEach es X.env)).any (·.1)=false:=by rfl) :
  PE X (.Call (.Attribute o name apos) (e::es) [] aw) (tBM X.K T r to t):=by
 intro pins s σ H Q I h;refine wpAny_Call_method_late aN bM aR rfl (thn (ho pins s σ H _ I h) fun v s1 z0=>?_);obtain ⟨x,H1,I1,r1,ty,q1⟩:=z0;obtain ⟨h1,h2⟩:=Ws I1 r1 ty;refine ⟨T,id,pa,slot,br,h1,h2,?_⟩;have hA:=ha aw pins s1 σ H1 _ I1 q1;rw [hs] at hA ⊢;refine Calls.callWith_builtin (by show (false||(backTo aw (starEach es X.env)).any (·.1))=false; rw [aS] <;> rfl) (Calls.evalArgs_plain ?_);exact thn hA fun us s2 ⟨vs,H2,I2,r2,q2⟩=>hm pins s2 σ H2 x vs v us Q I2 r1 r2 q2
end
end L2
namespace L2
open PySem PySem.Spec PyProof.Rows
def MtM (X:Cx) (id:String) (r:V->List V->Hp->VK->Prop):Prop :=
 ∀ (pins:List (Addr × Obj)) (s:Shared) (σ:St) (H:Hp) (x:V) (xs:List V) (v:Value) (us:List Value) (Q:VK),Inv X pins σ H s->RelV x v->Vals xs us->r x xs H Q ->
  wpAny (model X.prog X.w) X.A (call (.builtin id) (v::us)) (EP X pins σ Q) X.xe s
theorem Vals.one {x:V} {us:List Value} (h:Vals [x] us):∃ u,us=[u]/\RelV x u:=by
 cases h with
 | cons r t=>cases t; exact ⟨_,rfl,r⟩
theorem Vals.two {x y:V} {us:List Value} (h:Vals [x,y] us):∃ u v,us=[u,v]/\RelV x u/\RelV y v:=by
 cases h with
 | cons r t=>obtain ⟨v,e,q⟩:=Vals.one t; exact ⟨_,v,congrArg _ e,r,q⟩
theorem Vals.zero:∀ {us:List Value},Vals [] us->us=[]
 | _,.nil=>rfl
theorem Vals.dropLast {xs:List V} {us:List Value} (h:Vals xs us):Vals xs.dropLast us.dropLast:=by
 induction h with
 | nil=>exact .nil
 | cons r t ih =>
  cases t with
  | nil=>exact .nil
  | cons q t'=>exact .cons r ih
theorem Vals.reverse {xs:List V} {us:List Value} (h:Vals xs us):Vals xs.reverse us.reverse:=by
 induction h with
 | nil=>exact .nil
 | cons r t ih=>rw [List.reverse_cons,List.reverse_cons]; exact Vals.append ih (.cons r .nil)
theorem Vals.rep {xs:List V} {us:List Value} (h:Vals xs us):∀ k:Nat,Vals (List.replicate k xs).flatten (List.replicate k us).flatten
 | 0=>.nil
 | k+1=>by
  rw [List.replicate_succ,List.replicate_succ,List.flatten_cons,List.flatten_cons];exact Vals.append h (Vals.rep h k)
theorem N8 {α:Type} (l:List α):l.eraseIdx (l.length - 1)=l.dropLast:=by
 induction l with
 | nil=>rfl
 | cons a r ih =>
  cases r with
  | nil=>rfl
  | cons b r =>
   have e:(a::b::r).length - 1=((b::r).length - 1)+1:=by
    have h1:(a::b::r).length=r.length+2:=rfl;have h2:(b::r).length=r.length+1:=rfl;omega
   rw [e,List.eraseIdx_cons_succ,ih]
   all_goals rfl
section
variable {X:Cx} {pins:List (Addr × Obj)} {σ:St} {H:Hp} {s:Shared} {l b:Addr} {xs ys zs:List V}
theorem Inv.a3s {its its':List Value} {n:Nat} {f:Array Value->Array Value} {t':Nat} (I:Inv X pins σ H s) (hH:H l=some (.lst xs))
  (e:s.heap.get? l=some { cls:=.type "list",data:=.seq its.toArray n }) (hf:f its.toArray=its'.toArray) (hv:Vals ys its') (hz:ys.length<=sizeLine) :
  Inv X pins σ (upd H l (.lst ys)) { s with heap:=s.heap.update l (Obj.mapSeq f),toks:=t' }:=by
 have q:=PySem.IsL.update e f;rw [hf] at q;refine I.write (x:=l) (e:=l) (by rw [hH]; exact trivial) (.inl rfl) (fun b' u hb hu=>(Heap.get?_update_other s.heap (Obj.mapSeq f) (Ne.symm hb)).trans hu) ⟨_,q⟩ ?_;exact ⟨hz,its',_,hv,q⟩
theorem Inv.a6j {its:List Value} {t':Nat} (I:Inv X pins σ H s) (hv:Vals ys its) (hz:ys.length<=sizeLine) :
  Inv X pins σ (upd H s.heap.objs.size (.lst ys)) { s with heap:=s.heap.push { cls:=.type "list",data:=.seq its.toArray },toks:=t' } :=
 I.laid (fun _ _ q=>Heap.get?_push_of_some _ q) (Nat.le_refl _) ⟨hz,its,0,hv,Heap.get?_push_size _ rfl⟩
theorem Inv.fresh (I:Inv X pins σ H s):H s.heap.objs.size=none:=I.hok.fresh (Nat.le_refl _)
theorem Inv.a2x (I:Inv X pins σ H s) (hH:H l=some (.lst xs)):xs.length<=sizeLine/\∃ (its:List Value) (n:Nat),Vals xs its/\xs.length=its.length/\s.heap.get? l=some { cls:=.type "list",data:=.seq its.toArray n }:=by
 obtain ⟨z,its,n,r,e⟩:=I.hok l _ hH;exact ⟨z,its,n,r,r.length,e⟩
theorem W0 {n:Nat} (h:n<=sizeLine):Builtin.List.listTooLong n=false:=by
 unfold Builtin.List.listTooLong;exact decide_eq_false (by omega)
end
section
variable {X:Cx}
def Cu:V->List V->Hp->VK->Prop:=fun x vs H Q=>∃ l xs y,x=.ref l/\vs=[y]/\H l=some (.lst xs)/\xs.length<sizeLine/\Q .non (upd H l (.lst (xs++[y])))
theorem m9:MtM X "list.append" Cu:=by
 intro pins s σ H x vs v us Q I rx rv h;obtain ⟨l,xs,y,rfl,rfl,hH,hz,q⟩:=h;cases rx;obtain ⟨u,rfl,ru⟩:=rv.one;obtain ⟨z,its,n,r,hl,e⟩:=I.a2x hH;refine call_meets F.slot_list_append ⟨_,e,rfl⟩ F.entry_list_append (F.args_list_append_2 _ _) (PySem.list_append l its.toArray n u (by rw [List.size_toArray]; omega)) ⟨e,?_⟩;refine ⟨.non,_,I.a3s (its':=its++[u]) hH e (by simp) (r.append (.cons ru .nil)) ?_,rfl,q⟩;rw [List.length_append,List.length_singleton];omega
def a4f:V->List V->Hp->VK->Prop:=fun x vs H Q=>∃ l xs y,x=.ref l/\vs=[]/\H l=some (.lst xs)/\xs[xs.length - 1]? = some y/\Q y (upd H l (.lst xs.dropLast))
theorem Wy:MtM X "list.pop" a4f:=by
 intro pins s σ H x vs v us Q I rx rv h;obtain ⟨l,xs,y,rfl,rfl,hH,hy,q⟩:=h;cases rx;have fS:=rv.zero;subst fS;obtain ⟨z,its,n,r,hl,e⟩:=I.a2x hH;obtain ⟨u,hu,ru⟩:=r.get hy
 have cT:its.toArray[its.toArray.size - 1]? = some u:=by
  show its.toArray[its.length - 1]? = some u;rw [<- Array.getElem?_toList,<- hl];exact hu
 refine call_meets F.slot_list_pop ⟨_,e,rfl⟩ F.entry_list_pop (F.args_list_pop_1 _) (MeetsSeq.list_pop_last l its.toArray n u cT (by rw [List.size_toArray]; omega)) ⟨e,?_⟩;refine ⟨y,_,I.a3s (its':=its.dropLast) hH e ?_ r.dropLast ?_,ru,q⟩
 ·show its.toArray.eraseIdxIfInBounds (its.toArray.size - 1)=its.dropLast.toArray;rw [List.size_toArray,List.eraseIdxIfInBounds_toArray,N8]
 ·rw [List.length_dropLast];omega
end
section
variable {prog:Program} {w:World} {A:Around} {E:Value->Shared->Prop} {s:Shared}
end
section
variable {X:Cx}
end
section
variable {κ:Type} [DecidableEq κ]
def Ny (ag:List (κ × V)) (k:κ):Option V:=(ag.find? fun kv=>decide (kv.1=k)).map (·.2)
noncomputable def putK (ag:List (κ × V)) (k:κ) (v:V):List (κ × V) :=
 if (ag.any fun kv=>decide (kv.1=k))=true then ag.map (fun kv=>if kv.1=k then (kv.1,v) else kv) else ag++[(k,v)]
theorem Fz {p:κ × V} {r:List (κ × V)} {k:κ} (e:p.1=k):Ny (p::r) k=some p.2:=by simp [Ny,List.find?_cons,e]
theorem Fo {p:κ × V} {r:List (κ × V)} {k:κ} (e:¬ p.1=k):Ny (p::r) k=Ny r k:=by simp [Ny,List.find?_cons,e]
theorem Ge.yq {o:Option V} {u:Option Value} (r:Ge o u):o.isSome=u.isSome:=by
 cases o with
 | none=>cases u with
  | none=>rfl
  | some _=>exact (show False from r).elim
 | some _=>cases u with
  | none=>exact (show False from r).elim
  | some _=>rfl
theorem KV.val {ag:List (κ × V)} {vs:List (κ × Value)} (r:KV ag vs) (k:κ):Ge (Ny ag k) (valueAt vs k):=by
 unfold KV at r
 induction r with
 | nil=>exact True.intro
 | @cons p q ps qs h t ih =>
  obtain ⟨h1,h2⟩:=h
  by_cases e:p.1=k
  ·have e':q.1=k:=h1.symm.trans e;have b:valueAt (q::qs) k=some q.2:=by simp [valueAt,List.find?_cons,e']
   rw [Fz e,b]; exact h2
  ·have e':¬ q.1=k:=fun z=>e (h1.trans z);have b:valueAt (q::qs) k=valueAt qs k:=by simp [valueAt,List.find?_cons,e']
   rw [Fo e,b]; exact ih
theorem KV.any {ag:List (κ × V)} {vs:List (κ × Value)} (r:KV ag vs) (k:κ):(ag.any fun kv=>decide (kv.1=k))=vs.any fun kv=>decide (kv.1=k):=by
 unfold KV at r
 induction r with
 | nil=>rfl
 | cons h t ih=>rw [List.any_cons,List.any_cons,ih,h.1]
theorem KV.keys {ag:List (κ × V)} {vs:List (κ × Value)} (r:KV ag vs):ag.map (·.1)=vs.map (·.1):=by
 unfold KV at r
 induction r with
 | nil=>rfl
 | cons h t ih=>rw [List.map_cons,List.map_cons,ih,h.1]
theorem KV.length {ag:List (κ × V)} {vs:List (κ × Value)} (r:KV ag vs):ag.length=vs.length:=Paired.length r
end
theorem Wb {P:Program} {w:World} {k:Key} {u:Value} (r:RelV (kV k) u):(qt P w).is k u=true:=by
 cases k with
 | inl i=>obtain ⟨t,e⟩:=(show ∃ t,u=Value.int i t from r); subst e; exact J2 P w i t
 | inr x=>obtain ⟨t,e⟩:=(show ∃ t,u=Value.str x t from r); subst e; exact Je P w x t
theorem Gs {P:Program} {w:World}:∀ {ks:List Key} {us:List Value},Vals (ks.map kV) us->ItemsAre (qt P w) ks us
 | [],_,r=>by rw [List.map_nil] at r; cases r; exact .nil
 | k::ks,_,r=>by
  rw [List.map_cons] at r;cases r with
  | cons h t=>exact .cons (Wb h) (Gs t)
abbrev KT (H:Hp):List (List Key × V)->List (List Key × Addr × Value)->Prop:=Paired fun p q=>p.1=q.1/\H q.2.1=some (.tup (p.1.map kV))/\RelV p.2 q.2.2
theorem KT.val {H:Hp} {ag:List (List Key × V)} {xs:List (List Key × Addr × Value)} (r:KT H ag xs) (k:List Key):Ge (Ny ag k) ((atKey xs k).map (·.2)):=by
 induction r with
 | nil=>exact True.intro
 | @cons p q ps qs h t ih =>
  obtain ⟨h1,_,h2⟩:=h
  by_cases e:p.1=k
  ·have e':q.1=k:=h1.symm.trans e;have b:atKey (q::qs) k=some q.2:=by simp [atKey,List.find?_cons,e']
   rw [Fz e,b]; exact h2
  ·have e':¬ q.1=k:=fun z=>e (h1.trans z);have b:atKey (q::qs) k=atKey qs k:=by simp [atKey,List.find?_cons,e']
   rw [Fo e,b]; exact ih
section
variable {P:Program} {w:World} {H:Hp} {h:Heap} {a:Addr}
theorem a1k {u:HO} (ok:HOk P w H h) (e:Rd H a u):mz P w H h a u:=e.ok ok
theorem Iu {ag:List (Key × V)} (ok:HOk P w H h) (e:Rd H a (.dK ag)):ag.length<=sizeLine/\(a==sysModules)=false/\∃ vs,KV ag vs/\h.DictOf (qt P w) a vs :=
 show mz P w H h a (.dK ag) from a1k ok e
theorem Mf {ks:List Key} (ok:HOk P w H h) (e:H a=some (.tup (ks.map kV))):(tupleKind (qt P w)).is h ks a:=by
 obtain ⟨_,its,r,o,h1,h2,_,n,h3⟩:=(show mz P w H h a (.tup (ks.map kV)) from ok a _ e);exact ⟨o,its.toArray,n,h1,h2,h3,by simpa using Gs r⟩
theorem W5 {ag:List (List Key × V)} (ok:HOk P w H h) (e:Rd H a (.dT ag)):ag.length<=sizeLine/\(a==sysModules)=false /\
  ∃ xs,KT H ag xs/\h.DictOfH (tupleKind (qt P w)) a xs:=by
 obtain ⟨z,y,xs,r,o,es,ep,h1,h2,h3,h4,h5⟩:=(show mz P w H h a (.dT ag) from a1k ok e);refine ⟨z,y,xs,r,o,es,ep,h1,h2,h3,h4,fun x hx=>?_,h5⟩
 have all:∀ {l:List (List Key × V)} {m:List (List Key × Addr × Value)},KT H l m->∀ x∈m,(tupleKind (qt P w)).is h x.1 x.2.1:=by
  intro l m q
  induction q with
  | nil=>intro x hx; exact nomatch hx
  | @cons p q ps qs hq t ih =>
   intro x hx;rcases List.mem_cons.mp hx with e | hx
   ·subst e;exact Mf ok (by rw [<- hq.1]; exact hq.2.1)
   ·exact ih x hx
 exact all r x hx
end
def Zj (H:Hp) (a:Addr) (y:V) (r:Option V):Prop :=
 (∃ ag k,Rd H a (.dK ag)/\y=kV k/\r=Ny ag k)\/∃ ag k b,Rd H a (.dT ag)/\y=.ref b/\H b=some (.tup (k.map kV))/\r=Ny ag k
def a2q (H:Hp) (a:Addr) (y v:V) (H':Hp):Prop :=
 (∃ ag k,H a=some (.dK ag)/\y=kV k/\ag.length<sizeLine/\H'=upd H a (.dK (putK ag k v))) \/
 ∃ ag k b,H a=some (.dT ag)/\y=.ref b/\H b=some (.tup (k.map kV))/\ag.length<sizeLine/\H'=upd H a (.dT (putK ag k v))
theorem a2q.k {H:Hp} {a:Addr} {ag:List (Key × V)} {k:Key} {v:V} (e:H a=some (.dK ag)) (hl:ag.length<sizeLine):a2q H a (kV k) v (upd H a (.dK (putK ag k v))):=.inl ⟨ag,k,e,rfl,hl,rfl⟩
theorem a2q.t {H:Hp} {a b:Addr} {ag:List (List Key × V)} {k:List Key} {v:V} (e:H a=some (.dT ag)) (eb:H b=some (.tup (k.map kV))) (hl:ag.length<sizeLine) :
  a2q H a (.ref b) v (upd H a (.dT (putK ag k v))):=.inr ⟨ag,k,b,e,rfl,eb,hl,rfl⟩
section
variable {X:Cx} {pins:List (Addr × Obj)} {σ:St} {H:Hp} {s:Shared} {a:Addr} {y v:V} {u r:Value} {o:Option V} {A:Around} {E:Value->Shared->Prop}
theorem Inv.big (I:Inv X pins σ H s):sysModules<s.heap.objs.size:=by
 have h:mainGlobals<s.heap.objs.size:=(I.mod.glob.keeps I.bk).lt;exact Nat.lt_trans (by decide) h
theorem Rk {Q:Value->Shared->Prop} (hu:A.units+1<cLine) (I:Inv X pins σ H s) (g:Zj H a y (some v)) (ry:RelV y u) (h:∀ w' s',Inv X pins σ H s'->RelV v w'->Q w' s') :
  wpAny (model X.prog X.w) A (getItem (.ref a) u) Q E s:=by
 rcases g with ⟨ag,k,e,ey,l⟩ | ⟨ag,k,b,e,ey,eb,l⟩
 ·subst ey;obtain ⟨z,hd,vs,rel,dd⟩:=Iu I.hok e;obtain ⟨w',hw,rw'⟩:=Ge.some_of (v:=v) (o:=valueAt vs k) (by rw [l]; exact rel.val k);exact wpAny_getItem_of (Wb ry) dd.mapOf hw (h w' _ (I.tok _) rw')
 ·subst ey;cases (show u=Value.ref b from ry);obtain ⟨z,hd,xs,rel,dd⟩:=W5 I.hok e;obtain ⟨w',hw,rw'⟩:=Ge.some_of (v:=v) (o:=(atKey xs k).map (·.2)) (by rw [l]; exact rel.val k);obtain ⟨p,hp,hp2⟩:=Option.map_eq_some_iff.mp hw;refine wpAny_getItem_heap (tupleKind_room_in1 hu) (Mf I.hok eb) dd hp ?_;rw [hp2];exact h w' _ (I.tok _) rw'
theorem a70 {Q:Value->Shared->Prop} (hu:A.units+1<cLine) (I:Inv X pins σ H s) (g:Zj H a y o) (ry:RelV y u) (h:∀ s',Inv X pins σ H s'->Q (.bool o.isSome) s') :
  wpAny (model X.prog X.w) A (compareOp .In u (.ref a)) Q E s:=by
 rcases g with ⟨ag,k,e,ey,l⟩ | ⟨ag,k,b,e,ey,eb,l⟩
 ·subst ey;obtain ⟨z,hd,vs,rel,dd⟩:=Iu I.hok e;refine wpAny_in_of (Wb ry) hd dd.mapOf ?_;rw [<- (rel.val k).yq,<- l];exact h _ (I.tok _)
 ·subst ey;cases (show u=Value.ref b from ry);obtain ⟨z,hd,xs,rel,dd⟩:=W5 I.hok e;refine wpAny_in_heap (tupleKind_room_in1 hu) (Mf I.hok eb) hd dd ?_;have q:=(rel.val k).yq;rw [Option.isSome_map] at q;rw [<- q,<- l];exact h _ (I.tok _)
theorem Ys {Q:Value->Shared->Prop} (hu:A.units+1<cLine) (I:Inv X pins σ H s) (g:Zj H a y o) (ry:RelV y u) (h:∀ s',Inv X pins σ H s'->Q (.bool (!o.isSome)) s') :
  wpAny (model X.prog X.w) A (compareOp .NotIn u (.ref a)) Q E s:=by
 rcases g with ⟨ag,k,e,ey,l⟩ | ⟨ag,k,b,e,ey,eb,l⟩
 ·subst ey;obtain ⟨z,hd,vs,rel,dd⟩:=Iu I.hok e;refine wpAny_notIn_of (Wb ry) hd dd.mapOf ?_;rw [<- (rel.val k).yq,<- l];exact h _ (I.tok _)
 ·subst ey;cases (show u=Value.ref b from ry);obtain ⟨z,hd,xs,rel,dd⟩:=W5 I.hok e;refine wpAny_notIn_heap (tupleKind_room_in1 hu) (Mf I.hok eb) hd dd ?_;have q:=(rel.val k).yq;rw [Option.isSome_map] at q;rw [<- q,<- l];exact h _ (I.tok _)
end
section
variable {X:Cx} {pins:List (Addr × Obj)} {σ:St} {H:Hp} {s:Shared} {a:Addr} {ag:List (Key × V)} {k:Key} {u:Value} {A:Around} {E:Value->Shared->Prop}
theorem a1p {Q:Value->Shared->Prop} (I:Inv X pins σ H s) (e:Rd H a (.dK ag)) (h:∀ t s',Inv X pins σ H s'->Q (.int ag.length t) s'):wpAny (model X.prog X.w) A (call (.builtin "len") [.ref a]) Q E s:=by
 obtain ⟨z,hd,vs,rel,dd⟩:=Iu I.hok e;refine call_len_dict hd dd (by rw [<- rel.length]; rw [sizeLine_eq] at z; omega) ?_;rw [<- rel.length];exact h _ _ (I.tok _)
end
theorem Jq {X:Cx} {pins:List (Addr × Obj)} {σ:St} {H:Hp} {s:Shared} {a:Addr} {y:V} {o:Option V} (I:Inv X pins σ H s) (g:Zj H a y o):s.TypeIs (.ref a) "dict" := by
 rcases g with ⟨ag,k,e,_,_⟩ | ⟨ag,k,b,e,_,_,_⟩
 ·obtain ⟨_,_,vs,_,dd⟩:=Iu I.hok e;exact dd.typeIs
 ·obtain ⟨_,_,xs,_,dd⟩:=W5 I.hok e;exact dd.typeIs
section
variable {X:Cx} {o i e value:Expr} {pos pos' aM:Pos} {td ty tv:TE}
end
section
variable {X:Cx} {pos:Pos}
end
structure M1 (X:Cx) (o:Expr) (m:Str) (apos:Pos) (e:Expr) (aw:Pos):Prop where
 base:attributeBase o m X.env (eval o X.env)=eval o X.env
 few:((backTo aw (starEach [e] X.env)).all (fun x=>!x.1)&&(backToKw aw (keywordEach [] X.env)).all (fun x=>x.1.isSome)
  && decide (([e]:List Expr).length+([]:List Keyword).length+(if ([]:List Keyword).isEmpty then 0 else 1)<30))=true
 line:(apos.endLine==aw.line)=true
 trees:backTo aw (starEach [e] X.env)=[(false,eval e X.env)]
structure M2 (X:Cx) (o:Expr) (m:Str) (apos:Pos) (e f:Expr) (aw:Pos):Prop where
 base:attributeBase o m X.env (eval o X.env)=eval o X.env
 few:((backTo aw (starEach [e,f] X.env)).all (fun x=>!x.1)&&(backToKw aw (keywordEach [] X.env)).all (fun x=>x.1.isSome)
  && decide (([e,f]:List Expr).length+([]:List Keyword).length+(if ([]:List Keyword).isEmpty then 0 else 1)<30))=true
 line:(apos.endLine==aw.line)=true
 trees:backTo aw (starEach [e,f] X.env)=[(false,eval e X.env),(false,eval f X.env)]
section
variable {X:Cx} {pins:List (Addr × Obj)} {σ:St} {H:Hp} {s:Shared} {a:Addr} {y d:V} {u r:Value} {o:Option V} {A:Around} {E:Value->Shared->Prop}
end
section
variable {X:Cx} {o e f:Expr} {apos aw:Pos} {td ty tx:TE}
end
section
variable {X:Cx} {pins:List (Addr × Obj)} {σ:St} {H:Hp} {s:Shared} {a:Addr} {ag:List (Key × V)} {A:Around} {E:Value->Shared->Prop}
end
section
variable {X:Cx} {pins:List (Addr × Obj)} {σ:St} {H:Hp} {s:Shared} {a:Addr} {y:V} {u:Value} {A:Around} {E:Value->Shared->Prop}
end
end L2
end
section
namespace Att
open PySem PySem.W PySem.Calls PyProof.Rows
theorem Dc {P:Params} {h:Heap}:∀ (ns:List Int) (vs:List Value),WellAll P h vs (ns.map WData.int)->IntsAre vs ns:=by
 intro ns
 induction ns with
 | nil =>
  intro vs w;rw [List.map_nil] at w;cases w;exact .nil
 | cons n ns ih =>
  intro vs w;rw [List.map_cons] at w;cases w with
  | cons a b =>
   cases a;exact .cons _ _ (ih _ b)
theorem Tw {l:OpenLaw} {n:Nat} (hn:l.most=some n) {P:Params} {h:Heap} {args:List WData} {vals:List Value}
  (b5:l.row.toRowW.claim.pre args=true) (dA:WellAll P h vals args) :
  ∃ a vs ns,vals=[Value.ref a]/\args=[WData.list (ns.map WData.int)]/\h.get? a=some { cls:=.type "list",data:=.seq vs.toArray }/\IntsAre vs ns/\ns.length<=n:=by
 have fq:WShape.hasAll [] args [.list .int]=true:=(pre_splitW b5).1;have hc:l.pre.holds [] { args:=args } = true:=(pre_splitW b5).2;obtain ⟨d,r,rfl,h1,h2⟩:=hasAllW_cons fq;obtain rfl:=hasAllW_nil h2;obtain ⟨xs,rfl,h3⟩:=hasW_list h1;obtain ⟨ns,rfl⟩:=items_int h3
 have hlen:ns.length<=n:=by
  unfold OpenLaw.pre at hc
  have h4:(WTm.not (.lt (.lit (.int (n:Int))) (.len (.arg 0)))).holds [] { args:=[.list (ns.map .int)] } = true:=by
   have h4:=(holds_andW hc).1;rw [hn] at h4;exact h4
  have h5:=condW_of h4 (w_not (w_lt w_lit (w_len_list (w_arg rfl))));rw [List.length_map] at h5;refine Nat.le_of_not_lt fun q=>?_;have q':(n:Int)<((ns.length:Nat):Int):=by omega
  first
   | (rw [decide_eq_true q'] at h5; exact absurd h5 (by decide))
   | (simp at h5; omega)
 cases dA with
 | cons w1 w2 =>
  cases w2;cases w1 with
  | list ho hall=>exact ⟨_,_,ns,rfl,rfl,ho,Dc ns _ hall,hlen⟩
theorem Rw (l:OpenLaw) (args:List WData):l.row.toRowW.claim.post args (.bool true) args=true :=
 postW_of (r:=l.row.toRowW) (X:=(true==true))
  (show WShape.has [] (.bool true) .bool=true by first | rfl | decide | simp [WShape.has,WShape.arms,WShape.armsAll])
  (show (WTm.eq .res (.lit (.bool true))).value [] { args:=args,res:=some (.bool true),after:=args } = some (.bool (true==true)) from w_eq_bool (w_res rfl) w_lit) rfl
theorem Jh {l:OpenLaw} {n:Nat} {q:Program} {loose:List Str} {XP:(Str->Option Value)->Heap->Prop} {YP:World->Heap->Prop} {d:DefRec}
  (hn:l.most=some n) (c0:d.params.defaults=[])
  (call:∀ (w:World) (s₀ av:Shared) (mg mb:Str->Option Value) (fa:Addr) (o:Obj) (pm cd doc:Value) (a:Addr) (vs:List Value) (ns:List Int),
   Ground q loose [] XP w s₀ mg mb av.heap->YP w av.heap ->
   av.heap.get? fa=some o->o.data=.func (docDef d.name d.params d.body d.scope pm cd doc)->av.heap.CodeRec cd d.name->mg d.name=some (.ref fa) ->
   av.heap.get? a=some { cls:=.type "list",data:=.seq vs.toArray }->IntsAre vs ns->ns.length<=n->av.gens = #[] ->
   codeAny (model l.prog w) callerA (.call (.ref fa) ⟨[.ref a],[]⟩) (fun r s'=>r=.ok (.ret (.bool true))/\OldK av.heap s'.heap/\s'.os=av.os/\AllBare s'.gens) av) :
  WalkO q loose XP YP l.row.toRowW d [] (fun f vs=>PySem.call f vs):=by
 intro w s₀ av mg mb G Y fa o pm cd doc dV kV ho hd bq hD cx hg args vals as b5 fz f6 dA gc;obtain rfl:dV=.none:=Dflts.none hD c0;obtain rfl:kV=.none:=Dflts.noKw hD;obtain ⟨a,vs,ns,rfl,rfl,cA,hints,hlen⟩:=Tw hn b5 dA;refine enter_call (codeAny_mono (call w s₀ av mg mb fa o pm cd doc a vs ns G Y ho (fd_plain hd) bq cx cA hints hlen hg) fun r s' hq=>?_);obtain ⟨rfl,h2,h3,h4⟩:=hq;exact ⟨.inl ⟨.bool true,.bool true,[],rfl,fun _=>rfl,.bool true,Rw l _,fun _=>⟨List.Pairwise.nil,fun _ hm=>(nomatch hm)⟩⟩,h2,h3,h4⟩
section
variable {prog:Program} {w:World} {A:Around} {E:Value->Shared->Prop} {s:Shared} {K:Frag}
end
end Att
namespace L2
open PySem PySem.Spec PyProof.Rows
theorem Gh:∀ {vs:List Value} {ns:List Int},IntsAre vs ns->Vals (ns.map V.int) vs
 | _,_,.nil=>.nil
 | _,_,.cons n t h=>.cons ⟨t,rfl⟩ (Gh h)
def Only (H:Hp):Prop:=∀ b,H b=none\/∃ o xs,H b=some (.frz o (.lst xs))
theorem Vi {P:Program} {w:World} {K:PySem.W.Frag} {mg mb:Str->Option Value} {CX:CXT} {k:Nat} {fa a:Addr} {fd:FuncData} {x:Str} {sp:Sp} {av:Shared} {vs:List Value} {ns:List Int}
  (KX:K.In av.heap) (eF:av.heap.Ns mainGlobals mg) (hb:av.heap.Ns builtinsNs mb) (fZ:∀ x:Str,x ≠ "__name__" -> mb x=bootBuiltins x) (dR:av.heap.NoLimit) (hg:av.gens = #[])
  (ha:av.heap.get? a=some { cls:=.type "list",data:=.seq vs.toArray }) (hi:IntsAre vs ns) (hl:ns.length<=sizeLine) (hr:uf k callerA)
  (F:∀ base:Heap,K.In base->base.Ns mainGlobals mg->ur P w K mg base CX k fa fd [x] sp) (cS:∀ (s:Shared) (u:Value),BindsTo s fd ⟨[u],[]⟩ [(x,u)])
  (cb:∀ H:Hp,Only H->SqL K H a (ns.map V.int)->sp [.ref a] H (fun v _=>v=.bl true) fun _ _ _=>False)
  (dU:∀ H e s',CX [] H av (fun _ _ _=>False) e s'->False) :
  codeAny (model P w) callerA (.call (.ref fa) ⟨[.ref a],[]⟩) (fun r s'=>r=.ok (.ret (.bool true))/\OldK av.heap s'.heap/\s'.os=av.os/\AllBare s'.gens) av:=by
 have rv:=Gh hi;have dF:=hi.length
 have core:∀ H:Hp,Only H->SqL K H a (ns.map V.int)->HOk P w H av.heap->(∀ b,H b≠none->b=a)->(H a≠none->K.lookup a=none) ->
   codeAny (model P w) callerA (.call (.ref fa) ⟨[.ref a],[]⟩) (fun r s'=>r=.ok (.ret (.bool true))/\OldK av.heap s'.heap/\s'.os=av.os/\AllBare s'.gens) av:=by
  intro H hO hS hok hA hK;have bE:∀ {b:Addr} {o:Obj},av.heap.get? b=some o->H b=none->(Ve av.heap H).get? b=some o:=fun e n=>Vd e n
  have cW:∀ {b:Addr} {o:Obj} {es:Array DictEntry} {ep:Nat},av.heap.get? b=some o->o.data=.dict es ep->H b=none:=fun {b o es ep} e d=>by
   cases q:H b with
   | none=>rfl
   | some u =>
    have e':b=a:=hA b (by rw [q]; simp);subst e';rw [ha] at e; cases e;have d':Data.seq vs.toArray _=Data.dict es ep:=d;cases d'
  have df:∀ {b:Addr} {m:Str->Option Value},av.heap.Ns b m->(Ve av.heap H).Ns b m:=fun {b m} ⟨o,es,ep,e,d,r⟩=>⟨o,es,ep,bE e (cW e d),d,r⟩
  have eP:K.In (Ve av.heap H):=fun b o e=>bE (KX b o e) (by
   cases q:H b with
   | none=>rfl
   | some u =>
    have e':b=a:=hA b (by rw [q]; simp);subst e';rw [hK (by rw [q]; simp)] at e; cases e)
  have hM:Mod K mg (Ve av.heap H):=⟨eP,df eF,⟨mb,df hb,fZ⟩,let ⟨mc,h1,h2⟩:=dR; ⟨mc,df h1,h2⟩⟩;have e0:Xu P w K mg (Ve av.heap H) callerA [] av H:=⟨rfl,hM,fun b o e=>Zg e,Nat.le_of_eq (Pa _ _),trivial,fun b hb=>absurd (show b∈([]:List Addr) from hb) (by simp),hok,.of_eq hg⟩;refine codeAny_mono ((F _ eP (df eF)).run callerA [] av H ⟨[.ref a],[]⟩ [.ref a] [.ref a] _ _ hr e0 (cS av (.ref a)) (.cons rfl .nil) (cb H hO hS)) fun r s' h=>?_;cases r with
  | error e=>exact (dU H e s' h).elim
  | ok fl =>
   cases fl with
   | next=>exact False.elim h
   | brk=>exact False.elim h
   | cont=>exact False.elim h
   | ret u =>
    obtain ⟨v,H',os,bare,un,hok',r',q⟩:=h;have q':v=.bl true:=q;subst q';obtain rfl:u=Value.bool true:=r';refine ⟨rfl,OldK.of_keep fun b o e=>?_,os,bare⟩;cases q:H b with
    | none=>exact un.keep b o e q (by intro z; exact absurd (show b∈([]:List Addr) from z) (by simp)) (by simp)
    | some u =>
     rcases hO b with z | ⟨ob,xs,z⟩
     ·rw [q] at z; cases z
     ·have z2:=un.frzs b ob _ z;obtain ⟨e1,_⟩:=hok b _ z;obtain ⟨e2,_⟩:=hok' b _ z2;rw [e] at e1; cases e1;exact e2
 cases hk:K.lookup a with
 | some o =>
  have e:=KX a o hk;rw [ha] at e;cases e;refine core (fun _=>none) (fun _=>.inl rfl) (.inr ⟨_,vs.toArray,_,hk,rfl,rfl,rfl,by rw [List.size_toArray,dF]; exact hl,by simpa using rv⟩) (fun b u z=>by have z':(none:Option HO)=some u:=z; cases z') (fun b z=>absurd rfl z) fun z=>absurd rfl z
 | none =>
  refine core (fun b=>if b=a then some (.frz { cls:=.type "list",data:=.seq vs.toArray } (.lst (ns.map V.int))) else none) (fun b=>?_) (.inl (.inr ⟨{ cls:=.type "list",data:=.seq vs.toArray },if_pos rfl⟩)) (fun b u z=>?_) (fun b z=>?_) fun _=>hk
  ·by_cases hb:b=a
   ·exact .inr ⟨_,_,if_pos hb⟩
   ·exact .inl (if_neg hb)
  ·by_cases hb:b=a
   ·have z':=(if_pos hb).symm.trans z;cases z';subst hb;exact ⟨ha,by rw [List.length_map]; exact hl,vs,_,rv,ha⟩
   ·have z':=(if_neg hb).symm.trans z;cases z'
  ·by_cases hb:b=a
   ·exact hb
   ·exact absurd (if_neg hb) z
end L2
namespace L2
open PySem PySem.Spec PyProof.Rows
theorem Z7 {l:PySem.W.OpenLaw} {n k:Nat} {q:Program} {loose:List Str} {XP:(Str->Option Value)->Heap->Prop} {YP:World->Heap->Prop} {d:DefRec} {K:Params->PySem.W.Frag} {CX:World->CXT} {sp:World->Sp} {x:Str}
  (hn:l.most=some n) (dm:n<=sizeLine) (c0:d.params.defaults=[]) (hr:uf k callerA)
  (hY:∀ (w:World) (h:Heap),YP w h->(K w.params).In h)
  (F:∀ (w:World) (mg:Str->Option Value) (fa:Addr) (h:Heap),(K w.params).In h->h.Ns mainGlobals mg->mg d.name=some (.ref fa) ->
   ∃ fd:FuncData,(∀ (s:Shared) (u:Value),BindsTo s fd ⟨[u],[]⟩ [(x,u)]) /\
    ∀ base:Heap,(K w.params).In base->base.Ns mainGlobals mg->ur l.prog w (K w.params) mg base (CX w) k fa fd [x] (sp w))
  (cb:∀ (w:World) (H:Hp) (a:Addr) (ns:List Int),ns.length<=n->Only H->SqL (K w.params) H a (ns.map V.int)->sp w [.ref a] H (fun v _=>v=.bl true) fun _ _ _=>False)
  (dU:∀ (w:World) (H:Hp) (s:Shared) (e:Value) (s':Shared),CX w [] H s (fun _ _ _=>False) e s'->False) :
  PySem.W.WalkO q loose XP YP l.row.toRowW d [] (fun f vs=>PySem.call f vs):=by
 refine Att.Jh hn c0 fun w s₀ av mg mb fa o pm cd doc a vs ns G Y ho hd bq cx cA hints hlen hg=>?_;have KX:=hY w _ Y;obtain ⟨fd,hb,hF⟩:=F w mg fa _ KX G.T.g cx;exact Vi KX G.T.g G.T.b G.T.builtins G.T.nolimit hg cA hints (Nat.le_trans hlen dm) hr hF hb (fun H hO hS=>cb w H a ns hlen hO hS) fun H e s'=>dU w H av e s'
end L2
namespace L2
open PySem PySem.Spec PyProof.Rows
noncomputable def xr (s:Stmt):Arguments:=match s with
 | .FunctionDef _ a _ _ _ _ _ _ _ _=>a
 | _=>{ posonlyargs:=[],args:=[],vararg:=none,kwonlyargs:=[],kw_defaults:=[],kwarg:=none,defaults:=[] }
def nj (s:Stmt):List Stmt:=match s with
 | .FunctionDef _ _ b _ _ _ _ _ _ _=>b
 | _=>[]
noncomputable def fj (s:Stmt):Scope:=match s with
 | .FunctionDef _ _ _ _ _ _ sc _ _ _=>sc
 | _=>{ kind:=.function,names:=[],isGenerator:=false,isCoroutine:=false }
abbrev CX0:CXT:=fun _ _ _ _ _ _=>False
abbrev E0:XK:=fun _ _ _=>False
theorem a0w {X:Cx}:Passes CX0 X E0:=fun _ _ _ _ _ _ _ h=>h.elim
structure Fun (K:PySem.W.Frag) (x qual:Str) (st:Stmt) (f:Addr) (fd:FuncData):Prop where
 ex:∃ (oc:Value) (od:Option Addr) (kV doc pm:Value) (an:Option Addr) (aB ct:Value) (bF:Array (Option Value)),
  fd=PySem.W.fnOf x qual (xr st) (nj st) (fj st) .none kV doc pm an aB ct/\K.lookup f=some ⟨oc,od,.func fd,bF⟩/\PySem.W.codeIn K aB qual=true
 kp:PySem.W.keepIn K (.ref f)=true
section
variable {P:Program} {w:World} {K:PySem.W.Frag} {mg:Str->Option Value} {base:Heap}
theorem Fun.ok {x qual:Str} {st:Stmt} {f:Addr} {fd:FuncData} {N ps:List Str} {k:Nat} {sp:Sp} (F:Fun K x qual st f fd) (S:rm N ps (fj st)) (len:∀ vs H Q E,sp vs H Q E->vs.length=ps.length)
  (bP:∀ (aB:Value) (A:Around) (outer:List Env) (s:Shared) (H:Hp) (vs:List V) (Q:VK) (E:XK),uf k (A.deeper (envOfC qual (fj st) s.heap.objs.size f aB))->sp vs H Q E ->
   ∃ t,PSs (Hl CX0 P w K mg base N qual (fj st) f aB A outer s H E).nox (nj st) t/\t { nx:=fun _ H'=>Q .non H',rt:=Q } (start N vs) H):ur P w K mg base CX0 (k+1) f fd ps sp:=by
 obtain ⟨oc,od,kV,doc,pm,an,aB,ct,bF,rfl,lk,bq⟩:=F.ex;refine Zw lk bq S len fun A outer s H vs Q E hr cb=>?_;obtain ⟨t,h,q⟩:=bP aB A outer s H vs Q E hr cb;exact ⟨t,h.nox,q⟩
theorem Fun.binds {x qual:Str} {st:Stmt} {f:Addr} {fd:FuncData} {ps:List Str} (F:Fun K x qual st f fd)
  (h:∀ (kV doc pm:Value) (an:Option Addr) (aB ct:Value) (us:List Value),us.length=ps.length->bindArgs (PySem.W.fnOf x qual (xr st) (nj st) (fj st) .none kV doc pm an aB ct) ⟨us,[]⟩=pure (ps.zip us)):Binds K fd ps []:=by
 obtain ⟨oc,od,kV,doc,pm,an,aB,ct,bF,rfl,lk,bq⟩:=F.ex;exact .all (h kV doc pm an aB ct)
theorem bd1 {fd:FuncData} {ps:List Str} (h:∀ a,bindArgs fd ⟨[a],[]⟩=pure (ps.zip [a])) (us:List Value) (hl:us.length=1):bindArgs fd ⟨us,[]⟩=pure (ps.zip us):=by
 cases us with
 | nil=>exact nomatch hl
 | cons a us =>
 cases us with
 | cons _ _=>simp at hl
 | nil=>exact h a
theorem bd2 {fd:FuncData} {ps:List Str} (h:∀ a b,bindArgs fd ⟨[a,b],[]⟩=pure (ps.zip [a,b])) (us:List Value) (hl:us.length=2):bindArgs fd ⟨us,[]⟩=pure (ps.zip us):=by
 cases us with
 | nil=>exact nomatch hl
 | cons a us =>
 cases us with
 | nil=>exact nomatch hl
 | cons b us =>
 cases us with
 | cons _ _=>simp at hl
 | nil=>exact h a b
theorem bd3 {fd:FuncData} {ps:List Str} (h:∀ a b c,bindArgs fd ⟨[a,b,c],[]⟩=pure (ps.zip [a,b,c])) (us:List Value) (hl:us.length=3):bindArgs fd ⟨us,[]⟩=pure (ps.zip us):=by
 cases us with
 | nil=>exact nomatch hl
 | cons a us =>
 cases us with
 | nil=>exact nomatch hl
 | cons b us =>
 cases us with
 | nil=>exact nomatch hl
 | cons c us =>
 cases us with
 | cons _ _=>simp at hl
 | nil=>exact h a b c
theorem bd4 {fd:FuncData} {ps:List Str} (h:∀ a b c d,bindArgs fd ⟨[a,b,c,d],[]⟩=pure (ps.zip [a,b,c,d])) (us:List Value) (hl:us.length=4):bindArgs fd ⟨us,[]⟩=pure (ps.zip us):=by
 cases us with
 | nil=>exact nomatch hl
 | cons a us =>
 cases us with
 | nil=>exact nomatch hl
 | cons b us =>
 cases us with
 | nil=>exact nomatch hl
 | cons c us =>
 cases us with
 | nil=>exact nomatch hl
 | cons d us =>
 cases us with
 | cons _ _=>simp at hl
 | nil=>exact h a b c d
theorem bd5 {fd:FuncData} {ps:List Str} (h:∀ a b c d e,bindArgs fd ⟨[a,b,c,d,e],[]⟩=pure (ps.zip [a,b,c,d,e])) (us:List Value) (hl:us.length=5):bindArgs fd ⟨us,[]⟩=pure (ps.zip us):=by
 cases us with
 | nil=>exact nomatch hl
 | cons a us =>
 cases us with
 | nil=>exact nomatch hl
 | cons b us =>
 cases us with
 | nil=>exact nomatch hl
 | cons c us =>
 cases us with
 | nil=>exact nomatch hl
 | cons d us =>
 cases us with
 | nil=>exact nomatch hl
 | cons e us =>
 cases us with
 | cons _ _=>simp at hl
 | nil=>exact h a b c d e
theorem Mg {x qual:Str} {st:Stmt} {f:Addr} {oc:Value} {od an:Option Addr} {bF:Array (Option Value)} {kV doc pm aB ct:Value} (l:K.lookup f=some ⟨oc,od,.func (PySem.W.fnOf x qual (xr st) (nj st) (fj st) .none kV doc pm an aB ct),bF⟩)
  (c:PySem.W.codeIn K aB qual=true) (k:PySem.W.keepIn K (.ref f)=true):Fun K x qual st f (PySem.W.fnOf x qual (xr st) (nj st) (fj st) .none kV doc pm an aB ct):=⟨⟨oc,od,kV,doc,pm,an,aB,ct,bF,rfl,l,c⟩,k⟩
end
theorem Y9 {A:Around} {k:Nat} (hr:uf k A):A.units+1<cLine:=Nat.lt_of_le_of_lt (Nat.add_le_add_left (by decide:1<=64) _) hr.units
theorem v8 {n:Nat} (h:n<=1000):n<sizeLine:=Nat.lt_of_le_of_lt h (by decide)
section
variable {X:Cx}
theorem pv (i:Nat) {x:Str} {pos:Pos} (hN:X.N[i]? = some x:=by rfl) (hv:Vis X.env.scope x:=by first | exact Or.inl rfl | exact Or.inr (Or.inl rfl) | exact Or.inr (Or.inr rfl)) (hd:(x==("__debug__" : Str))=false:=by decide)
  (bq:(x==("__classdict__" : Str))=false:=by decide):PE X (.Name x pos) (Ol i):=R7 hN hv hd bq
end
theorem Qg {A B:Prop} (h:B):if false=true then A else B:=by
 rw [if_neg Bool.false_ne_true];exact h
theorem S7 {A B:Prop} (h:A):if true=true then A else B:=by
 rw [if_pos rfl];exact h
def Same (H H':Hp):Prop:=∀ b o,H b=some o->H' b=some o
theorem Same.refl (H:Hp):Same H H:=fun _ _ h=>h
theorem Same.trans {H H1 H2:Hp} (a:Same H H1) (b:Same H1 H2):Same H H2:=fun c o h=>b c o (a c o h)
theorem Same.free {H H':Hp} (e:Same H H') {l:Addr} (h:H' l=Option.none):H l=Option.none:=by
 cases q:H l with
 | none=>rfl
 | some o =>
  rw [e l o q] at h;cases h
section
variable {X:Cx}
end
section
variable {κ:Type} [DecidableEq κ]
end
section
variable {pr:Program} {wd:World} {Ar:Around} {Rs:Result->Shared->Prop} {s:Shared}
theorem Iv {el dn eI:Expr} {cs:List Expr} {eM:Scope} {ps:Pos} {bY aG:Value} {en:Env} (J:Nat->Shared->Prop)
  (turn:∀ n z,J n z->wpAny (model pr wd) Ar (pyNext bY) (fun nx z1=>match nx with
   | none=>Rs (.ok .next) z1
   | some v=>wpAny (model pr wd) Ar (letOwnedTupleGo dn bY v) (fun _ z2=>wpAny (model pr wd) Ar (assign dn en v) (fun _ z3 =>
     wpAny (model pr wd) Ar (forIn cs true fun c go=>if go=true then do let ok <- isTrue c en (eval c en); pure (ForInStep.yield ok) else pure (ForInStep.yield go)) (fun ok z4 =>
      if ok=true then wpAny (model pr wd) Ar (eval el en) (fun x z5 =>
       wpAny (model pr wd) Ar (call (.builtin "list.append") [aG,x]) (fun _ z6=>∃ m,m<n/\J m z6) (fun _ _=>False) z5) (notedBy (model pr wd) Ar en fun x z=>Rs (.error x) z) z4
      else ∃ m,m<n/\J m z4) (fun _ _=>False) z3) (fun _ _=>False) z2) (fun _ _=>False) z1) (fun _ _=>False) z)
  (n:Nat) (h:J n s) :
  codeAny (model pr wd) Ar (.compLoop (.ListComp el [⟨dn,eI,cs,0⟩] eM ps) 0 bY aG en) Rs s:=by
 refine codeAny_loop rfl J (fun k z hz=>?_) n h;show wpAny _ Ar ((compTurn (.ListComp el [⟨dn,eI,cs,0⟩] eM ps) 0 bY aG en).onRaise (fun ex=>do noteFrame ex en; theTreesLotGoes ex)) _ _ z;refine wpAny_noted ?_;rw [compTurn_list];refine wpAny_bind (wpAny_standAt (wpAny_bind (wpAny_mono (turn k z hz) (fun nx z1 g1=>?_) fun _ _ no=>no.elim)));cases nx with
 | none=>exact wpAny_pure g1
 | some v =>
  refine wpAny_bind (wpAny_mono g1 (fun _ z2 g2=>?_) fun _ _ no=>no.elim);refine wpAny_bind (wpAny_mono g2 (fun _ z3 g3=>wpAny_bind (wpAny_mono g3 (fun ok z4 g4=>?_) fun _ _ no=>no.elim)) fun _ _ no=>no.elim);cases ok with
  | false=>exact wpAny_pure (And.intro rfl g4)
  | true =>
   exact wpAny_bind (wpAny_bind (wpAny_mono g4 (fun x z5 g5=>wpAny_bind (wpAny_mono g5 (fun _ z6 g6=>wpAny_pure (wpAny_pure (And.intro rfl g6))) fun _ _ no=>no.elim)) fun _ _ e=>e))
end
noncomputable def Jm (env:Env):List (Str × NameKind)->List (Str × Addr)->List (Str × Addr)
 | [],cs=>cs
 | (n,k)::r,cs=>Jm env r (if (k==NameKind.free)=true then (match env.cells.lookup n with | some c=>(n,c)::cs | none=>cs) else cs)
noncomputable def vg (env:Env) (names:List (Str × NameKind)):Bool:=names.all fun y=>!(y.2==NameKind.free)||(env.cells.lookup y.1).isSome
theorem ug {scope:Scope} {env:Env} (h:vg env scope.names=true):closureFor scope env=pure (Jm env scope.names []):=by
 have key:∀ (l:List (Str × NameKind)) (cs:List (Str × Addr)),vg env l=true ->
   (forIn (m:=Sem) l cs fun x r=>(do
    if (x.2==NameKind.free)=true then
     let c <- cellOf env x.1
     pure (ForInStep.yield ((x.1,c)::r))
    else pure (ForInStep.yield r)))=pure (Jm env l cs):=by
  intro l
  induction l with
  | nil=>intro cs _; rfl
  | cons x r ih =>
   intro cs h;obtain ⟨n,k⟩:=x;unfold vg at h;rw [List.all_cons,Bool.and_eq_true] at h;obtain ⟨h1,h2⟩:=h;rw [List.forIn_cons]
   by_cases hk:(k==NameKind.free)=true
   ·have cD:(env.cells.lookup n).isSome=true:=by simpa [hk] using h1
    obtain ⟨c,hc⟩:=Option.isSome_iff_exists.mp cD;have e:cellOf env n=pure c:=by unfold cellOf; rw [hc]
    simp only [hk,if_true,e,pure_bind];rw [ih _ h2];simp only [Jm,hk,if_true,hc]
   ·simp only [hk,if_false,pure_bind,Bool.false_eq_true];rw [ih _ h2];simp only [Jm,hk,if_false,Bool.false_eq_true]
 have:=key scope.names [] h;unfold closureFor;simpa using this
noncomputable def j6 (X:Cx) (scope:Scope) (N:List Str) (C:Addr) (s₀:Shared) (H₀:Hp) (ex:List Addr) (pn:List (Addr × Obj)):Cx :=
 { X with N:=N,s₀:=s₀,H₀:=H₀,env:=compEnvC scope (Jm X.env scope.names []) C X.env,outer:=X.stack,ex:=ex,fn:=fun _=>false,pn:=pn,xe:=fun _ _=>False }
structure wj (X:Cx) (scope:Scope) (N:List Str):Prop where
 has:vg X.env scope.names=true
 kind:scope.kind=.function
 nocell:∀ y∈scope.names,y.2≠.cell
 names:∀ y∈scope.names,y.2=.local->scope.names.lookup y.1=some .local
def Wj (X:Cx) (scope:Scope) (x:Str):Prop :=
 (X.env.kindOf x=some .cell\/X.env.kindOf x=some .free)/\Vis X.env.scope x/\((relabel scope X.env).names.lookup x=some .cell\/(relabel scope X.env).names.lookup x=some .free)
theorem Df {env:Env}:∀ (l:List (Str × NameKind)) (cs:List (Str × Addr)),(∀ x c,cs.lookup x=some c->env.cells.lookup x=some c) ->
  ∀ x c,(Jm env l cs).lookup x=some c->env.cells.lookup x=some c
 | [],cs,h,x,c,e=>h x c e
 | (n,k)::r,cs,h,x,c,e=>by
  rw [Jm] at e;refine Df r _ (fun y d q=>?_) x c e;split at q
  ·split at q
   ·rename_i c' bX;rw [List.lookup_cons] at q;split at q
    ·rename_i hb;cases q;have dY:=eq_of_beq hb;rw [dY]; exact bX
    ·exact h y d q
   ·exact h y d q
  ·exact h y d q
theorem Pj {env:Env}:∀ (l:List (Str × NameKind)) (cs:List (Str × Addr)) (x:Str),(∃ c,cs.lookup x=some c)->∃ c,(Jm env l cs).lookup x=some c
 | [],cs,x,h=>h
 | (n,k)::r,cs,x,h=>by
  rw [Jm];refine Pj r _ x ?_;split
  ·split
   ·rename_i c' bX;rw [List.lookup_cons];split
    ·exact ⟨_,rfl⟩
    ·exact h
   ·exact h
  ·exact h
theorem Rz {env:Env}:∀ (l:List (Str × NameKind)) (cs:List (Str × Addr)) (x:Str),vg env l=true->(x,NameKind.free)∈l->∃ c,(Jm env l cs).lookup x=some c
 | [],cs,x,_,h=>by simp at h
 | (n,k)::r,cs,x,hh,h=>by
  unfold vg at hh;rw [List.all_cons,Bool.and_eq_true] at hh;rw [Jm];rcases List.mem_cons.mp h with e | h'
  ·injection e with e1 e2;subst e1; subst e2;have h1:(env.cells.lookup x).isSome=true:=by simpa using hh.1
   obtain ⟨c,hc⟩:=Option.isSome_iff_exists.mp h1;refine Pj r _ x ?_;simp [hc]
  ·exact Rz r _ x hh.2 h'
theorem mem_of_lookup {α:Type}:∀ {l:List (Str × α)} {x:Str} {k:α},l.lookup x=some k->(x,k)∈l
 | [],_,_,h=>by simp at h
 | (n,k')::r,x,k,h=>by
  rw [List.lookup_cons] at h;split at h
  ·rename_i hb;cases h;have dY:=eq_of_beq hb;rw [dY]; exact List.mem_cons_self
  ·exact List.mem_cons_of_mem _ (mem_of_lookup h)
theorem Mp {scope:Scope} {env:Env} (nc:∀ y∈scope.names,y.2≠.cell) {x:Str} (h:(relabel scope env).names.lookup x=some .cell\/(relabel scope env).names.lookup x=some .free):(x,NameKind.free)∈scope.names:=by
 have:∃ k,(x,k)∈(relabel scope env).names/\(k=.cell\/k=.free):=by
  rcases h with h | h
  ·exact ⟨_,mem_of_lookup h,.inl rfl⟩
  ·exact ⟨_,mem_of_lookup h,.inr rfl⟩
 obtain ⟨k,hm,hk⟩:=this;obtain ⟨⟨n,k'⟩,hm',e⟩:=List.mem_map.mp hm;dsimp only at e;split at e
 ·rename_i hc;cases e;simp only [Bool.and_eq_true,beq_iff_eq] at hc;obtain ⟨⟨h1,_⟩,_⟩:=hc;subst h1; exact hm'
 ·cases e;rcases hk with rfl | rfl
  ·exact absurd rfl (nc _ hm')
  ·exact hm'
def PTs (X:Cx) (ifs:List Expr) (t:TT):Prop:=∀ (pins:List (Addr × Obj)) (s:Shared) (σ:St) (H:Hp) (Q:Bool->Hp->Prop),Inv X pins σ H s->t σ H Q ->
 wpAny (model X.prog X.w) X.A (forIn ifs true fun c r=>if r=true then do let ok <- isTrue c X.env (eval c X.env); pure (ForInStep.yield ok) else pure (ForInStep.yield r)) (TP X pins σ Q) X.xe s
theorem Qx {X:Cx}:PTs X [] (fun _ H Q=>Q true H):=fun pins s σ H Q I h=>wpAny_tests_nil ⟨H,I,h⟩
def Eo (X:Cx) (scope:Scope) (N:List Str) (g:TG) (tc:TT) (te:TE) (σ:St) (J:It) (H1:Hp) (Q:VK):Prop:=∀ D,H1 D=none->∃ aV:St,aV.length=N.length /\
 (∀ (i:Nat) (v:V) (x:Str),aV[i]? = some (some v)->N[i]? = some x->Vis (relabel scope X.env) x->∃ k:Nat,X.N[k]? = some x/\σ[k]? = some (some v)/\Wj X scope x) /\
 ∃ W:Nat->Nat->St->Hp->Prop,(∃ m,W 0 m aV (upd H1 D (.lst [])))/\∀ i m af H',W i m af H' ->
  (J.stop i H'/\Q (.ref D) H')\/(J.go i H'/\∀ x H2,J.yld i H' x H2->g x af H2 fun bt H3=>tc bt H3 fun b H4=>if b=true then te bt H4 fun y H5=>∃ l,H5 D=some (.lst l)/\l.length<sizeLine/\∃ m',m'<m/\W (i+1) m' bt (upd H5 D (.lst (l++[y]))) else ∃ m',m'<m/\W (i+1) m' bt H4)
noncomputable def Ze (X:Cx) (scope:Scope) (N:List Str) (wi:TI) (g:TG) (tc:TT) (te:TE):TE:=fun σ H Q=>wi σ H fun J H1=>Eo X scope N g tc te σ J H1 Q
section
variable {X:Cx} {scope:Scope} {N:List Str}
theorem S9 (sc:wj X scope N) {pins:List (Addr × Obj)} {σ:St} {H:Hp} {s:Shared} {fp:List Addr} (I:Inv X pins σ H s) (hf:∀ b∈fp,Dj X pins H b) (c6:∀ b∈fp,b<s.heap.objs.size) :
  (j6 X scope N s.heap.objs.size s H fp (X.pn++pins)).Ok where
 mod:=I.ok.mod
 kind:=sc.kind
 glob:=I.ok.glob
 blt:=I.ok.blt
 above:=Nat.le_refl _
 inj:=fun x y c h1 h2=>I.ok.inj x y c (Df _ [] (fun _ _ z=>by simp at z) x c h1) (Df _ [] (fun _ _ z=>by simp at z) y c h2)
 has:=fun x h=>Rz _ [] x sc.has (Mp sc.nocell h)
 cab:=fun x c h=>by cases h
 hd:=I.ok.hd
 frames:=I.ok.frames
 stk:=.inl rfl
 exf:=fun b hb=>⟨Nat.ne_of_lt (c6 b hb),fun x c h=>(hf b hb).2.2.2.2.1 x c (Df _ [] (fun _ _ z=>by simp at z) x c h)⟩
 bs:=I.bs
 bsz:=Nat.le_trans I.ok.bsz I.sz
 noex:=fun b o e hb=>by
  rcases (hf b hb).2.2.2.1 with z | z
  ·exact I.ok.noex b o e z
  ·exact absurd (Nat.lt_of_lt_of_le (Heap.lt_size e) (Nat.le_trans I.ok.bsz z)) (Nat.lt_irrefl _)
 exfs:=fun b hb z=>by
  rcases List.mem_cons.mp (I.Ij b z) with e | e
  ·exact (hf b hb).2.1 e
  ·exact (hf b hb).2.2.1 e
 Ov:=I.stack
 frf:=I.Iz
theorem Om (sc:wj X scope N) {pins:List (Addr × Obj)} {σ aV:St} {H:Hp} {s:Shared} {fp:List Addr} {h':Heap} {m:Str->Option Value} {tk:Nat} (I:Inv X pins σ H s) (hf:∀ b∈fp,Dj X pins H b) (c6:∀ b∈fp,b<s.heap.objs.size)
  (hl:aV.length=N.length) (h0:∀ (i:Nat) (v:V) (x:Str),aV[i]? = some (some v)->N[i]? = some x->Vis (relabel scope X.env) x->∃ k:Nat,X.N[k]? = some x/\σ[k]? = some (some v)/\Wj X scope x)
  (hn:h'.Ns s.heap.objs.size m) (hk:∀ b o,s.heap.get? b=some o->h'.get? b=some o) :
  Inv (j6 X scope N s.heap.objs.size s H fp (X.pn++pins)) [] aV H { s with heap:=h',toks:=tk } where
 ok:=S9 sc I hf c6
 os:=rfl
 bare:=I.bare
 base:=Un.kept hk
 loc:=⟨m,hn,fun i x v e1 e2 e3=>by
  obtain ⟨k,n2,n3,ck,cv,cr⟩:=h0 i v x e2 e1 e3;obtain ⟨m0,_,hl0⟩:=I.loc;obtain ⟨u,r,l⟩:=hl0 k x v n2 n3 cv;refine ⟨u,r,.inr ⟨cr,?_⟩⟩;rcases l with ⟨l1,_⟩ | ⟨_,c,hc,z⟩
  ·rcases ck with q | q <;> (rw [l1] at q; cases q)
  ·obtain ⟨c',bX⟩:=Rz (env:=X.env) scope.names [] x sc.has (Mp sc.nocell cr);have q:=Df scope.names [] (fun _ _ z=>by simp at z) x c' bX;rw [hc] at q; cases q;obtain ⟨o,ho,hd⟩:=z;exact ⟨c,bX,o,hk _ _ ho,hd⟩⟩
 cell:=fun x c e=>by
  obtain ⟨v,o,ho,hd⟩:=I.cell x c (Df scope.names [] (fun _ _ z=>by simp at z) x c e);exact ⟨v,o,hk _ _ ho,hd⟩
 free:=I.hok.fresh (Nat.le_refl _)
 freeC:=fun x c e=>I.freeC x c (Df scope.names [] (fun _ _ z=>by simp at z) x c e)
 pin:=fun p hp=>by
  have dE:p∈X.pn++pins:=by simpa [j6] using hp
  obtain ⟨a,b,c,d,e⟩:=I.pin p dE;refine ⟨hk _ _ a,b,Nat.ne_of_lt (Heap.lt_size a),fun z=>?_,e⟩;rcases List.mem_cons.mp (I.Ij p.1 z) with q | q
  ·exact c q
  ·exact d q
 hok:=I.hok.kept hk
 len:=hl
theorem Bh {pins:List (Addr × Obj)} {σ af:St} {H H':Hp} {s s':Shared} {fp:List Addr} {h':Heap} (I:Inv X pins σ H s) (hf:∀ b∈fp,Dj X pins H b)
  (J:Inv (j6 X scope N s.heap.objs.size s H fp (X.pn++pins)) [] af H' s') (hs:Heap.SameBut s.heap.objs.size s'.heap h'):Inv X pins σ H' { s' with heap:=h' }:=by
 have kb:∀ b o,b≠s.heap.objs.size->s'.heap.get? b=some o->h'.get? b=some o:=fun b o n e=>hs.extBut b o n e;have ne:∀ b o,s.heap.get? b=some o->b≠s.heap.objs.size:=fun b o e=>Nat.ne_of_lt (Heap.lt_size e);have fr:H' s.heap.objs.size=none:=J.free;have u0:Un (frs X.stack) fp H H' s.heap s'.heap:=J.base
 have u:Un (frs X.stack) fp H H' s.heap h':=⟨fun b o e n h1 h2=>kb b o (ne b o e) (u0.keep b o e n h1 h2),fun b o e n h1 h2=>by
   obtain ⟨sl,q⟩:=u0.slot b o e n h1 h2;exact ⟨sl,kb b _ (ne b o e) q⟩,u0.free,fun b o e h=>by
   obtain ⟨o',q⟩:=u0.there b o e h;exact ⟨o',kb b _ (ne b o e) q⟩,u0.tups,u0.frzs,u0.tbls⟩
 have hok:HOk X.prog X.w H' h':=fun b o e=>by
  refine (J.hok b o e).stay (fun c v hc q=>kb c v ?_ q) (fun _ q=>q) fun _ _ q=>q;rcases hc with z | z
  ·rw [z]; intro y; rw [y] at e; rw [fr] at e; cases e
  ·intro y; rw [y] at z; rw [fr] at z; cases z
 have b7:s'.os=s.os:=J.os;obtain ⟨hh,g,d,t,os'⟩:=s';obtain rfl:os'=s.os:=b7;exact Inv.call (X:=X) (s:=s) (H:=H) (h':=h') (g':=g) (d':=d) (t':=t) (ch:=fp) I u hok J.bare fun b hb=>⟨(hf b hb).2.2.2.1,(hf b hb).2.1,(hf b hb).2.2.2.2.1,(hf b hb).2.2.2.2.2⟩
variable {tg iter elt:Expr} {ifs:List Expr} {pos:Pos} {g:TG} {tc:TT} {te:TE}
theorem Dk {Ex:Cx->Value->Shared->Prop} (sc:wj X scope N) (calm:X.calm=true)
  (hg:∀ C s₀ H₀ ex pn,PG (j6 X scope N C s₀ H₀ ex pn) tg g) (hc:∀ C s₀ H₀ ex pn,PTs (j6 X scope N C s₀ H₀ ex pn) ifs tc) (he:∀ C s₀ H₀ ex pn,PE ((j6 X scope N C s₀ H₀ ex pn).wish (Ex (j6 X scope N C s₀ H₀ ex pn))) elt te)
  {pins:List (Addr × Obj)} {σ:St} {H1:Hp} {ax:Shared} {it:Addr} {fp:List Addr} {tn:Nat->Heap->Prop} {J:It} {Q:VK} {E:Value->Shared->Prop} {RR:Value->Addr->Result->Shared->Prop}
  (I:Inv X pins σ H1 ax) (T:Turn X.prog X.w X.K tg J fp it tn) (bc:tn 0 ax.heap) (f2:∀ b∈fp,Dj X pins H1 b) (q:Eo X scope N g tc te σ J H1 Q)
  (cY:∀ D ah H3 af H' s',Inv X pins σ H3 ah->(∀ b∈fp,Dj X pins H3 b)->Inv (j6 X scope N ah.heap.objs.size ah H3 fp (X.pn++pins)) [] af H' s'->Q (.ref D) H'->RR (.ref D) ah.heap.objs.size (.ok .next) s')
  (dO:∀ D ah H3 e s',Inv X pins σ H3 ah->(∀ b∈fp,Dj X pins H3 b)->Ex (j6 X scope N ah.heap.objs.size ah H3 fp (X.pn++pins)) e s'->notedBy (model X.prog X.w) X.A (j6 X scope N ah.heap.objs.size ah H3 fp (X.pn++pins)).env (fun x z=>RR (.ref D) ah.heap.objs.size (.error x) z) e s') :
  wpAny (model X.prog X.w) X.A (newList []) (fun acc ah=>wpAny (model X.prog X.w) X.A (newFunctionEnv scope X.env.globals (Jm X.env scope.names []) [] X.env.qual none .none (some X.env)) (fun a5 aZ =>
   codeAny (model X.prog X.w) X.A (.compStart (.ListComp elt [⟨tg,iter,ifs,0⟩] scope pos) 0 (.ref it) acc { a5 with scope:=relabel scope X.env }) (RR acc a5.locals) aZ) E ah) E ax:=by
 refine wpAny_newObj_type (wpAny_newFunctionEnv sc.nocell (by intro y hy; simp at hy) (fun a6 bu bB=>?_) sc.kind);dsimp only at bu bB ⊢
 have I3:Inv X pins σ (upd H1 ax.heap.objs.size (.lst [])) { ax with heap:=ax.heap.push { cls:=.type "list",dict:=none,data:=.seq ([]:List Value).toArray } } :=
  I.laid (t':=ax.toks) (fun b ob q=>Heap.get?_push_of_some _ q) (Nat.le_refl _) ⟨Nat.zero_le _,[],_,.nil,Heap.get?_push_size _ rfl⟩
 generalize da:({ ax with heap:=ax.heap.push { cls:=.type "list",dict:=none,data:=.seq ([]:List Value).toArray } }:Shared)=ah at I3;have bR:ax.heap.push { cls:=.type "list",dict:=none,data:=.seq ([]:List Value).toArray } = ah.heap:=by rw [<- da]
 have cm:∀ (h:Heap) (t:Nat),({ ax with heap:=h,toks:=t }:Shared) = { ah with heap:=h,toks:=t }:=fun h t=>by rw [<- da]
 rw [bR] at bu bB ⊢
 have eD:∀ b∈fp,b<ax.heap.objs.size:=fun b hb=>by
  obtain ⟨o,ho,_⟩:=T.obj _ _ bc b hb;exact Heap.lt_size ho
 have fX:ah.heap.objs.size=ax.heap.objs.size+1:=by rw [<- bR,Heap.size_push]
 have fB:∀ b o,ax.heap.get? b=some o->ah.heap.get? b=some o:=fun b o e=>by rw [<- bR]; exact Heap.get?_push_of_some _ e
 have f3:∀ b∈fp,Dj X pins (upd H1 ax.heap.objs.size (.lst [])) b:=fun b hb=>⟨by rw [dj (Nat.ne_of_lt (eD b hb))]; exact (f2 b hb).1,(f2 b hb).2⟩;have eh:∀ b∈fp,b<ah.heap.objs.size:=fun b hb=>by rw [fX]; exact Nat.lt_succ_of_lt (eD b hb)
 obtain ⟨aV,hl,h0,W,⟨m0,w0⟩,turn⟩:=q ax.heap.objs.size (I.hok.fresh (Nat.le_refl _));have eJ:∀ b o,ah.heap.get? b=some o->a6.get? b=some o:=fun b o e=>bB.extBut b o (Nat.ne_of_lt (Heap.lt_size e)) (Heap.get?_push_of_some _ e);rw [cm];have J0:=Om (tk:=ax.toks+([]:List (Str × Value)).length) sc I3 f3 eh hl h0 bu eJ;have eL:tn 0 a6:=T.keep _ _ _ bc fun b _ o e=>eJ b o (fB b o e)
 have key:∀ aZ:Shared,aZ = { ah with heap:=a6,toks:=ax.toks+([]:List (Str × Value)).length }->codeAny (model X.prog X.w) X.A (.compLoop (.ListComp elt [⟨tg,iter,ifs,0⟩] scope pos) 0 (.ref it) (.ref ax.heap.objs.size)
   (j6 X scope N ah.heap.objs.size ah (upd H1 ax.heap.objs.size (.lst [])) fp (X.pn++pins)).env) (RR (.ref ax.heap.objs.size) ah.heap.objs.size) aZ:=by
  rintro aZ rfl;generalize hX:j6 X scope N ah.heap.objs.size ah (upd H1 ax.heap.objs.size (.lst [])) fp (X.pn++pins)=X' at J0;have hP:X'.prog=X.prog:=by rw [<- hX]; rfl
  have hW:X'.w=X.w:=by rw [<- hX]; rfl
  have hA:X'.A=X.A:=by rw [<- hX]; rfl
  have dZ:X'.xe=fun _ _=>False:=by rw [<- hX]; rfl
  have hK:X'.K=X.K:=by rw [<- hX]; rfl
  have cU:X'.calm=true:=by rw [<- hX]; exact calm
  have bA:∀ {H':Hp},(∀ b∈fp,H' b=none)->∀ b∈fp,Dj X' [] H' b:=fun hn b hb=>by
   have z:=S9 sc I3 f3 eh;rw [hX] at z;refine ⟨hn b hb,(z.exf b (by rw [<- hX]; exact hb)).1,z.exfs b (by rw [<- hX]; exact hb),.inl (by rw [<- hX]; exact hb),(z.exf b (by rw [<- hX]; exact hb)).2,fun p hp=>?_⟩;have dE:p∈X.pn++pins:=by rw [<- hX] at hp; simpa [j6] using hp
   exact (f3 b hb).2.2.2.2.2 p dE
  have fG:PG X' tg g:=by rw [<- hX]; exact hg _ _ _ _ _
  have bX:PTs X' ifs tc:=by rw [<- hX]; exact hc _ _ _ _ _
  have b9:PE (X'.wish (Ex X')) elt te:=by rw [<- hX]; exact he _ _ _ _ _
  have dH:∀ e s',Ex X' e s'->notedBy (model X.prog X.w) X.A X'.env (fun x z=>RR (.ref ax.heap.objs.size) ah.heap.objs.size (.error x) z) e s':=fun e s' z=>by rw [<- hX] at z ⊢; exact dO _ ah _ e s' I3 f3 z
  have fin:∀ af H' s',Inv X' [] af H' s'->Q (.ref ax.heap.objs.size) H'->RR (.ref ax.heap.objs.size) ah.heap.objs.size (.ok .next) s':=fun af H' s' I' q'=>cY _ ah _ af H' s' I3 f3 (by rw [hX]; exact I') q';have T':Turn X'.prog X'.w X'.K tg J fp it tn:=by rw [hP,hW,hK]; exact T
  rw [<- hP,<- hW,<- hA];refine Iv (J:=fun n s'=>∃ i af H',Inv X' [] af H' s'/\tn i s'.heap/\(∀ b∈fp,H' b=none)/\W i n af H') ?_ m0 ⟨0,aV,_,J0,eL,fun b hb=>(f3 b hb).1,w0⟩;rintro n s5 ⟨i,σ5,H5,I5,st5,fr5,w5⟩;rcases turn i n σ5 H5 w5 with ⟨stop,qn⟩ | ⟨go,step⟩
  ·refine thn (T'.done X' rfl rfl rfl cU i [] s5 σ5 H5 _ I5 (bA fr5) st5 stop) fun r s6 z0=>?_;obtain ⟨hr,I6⟩:=z0;subst hr;exact fin _ _ _ I6 qn
  ·refine thn (T'.item X' rfl rfl rfl cU i [] s5 σ5 H5 _ I5 (bA fr5) st5 go) fun r s6 z0=>?_;obtain ⟨u,hr,h6⟩:=z0;subst hr;refine thn h6 fun _ s7 z0=>?_;obtain ⟨x,H7,I7,r7,y7,st7,fr7⟩:=z0;have fL:=I7.pinned (bA fr7) (T'.obj _ _ st7);have a1:=fG _ s7 σ5 H7 x u _ fL r7 (step x H7 y7);rw [dZ] at a1;refine thn a1 fun _ s8 z0=>?_;obtain ⟨σ8,H8,I8,q8⟩:=z0;have a2:=bX _ s8 σ8 H8 _ I8 q8;rw [dZ] at a2;refine thn a2 fun ok s9 z0=>?_;obtain ⟨H9,I9,q9⟩:=z0
   have again:∀ {bp:St} {H7:Hp} {s':Shared} {m':Nat},Inv X' ([]++Ie fp s7.heap) bp H7 s'->m'<n->W (i+1) m' bp H7->∃ m,m<n/\∃ i af H',Inv X' [] af H' s'/\tn i s'.heap/\(∀ b∈fp,H' b=none)/\W i m af H':=fun {bp H7 s' m'} I7 hm w7=>by
    refine ⟨m',hm,i+1,bp,H7,I7.zq,T'.keep _ _ _ st7 fun b hb o e=>(I7.pin (b,o) (List.mem_append_right _ (List.mem_append_right _ (u9 hb e)))).1,fun b hb=>?_,w7⟩;obtain ⟨o,e,d⟩:=T'.obj _ _ st7 b hb;exact (I7.pin (b,o) (List.mem_append_right _ (List.mem_append_right _ (u9 hb e)))).2.1
   cases ok with
   | false =>
    rw [if_neg Bool.false_ne_true] at q9 ⊢;obtain ⟨m',hm,w9⟩:=q9;exact again I9 hm w9
   | true =>
    rw [if_pos rfl] at q9 ⊢;refine wpAny_mono (b9 _ s9 σ8 H9 _ (I9.wish _) q9) (fun xv eT z0=>?_) fun e z h=>by rw [hP,hW,hA]; exact dH e z h
    obtain ⟨y,H10,I10',r10,l,hl10,hz10,m',hm,w10⟩:=z0;have fQ:=I10'.w6;have a4:=m9 (X:=X') _ eT σ8 H10 (.ref ax.heap.objs.size) [y] (.ref ax.heap.objs.size) [xv] (fun _ H'=>H'=upd H10 ax.heap.objs.size (.lst (l++[y]))) fQ rfl (.cons r10 .nil) ⟨_,l,y,rfl,rfl,hl10,hz10,rfl⟩;rw [dZ] at a4;refine thn a4 fun _ gp z0=>?_;obtain ⟨v,H11,I11,_,e11⟩:=z0;subst e11;exact again I11 hm w10
 exact codeAny_compStart_list (key _ rfl) (T.self _ 0 _ _ _ eL (key _ rfl))
theorem Ec (sc:wj X scope N) (calm:X.calm=true)
  (hg:∀ C s₀ H₀ ex pn,PG (j6 X scope N C s₀ H₀ ex pn) tg g) (hc:∀ C s₀ H₀ ex pn,PTs (j6 X scope N C s₀ H₀ ex pn) ifs tc) (he:∀ C s₀ H₀ ex pn,PE (j6 X scope N C s₀ H₀ ex pn) elt te)
  {pins:List (Addr × Obj)} {σ:St} {H1:Hp} {ax:Shared} {it:Addr} {fp:List Addr} {tn:Nat->Heap->Prop} {J:It} {Q:VK} {E:Value->Shared->Prop} {RR:Value->Addr->Result->Shared->Prop}
  (I:Inv X pins σ H1 ax) (T:Turn X.prog X.w X.K tg J fp it tn) (bc:tn 0 ax.heap) (f2:∀ b∈fp,Dj X pins H1 b) (q:Eo X scope N g tc te σ J H1 Q)
  (cY:∀ D ah H3 af H' s',Inv X pins σ H3 ah->(∀ b∈fp,Dj X pins H3 b)->Inv (j6 X scope N ah.heap.objs.size ah H3 fp (X.pn++pins)) [] af H' s'->Q (.ref D) H'->RR (.ref D) ah.heap.objs.size (.ok .next) s') :
  wpAny (model X.prog X.w) X.A (newList []) (fun acc ah=>wpAny (model X.prog X.w) X.A (newFunctionEnv scope X.env.globals (Jm X.env scope.names []) [] X.env.qual none .none (some X.env)) (fun a5 aZ =>
   codeAny (model X.prog X.w) X.A (.compStart (.ListComp elt [⟨tg,iter,ifs,0⟩] scope pos) 0 (.ref it) acc { a5 with scope:=relabel scope X.env }) (RR acc a5.locals) aZ) E ah) E ax :=
 Dk (Ex:=fun _ _ _=>False) sc calm hg hc he I T bc f2 q cY fun _ _ _ _ _ _ _ z=>z.elim
theorem Y6 {wi:TI} (sc:wj X scope N) (calm:X.calm=true) (hi:PI X tg iter wi)
  (hg:∀ C s₀ H₀ ex pn,PG (j6 X scope N C s₀ H₀ ex pn) tg g) (hc:∀ C s₀ H₀ ex pn,PTs (j6 X scope N C s₀ H₀ ex pn) ifs tc) (he:∀ C s₀ H₀ ex pn,PE (j6 X scope N C s₀ H₀ ex pn) elt te)
  (hs:∀ x,foldedSetIterable iter X.env x=pure x:=by intro _; rfl):PE X (.ListComp elt [⟨tg,iter,ifs,0⟩] scope pos) (Ze X scope N wi g tc te):=by
 intro pins s σ H Q I h;rw [eval_ListComp];refine wpAny_comprehension_free (use:=none) rfl hs (ug sc.has) sc.kind sc.names ?_;refine wpAny_mono (hi pins s σ H _ I h) (fun x av a6=>wpAny_mono a6 (fun bY ax bN=>?_) fun _ _ e=>e) fun _ _ e=>e;obtain ⟨it,fp,tn,J,H1,rfl,I2,T,bc,f2,q⟩:=bN;refine Ec (RR:=fun acc C=>compPost (model X.prog X.w) X.A X.xe none (EP X pins σ Q) acc C) sc calm hg hc he I2 T bc f2 q ?_;intro D ah H3 af H' s' I3 f3 I' qn;obtain ⟨m,hn,_⟩:=I'.loc;exact ⟨m,hn,fun h' bC=>⟨.ref D,H',Bh I3 f3 I' bC,rfl,qn⟩⟩
theorem Jb {wi:TI} {y:Str} {py cX:Pos} {i:Nat} (sc:wj X scope N) (calm:X.calm=true) (hi:PI X tg iter wi)
  (hg:∀ C s₀ H₀ ex pn,PG (j6 X scope N C s₀ H₀ ex pn) tg g) (hc:∀ C s₀ H₀ ex pn,PTs (j6 X scope N C s₀ H₀ ex pn) ifs tc) (he:∀ C s₀ H₀ ex pn,PE (j6 X scope N C s₀ H₀ ex pn) elt te)
  (fw:PG X (.Name y py) (Er i)) (cQ:swapsWith (.ListComp elt [⟨tg,iter,ifs,0⟩] scope pos) (some (.Name y py)) cX.line X.env=pure true)
  (hs:∀ x,foldedSetIterable iter X.env x=pure x:=by intro _; rfl):PS X (.Assign [.Name y py] (.ListComp elt [⟨tg,iter,ifs,0⟩] scope pos) cX) (Xl (Ze X scope N wi g tc te) (Er i)):=by
 intro pins s σ H D I h;rw [exec_Assign_Name_used _ _ _ _ cQ];refine wpAny_bind (wpAny_standAt (wpAny_bind ?_));show wpAny _ X.A (do let _ <- comprehension (.ListComp elt [⟨tg,iter,ifs,0⟩] scope pos) scope X.env _ (newList []) false (eval iter X.env) (some (assign (.Name y py) X.env))) _ _ s;refine wpAny_bind (wpAny_mono (wpAny_comprehension_free (use:=some (assign (.Name y py) X.env)) (Q:=fun _ s'=>SP X pins D .next s') rfl hs (ug sc.has) sc.kind sc.names ?_) (fun _ s' hq=>wpAny_pure (wpAny_pure hq)) fun _ _ e=>e);refine wpAny_mono (hi pins s σ H _ I h) (fun x av a6=>wpAny_mono a6 (fun bY ax bN=>?_) fun _ _ e=>e) fun _ _ e=>e;obtain ⟨it,fp,tn,J,H1,rfl,I2,T,bc,f2,q⟩:=bN;refine Ec (RR:=fun acc C=>compPost (model X.prog X.w) X.A X.xe (some (assign (.Name y py) X.env)) (fun _ s'=>SP X pins D .next s') acc C) sc calm hg hc he I2 T bc f2 q ?_;intro D' ah H3 af H' s' I3 f3 I' qn;obtain ⟨m,hn,_⟩:=I'.loc;obtain ⟨oC,es,ep,hoC,hdC,bS⟩:=id hn;have IX:Inv X pins σ H' s':=Bh I3 f3 I' (.refl ..);have fC:Dj X pins H' ah.heap.objs.size:=I3.Xw (Nat.le_refl _) I'.free
 have fY:=IX.pinned (fp:=[ah.heap.objs.size]) (fun b hb=>by rw [List.mem_singleton.mp hb]; exact fC) (fun b hb=>by
  rw [List.mem_singleton.mp hb];exact ⟨oC,hoC,fun v z=>by rw [hdC] at z; cases z⟩)
 show wpAny _ X.A (assign (.Name y py) X.env (.ref D')) _ _ _;refine thn (fw _ s' σ H' (.ref D') (.ref D') _ fY rfl qn) fun _ cJ z0=>?_;obtain ⟨σ'',H'',I'',q''⟩:=z0;have pC:=I''.pin (ah.heap.objs.size,oC) (List.mem_append_right _ (List.mem_append_right _ (u9 (by simp) hoC)));refine ⟨m,⟨oC,es,ep,pC.1,hdC,bS⟩,fun h' bC=>⟨σ'',H'',?_,q''⟩⟩;exact I''.zq.turned (h':=h') (t':=cJ.toks) (it:=ah.heap.objs.size) (fun b o ne e=>bC.extBut b o ne e) pC.2.1 fC.2.1 fC.2.2.2.1 fC.2.2.2.2.1 fC.2.2.2.2.2
end
end L2
end
section
namespace C
open PySem PySem.Spec PyProof.Rows L2
mutual
inductive Rep (K:PySem.W.Frag) (S:Hp) (as:List Addr):V->T->Prop where
 | non:Rep K S as .non .non
 | bl (b:Bool):Rep K S as (.bl b) (.bl b)
 | int (i:Int):Rep K S as (.int i) (.int i)
 | str (x:Str):Rep K S as (.str x) (.str x)
 | tup {a:Addr} {vs:List V} {ts:List T}:SqT K S a vs->jz K S as vs ts->Rep K S as (.ref a) (.tup ts)
 | lst {a:Addr} {vs:List V} {ts:List T}:SqL K S a vs->jz K S as vs ts->Rep K S as (.ref a) (.lst ts)
 | dic {a:Addr} {ag:List (L2.Key × V)} {ts:List (L2.Key × T)}:Rd S a (.dK ag)->Ax K S as ag ts->Rep K S as (.ref a) (.dic ts)
 | obj {n:Nat} {a:Addr}:as[n]? = some a->Rep K S as (.ref a) (.obj n)
 | adr (a:Addr):Rep K S as (.ref a) (.adr a)
inductive jz (K:PySem.W.Frag) (S:Hp) (as:List Addr):List V->List T->Prop where
 | nil:jz K S as [] []
 | cons {v:V} {t:T} {vs:List V} {ts:List T}:Rep K S as v t->jz K S as vs ts->jz K S as (v::vs) (t::ts)
inductive Ax (K:PySem.W.Frag) (S:Hp) (as:List Addr):List (L2.Key × V)->List (L2.Key × T)->Prop where
 | nil:Ax K S as [] []
 | cons {k:L2.Key} {v:V} {t:T} {vs:List (L2.Key × V)} {ts:List (L2.Key × T)}:Rep K S as v t->Ax K S as vs ts->Ax K S as ((k,v)::vs) ((k,t)::ts)
end
theorem p7 {S S':Hp} {a:Addr} {u:HO} (e:Same S S') (h:Rd S a u):Rd S' a u:=by
 rcases h with h | ⟨o,h⟩
 ·exact .inl (e _ _ h)
 ·exact .inr ⟨o,e _ _ h⟩
theorem jf {K:PySem.W.Frag} {S S':Hp} {a:Addr} {xs:List V} (e:Same S S') (h:SqT K S a xs):SqT K S' a xs:=by
 rcases h with h | h
 ·exact .inl (p7 e h)
 ·exact .inr h
theorem iz {K:PySem.W.Frag} {S S':Hp} {a:Addr} {xs:List V} (e:Same S S') (h:SqL K S a xs):SqL K S' a xs:=by
 rcases h with h | h
 ·exact .inl (p7 e h)
 ·exact .inr h
section
variable {K:PySem.W.Frag} {S S':Hp} {as ai:List Addr}
theorem Rv {α:Type} {l r:List α} {n:Nat} {a:α} (h:l[n]? = some a):(l++r)[n]? = some a:=by
 have:=(List.getElem?_eq_some_iff.mp h).1;rw [List.getElem?_append_left this]; exact h
theorem Ju {n:Nat} {a:Addr} (x:∃ l,ai=as++l) (h:as[n]? = some a):ai[n]? = some a:=by obtain ⟨l,rfl⟩:=x; exact Rv h
theorem Rep.mono (e:Same S S') (x:∃ l,ai=as++l) {v:V} {t:T} (h:Rep K S as v t):Rep K S' ai v t :=
 Rep.rec (motive_1:=fun v t _=>Rep K S' ai v t) (motive_2:=fun v t _=>jz K S' ai v t) (motive_3:=fun v t _=>Ax K S' ai v t) .non .bl .int .str (fun h _ i=>.tup (jf e h) i) (fun h _ i=>.lst (iz e h) i) (fun h _ i=>.dic (p7 e h) i) (fun h=>.obj (Ju x h)) .adr .nil (fun _ _ a b=>.cons a b) .nil (fun _ _ a b=>.cons a b) h
theorem jz.mono (e:Same S S') (x:∃ l,ai=as++l) {v:List V} {t:List T} (h:jz K S as v t):jz K S' ai v t :=
 jz.rec (motive_1:=fun v t _=>Rep K S' ai v t) (motive_2:=fun v t _=>jz K S' ai v t) (motive_3:=fun v t _=>Ax K S' ai v t) .non .bl .int .str (fun h _ i=>.tup (jf e h) i) (fun h _ i=>.lst (iz e h) i) (fun h _ i=>.dic (p7 e h) i) (fun h=>.obj (Ju x h)) .adr .nil (fun _ _ a b=>.cons a b) .nil (fun _ _ a b=>.cons a b) h
theorem Ax.mono (e:Same S S') (x:∃ l,ai=as++l) {v:List (L2.Key × V)} {t:List (L2.Key × T)} (h:Ax K S as v t):Ax K S' ai v t :=
 Ax.rec (motive_1:=fun v t _=>Rep K S' ai v t) (motive_2:=fun v t _=>jz K S' ai v t) (motive_3:=fun v t _=>Ax K S' ai v t) .non .bl .int .str (fun h _ i=>.tup (jf e h) i) (fun h _ i=>.lst (iz e h) i) (fun h _ i=>.dic (p7 e h) i) (fun h=>.obj (Ju x h)) .adr .nil (fun _ _ a b=>.cons a b) .nil (fun _ _ a b=>.cons a b) h
inductive Lx (K:PySem.W.Frag) (S:Hp) (as:List Addr):List (Str × V)->List (Str × T)->Prop where
 | nil:Lx K S as [] []
 | cons {k:Str} {v:V} {t:T} {vs:List (Str × V)} {ts:List (Str × T)}:Rep K S as v t->Lx K S as vs ts->Lx K S as ((k,v)::vs) ((k,t)::ts)
theorem Lx.mono (e:Same S S') (x:∃ l,ai=as++l) {v:List (Str × V)} {t:List (Str × T)} (h:Lx K S as v t):Lx K S' ai v t:=by
 induction h with
 | nil=>exact .nil
 | cons h _ ih=>exact .cons (h.mono e x) ih
inductive W4 (K:PySem.W.Frag) (S:Hp) (as:List Addr):List (List L2.Key × V)->List (List L2.Key × T)->Prop where
 | nil:W4 K S as [] []
 | cons {k:List L2.Key} {v:V} {t:T} {vs:List (List L2.Key × V)} {ts:List (List L2.Key × T)}:Rep K S as v t->W4 K S as vs ts->W4 K S as ((k,v)::vs) ((k,t)::ts)
theorem W4.mono (e:Same S S') (x:∃ l,ai=as++l) {v:List (List L2.Key × V)} {t:List (List L2.Key × T)} (h:W4 K S as v t):W4 K S' ai v t:=by
 induction h with
 | nil=>exact .nil
 | cons h _ ih=>exact .cons (h.mono e x) ih
theorem W4.length {vs:List (List L2.Key × V)} {ts:List (List L2.Key × T)} (h:W4 K S as vs ts):vs.length=ts.length:=by
 induction h with
 | nil=>rfl
 | cons _ _ ih=>exact congrArg (· + 1) ih
theorem jz.length {vs:List V} {ts:List T} (h:jz K S as vs ts):vs.length=ts.length :=
 jz.rec (motive_1:=fun _ _ _=>True) (motive_2:=fun v t _=>v.length=t.length) (motive_3:=fun _ _ _=>True) trivial (fun _=>trivial) (fun _=>trivial) (fun _=>trivial) (fun _ _ _=>trivial) (fun _ _ _=>trivial) (fun _ _ _=>trivial) (fun _=>trivial) (fun _=>trivial) rfl (fun _ _ _ i=>congrArg (· + 1) i) trivial (fun _ _ _ _=>trivial) h
theorem Ax.length {vs:List (L2.Key × V)} {ts:List (L2.Key × T)} (h:Ax K S as vs ts):vs.length=ts.length :=
 Ax.rec (motive_1:=fun _ _ _=>True) (motive_2:=fun _ _ _=>True) (motive_3:=fun v t _=>v.length=t.length) trivial (fun _=>trivial) (fun _=>trivial) (fun _=>trivial) (fun _ _ _=>trivial) (fun _ _ _=>trivial) (fun _ _ _=>trivial) (fun _=>trivial) (fun _=>trivial) trivial (fun _ _ _ _=>trivial) rfl (fun _ _ _ i=>congrArg (· + 1) i) h
theorem jz.get:∀ {vs:List V} {ts:List T} {i:Nat} {t:T},jz K S as vs ts->ts[i]? = some t->∃ v,vs[i]? = some v/\Rep K S as v t
 | _,_,_,_,.nil,e=>by simp at e
 | _,_,0,_,.cons r _,e=>by simp at e; subst e; exact ⟨_,rfl,r⟩
 | _,_,i+1,t,.cons _ r,e=>by
  obtain ⟨v,h1,h2⟩:=jz.get (i:=i) (t:=t) r (by simpa using e);exact ⟨v,by simpa using h1,h2⟩
theorem jz.append {vs:List V} {ts:List T} {ws:List V} {us:List T} (h:jz K S as vs ts) (q:jz K S as ws us):jz K S as (vs++ws) (ts++us) :=
 jz.rec (motive_1:=fun _ _ _=>True) (motive_2:=fun v t _=>jz K S as (v++ws) (t++us)) (motive_3:=fun _ _ _=>True) trivial (fun _=>trivial) (fun _=>trivial) (fun _=>trivial) (fun _ _ _=>trivial) (fun _ _ _=>trivial) (fun _ _ _=>trivial) (fun _=>trivial) (fun _=>trivial) q (fun h _ _ i=>.cons h i) trivial (fun _ _ _ _=>trivial) h
theorem jz.reverse:∀ {vs:List V} {ts:List T},jz K S as vs ts->jz K S as vs.reverse ts.reverse
 | _,_,.nil=>.nil
 | _,_,.cons h r=>by rw [List.reverse_cons,List.reverse_cons]; exact jz.append (jz.reverse r) (.cons h .nil)
theorem jz.drop:∀ (n:Nat) {vs:List V} {ts:List T},jz K S as vs ts->jz K S as (vs.drop n) (ts.drop n)
 | 0,_,_,r=>r
 | _+1,_,_,.nil=>.nil
 | n+1,_,_,.cons _ r=>jz.drop n r
theorem Ax.get (k:L2.Key):∀ {vs:List (L2.Key × V)} {ts:List (L2.Key × T)},Ax K S as vs ts->(∃ v t,Ny vs k=some v/\U6 k ts=some t/\Rep K S as v t)\/(Ny vs k=none/\U6 k ts=none)
 | _,_,.nil=>.inr ⟨rfl,rfl⟩
 | _,_,.cons (k:=q) (v:=v) (t:=t) (vs:=vs) (ts:=ts) h r=>by
  by_cases e:q=k
  ·exact .inl ⟨v,t,Fz (p:=(q,v)) e,by rw [U6,if_pos e],h⟩
  ·rw [Fo (p:=(q,v)) e,U6,if_neg e];exact Ax.get k r
end
structure Bas where
 S:Hp
 as:List Addr
 H:Hp
structure a1a (B:Bas) (S:Hp) (as:List Addr) (H:Hp):Prop where
 same:Same B.S S
 more:∃ l,as=B.as++l
 keep:∀ p o,B.H p=some o->B.S p=none->p∉B.as->H p=some o/\S p=none/\p∉as
structure Ext (S H S' H':Hp):Prop where
 s:Same S S'
 h:Same H H'
 sub:Same S' H'
 new:∀ p,S' p≠none->S p≠none\/H p=none
theorem Ext.refl {S H:Hp} (h:Same S H):Ext S H S H:=⟨Same.refl _,Same.refl _,h,fun _ q=>.inl q⟩
theorem Same.upd {H:Hp} {p:Addr} (h:H p=none) (o:HO):Same H (upd H p o):=fun b u q=>by rw [dj (ju q h)]; exact q
theorem Ext.laid {S H:Hp} (h:Same S H) {p:Addr} (n:H p=none) (o:HO):Ext S H (upd S p o) (upd H p o) where
 s:=Same.upd (h.free n) o
 h:=Same.upd n o
 sub:=fun b u q=>by
  by_cases e:b=p
  ·subst e; rw [bw] at q ⊢; exact q
  ·rw [dj e] at q ⊢; exact h _ _ q
 new:=fun b q=>by
  by_cases e:b=p
  ·subst e; exact .inr n
  ·rw [dj e] at q; exact .inl q
def Own (K:PySem.W.Frag) (S:Hp) (as:List Addr) (H:Hp) (p:Addr):T->Prop
 | .lst ts=>∃ vs,H p=some (.lst vs)/\jz K S as vs ts
 | .dic ts=>∃ ag,H p=some (.dK ag)/\Ax K S as ag ts
 | _=>False
structure Np (K:PySem.W.Frag) (B:Bas) (S:Hp) (as:List Addr) (H:Hp) (p:Addr) (t:T):Prop where
 own:Own K S as H p t
 out:S p=none
 nas:p∉as
 new:B.H p=none
def X3 (K:PySem.W.Frag) (S:Hp) (as:List Addr) (H:Hp) (a:Addr):SO->Prop
 | .dic ts=>∃ ag,H a=some (.dK ag)/\Ax K S as ag ts
 | .lst ts=>∃ vs,H a=some (.lst vs)/\jz K S as vs ts
 | .dit ts=>∃ ag,H a=some (.dT ag)/\W4 K S as ag ts
 | .ins C fs=>∃ dx vs,H a=some (.ins C dx vs)/\Lx K S as vs fs
 | .fdc ts=>∃ ag,(∃ o,H a=some (.frz o (.dK ag)))/\Ax K S as ag ts
 | .exc C f t=>∃ dx v,H a=some (.ext fun h=>∃ vs,h.get? a=some { cls:=.ref C,dict:=some dx,data:=.fields vs })/\S dx=some (.ext fun h=>∃ hs tk u,RelV v u/\h.get? dx=some (PySem.W.dictOf [⟨hs,.str f tk,u⟩] 1))/\Rep K S as v t
structure Ac (K:PySem.W.Frag) (S:Hp) (as:List Addr) (H:Hp) (sto:List SO):Prop where
 len:as.length=sto.length
 nd:as.Nodup
 at':∀ (n:Nat) so,sto[n]? = some so->∃ a,as[n]? = some a/\S a=none/\X3 K S as H a so
structure Rel (K:PySem.W.Frag) (B:Bas) (st:Sta) (σ:L2.St) (H:Hp) (ps:List (V × T)) (S:Hp) (as:List Addr):Prop where
 sub:Same S H
 grow:a1a B S as H
 slots:∀ (i:Nat) t f,st.env[i]? = some (some (t,f))->∃ v,σ[i]? = some (some v)/\(f=false->Rep K S as v t)/\(f=true->∃ p,v=.ref p/\Np K B S as H p t)
 apart:∀ (i j:Nat) t u p,st.env[i]? = some (some (t,true))->st.env[j]? = some (some (u,true))->σ[i]? = some (some (.ref p))->σ[j]? = some (some (.ref p))->i=j
 sto:Ac K S as H st.sto
 pend:∀ p∈ps,Rep K S as p.1 p.2
 len:σ.length=st.env.length
section
variable {K:PySem.W.Frag} {B:Bas} {st:Sta} {σ:L2.St} {H H' S S':Hp} {ps:List (V × T)} {as:List Addr}
theorem nol {as:List Addr}:∃ l:List Addr,as=as++l:=⟨[],(List.append_nil _).symm⟩
theorem Own.mono {p:Addr} {t:T} (hs:Same S S') (hh:H p=H' p) (o:Own K S as H p t):Own K S' as H' p t:=by
 cases t with
 | lst ts=>obtain ⟨vs,h,r⟩:=o; exact ⟨vs,hh ▸ h,r.mono hs nol⟩
 | dic ts=>obtain ⟨vs,h,r⟩:=o; exact ⟨vs,hh ▸ h,r.mono hs nol⟩
 | _=>exact o.elim
theorem Own.there {p:Addr} {t:T} (o:Own K S as H p t):∃ ob,H p=some ob:=by
 cases t with
 | lst ts=>obtain ⟨vs,h,r⟩:=o; exact ⟨_,h⟩
 | dic ts=>obtain ⟨vs,h,r⟩:=o; exact ⟨_,h⟩
 | _=>exact o.elim
theorem X3.mono {a:Addr} {so:SO} (hs:Same S S') (hh:H a=H' a) (o:X3 K S as H a so):X3 K S' as H' a so:=by
 cases so with
 | dic ts=>obtain ⟨vs,h,r⟩:=o; exact ⟨vs,hh ▸ h,r.mono hs nol⟩
 | lst ts=>obtain ⟨vs,h,r⟩:=o; exact ⟨vs,hh ▸ h,r.mono hs nol⟩
 | dit ts=>obtain ⟨vs,h,r⟩:=o; exact ⟨vs,hh ▸ h,r.mono hs nol⟩
 | exc C f t=>obtain ⟨dx,v,h,g,r⟩:=o; exact ⟨dx,v,hh ▸ h,hs _ _ g,r.mono hs nol⟩
 | ins C fs=>obtain ⟨dx,vs,h,r⟩:=o; exact ⟨dx,vs,hh ▸ h,r.mono hs nol⟩
 | fdc ts=>obtain ⟨vs,h,r⟩:=o; exact ⟨vs,hh ▸ h,r.mono hs nol⟩
theorem X3.there {a:Addr} {so:SO} (o:X3 K S as H a so):∃ ob,H a=some ob:=by
 cases so with
 | dic ts=>obtain ⟨vs,h,r⟩:=o; exact ⟨_,h⟩
 | lst ts=>obtain ⟨vs,h,r⟩:=o; exact ⟨_,h⟩
 | dit ts=>obtain ⟨vs,h,r⟩:=o; exact ⟨_,h⟩
 | exc C f t=>obtain ⟨dx,v,h,g,r⟩:=o; exact ⟨_,h⟩
 | ins C fs=>obtain ⟨dx,vs,h,r⟩:=o; exact ⟨_,h⟩
 | fdc ts=>obtain ⟨vs,⟨o,h⟩,r⟩:=o; exact ⟨_,h⟩
theorem Ext.outs (x:Ext S H S' H') {p:Addr} {o:HO} (h:H p=some o) (n:S p=none):S' p=none:=by
 cases q:S' p with
 | none=>rfl
 | some u =>
  rcases x.new p (by rw [q]; exact Option.some_ne_none _) with z | z
  ·exact absurd n z
  ·rw [h] at z; cases z
theorem Ac.ext {sto:List SO} (r:Ac K S as H sto) (x:Ext S H S' H'):Ac K S' as H' sto where
 len:=r.len
 nd:=r.nd
 at':=fun n so e=>by
  obtain ⟨a,h1,h2,h3⟩:=r.at' n so e;obtain ⟨ob,ho⟩:=h3.there;exact ⟨a,h1,x.outs ho h2,h3.mono x.s (by rw [ho,x.h _ _ ho])⟩
theorem Rel.ext (r:Rel K B st σ H ps S as) (x:Ext S H S' H'):Rel K B st σ H' ps S' as where
 sub:=x.sub
 grow:=⟨r.grow.same.trans x.s,r.grow.more,fun p o h1 h2 h3=>by
  obtain ⟨a,b,c⟩:=r.grow.keep p o h1 h2 h3;exact ⟨x.h _ _ a,x.outs a b,c⟩⟩
 slots:=fun i t f e=>by
  obtain ⟨v,h1,h2,h3⟩:=r.slots i t f e;refine ⟨v,h1,fun q=>(h2 q).mono x.s nol,fun q=>?_⟩;obtain ⟨p,e,o⟩:=h3 q;obtain ⟨ob,ho⟩:=o.own.there;exact ⟨p,e,o.own.mono x.s (by rw [ho,x.h _ _ ho]),x.outs ho o.out,o.nas,o.new⟩
 apart:=r.apart
 sto:=r.sto.ext x
 pend:=fun p hp=>(r.pend p hp).mono x.s nol
 len:=r.len
theorem Rel.push (r:Rel K B st σ H ps S as) {v:V} {t:T} (h:Rep K S as v t):Rel K B st σ H ((v,t)::ps) S as :=
 ⟨r.sub,r.grow,r.slots,r.apart,r.sto,fun p hp=>by
  rcases List.mem_cons.mp hp with rfl | z
  ·exact h
  ·exact r.pend p z,r.len⟩
theorem Rel.drop {p:V × T} (r:Rel K B st σ H (p::ps) S as):Rel K B st σ H ps S as :=
 ⟨r.sub,r.grow,r.slots,r.apart,r.sto,fun q hq=>r.pend q (List.mem_cons_of_mem _ hq),r.len⟩
theorem Rel.top {v:V} {t:T} (r:Rel K B st σ H ((v,t)::ps) S as):Rep K S as v t:=r.pend (v,t) List.mem_cons_self
theorem Rel.top2 {v:V} {t:T} {q:V × T} (r:Rel K B st σ H (q::(v,t)::ps) S as):Rep K S as v t:=r.pend (v,t) (List.mem_cons_of_mem _ List.mem_cons_self)
end
inductive tOf (K:PySem.W.Frag) (B:Bas) (m:M T) (σ:L2.St) (H:Hp) (Q:VK):Prop
 | mk (st:Sta) (ps:List (V × T)) (S:Hp) (as:List Addr) (R:Rel K B st σ H ps S as) (t:T) (aa:Sta) (e:m st=some (t,aa)) (q:∀ v H' S' ai,Rel K B aa σ H' ((v,t)::ps) S' ai->Q v H')
inductive cOf (K:PySem.W.Frag) (B:Bas) (m:M Bool) (σ:L2.St) (H:Hp) (Q:Bool->Hp->Prop):Prop
 | mk (st:Sta) (ps:List (V × T)) (S:Hp) (as:List Addr) (R:Rel K B st σ H ps S as) (b:Bool) (aa:Sta) (e:m st=some (b,aa)) (q:∀ H' S' ai,Rel K B aa σ H' ps S' ai->Q b H')
inductive aOf (K:PySem.W.Frag) (B:Bas) (m:M (List T)) (σ:L2.St) (H:Hp) (Q:List V->Hp->Prop):Prop
 | mk (st:Sta) (ps:List (V × T)) (S:Hp) (as:List Addr) (R:Rel K B st σ H ps S as) (ts:List T) (aa:Sta) (e:m st=some (ts,aa)) (q:∀ vs H' S' ai,Rel K B aa σ H' ps S' ai->jz K S' ai vs ts->Q vs H')
theorem _root_.L2.PE.imp {X:Cx} {e:Expr} {t t':TE} (h:PE X e t) (i:∀ σ H Q,t' σ H Q->t σ H Q):PE X e t':=fun pins s σ H Q I q=>h pins s σ H Q I (i σ H Q q)
theorem _root_.L2.PT.imp {X:Cx} {e:Expr} {t t':TT} (h:PT X e t) (i:∀ σ H Q,t' σ H Q->t σ H Q):PT X e t':=fun pins s σ H Q I q=>h pins s σ H Q I (i σ H Q q)
theorem _root_.L2.PA.imp {X:Cx} {e:List Expr} {t t':TA} (h:PA X e t) (i:∀ σ H Q,t' σ H Q->t σ H Q):PA X e t':=fun pos pins s σ H Q I q=>h pos pins s σ H Q I (i σ H Q q)
theorem _root_.L2.PS.imp {X:Cx} {e:Stmt} {t t':TS} (h:PS X e t) (i:∀ D σ H,t' D σ H->t D σ H):PS X e t':=fun pins s σ H D I q=>h pins s σ H D I (i D σ H q)
theorem _root_.L2.PSs.imp {X:Cx} {e:List Stmt} {t t':TS} (h:PSs X e t) (i:∀ D σ H,t' D σ H->t D σ H):PSs X e t':=fun pins s σ H D I q=>h pins s σ H D I (i D σ H q)
noncomputable def r2 (K:PySem.W.Frag) (f:T->T->Option T):R2:=fun x y H Q=>∃ S as t u w,Same S H/\Rep K S as x t/\Rep K S as y u/\f t u=some w/\∀ v H' S',Ext S H S' H'->Rep K S' as v w->Q v H'
def r1 (K:PySem.W.Frag) (f:T->Option T):V->Hp->VK->Prop:=fun x H Q=>∃ S as t w,Same S H/\Rep K S as x t/\f t=some w/\∀ v H' S',Ext S H S' H'->Rep K S' as v w->Q v H'
def rL (K:PySem.W.Frag) (f:List T->Option T):List V->Hp->VK->Prop:=fun xs H Q=>∃ S as ts w,Same S H/\jz K S as xs ts/\f ts=some w/\∀ v H' S',Ext S H S' H'->Rep K S' as v w->Q v H'
abbrev OpT (X:Cx) (f:Value->Value->Sem Value) (g:T->T->Option T):Prop:=OpR X f (r2 X.K g)
abbrev UnT (X:Cx) (f:Value->Sem Value) (g:T->Option T):Prop:=UnR X f (r1 X.K g)
abbrev Il (X:Cx) (f:Value) (g:List T->Option T):Prop:=Bp X f (rL X.K g)
section
variable {X:Cx} {B:Bas} {a b c:Expr} {m m1 m2:M T} {pos:Pos}
theorem yx {v:V} {t:T} {e:Expr} (h:PE X e (tC v)) (r:∀ S as,Rep X.K S as v t):PE X e (tOf X.K B (Hr t)):=h.imp fun σ H Q z9=>by
 obtain ⟨st,ps,S,as,R,t',aa,e,q⟩:=z9;cases e;exact q v H S as (R.push (r S as))
theorem ao {i:Int} {j:Nat}:PE X (.Constant (.int i) j pos) (tOf X.K B (Hr (.int i))):=yx X6 fun _ _=>.int i
theorem vp {i:Bool} {j:Nat}:PE X (.Constant (.bool i) j pos) (tOf X.K B (Hr (.bl i))):=yx a4d fun _ _=>.bl i
theorem cj {i:Str} {j:Nat}:PE X (.Constant (.str i) j pos) (tOf X.K B (Hr (.str i))):=yx a0q fun _ _=>.str i
theorem je {op:Operator} {f:T->T->Option T} (ho:OpT X (binaryOp op) f) (ha:PE X a (tOf X.K B m1)) (hb:PE X b (tOf X.K B m2)):PE X (.BinOp a op b pos) (tOf X.K B (mOp f m1 m2)) :=
 (Xb ho ha hb).imp fun σ H Q z9=>by
  obtain ⟨st,ps,S,as,R,t,aa,e,q⟩:=z9;obtain ⟨t1,s1,t2,e1,e2,e3⟩:=Dh e;refine ⟨st,ps,S,as,R,t1,s1,e1,fun v H1 S1 ae R1=>⟨s1,_,S1,ae,R1,t2,aa,e2,fun u H2 S2 aA R2=>?_⟩⟩;exact ⟨S2,aA,t1,t2,t,R2.sub,R2.top2,R2.top,e3,fun w H3 S3 x r=>q w H3 S3 aA ((R2.drop.drop.ext x).push r)⟩
end
section
variable {K:PySem.W.Frag} {B:Bas} {st:Sta} {σ:L2.St} {H H' S S':Hp} {ps:List (V × T)} {as:List Addr}
theorem Rel.freeze (r:Rel K B st σ H ps S as) {i:Nat} {t:T} (e:st.env[i]? = some (some (t,true))) :
  ∃ v S',σ[i]? = some (some v)/\Rel K B { st with env:=st.env.set i (some (t,false)) } σ H ((v,t)::ps) S' as:=by
 obtain ⟨v,h1,_,h3⟩:=r.slots i t true e;obtain ⟨p,rfl,o⟩:=h3 rfl;obtain ⟨ob,ho⟩:=o.own.there;have hi:i<st.env.length:=(List.getElem?_eq_some_iff.mp e).1;have sS:Same S (upd S p ob):=Same.upd o.out ob
 have rep:Rep K (upd S p ob) as (.ref p) t:=by
  have w:=o.own;cases t with
  | lst ts=>obtain ⟨vs,h,q⟩:=w; rw [ho] at h; cases h; exact .lst (SqL.of bw) (q.mono sS nol)
  | dic ts=>obtain ⟨vs,h,q⟩:=w; rw [ho] at h; cases h; exact .dic (.inl bw) (q.mono sS nol)
  | _=>exact w.elim
 have outs:∀ q,S q=none->q≠p->upd S p ob q=none:=fun q h n=>by rw [dj n]; exact h
 refine ⟨.ref p,upd S p ob,h1,?_⟩;refine Rel.push (v:=.ref p) (t:=t) ⟨?_,?_,?_,?_,?_,?_,?_⟩ rep
 ·intro b u q
  by_cases z:b=p
  ·subst z; rw [bw] at q; cases q; exact ho
  ·rw [dj z] at q; exact r.sub _ _ q
 ·refine ⟨r.grow.same.trans sS,r.grow.more,fun q w a b c=>?_⟩;obtain ⟨x,y,z⟩:=r.grow.keep q w a b c;refine ⟨x,outs q y fun n=>?_,z⟩;subst n; rw [o.new] at a; cases a
 ·intro j u f ej
  by_cases aK:i=j
  ·subst aK;rw [List.getElem?_set_self hi] at ej;cases ej;exact ⟨.ref p,h1,fun _=>rep,fun z=>by cases z⟩
  ·rw [List.getElem?_set_ne aK] at ej;obtain ⟨v',a1,a2,a3⟩:=r.slots j u f ej;refine ⟨v',a1,fun z=>(a2 z).mono sS nol,fun z=>?_⟩;subst z;obtain ⟨p',rfl,o'⟩:=a3 rfl;refine ⟨p',rfl,o'.own.mono sS rfl,outs p' o'.out fun n=>?_,o'.nas,o'.new⟩;subst n;exact aK (r.apart i j t u p' e ej h1 a1)
 ·intro j k u w q ej ek
  have hj:st.env[j]? = some (some (u,true)):=by
   by_cases aK:i=j
   ·subst aK; rw [List.getElem?_set_self hi] at ej; cases ej
   ·rwa [List.getElem?_set_ne aK] at ej
  have hk:st.env[k]? = some (some (w,true)):=by
   by_cases aK:i=k
   ·subst aK; rw [List.getElem?_set_self hi] at ek; cases ek
   ·rwa [List.getElem?_set_ne aK] at ek
  exact r.apart j k u w q hj hk
 ·refine ⟨r.sto.len,r.sto.nd,fun n so en=>?_⟩;obtain ⟨a,a1,a2,a3⟩:=r.sto.at' n so en;refine ⟨a,a1,outs a a2 fun z=>?_,a3.mono sS rfl⟩;subst z;exact o.nas (List.mem_of_getElem? a1)
 ·exact fun q hq=>(r.pend q hq).mono sS nol
 ·show σ.length=(st.env.set i _).length;rw [List.length_set]; exact r.len
end
section
variable {X:Cx} {B:Bas} {a b c:Expr} {m m1 m2:M T} {pos:Pos}
theorem ak (i:Nat) {e:Expr} (h:PE X e (Ol i)):PE X e (tOf X.K B (a2p i)):=h.imp fun σ H Q z9=>by
 obtain ⟨st,ps,S,as,R,t,aa,e,q⟩:=z9;rcases Uq e with ⟨e1,rfl⟩ | ⟨e1,rfl⟩
 ·obtain ⟨v,h1,h2,_⟩:=R.slots i t false e1;exact ⟨v,h1,q v H S as (R.push (h2 rfl))⟩
 ·obtain ⟨v,S',h1,R'⟩:=R.freeze e1;exact ⟨v,h1,q v H S' as R'⟩
theorem au:PA X [] (aOf X.K B U9):=lg.imp fun σ H Q z9=>by
 obtain ⟨st,ps,S,as,R,ts,aa,e,q⟩:=z9;cases e;exact q [] H S as R .nil
theorem aj {es:List Expr} {ms:M (List T)} (ha:PE X a (tOf X.K B m)) (hr:PA X es (aOf X.K B ms)) (hs:starEach (a::es) X.env=(false,eval a X.env)::starEach es X.env:=by rfl):PA X (a::es) (aOf X.K B (Bb m ms)) :=
 (jc ha hr hs).imp fun σ H Q z9=>by
  obtain ⟨st,ps,S,as,R,ts,aa,e,q⟩:=z9;obtain ⟨t,s1,us,e1,e2,rfl⟩:=zu e;refine ⟨st,ps,S,as,R,t,s1,e1,fun v H1 S1 ae R1=>⟨s1,_,S1,ae,R1,us,aa,e2,fun vs H2 S2 aA R2 rs=>?_⟩⟩;exact q (v::vs) H2 S2 aA R2.drop (.cons R2.top rs)
theorem jq {es:List Expr} {ms:M (List T)} {k:Nat} (h:PA X es (aOf X.K B ms)) (hm:∀ st ts aa,ms st=some (ts,aa)->ts.length<=1000):PE X (.Tuple es k pos) (tOf X.K B (Ow (fun l=>some (.tup l)) ms)) :=
 (Wm h).imp fun σ H Q z9=>by
  obtain ⟨st,ps,S,as,R,t,aa,e,q⟩:=z9;obtain ⟨ts,e1,e2⟩:=yh e;cases e2;refine ⟨st,ps,S,as,R,ts,aa,e1,fun vs H1 S1 ae R1 rs=>⟨?_,fun p hp=>?_⟩⟩
  ·rw [rs.length]; exact Nat.le_of_lt (v8 (hm _ _ _ e1))
  ·have x:=Ext.laid R1.sub hp (.tup vs);exact q _ _ _ _ ((R1.ext x).push (.tup (SqT.of bw) (rs.mono x.s nol)))
theorem o9 {es:List Expr} {ms:M (List T)} (h:PA X es (aOf X.K B ms)) (hm:∀ st ts aa,ms st=some (ts,aa)->ts.length<=1000):PE X (.List es pos) (tOf X.K B (Ow (fun l=>some (.lst l)) ms)) :=
 (Tj h).imp fun σ H Q z9=>by
  obtain ⟨st,ps,S,as,R,t,aa,e,q⟩:=z9;obtain ⟨ts,e1,e2⟩:=yh e;cases e2;refine ⟨st,ps,S,as,R,ts,aa,e1,fun vs H1 S1 ae R1 rs=>⟨?_,fun p hp=>?_⟩⟩
  ·rw [rs.length]; exact Nat.le_of_lt (v8 (hm _ _ _ e1))
  ·have x:=Ext.laid R1.sub hp (.lst vs);exact q _ _ _ _ ((R1.ext x).push (.lst (SqL.of bw) (rs.mono x.s nol)))
theorem dg:∀ st ts aa,U9 st=some (ts,aa)->ts.length<=0:=fun st ts aa e=>by cases e; exact Nat.le_refl _
theorem bf {r:M (List T)} {n:Nat} (h:∀ st ts aa,r st=some (ts,aa)->ts.length<=n):∀ st ts aa,Bb m r st=some (ts,aa)->ts.length<=n+1:=fun st ts aa e=>by
 obtain ⟨t,s1,us,e1,e2,rfl⟩:=zu e;exact Nat.succ_le_succ (h _ _ _ e2)
theorem dh {ms:M (List T)} {f:List T->Option T} {e:Expr} (h:PE X e (tCB (rL X.K f) (aOf X.K B ms))):PE X e (tOf X.K B (Ow f ms)) :=
 h.imp fun σ H Q z9=>by
  obtain ⟨st,ps,S,as,R,t,aa,e,q⟩:=z9;obtain ⟨ts,e1,e2⟩:=yh e;refine ⟨st,ps,S,as,R,ts,aa,e1,fun vs H1 S1 ae R1 rs=>⟨S1,ae,ts,t,R1.sub,rs,e2,fun v H2 S2 x r=>?_⟩⟩;exact q v H2 S2 ae ((R1.ext x).push r)
theorem Lr {f:T->T->Option T} {e:Expr} (h:PE X e (tOp (r2 X.K f) (tOf X.K B m1) (tOf X.K B m2))):PE X e (tOf X.K B (mOp f m1 m2)) :=
 h.imp fun σ H Q z9=>by
  obtain ⟨st,ps,S,as,R,t,aa,e,q⟩:=z9;obtain ⟨t1,s1,t2,e1,e2,e3⟩:=Dh e;refine ⟨st,ps,S,as,R,t1,s1,e1,fun v H1 S1 ae R1=>⟨s1,_,S1,ae,R1,t2,aa,e2,fun u H2 S2 aA R2=>?_⟩⟩;exact ⟨S2,aA,t1,t2,t,R2.sub,R2.top2,R2.top,e3,fun w H3 S3 x r=>q w H3 S3 aA ((R2.drop.drop.ext x).push r)⟩
theorem Vm {f:T->Option T} {e:Expr} (h:PE X e (tUn (r1 X.K f) (tOf X.K B m))):PE X e (tOf X.K B (mUn f m)) :=
 h.imp fun σ H Q z9=>by
  obtain ⟨st,ps,S,as,R,t,aa,e,q⟩:=z9;obtain ⟨t1,e1,e3⟩:=R8 e;refine ⟨st,ps,S,as,R,t1,aa,e1,fun v H1 S1 ae R1=>⟨S1,ae,t1,t,R1.sub,R1.top,e3,fun w H3 S3 x r=>q w H3 S3 ae ((R1.drop.ext x).push r)⟩⟩
theorem lq {op:CmpOp} {f:T->T->Option T} (ho:OpT X (compareOp op) f) (ha:PE X a (tOf X.K B m1)) (hb:PE X b (tOf X.K B m2)) (hm:behindInMarks op b=false):PE X (.Compare a [op] [b] pos) (tOf X.K B (mOp f m1 m2)):=Lr (T8 ho ha hb hm)
theorem G8 {op:UnaryOp} {f:T->Option T} (ho:UnT X (unaryOp op) f) (ha:PE X a (tOf X.K B m)):PE X (.UnaryOp op a pos) (tOf X.K B (mUn f m)):=Vm (Yv ho ha)
theorem Ai {e:Expr} (h:PT X e (a0o (tOf X.K B m))):PT X e (cOf X.K B (Bc m)):=h.imp fun σ H Q z9=>by
 obtain ⟨st,ps,S,as,R,t,aa,e,q⟩:=z9;refine ⟨st,ps,S,as,R,.bl t,aa,o8 e,fun v H1 S1 ae R1=>?_⟩;cases R1.top;exact ⟨t,rfl,q H1 S1 ae R1.drop⟩
theorem j4 {op:CmpOp} {f:T->T->Option T} (ho:OpT X (compareOp op) f) (ha:PE X a (tOf X.K B m1)) (hb:PE X b (tOf X.K B m2)) (hm:behindInMarks op b=false):PT X (.Compare a [op] [b] pos) (cOf X.K B (Bc (mOp f m1 m2))) :=
 Ai ((Qs ho ha hb hm).imp fun σ H Q z9=>by
  obtain ⟨st,ps,S,as,R,t,aa,e,q⟩:=z9;obtain ⟨t1,s1,t2,e1,e2,e3⟩:=Dh e;refine ⟨st,ps,S,as,R,t1,s1,e1,fun v H1 S1 ae R1=>⟨s1,_,S1,ae,R1,t2,aa,e2,fun u H2 S2 aA R2=>?_⟩⟩;exact ⟨S2,aA,t1,t2,t,R2.sub,R2.top2,R2.top,e3,fun w H3 S3 x r=>q w H3 S3 aA ((R2.drop.drop.ext x).push r)⟩)
theorem uo {e:Expr} (h:PE X e (tOf X.K B m)) (he:∀ whole,isTrue e X.env whole=(do let v <- whole; standAt e.pos; holding [v] (truthy v)):=by intro _; rfl):PT X e (cOf X.K B (Bc m)) :=
 Ai ((a1l h he).imp fun σ H Q h=>h)
theorem Ej {c1:M Bool} (ha:PT X a (cOf X.K B c1)):PT X (.UnaryOp .Not a pos) (cOf X.K B (a1s c1)):=(a0c ha).imp fun σ H Q z9=>by
 obtain ⟨st,ps,S,as,R,t,aa,e,q⟩:=z9;obtain ⟨k,e1,rfl⟩:=Km e;exact ⟨st,ps,S,as,R,k,aa,e1,q⟩
theorem Bw {c1:M Bool} (ha:PT X a (cOf X.K B c1)):PW X (.BoolOp .And [a] pos) (cOf X.K B c1):=pw_and1 ha
theorem Hh {c1:M Bool} (ha:PT X a (cOf X.K B c1)):PW X (.BoolOp .Or [a] pos) (cOf X.K B c1):=pw_or1 ha
theorem a0y {e:Expr} {t t':TT} (h:PW X e t) (i:∀ σ H Q,t' σ H Q->t σ H Q):PW X e t':=fun whole pins s σ H Q I q=>h whole pins s σ H Q I (i σ H Q q)
theorem Iw {c1 c2:M Bool} {rest:List Expr} (ha:PT X a (cOf X.K B c1)) (hb:PW X (.BoolOp .And (b::rest) pos) (cOf X.K B c2)):PW X (.BoolOp .And (a::b::rest) pos) (cOf X.K B (a2f c1 c2)) :=
 a0y (pw_and ha hb) fun σ H Q z9=>by
  obtain ⟨st,ps,S,as,R,t,aa,e,q⟩:=z9;rcases M7 e with ⟨s1,e1,e2⟩ | ⟨e1,rfl⟩
  ·exact ⟨st,ps,S,as,R,true,s1,e1,fun H1 S1 ae R1=>S7 (⟨s1,ps,S1,ae,R1,t,aa,e2,q⟩)⟩
  ·exact ⟨st,ps,S,as,R,false,aa,e1,fun H1 S1 ae R1=>Qg (q H1 S1 ae R1)⟩
theorem Tc {c1 c2:M Bool} {rest:List Expr} (ha:PT X a (cOf X.K B c1)) (hb:PW X (.BoolOp .Or (b::rest) pos) (cOf X.K B c2)):PW X (.BoolOp .Or (a::b::rest) pos) (cOf X.K B (mOr c1 c2)) :=
 a0y (pw_or ha hb) fun σ H Q z9=>by
  obtain ⟨st,ps,S,as,R,t,aa,e,q⟩:=z9;rcases Ra e with ⟨s1,e1,e2⟩ | ⟨e1,rfl⟩
  ·exact ⟨st,ps,S,as,R,false,s1,e1,fun H1 S1 ae R1=>Qg (⟨s1,ps,S1,ae,R1,t,aa,e2,q⟩)⟩
  ·exact ⟨st,ps,S,as,R,true,aa,e1,fun H1 S1 ae R1=>S7 (q H1 S1 ae R1)⟩
theorem yw {c1:M Bool} (hc:PT X c (cOf X.K B c1)) (ha:PE X a (tOf X.K B m1)) (hb:PE X b (tOf X.K B m2)):PE X (.IfExp c a b pos) (tOf X.K B (mIf c1 m1 m2)) :=
 (Vc hc ha hb).imp fun σ H Q z9=>by
  obtain ⟨st,ps,S,as,R,t,aa,e,q⟩:=z9;rcases Yy e with ⟨s1,e1,e2⟩ | ⟨s1,e1,e2⟩
  ·exact ⟨st,ps,S,as,R,true,s1,e1,fun H1 S1 ae R1=>S7 (⟨s1,ps,S1,ae,R1,t,aa,e2,q⟩)⟩
  ·exact ⟨st,ps,S,as,R,false,s1,e1,fun H1 S1 ae R1=>Qg (⟨s1,ps,S1,ae,R1,t,aa,e2,q⟩)⟩
theorem a04 (ha:PE X a (tOf X.K B m)):PE X (.UnaryOp .Not a pos) (tOf X.K B (O1 (a1s (Bc m)))):=(a1o ha).imp fun σ H Q z9=>by
 obtain ⟨st,ps,S,as,R,t,aa,e,q⟩:=z9;obtain ⟨b,e1,rfl⟩:=Bq e;obtain ⟨k,e2,rfl⟩:=Km e1;refine ⟨st,ps,S,as,R,.bl k,aa,o8 e2,fun v H1 S1 ae R1=>?_⟩;cases R1.top;exact ⟨k,rfl,q _ H1 S1 ae (R1.drop.push (.bl _))⟩
theorem Aa {op:BoolOp} (ha:PE X a (tOf X.K B m)):PE X (.BoolOp op [a] pos) (tOf X.K B m):=a0k ha
theorem uz {rest:List Expr} (ha:PE X a (tOf X.K B m1)) (hb:PE X (.BoolOp .And (b::rest) pos) (tOf X.K B m2)):PE X (.BoolOp .And (a::b::rest) pos) (tOf X.K B (O1 (a2f (Bc m1) (Bc m2)))) :=
 (Zv ha hb).imp fun σ H Q z9=>by
  obtain ⟨st,ps,S,as,R,t,aa,e,q⟩:=z9;obtain ⟨b,e1,rfl⟩:=Bq e;rcases M7 e1 with ⟨s1,e2,e3⟩ | ⟨e2,rfl⟩
  ·refine ⟨st,ps,S,as,R,.bl true,s1,o8 e2,fun v H1 S1 ae R1=>?_⟩;cases R1.top;exact ⟨true,rfl,S7 (⟨s1,ps,S1,ae,R1.drop,.bl b,aa,o8 e3,q⟩)⟩
  ·refine ⟨st,ps,S,as,R,.bl false,aa,o8 e2,fun v H1 S1 ae R1=>?_⟩;cases R1.top;exact ⟨false,rfl,Qg (q _ H1 S1 ae (R1.drop.push (.bl _)))⟩
theorem a3k {rest:List Expr} (ha:PE X a (tOf X.K B m1)) (hb:PE X (.BoolOp .Or (b::rest) pos) (tOf X.K B m2)):PE X (.BoolOp .Or (a::b::rest) pos) (tOf X.K B (O1 (mOr (Bc m1) (Bc m2)))) :=
 (a4g ha hb).imp fun σ H Q z9=>by
  obtain ⟨st,ps,S,as,R,t,aa,e,q⟩:=z9;obtain ⟨b,e1,rfl⟩:=Bq e;rcases Ra e1 with ⟨s1,e2,e3⟩ | ⟨e2,rfl⟩
  ·refine ⟨st,ps,S,as,R,.bl false,s1,o8 e2,fun v H1 S1 ae R1=>?_⟩;cases R1.top;exact ⟨false,rfl,Qg (⟨s1,ps,S1,ae,R1.drop,.bl b,aa,o8 e3,q⟩)⟩
  ·refine ⟨st,ps,S,as,R,.bl true,aa,o8 e2,fun v H1 S1 ae R1=>?_⟩;cases R1.top;exact ⟨true,rfl,S7 (q _ H1 S1 ae (R1.drop.push (.bl _)))⟩
end
theorem W6 {a b:S} {s s':Sta} {fl:Flow} (h:a2n a b s=some (fl,s')):(∃ s1,a s=some (.next,s1)/\b s1=some (fl,s'))\/(a s=some (fl,s')/\fl≠.next):=by
 unfold a2n at h;split at h
 ·rename_i s1 e; exact .inl ⟨s1,e,h⟩
 ·rename_i r hr; exact .inr ⟨h,fun z=>by subst z; exact hr _ h⟩
theorem Ub {e:M T} {s s':Sta} {fl:Flow} (h:a2m e s=some (fl,s')):∃ t,e s=some (t,s')/\fl=.ret t:=by
 unfold a2m at h;split at h
 ·rename_i t s1 e; cases h; exact ⟨t,e,rfl⟩
 ·cases h
theorem Xg {c:M Bool} {a b:S} {s s':Sta} {fl:Flow} (h:sIf c a b s=some (fl,s')):(∃ s1,c s=some (true,s1)/\a s1=some (fl,s'))\/(∃ s1,c s=some (false,s1)/\b s1=some (fl,s')):=by
 unfold sIf at h;split at h
 ·rename_i s1 e; exact .inl ⟨s1,e,h⟩
 ·rename_i s1 e; exact .inr ⟨s1,e,h⟩
 ·cases h
theorem Vn {i:Nat} {e:M T} {s s':Sta} {fl:Flow} (h:Yu i e s=some (fl,s')):∃ t s1,e s=some (t,s1)/\fl=.next/\s'=jj i t false s1:=by
 unfold Yu at h;split at h
 ·rename_i t s1 e; cases h; exact ⟨t,s1,e,rfl,rfl⟩
 ·cases h
theorem Vg {i:Nat} {e:M T} {s s':Sta} {fl:Flow} (h:sNew i e s=some (fl,s')):∃ t s1,e s=some (t,s1)/\fl=.next/\s'=jj i t true s1:=by
 unfold sNew at h;split at h
 ·rename_i t s1 e; cases h; exact ⟨t,s1,e,rfl,rfl⟩
 ·cases h
theorem Va {g:G} {it:M (List T)} {b:S} {s s':Sta} {fl:Flow} (h:a2o g it b s=some (fl,s')):∃ ts s1,it s=some (ts,s1)/\forL g b ts s1=some (fl,s'):=by
 unfold a2o at h;split at h
 ·rename_i ts s1 e; exact ⟨ts,s1,e,h⟩
 ·cases h
theorem Jo {i:Nat} {e:M T} {s s':Sta} {fl:Flow} (h:G4 i e s=some (fl,s')) :
  vo i s=true/\∃ t s1 xs,e s=some (t,s1)/\s1.env[i]? = some (some (.lst xs,true))/\xs.length<lim/\fl=.next/\s'=jj i (.lst (xs++[t])) true s1:=by
 unfold G4 at h;split at h
 ·rename_i hd;refine ⟨hd,?_⟩;split at h
  ·rename_i t s1 e;split at h
   ·rename_i xs ex;split at h
    ·rename_i hl; cases h; exact ⟨t,s1,xs,e,ex,hl,rfl,rfl⟩
    ·cases h
   ·cases h
  ·cases h
 ·cases h
theorem Jy {i:Nat} {e:M T} {s s':Sta} {fl:Flow} (h:Fw i e s=some (fl,s')) :
  vo i s=true/\∃ t s1 xs ys,e s=some (t,s1)/\Ci t=some ys/\s1.env[i]? = some (some (.lst xs,true))/\xs.length+ys.length<lim/\fl=.next/\s'=jj i (.lst (xs++ys)) true s1:=by
 unfold Fw at h;split at h
 ·rename_i hd;refine ⟨hd,?_⟩;split at h
  ·rename_i t s1 e;split at h
   ·rename_i ys xs ey ex;split at h
    ·rename_i hl; cases h; exact ⟨t,s1,_,_,e,ey,ex,hl,rfl,rfl⟩
    ·cases h
   ·cases h
  ·cases h
 ·cases h
section
variable {K:PySem.W.Frag} {B:Bas} {st:Sta} {σ:L2.St} {H H' S S':Hp} {ps ps2:List (V × T)} {as ai:List Addr}
theorem Rel.pick (r:Rel K B st σ H ps S as) (h:∀ p∈ps2,p∈ps):Rel K B st σ H ps2 S as :=
 ⟨r.sub,r.grow,r.slots,r.apart,r.sto,fun p hp=>r.pend p (h p hp),r.len⟩
theorem G7 {α:Type} {l:List α} {i:Nat} {x:α} (h:l.length<=i):l.set i x=l:=List.set_eq_of_length_le h
theorem Rel.put (r:Rel K B st σ H ps S as) {i:Nat} {v:V} {t:T} (h:Rep K S as v t):Rel K B (jj i t false st) (σ.set i (some v)) H ps S as:=by
 by_cases hi:i<st.env.length
 ·have hs:i<σ.length:=by rw [r.len]; exact hi
  refine ⟨r.sub,r.grow,fun j u f e=>?_,fun j k u w p ej ek sj sk=>?_,r.sto,r.pend,by show _=(st.env.set i _).length; rw [List.length_set,List.length_set]; exact r.len⟩
  ·have e:(st.env.set i (some (t,false)))[j]? = some (some (u,f)):=e
   by_cases aK:i=j
   ·subst aK;rw [List.getElem?_set_self hi] at e; cases e;exact ⟨v,List.getElem?_set_self hs,fun _=>h,fun z=>by cases z⟩
   ·rw [List.getElem?_set_ne aK] at e ⊢;exact r.slots j u f e
  ·have ej:(st.env.set i (some (t,false)))[j]? = some (some (u,true)):=ej;have ek:(st.env.set i (some (t,false)))[k]? = some (some (w,true)):=ek;have aK:i≠j:=fun z=>by subst z; rw [List.getElem?_set_self hi] at ej; cases ej
   have cB:i≠k:=fun z=>by subst z; rw [List.getElem?_set_self hi] at ek; cases ek
   rw [List.getElem?_set_ne aK] at ej sj;rw [List.getElem?_set_ne cB] at ek sk;exact r.apart j k u w p ej ek sj sk
 ·have e1:jj i t false st=st:=by unfold jj; rw [G7 (Nat.le_of_not_lt hi)]
  have e2:σ.set i (some v)=σ:=G7 (by rw [r.len]; exact Nat.le_of_not_lt hi);rw [e1,e2]; exact r
def Bs (st:Sta) (σ:L2.St) (p:Addr):Prop:=∀ (j:Nat) u,st.env[j]? = some (some (u,true))->σ[j]? = some (some (.ref p))->False
theorem Rel.a2b (r:Rel K B st σ H ps S as) {i:Nat} {p:Addr} {t:T} (h:Np K B S as H p t) (hn:Bs st σ p):Rel K B (jj i t true st) (σ.set i (some (.ref p))) H ps S as:=by
 by_cases hi:i<st.env.length
 ·have hs:i<σ.length:=by rw [r.len]; exact hi
  refine ⟨r.sub,r.grow,fun j u f e=>?_,fun j k u w q ej ek sj sk=>?_,r.sto,r.pend,by show _=(st.env.set i _).length; rw [List.length_set,List.length_set]; exact r.len⟩
  ·have e:(st.env.set i (some (t,true)))[j]? = some (some (u,f)):=e
   by_cases aK:i=j
   ·subst aK;rw [List.getElem?_set_self hi] at e; cases e;exact ⟨.ref p,List.getElem?_set_self hs,(fun z=>by cases z),fun _=>⟨p,rfl,h⟩⟩
   ·rw [List.getElem?_set_ne aK] at e ⊢;exact r.slots j u f e
  ·have ej:(st.env.set i (some (t,true)))[j]? = some (some (u,true)):=ej;have ek:(st.env.set i (some (t,true)))[k]? = some (some (w,true)):=ek
   by_cases aK:i=j
   ·by_cases cB:i=k
    ·rw [<- aK,<- cB]
    ·subst aK;rw [List.getElem?_set_self hs] at sj; cases sj;rw [List.getElem?_set_ne cB] at ek sk;exact (hn k w ek sk).elim
   ·rw [List.getElem?_set_ne aK] at ej sj
    by_cases cB:i=k
    ·subst cB;rw [List.getElem?_set_self hs] at sk; cases sk;exact (hn j u ej sj).elim
    ·rw [List.getElem?_set_ne cB] at ek sk;exact r.apart j k u w q ej ek sj sk
 ·have e1:jj i t true st=st:=by unfold jj; rw [G7 (Nat.le_of_not_lt hi)]
  have e2:σ.set i (some (.ref p))=σ:=G7 (by rw [r.len]; exact Nat.le_of_not_lt hi);rw [e1,e2]; exact r
theorem Rel.turn (r:Rel K B st σ H ps S as) {i:Nat} {t t':T} {p:Addr} {ob:HO} (e:st.env[i]? = some (some (t,true))) (hp:σ[i]? = some (some (.ref p))) (h:Own K S as (upd H p ob) p t') :
  Rel K B (jj i t' true st) σ (upd H p ob) ps S as:=by
 obtain ⟨v,h1,_,h3⟩:=r.slots i t true e;rw [hp] at h1; cases h1;obtain ⟨p',ep,o⟩:=h3 rfl;cases ep;have hi:i<st.env.length:=(List.getElem?_eq_some_iff.mp e).1;have other:∀ q,q≠p->H q=upd H p ob q:=fun q n=>(dj n).symm;refine ⟨fun b u q=>?_,⟨r.grow.same,r.grow.more,fun q w a b c=>?_⟩,fun j u f ej=>?_,fun j k u w q ej ek sj sk=>?_,⟨r.sto.len,r.sto.nd,fun n so en=>?_⟩,r.pend,by show _=(st.env.set i _).length; rw [List.length_set]; exact r.len⟩
 ·have n:b≠p:=fun z=>by subst z; rw [o.out] at q; cases q
  rw [dj n]; exact r.sub _ _ q
 ·obtain ⟨x,y,z⟩:=r.grow.keep q w a b c;have n:q≠p:=fun z=>by subst z; rw [o.new] at a; cases a
  exact ⟨by rw [dj n]; exact x,y,z⟩
 ·have ej:(st.env.set i (some (t',true)))[j]? = some (some (u,f)):=ej
  by_cases aK:i=j
  ·subst aK;rw [List.getElem?_set_self hi] at ej; cases ej;exact ⟨.ref p,hp,(fun z=>by cases z),fun _=>⟨p,rfl,h,o.out,o.nas,o.new⟩⟩
  ·rw [List.getElem?_set_ne aK] at ej;obtain ⟨v',a1,a2,a3⟩:=r.slots j u f ej;refine ⟨v',a1,a2,fun z=>?_⟩;subst z;obtain ⟨p',rfl,o'⟩:=a3 rfl;have n:p'≠p:=fun z=>by subst z; exact aK (r.apart i j t u p' e ej hp a1)
   exact ⟨p',rfl,o'.own.mono (Same.refl _) (other p' n),o'.out,o'.nas,o'.new⟩
 ·have back:∀ (j:Nat) u,(st.env.set i (some (t',true)))[j]? = some (some (u,true))->∃ u',st.env[j]? = some (some (u',true)):=fun j u ej=>by
   by_cases aK:i=j
   ·subst aK; exact ⟨t,e⟩
   ·rw [List.getElem?_set_ne aK] at ej; exact ⟨u,ej⟩
  obtain ⟨u',ej'⟩:=back j u ej;obtain ⟨w',ek'⟩:=back k w ek;exact r.apart j k u' w' q ej' ek' sj sk
 ·obtain ⟨a,a1,a2,a3⟩:=r.sto.at' n so en;have n:a≠p:=fun z=>by subst z; exact o.nas (List.mem_of_getElem? a1)
  exact ⟨a,a1,a2,a3.mono (Same.refl _) (other a n)⟩
theorem Rel.Gk (r:Rel K B st σ H ps S as) {n:Nat} {so eS:SO} {a:Addr} {ob:HO} (e:st.sto[n]? = some so) (ha:as[n]? = some a) (h:X3 K S as (upd H a ob) a eS) :
  Rel K B { st with sto:=st.sto.set n eS } σ (upd H a ob) ps S as:=by
 have ma:a∈as:=List.mem_of_getElem? ha;have hn:n<st.sto.length:=(List.getElem?_eq_some_iff.mp e).1
 have sa:S a=none:=by
  obtain ⟨a',a1,a2,_⟩:=r.sto.at' n so e;rw [ha] at a1; cases a1; exact a2
 have other:∀ q,q≠a->H q=upd H a ob q:=fun q n=>(dj n).symm;refine ⟨fun b u q=>?_,⟨r.grow.same,r.grow.more,fun q w x y z=>?_⟩,fun j u f ej=>?_,r.apart,⟨by rw [List.length_set]; exact r.sto.len,r.sto.nd,fun k cM en=>?_⟩,r.pend,r.len⟩
 ·have n:b≠a:=fun z=>by subst z; rw [sa] at q; cases q
  rw [dj n]; exact r.sub _ _ q
 ·obtain ⟨x1,y1,z1⟩:=r.grow.keep q w x y z;have n:q≠a:=fun z=>by subst z; exact z1 ma
  exact ⟨by rw [dj n]; exact x1,y1,z1⟩
 ·obtain ⟨v',a1,a2,a3⟩:=r.slots j u f ej;refine ⟨v',a1,a2,fun z=>?_⟩;obtain ⟨p',rfl,o'⟩:=a3 z;have n:p'≠a:=fun z=>by subst z; exact o'.nas ma
  exact ⟨p',rfl,o'.own.mono (Same.refl _) (other p' n),o'.out,o'.nas,o'.new⟩
 ·by_cases hk:n=k
  ·subst hk;rw [List.getElem?_set_self hn] at en; cases en;exact ⟨a,ha,sa,h⟩
  ·rw [List.getElem?_set_ne hk] at en;obtain ⟨b,b1,b2,b3⟩:=r.sto.at' k cM en
   have n:b≠a:=fun z=>by
    subst z;have l1:=(List.getElem?_eq_some_iff.mp b1).1;have l2:=(List.getElem?_eq_some_iff.mp ha).1;exact hk ((List.getElem?_inj (i:=n) (j:=k) l2 r.sto.nd).mp (by rw [ha,b1]))
   exact ⟨b,b1,b2,b3.mono (Same.refl _) (other b n)⟩
end
def Fin (K:PySem.W.Frag) (B:Bas) (D:Ends) (ps:List (V × T)):Flow->Sta->Prop
 | .next,aa=>∀ af H' S' ai,Rel K B aa af H' ps S' ai->D.nx af H'
 | .ret t,aa=>∀ v af H' S' ai,Rel K B aa af H' ((v,t)::ps) S' ai->D.rt v H'
 | .brk,aa=>∀ af H' S' ai,Rel K B aa af H' ps S' ai->D.bk af H'
 | .cont,aa=>∀ af H' S' ai,Rel K B aa af H' ps S' ai->D.ct af H'
inductive sOf (K:PySem.W.Frag) (B:Bas) (s:S) (D:Ends) (σ:L2.St) (H:Hp):Prop
 | mk (st:Sta) (ps:List (V × T)) (S0:Hp) (as:List Addr) (R:Rel K B st σ H ps S0 as) (fl:Flow) (aa:Sta) (e:s st=some (fl,aa)) (q:Fin K B D ps fl aa)
inductive gOf (K:PySem.W.Frag) (B:Bas) (g:G) (v:V) (σ:L2.St) (H:Hp) (Q:L2.St->Hp->Prop):Prop
 | mk (st:Sta) (ps:List (V × T)) (S:Hp) (as:List Addr) (t:T) (R:Rel K B st σ H ((v,t)::ps) S as) (aa:Sta) (e:g t st=some aa) (q:∀ af H' S' ai,Rel K B aa af H' ps S' ai->Q af H')
inductive fOf (K:PySem.W.Frag) (B:Bas) (m:M T) (σ:L2.St) (H:Hp) (Q:VK):Prop
 | mk (st:Sta) (ps:List (V × T)) (S:Hp) (as:List Addr) (R:Rel K B st σ H ps S as) (t:T) (aa:Sta) (e:m st=some (t,aa)) (q:∀ p H' S' ai,Rel K B aa σ H' ps S' ai->Np K B S' ai H' p t->Bs aa σ p->Q (.ref p) H')
section
variable {X:Cx} {B:Bas} {a b c e:Expr} {m m1 m2:M T} {pos:Pos} {u v:S}
theorem jo:PSs X [] (sOf X.K B a5r):=Xj.imp fun D σ H z9=>by
 obtain ⟨st,ps,S,as,R,fl,aa,e,q⟩:=z9;cases e; exact q σ H S as R
theorem c7 {st:Stmt} {rest:List Stmt} (h1:PS X st (sOf X.K B u)) (h2:PSs X rest (sOf X.K B v)):PSs X (st::rest) (sOf X.K B (a2n u v)):=(Kr h1 h2).imp fun D σ H z9=>by
 obtain ⟨st,ps,S,as,R,fl,aa,e,q⟩:=z9;rcases W6 e with ⟨s1,e1,e2⟩ | ⟨e1,hn⟩
 ·exact ⟨st,ps,S,as,R,.next,s1,e1,fun af H' S' ai R'=>⟨s1,ps,S',ai,R',fl,aa,e2,q⟩⟩
 ·refine ⟨st,ps,S,as,R,fl,aa,e1,?_⟩;cases fl with
  | next=>exact absurd rfl hn
  | ret t=>exact q
  | brk=>exact q
  | cont=>exact q
theorem dw {st:Stmt} (h1:PS X st (sOf X.K B u)):PSs X [st] (sOf X.K B u):=Ja h1
theorem gq (he:PE X e (tOf X.K B m)):PS X (.Return (some e) pos) (sOf X.K B (a2m m)):=(Wo he).imp fun D σ H z9=>by
 obtain ⟨st,ps,S,as,R,fl,aa,e,q⟩:=z9;obtain ⟨t,e1,rfl⟩:=Ub e;exact ⟨st,ps,S,as,R,t,aa,e1,fun v H' S' ai R'=>q v σ H' S' ai R'⟩
theorem nq {c1:M Bool} {sa sb:List Stmt} (hc:PT X c (cOf X.K B c1)) (ha:PSs X sa (sOf X.K B u)) (hb:PSs X sb (sOf X.K B v)):PS X (.If c sa sb pos) (sOf X.K B (sIf c1 u v)):=(a1x hc ha hb).imp fun D σ H z9=>by
 obtain ⟨st,ps,S,as,R,fl,aa,e,q⟩:=z9;rcases Xg e with ⟨s1,e1,e2⟩ | ⟨s1,e1,e2⟩
 ·exact ⟨st,ps,S,as,R,true,s1,e1,fun H1 S1 ae R1=>S7 ⟨s1,ps,S1,ae,R1,fl,aa,e2,q⟩⟩
 ·exact ⟨st,ps,S,as,R,false,s1,e1,fun H1 S1 ae R1=>Qg ⟨s1,ps,S1,ae,R1,fl,aa,e2,q⟩⟩
theorem jr (i:Nat) {tg:Expr} (h:PG X tg (Er i)):PG X tg (gOf X.K B (hName i)):=fun pins s σ H x u Q I r z9=>h pins s σ H x u Q I r (by
 obtain ⟨st,ps,S,as,t,R,aa,e,q⟩:=z9;cases e;exact q _ H S as (R.drop.put R.top))
theorem Cw (i:Nat) {te:TE} {s:Stmt} (h:PS X s (Xl te (Er i))) (hm:∀ σ H Q,tOf X.K B m σ H Q->te σ H Q):PS X s (sOf X.K B (Yu i m)):=h.imp fun D σ H z9=>by
 obtain ⟨st,ps,S,as,R,fl,aa,e,q⟩:=z9;obtain ⟨t,s1,e1,rfl,rfl⟩:=Vn e;exact hm σ H _ ⟨st,ps,S,as,R,t,s1,e1,fun v H' S' ai R'=>q _ H' S' ai (R'.drop.put R'.top)⟩
theorem Ay (i:Nat) {te:TE} {s:Stmt} (h:PS X s (Xl te (Er i))) (hm:∀ σ H Q,fOf X.K B m σ H Q->te σ H Q):PS X s (sOf X.K B (sNew i m)):=h.imp fun D σ H z9=>by
 obtain ⟨st,ps,S,as,R,fl,aa,e,q⟩:=z9;obtain ⟨t,s1,e1,rfl,rfl⟩:=Vg e;exact hm σ H _ ⟨st,ps,S,as,R,t,s1,e1,fun p H' S' ai R' o n=>q _ H' S' ai (R'.a2b o n)⟩
end
section
variable {K:PySem.W.Frag} {B:Bas} {st:Sta} {σ:L2.St} {H H' S S':Hp} {ps ps2:List (V × T)} {as ai:List Addr}
theorem Own.more {p:Addr} {t:T} (hs:Same S S') (x:∃ l,ai=as++l) (hh:H p=H' p) (o:Own K S as H p t):Own K S' ai H' p t:=by
 cases t with
 | lst ts=>obtain ⟨vs,h,r⟩:=o; exact ⟨vs,hh ▸ h,r.mono hs x⟩
 | dic ts=>obtain ⟨vs,h,r⟩:=o; exact ⟨vs,hh ▸ h,r.mono hs x⟩
 | _=>exact o.elim
theorem Rel.call {aD:List SO} (r:Rel K B st σ H ps S as) (g:a1a ⟨S,as,H⟩ S' ai H') (sub:Same S' H') (so:Ac K S' ai H' aD):Rel K B { st with sto:=aD } σ H' ps S' ai where
 sub:=sub
 grow:=by
  refine ⟨r.grow.same.trans g.same,?_,fun p o a b c=>?_⟩
  ·obtain ⟨l,e⟩:=r.grow.more;obtain ⟨l',e'⟩:=g.more;exact ⟨l++l',by rw [e',e,List.append_assoc]⟩
  ·obtain ⟨x,y,z⟩:=r.grow.keep p o a b c;exact g.keep p o x y z
 slots:=fun i t f e=>by
  obtain ⟨v,h1,h2,h3⟩:=r.slots i t f e;refine ⟨v,h1,fun q=>(h2 q).mono g.same g.more,fun q=>?_⟩;obtain ⟨p,rfl,o⟩:=h3 q;obtain ⟨ob,ho⟩:=o.own.there;obtain ⟨x,y,z⟩:=g.keep p ob ho o.out o.nas;exact ⟨p,rfl,o.own.more g.same g.more (by rw [ho,x]),y,z,o.new⟩
 apart:=r.apart
 sto:=so
 pend:=fun p hp=>(r.pend p hp).mono g.same g.more
 len:=r.len
end
noncomputable def spF (K:PySem.W.Frag) (ar:Nat) (F:Fn):Sp:=fun vs H Q _=>∃ S as sto ts t aD,Same S H/\Ac K S as H sto/\jz K S as vs ts/\ts.length=ar/\F ts sto=some (t,aD) /\
 ∀ v H' S' ai,a1a ⟨S,as,H⟩ S' ai H'->Same S' H'->Ac K S' ai H' aD->Rep K S' ai v t->Q v H'
section
variable {X:Cx} {B:Bas} {a b c e:Expr} {m m1 m2:M T} {pos p:Pos} {u v:S} {es:List Expr} {ms:M (List T)} {k:Nat} {f:Addr} {fd:FuncData} {pn:List Str} {F:Fn} {x:Str}
theorem Zf (G:ur X.prog X.w X.K X.mg X.base CX0 k f fd pn (spF X.K pn.length F)) (hr:uf k X.A) (hg:Gl X x) (hm:X.mg x=some (.ref f)) (hk:PySem.W.keepIn X.K (.ref f)=true) (hb:Binds X.K fd pn [])
  (ha:PA X (e::es) (aOf X.K B ms)) (hl:∀ st ts aa,ms st=some (ts,aa)->ts.length=pn.length) (aW:(x==("__debug__" : Str))=false:=by decide)
  (he:starEach (e::es) X.env=(false,eval e X.env)::starEach es X.env:=by rfl) (aL:(backTo pos (starEach es X.env)).any (·.1)=false:=by rfl) :
  PE X (.Call (.Name x p) (e::es) [] pos) (tOf X.K B (Tp F ms)) :=
 (Qj G hr hg hm hk hb .nil a0w ha aW he aL).imp fun σ H Q z9=>by
  obtain ⟨st,ps,S,as,R,t,aa,e,q⟩:=z9;obtain ⟨ts,s1,sto,e1,e2,rfl⟩:=T5 e;refine ⟨st,ps,S,as,R,ts,s1,e1,fun vs H1 S1 ae R1 rs=>?_⟩;show spF X.K pn.length F (vs++[]) H1 Q E0;rw [List.append_nil];exact ⟨S1,ae,s1.sto,ts,t,sto,R1.sub,R1.sto,rs,hl _ _ _ e1,e2,fun v H2 S2 aA g sub so r=>q v H2 S2 aA ((R1.call g sub so).push r)⟩
theorem eq_nil:∀ st ts aa,U9 st=some (ts,aa)->ts.length=0:=fun st ts aa e=>by cases e; rfl
theorem aq {r:M (List T)} {n:Nat} (h:∀ st ts aa,r st=some (ts,aa)->ts.length=n):∀ st ts aa,Bb m r st=some (ts,aa)->ts.length=n+1:=fun st ts aa e=>by
 obtain ⟨t,s1,us,e1,e2,rfl⟩:=zu e;exact congrArg (· + 1) (h _ _ _ e2)
end
section
variable {P:Program} {w:World} {K:PySem.W.Frag} {mg:Str->Option Value} {base:Heap}
theorem U0 {N:List Str} {vs:List V} {i:Nat} {v:V} (h:vs[i]? = some v):(L2.start N vs)[i]? = some (some v):=by
 unfold L2.start;have hi:=(List.getElem?_eq_some_iff.mp h).1;rw [List.getElem?_append_left (by rw [List.length_map]; exact hi),List.getElem?_map,h]; rfl
theorem Ig {S H:Hp} {as:List Addr} {sto:List SO} {vs:List V} {ts:List T} {N:List Str} (h1:Same S H) (h2:Ac K S as H sto) (h3:jz K S as vs ts) (hN:ts.length<=N.length) :
  Rel K ⟨S,as,H⟩ ⟨ts.map (fun t=>some (t,false))++List.replicate (N.length - ts.length) none,sto⟩ (L2.start N vs) H [] S as:=by
 have key:∀ (i:Nat) t fl,(ts.map (fun t=>some (t,false))++List.replicate (N.length - ts.length) (none:Slot))[i]? = some (some (t,fl))->fl=false/\ts[i]? = some t:=fun i t fl e=>by
  by_cases hi:i<ts.length
  ·rw [List.getElem?_append_left (by rw [List.length_map]; exact hi),List.getElem?_map] at e;cases z:ts[i]? with
   | none=>rw [z] at e; cases e
   | some t'=>rw [z] at e; cases e; exact ⟨rfl,rfl⟩
  ·rw [List.getElem?_append_right (by rw [List.length_map]; exact Nat.le_of_not_lt hi)] at e;have:=List.eq_of_mem_replicate (List.mem_of_getElem? e);cases this
 refine ⟨h1,⟨Same.refl _,nol,fun p o a b c=>⟨a,b,c⟩⟩,fun i t fl e=>?_,fun i j t u p ei ej=>?_,h2,(fun p hp=>by cases hp),?_⟩
 ·obtain ⟨rfl,e'⟩:=key i t fl e;obtain ⟨v,hv,r⟩:=h3.get e';exact ⟨v,U0 hv,fun _=>r,fun z=>by cases z⟩
 ·obtain ⟨z,_⟩:=key i t true ei; cases z
 ·unfold L2.start;rw [List.length_append,List.length_append,List.length_map,List.length_map,List.length_replicate,List.length_replicate,h3.length]
theorem Xd {x qual:Str} {st:Stmt} {f:Addr} {fd:FuncData} {N ps:List Str} {k:Nat} {b:S} (F:Fun K x qual st f fd) (Sc:rm N ps (fj st)) (hN:ps.length<=N.length)
  (hb:∀ (aB:Value) (A:Around) (outer:List Env) (s:Shared) (H:Hp) (E:XK) (B:Bas),uf k (A.deeper (envOfC qual (fj st) s.heap.objs.size f aB)) ->
   PSs (Hl CX0 P w K mg base N qual (fj st) f aB A outer s H E).nox (nj st) (sOf K B b)):ur P w K mg base CX0 (k+1) f fd ps (spF K ps.length (Ql N.length b)):=by
 refine F.ok Sc (fun vs H Q E h=>?_) fun aB A outer s H vs Q E hr h=>?_
 ·obtain ⟨S,as,sto,ts,t,aD,h1,h2,h3,h4,_⟩:=h;rw [h3.length,h4]
 ·obtain ⟨S,as,sto,ts,t,aD,h1,h2,h3,h4,h5,q⟩:=h;refine ⟨_,hb aB A outer s H E ⟨S,as,H⟩ hr,?_⟩;have lv:vs.length=ps.length:=by rw [h3.length,h4]
  have R:Rel K ⟨S,as,H⟩ ⟨ts.map (fun t=>some (t,false))++List.replicate (N.length - ts.length) none,sto⟩ (L2.start N vs) H [] S as:=Ig h1 h2 h3 (by rw [h4]; exact hN);unfold Ql at h5;split at h5
  ·rename_i t' s' e;cases h5;exact ⟨_,[],S,as,R,.ret t,s',e,fun v af H' S' ai R'=>q v H' S' ai R'.grow R'.sub R'.sto R'.top⟩
  ·rename_i s' e;cases h5;exact ⟨_,[],S,as,R,.next,s',e,fun af H' S' ai R'=>q .non H' S' ai R'.grow R'.sub R'.sto .non⟩
  ·cases h5
end
theorem Uy {g:G} {b:S} {t:T} {r:List T} {s s':Sta} {fl:Flow} (h:forL g b (t::r) s=some (fl,s')):∃ s1 fb s2,g t s=some s1/\b s1=some (fb,s2) /\
  (match fb with | .next=>forL g b r s2=some (fl,s') | .cont=>forL g b r s2=some (fl,s') | .brk=>fl=.next/\s'=s2 | .ret v=>fl=.ret v/\s'=s2):=by
 rw [forL] at h;dsimp only at h;split at h
 ·rename_i s1 e1;split at h
  ·rename_i s2 e2; exact ⟨s1,.next,s2,e1,e2,h⟩
  ·rename_i s2 e2; exact ⟨s1,.cont,s2,e1,e2,h⟩
  ·rename_i s2 e2; cases h; exact ⟨s1,.brk,_,e1,e2,rfl,rfl⟩
  ·rename_i v s2 e2; cases h; exact ⟨s1,.ret v,_,e1,e2,rfl,rfl⟩
  ·cases h
 ·cases h
structure Af (K:PySem.W.Frag) (S:Hp) (as:List Addr) (H:Hp) (J:It) (ts:List T):Prop where
 go:∀ (i:Nat) t,ts[i]? = some t->J.go i H/\∀ x H',J.yld i H x H'->∃ S',Ext S H S' H'/\Rep K S' as x t
 stop:∀ i,ts.length<=i->J.stop i H
inductive iOf (K:PySem.W.Frag) (B:Bas) (m:M (List T)) (σ:L2.St) (H:Hp) (R:It->Hp->Prop):Prop
 | mk (st:Sta) (ps:List (V × T)) (S:Hp) (as:List Addr) (R0:Rel K B st σ H ps S as) (ts:List T) (aa:Sta) (e:m st=some (ts,aa)) (z:ts.length<=sizeLine) (q:∀ J H' S' ai aX,Rel K B aa σ H' (aX++ps) S' ai->(∀ S as H,(∀ p∈aX,Rep K S as p.1 p.2)->Same S H->Af K S as H J ts)->R J H')
section
variable {X:Cx} {tg l:Expr} {tl:TE}
noncomputable def iSq (K:PySem.W.Frag) (tl:TE):TI:=fun σ H R=>tl σ H fun x H1=>∃ a,x=.ref a/\(((∃ xs,SqL K H1 a xs)/\R (Itl K a) H1)\/((∃ xs,SqT K H1 a xs)/\R (Itt K a) H1))
theorem a3b (hl:PE X l tl):PI X tg l (iSq X.K tl):=by
 intro pins s σ H R I h;refine thn (hl pins s σ H _ I h) fun v s1 z0=>?_;obtain ⟨x,H1,I1,r1,q1⟩:=z0;obtain ⟨a,e,q⟩:=q1;subst e;cases r1;rcases q with ⟨⟨xs,hq⟩,q⟩ | ⟨⟨xs,hq⟩,q⟩
 ·obtain ⟨its,rv,p,hz⟩:=I1.list hq;refine wpAny_pyIter_list p.isList ?_;refine ⟨s1.heap.objs.size,[s1.heap.objs.size],_,_,H1,rfl,I1.kept (t':=s1.toks) fun b o e=>Heap.get?_push_of_some _ e,Rq a _,⟨_,Heap.get?_push_size _ rfl,rfl,rfl⟩,fun b hb=>?_,q⟩;have e:b=s1.heap.objs.size:=by simpa using hb
  subst e;exact I1.Xw (Nat.le_refl _) (I1.hok.fresh (Nat.le_refl _))
 ·obtain ⟨its,rv,p,hz⟩:=I1.tuple hq;refine wpAny_pyIter_tuple (show s1.heap.IsTuple a its.toArray from p) ?_;refine ⟨s1.heap.objs.size,[s1.heap.objs.size],_,_,H1,rfl,I1.kept (t':=s1.toks) fun b o e=>Heap.get?_push_of_some _ e,Oe a _,⟨_,Heap.get?_push_size _ rfl,rfl,rfl⟩,fun b hb=>?_,q⟩;have e:b=s1.heap.objs.size:=by simpa using hb
  subst e;exact I1.Xw (Nat.le_refl _) (I1.hok.fresh (Nat.le_refl _))
end
section
variable {X:Cx} {B:Bas} {a b c e tg iter:Expr} {m m1 m2:M T} {pos p:Pos} {u v:S} {g:G} {it:M (List T)} {body:List Stmt}
theorem itL {K:PySem.W.Frag} {S:Hp} {as:List Addr} {H:Hp} {p:Addr} {vs:List V} {ts:List T} (sub:Same S H) (h:SqL K H p vs) (r:jz K S as vs ts):Af K S as H (Itl K p) ts where
 go:=fun i t e=>by
  obtain ⟨v,hv,rv⟩:=r.get e;exact ⟨⟨vs,v,h,hv⟩,fun x H' y=>⟨S,by rw [y.1]; exact Ext.refl sub,by have:=y.2 vs h; rw [hv] at this; cases this; exact rv⟩⟩
 stop:=fun i hi=>⟨vs,h,by rw [r.length]; exact hi⟩
theorem itT {K:PySem.W.Frag} {S:Hp} {as:List Addr} {H:Hp} {p:Addr} {vs:List V} {ts:List T} (sub:Same S H) (h:SqT K H p vs) (r:jz K S as vs ts):Af K S as H (Itt K p) ts where
 go:=fun i t e=>by
  obtain ⟨v,hv,rv⟩:=r.get e;exact ⟨⟨vs,v,h,hv⟩,fun x H' y=>⟨S,by rw [y.1]; exact Ext.refl sub,by have:=y.2 vs h; rw [hv] at this; cases this; exact rv⟩⟩
 stop:=fun i hi=>⟨vs,h,by rw [r.length]; exact hi⟩
theorem j7:lim<=sizeLine:=by rw [sizeLine_eq]; decide
theorem qg (h:PE X iter (tOf X.K B m)):PI X tg iter (iOf X.K B (a00 m)):=by
 intro pins s σ H R I hw;refine a3b h pins s σ H R I ?_;obtain ⟨st,ps,S,as,Rl,ts,aa,e,hz,q⟩:=hw;unfold a00 at e;split at e
 ·rename_i xs s1 e1;split at e
  ·rename_i hl;cases e;refine ⟨st,ps,S,as,Rl,_,_,e1,fun v H1 S1 ae R1=>?_⟩;have top:=R1.top;cases top with
   | @lst a vs _ hs hr =>
    refine ⟨a,rfl,.inl ⟨⟨vs,iz R1.sub hs⟩,q _ H1 S1 ae [(.ref a,.lst _)] R1 fun S2 aA H2 hp hh=>?_⟩⟩;have:=hp _ List.mem_cons_self;cases this with
    | @lst _ vs2 _ aO bV=>exact itL hh (iz hh aO) bV
  ·cases e
 ·rename_i xs s1 e1;split at e
  ·rename_i hl;cases e;refine ⟨st,ps,S,as,Rl,_,_,e1,fun v H1 S1 ae R1=>?_⟩;have top:=R1.top;cases top with
   | @tup a vs _ hs hr =>
    refine ⟨a,rfl,.inr ⟨⟨vs,jf R1.sub hs⟩,q _ H1 S1 ae [(.ref a,.tup _)] R1 fun S2 aA H2 hp hh=>?_⟩⟩;have:=hp _ List.mem_cons_self;cases this with
    | @tup _ vs2 _ aO bV=>exact itT hh (jf hh aO) bV
  ·cases e
 ·cases e
theorem Em {a:M T} {ts:List T} {s s':Sta} (h:Im a s=some (ts,s')):∃ n:Int,a s=some (.int n,s')/\(-1000000<n/\n<1000000)/\ts=rangeT n.toNat:=by
 unfold Im at h;split at h
 ·rename_i n s1 e;split at h
  ·rename_i hl; cases h; exact ⟨n,e,by have:n.natAbs<1000000:=hl; omega,rfl⟩
  ·cases h
 ·cases h
theorem Ni {n i:Nat} {t:T} (h:(rangeT n)[i]? = some t):i<n/\t=.int (i:Int):=by
 unfold rangeT at h;rw [List.getElem?_map] at h;cases z:(List.range n)[i]? with
 | none=>rw [z] at h; cases h
 | some k =>
  rw [z] at h; cases h;obtain ⟨hi,e⟩:=List.getElem?_eq_some_iff.mp z;rw [List.getElem_range] at e; subst e;rw [List.length_range] at hi;exact ⟨hi,rfl⟩
theorem zp (hg:Gl X "range") (hm:X.mg "range" = none) (h:PE X a (tOf X.K B m)) (hs:starEach [a] X.env=[(false,eval a X.env)]:=by rfl):PI X tg (.Call (.Name "range" p) [a] [] pos) (iOf X.K B (Im m)):=by
 intro pins s σ H R I hw;refine Tz (ta:=Bf (tOf X.K B m) U7) hg hm (jc h lg hs) hs pins s σ H R I ?_;obtain ⟨st,ps,S,as,Rl,ts,aa,e,hz,q⟩:=hw;obtain ⟨n,e1,hl,rfl⟩:=Em e;refine ⟨st,ps,S,as,Rl,_,_,e1,fun v H1 S1 ae R1=>?_⟩;cases R1.top;refine ⟨n,rfl,by omega,by omega,q _ H1 S1 ae [] R1.drop fun S2 aA H2 _ hh=>⟨fun i t e=>?_,fun i hi=>?_⟩⟩
 ·obtain ⟨hi,rfl⟩:=Ni e;refine ⟨hi,fun x H' y=>⟨S2,by rw [y.1]; exact Ext.refl hh,?_⟩⟩;have:=y.2; subst this;rw [Int.zero_add]; exact .int _
 ·show n.toNat<=i;unfold rangeT at hi
  rwa [List.length_map,List.length_range] at hi
theorem Av (hp:PassesOwn (model X.prog X.w) X.A X.env X.xe) (hc:X.calm=true) (hi:PI X tg iter (iOf X.K B it)) (hg:PG X tg (gOf X.K B g)) (hb:PSs X body (sOf X.K B u)) (bz:∀ st ts aa,it st=some (ts,aa)->ts.length<=sizeLine)
  (hs:∀ x,foldedSetIterable iter X.env x=pure x:=by intro _; rfl):PS X (.For tg iter body [] pos) (sOf X.K B (a2o g it u)):=(a0t hp hc hi hg hb hs).imp fun D σ H z9=>by
 obtain ⟨st,ps,S,as,R,fl,aa,e,q⟩:=z9;obtain ⟨ts,s1,e1,e2⟩:=Va e;refine ⟨st,ps,S,as,R,ts,s1,e1,bz _ _ _ e1,fun J H1 S1 ae aX R1 facts=>?_⟩;refine ⟨fun i m σ H=>m=ts.length - i/\i<=ts.length/\∃ aF Si aE,Rel X.K B aF σ H (aX++ps) Si aE/\forL g u (ts.drop i) aF=some (fl,aa),⟨ts.length,by simp,Nat.zero_le _,s1,S1,ae,R1,by simpa using e2⟩,?_⟩;rintro i m bt H2 ⟨rfl,hi,aF,Si,aE,Ri,ei⟩;have F:=facts Si aE H2 (fun p hp=>Ri.pend p (List.mem_append_left _ hp)) Ri.sub;have sub:∀ p∈ps,p∈aX++ps:=fun p hp=>List.mem_append_right _ hp
 by_cases aP:i<ts.length
 ·rw [List.drop_eq_getElem_cons aP] at ei;obtain ⟨s2,fb,s3,eg,eb,er⟩:=Uy ei;have ht:ts[i]? = some ts[i]:=List.getElem?_eq_getElem aP;refine .inr ⟨(F.go i _ ht).1,fun af H'=>∃ aF Si aE,Rel X.K B aF af H' (aX++ps) Si aE/\forL g u (ts.drop (i+1)) aF=some (fl,aa),fun af H' h=>⟨ts.length - (i+1),by omega,rfl,aP,h⟩,fun x H' y=>?_⟩;obtain ⟨S',ex,rx⟩:=(F.go i _ ht).2 x H' y;refine ⟨aF,aX++ps,S',aE,_,(Ri.ext ex).push rx,s2,eg,fun bI H3 S3 aJ R3=>⟨s2,aX++ps,S3,aJ,R3,fb,s3,eb,?_⟩⟩;cases fb with
  | next=>exact fun af H' S' ai R'=>⟨s3,S',ai,R',er⟩
  | cont=>exact fun af H' S' ai R'=>⟨s3,S',ai,R',er⟩
  | brk =>
   obtain ⟨rfl,rfl⟩:=er;exact fun af H' S' ai R'=>q af H' S' ai (R'.pick sub)
  | ret v =>
   obtain ⟨rfl,rfl⟩:=er
   exact fun v af H' S' ai R'=>q v af H' S' ai (R'.pick fun p hp=>by
    rcases List.mem_cons.mp hp with rfl | z
    ·exact List.mem_cons_self
    ·exact List.mem_cons_of_mem _ (sub p z))
 ·have cG:i=ts.length:=by omega
  subst cG;rw [List.drop_length] at ei;cases ei;exact .inl ⟨F.stop _ (Nat.le_refl _),q bt H2 Si aE (Ri.pick sub)⟩
end
section
variable {K:PySem.W.Frag} {B:Bas} {st:Sta} {σ:L2.St} {H H' S S':Hp} {ps ps2:List (V × T)} {as ai:List Addr}
theorem Rel.Ru (r:Rel K B st σ H ps S as) {i:Nat} {t:T} (e:st.env[i]? = some (some (t,true))):∃ S',Rel K B { st with env:=st.env.set i (some (t,false)) } σ H ps S' as:=by
 obtain ⟨v,S',_,R⟩:=r.freeze e;exact ⟨S',R.drop⟩
theorem Rel.j9:∀ (az:List Nat) {st:Sta} {S:Hp},Rel K B st σ H ps S as->∃ S',Rel K B { st with env:=j9 az st.env } σ H ps S' as
 | [],st,S,r=>⟨S,r⟩
 | i::l,st,S,r=>by
  unfold C.j9;rw [List.foldl_cons];split
  ·rename_i t f e;cases f with
   | true =>
    obtain ⟨S1,R1⟩:=r.Ru e;exact Rel.j9 l R1
   | false =>
    have e2:st.env.set i (some (t,false))=st.env:=by
     apply List.ext_getElem?;intro j
     by_cases aK:i=j
     ·subst aK;rw [List.getElem?_set_self (List.getElem?_eq_some_iff.mp e).1,e]
     ·rw [List.getElem?_set_ne aK]
    rw [e2];exact Rel.j9 l r
  ·exact Rel.j9 l r
noncomputable def vq (env:List Slot):Nat->List Slot
 | 0=>env
 | n+1=>match (vq env n)[n]? with
  | some (some (t,_))=>(vq env n).set n (some (t,false))
  | _=>vq env n
theorem Cq (env:List Slot):∀ n,(vq env n).length=env.length
 | 0=>rfl
 | n+1=>by
  rw [vq];split
  ·rw [List.length_set]; exact Cq env n
  ·exact Cq env n
theorem Bt (env:List Slot):∀ (n j:Nat),(vq env n)[j]? = if j<n then (env[j]?).map Zi else env[j]?
 | 0,j=>by rw [if_neg (Nat.not_lt_zero _)]; rfl
 | n+1,j=>by
  have dq:=Bt env n n;rw [if_neg (Nat.lt_irrefl _)] at dq;have fA:=Bt env n j;rw [vq,dq]
  by_cases hj:j=n
  ·subst hj;rw [if_pos (Nat.lt_succ_self _)];cases z:env[j]? with
   | none=>simp only [z,Option.map_none]; rw [dq,z]
   | some s =>
    have hl:j<(vq env j).length:=by rw [Cq]; exact (List.getElem?_eq_some_iff.mp z).1
    cases s with
    | none=>simp only [Option.map_some]; rw [dq,z]; rfl
    | some p=>obtain ⟨t,f⟩:=p; simp only [Option.map_some]; rw [List.getElem?_set_self hl]; rfl
  ·have e1:(if j<n+1 then (env[j]?).map Zi else env[j]?)=(if j<n then (env[j]?).map Zi else env[j]?):=by
    by_cases aP:j<n
    ·rw [if_pos aP,if_pos (Nat.lt_succ_of_lt aP)]
    ·rw [if_neg aP,if_neg (by omega)]
   rw [e1,<- fA];split
   ·rw [List.getElem?_set_ne (Ne.symm hj)]
   ·rfl
theorem Qc (env:List Slot):vq env env.length=env.map Zi:=by
 apply List.ext_getElem?;intro j;rw [Bt,List.getElem?_map]
 by_cases hj:j<env.length
 ·rw [if_pos hj]
 ·rw [if_neg hj,List.getElem?_eq_none (Nat.le_of_not_lt hj)]; rfl
theorem Rel.vq (r:Rel K B st σ H ps S as):∀ n,∃ S',Rel K B { st with env:=C.vq st.env n } σ H ps S' as
 | 0=>⟨S,r⟩
 | n+1=>by
  obtain ⟨S1,R1⟩:=Rel.vq r n;rw [C.vq];split
  ·rename_i t f e;cases f with
   | true=>exact R1.Ru e
   | false =>
    have e2:(C.vq st.env n).set n (some (t,false))=C.vq st.env n:=by
     apply List.ext_getElem?;intro j
     by_cases aK:n=j
     ·subst aK;rw [List.getElem?_set_self (List.getElem?_eq_some_iff.mp e).1,e]
     ·rw [List.getElem?_set_ne aK]
    rw [e2];exact ⟨S1,R1⟩
  ·exact ⟨S1,R1⟩
theorem Rel.jg (r:Rel K B st σ H ps S as):∃ S',Rel K B (jg st) σ H ps S' as:=by
 obtain ⟨S',R⟩:=r.vq st.env.length;rw [Qc] at R;exact ⟨S',R⟩
def Kh (st:Sta):Prop:=∀ (i:Nat) t,st.env[i]?≠some (some (t,true))
theorem mq (st:Sta):Kh (C.jg st):=fun i t e=>by
 unfold C.jg at e;rw [List.getElem?_map] at e;cases z:st.env[i]? with
 | none=>rw [z] at e; cases e
 | some s =>
  rw [z] at e;cases s with
  | none=>cases e
  | some p=>obtain ⟨t,f⟩:=p; cases e
theorem Rel.rebase (r:Rel K B st σ H ps S as) (n:Kh st):Rel K ⟨S,as,H⟩ st σ H ps S as :=
 ⟨r.sub,⟨Same.refl _,nol,fun p o a b c=>⟨a,b,c⟩⟩,fun i t f e=>by
  obtain ⟨v,h1,h2,_⟩:=r.slots i t f e;exact ⟨v,h1,h2,fun z=>by subst z; exact absurd e (n i t)⟩,r.apart,r.sto,r.pend,r.len⟩
end
theorem Qi {g:G} {c:M Bool} {e:M T} {t:T} {r acc us:List T} {s s':Sta} (h:Dt g c e (t::r) s acc=some (us,s')):∃ s1 b s2,g t s=some s1/\c s1=some (b,s2) /\
  ((b=true/\∃ u s3,e s2=some (u,s3)/\acc.length<lim/\Dt g c e r (jg s3) (acc++[u])=some (us,s'))\/(b=false/\Dt g c e r (jg s2) acc=some (us,s'))):=by
 rw [Dt] at h;split at h
 ·rename_i s1 e1;split at h
  ·rename_i s2 e2;split at h
   ·rename_i u s3 e3;split at h
    ·rename_i hl; exact ⟨s1,true,s2,e1,e2,.inl ⟨rfl,u,s3,e3,hl,h⟩⟩
    ·cases h
   ·cases h
  ·rename_i s2 e2; exact ⟨s1,false,s2,e1,e2,.inr ⟨rfl,h⟩⟩
  ·cases h
 ·cases h
theorem Qw {nv:Nat} {az:List Nat} {g:G} {it:M (List T)} {c:M Bool} {e:M T} {s s':Sta} {v:T} (h:Uj nv az g it c e s=some (v,s')):∃ ts s1 us s2,it s=some (ts,s1) /\
  Dt g c e ts ⟨List.replicate nv none++az.map (fun i=>((j9 az s1.env)[i]?).getD none),s1.sto⟩ []=some (us,s2)/\v=.lst us/\s'=⟨j9 az s1.env,s2.sto⟩:=by
 unfold Uj at h;split at h
 ·rename_i ts s1 e1;dsimp only at h;split at h
  ·rename_i us s2 e2; cases h; exact ⟨ts,s1,us,s2,e1,e2,rfl,rfl⟩
  ·cases h
 ·cases h
section
variable {K:PySem.W.Frag} {B:Bas} {st:Sta} {σ:L2.St} {H H' S S':Hp} {ps ps2:List (V × T)} {as ai:List Addr} {D:Addr} {ob:HO}
theorem Ac.mem {sto:List SO} (r:Ac K S as H sto) {a:Addr} (h:a∈as):∃ o,H a=some o:=by
 obtain ⟨n,hn⟩:=List.getElem?_of_mem h;have hl:=(List.getElem?_eq_some_iff.mp hn).1;rw [r.len] at hl;obtain ⟨a',h1,h2,h3⟩:=r.at' n _ (List.getElem?_eq_getElem hl);rw [hn] at h1; cases h1;exact h3.there
theorem Rel.fresh (r:Rel K B st σ H ps S as) (h:H D=none):B.H D=none/\S D=none/\D∉as/\Bs st σ D:=by
 have sD:S D=none:=r.sub.free h;have nD:D∉as:=fun z=>by obtain ⟨o,e⟩:=r.sto.mem z; rw [h] at e; cases e
 refine ⟨?_,sD,nD,fun j u e1 e2=>?_⟩
 ·cases q:B.H D with
  | none=>rfl
  | some o =>
   have b1:B.S D=none:=by
    cases z:B.S D with
    | none=>rfl
    | some u=>have:=r.grow.same _ _ z; rw [sD] at this; cases this
   have b2:D∉B.as:=fun z=>by obtain ⟨l,e⟩:=r.grow.more; exact nD (by rw [e]; exact List.mem_append_left _ z)
   have:=(r.grow.keep D o q b1 b2).1;rw [h] at this; cases this
 ·obtain ⟨v,h1,_,h3⟩:=r.slots j u true e1;rw [e2] at h1; cases h1;obtain ⟨p,ep,o⟩:=h3 rfl;cases ep;obtain ⟨ob,ho⟩:=o.own.there;rw [h] at ho; cases ho
theorem Rel.a2e (r:Rel K B st σ H ps S as) (bD:B.H D=none) (sD:S D=none) (nD:D∉as) (no:Bs st σ D):Rel K B st σ (upd H D ob) ps S as:=by
 have ne:∀ b u,S b=some u->b≠D:=fun b u e z=>by subst z; rw [sD] at e; cases e
 refine ⟨fun b u e=>by rw [dj (ne b u e)]; exact r.sub _ _ e,⟨r.grow.same,r.grow.more,fun p o x y z=>?_⟩,fun i t f e=>?_,r.apart,⟨r.sto.len,r.sto.nd,fun n so e=>?_⟩,r.pend,r.len⟩
 ·obtain ⟨a,b,c⟩:=r.grow.keep p o x y z;exact ⟨by rw [dj (fun w=>by subst w; rw [bD] at x; cases x)]; exact a,b,c⟩
 ·obtain ⟨v,h1,h2,h3⟩:=r.slots i t f e;refine ⟨v,h1,h2,fun z=>?_⟩;obtain ⟨p,rfl,o⟩:=h3 z;have n:p≠D:=fun w=>by subst w; subst z; exact no i t e h1
  exact ⟨p,rfl,o.own.mono (Same.refl _) (dj n).symm,o.out,o.nas,o.new⟩
 ·obtain ⟨a,h1,h2,h3⟩:=r.sto.at' n so e;exact ⟨a,h1,h2,h3.mono (Same.refl _) (dj (fun w=>by subst w; exact nD (List.mem_of_getElem? h1))).symm⟩
theorem Rel.Yx (r:Rel K B st σ H ps S as) (no:Kh st) (sD:S D=none) (nD:D∉as):Rel K ⟨S,as,upd H D ob⟩ st σ (upd H D ob) ps S as:=by
 have ne:∀ b u,S b=some u->b≠D:=fun b u e z=>by subst z; rw [sD] at e; cases e
 refine ⟨fun b u e=>by rw [dj (ne b u e)]; exact r.sub _ _ e,⟨Same.refl _,nol,fun p o x y z=>⟨x,y,z⟩⟩,fun i t f e=>?_,r.apart,⟨r.sto.len,r.sto.nd,fun n so e=>?_⟩,r.pend,r.len⟩
 ·obtain ⟨v,h1,h2,_⟩:=r.slots i t f e;exact ⟨v,h1,h2,fun z=>by subst z; exact absurd e (no i t)⟩
 ·obtain ⟨a,h1,h2,h3⟩:=r.sto.at' n so e;exact ⟨a,h1,h2,h3.mono (Same.refl _) (dj (fun w=>by subst w; exact nD (List.mem_of_getElem? h1))).symm⟩
end
theorem yj:∀ (az:List Nat) (env:List Slot) (k:Nat),(∀ t,env[k]?≠some (some (t,true)))->∀ t,(j9 az env)[k]?≠some (some (t,true))
 | [],env,k,h=>h
 | i::l,env,k,h=>by
  have e:j9 (i::l) env=j9 l (match env[i]? with | some (some (t,_))=>env.set i (some (t,false)) | _=>env):=rfl;rw [e];refine yj l _ k fun t=>?_;split
  ·rename_i t' f e'
   by_cases hk:i=k
   ·subst hk;rw [List.getElem?_set_self (List.getElem?_eq_some_iff.mp e').1];intro z; cases z
   ·rw [List.getElem?_set_ne hk]; exact h t
  ·exact h t
theorem xu:∀ (az:List Nat) (env:List Slot) (k:Nat),k∈az->∀ t,(j9 az env)[k]?≠some (some (t,true))
 | [],env,k,h=>by simp at h
 | i::l,env,k,h=>by
  have e:j9 (i::l) env=j9 l (match env[i]? with | some (some (t,_))=>env.set i (some (t,false)) | _=>env):=rfl;rw [e];rcases List.mem_cons.mp h with rfl | h'
  ·refine yj l _ k fun t=>?_;split
   ·rename_i t' f e';rw [List.getElem?_set_self (List.getElem?_eq_some_iff.mp e').1];intro z; cases z
   ·rename_i hx;intro z;exact hx _ _ z
  ·exact xu l _ k h'
def gE (K:PySem.W.Frag) (g:G):TG:=fun v σ H Q=>∃ B,gOf K B g v σ H Q
def cE (K:PySem.W.Frag) (c:M Bool):TT:=fun σ H Q=>∃ B,cOf K B c σ H Q
def eE (K:PySem.W.Frag) (e:M T):TE:=fun σ H Q=>∃ B,tOf K B e σ H Q
theorem pgE {X:Cx} {tg:Expr} {g:G} (h:∀ B,PG X tg (gOf X.K B g)):PG X tg (gE X.K g):=fun pins s σ H x u Q I r ⟨B,q⟩=>h B pins s σ H x u Q I r q
theorem peE {X:Cx} {e:Expr} {m:M T} (h:∀ B,PE X e (tOf X.K B m)):PE X e (eE X.K m):=fun pins s σ H Q I ⟨B,q⟩=>h B pins s σ H Q I q
theorem kj {X:Cx}:PTs X [] (cE X.K a0x):=fun pins s σ H Q I z9=>by
 obtain ⟨B,st,ps,S,as,R,b,aa,e,q⟩:=z9;cases e;exact Qx pins s σ H Q I (q H S as R)
section
variable {X:Cx} {scope:Scope} {N:List Str}
inductive CI (K:PySem.W.Frag) (B:Bas) (g:G) (c:M Bool) (e:M T) (ts us:List T) (env:List Slot) (s2:Sta) (σ:L2.St) (pp:List (V × T)) (D:Addr) (i m:Nat) (af:L2.St) (H':Hp):Prop where
 | mk (aF:Sta) (Si:Hp) (aE:List Addr) (acc:List T) (aG:List V) (hm:m=ts.length - i) (hi:i<=ts.length) (Ri:Rel K ⟨Si,aE,H'⟩ aF af H' [] Si aE) (no:Kh aF) (Ro:Rel K B ⟨env,aF.sto⟩ σ H' pp Si aE) (hD:H' D=some (.lst aG)) (sD:Si D=none) (nD:D∉aE) (rA:jz K Si aE aG acc) (ei:Dt g c e (ts.drop i) aF acc=some (us,s2)):CI K B g c e ts us env s2 σ pp D i m af H'
theorem Gz {B:Bas} {nv:Nat} {az:List Nat} {env:List Slot} {aU:List SO} {σ:L2.St} {H1 S1:Hp} {ae:List Addr} {pp:List (V × T)} {D:Addr}
  (hN:N.length=nv+az.length) (bO:∀ (j k:Nat),az[j]? = some k->∃ x,N[nv+j]? = some x/\X.N[k]? = some x/\Wj X scope x)
  (R1:Rel X.K B ⟨env,aU⟩ σ H1 pp S1 ae) (b4:∀ k∈az,∀ t,env[k]?≠some (some (t,true))) (hD:H1 D=none) :
  ∃ aV:L2.St,aV.length=N.length/\(∀ (i:Nat) (v:V) (x:Str),aV[i]? = some (some v)->N[i]? = some x->Vis (relabel scope X.env) x->∃ k:Nat,X.N[k]? = some x/\σ[k]? = some (some v)/\Wj X scope x) /\
   Rel X.K ⟨S1,ae,upd H1 D (.lst [])⟩ ⟨List.replicate nv none++az.map (fun i=>(env[i]?).getD none),aU⟩ aV (upd H1 D (.lst [])) [] S1 ae/\Kh ⟨List.replicate nv none++az.map (fun i=>(env[i]?).getD none),aU⟩ /\
   Rel X.K B ⟨env,aU⟩ σ (upd H1 D (.lst [])) pp S1 ae:=by
 obtain ⟨bD,sD1,nD1,noD⟩:=R1.fresh hD
 have b6:∀ (i:Nat) s,(List.replicate nv (none:Slot)++az.map (fun i=>(env[i]?).getD none))[i]? = some (some s)->∃ j k,i=nv+j/\az[j]? = some k/\env[k]? = some (some s):=fun i s h=>by
  by_cases hi:i<nv
  ·rw [List.getElem?_append_left (by rw [List.length_replicate]; exact hi)] at h;have:=List.eq_of_mem_replicate (List.mem_of_getElem? h); cases this
  ·rw [List.getElem?_append_right (by rw [List.length_replicate]; exact Nat.le_of_not_lt hi),List.length_replicate,List.getElem?_map] at h;cases z:az[i - nv]? with
   | none=>rw [z] at h; cases h
   | some k =>
    rw [z] at h;refine ⟨i - nv,k,by omega,z,?_⟩;cases w:env[k]? with
    | none=>simp [w] at h
    | some s'=>simp [w] at h; rw [h]
 have sig:∀ (j k:Nat) v,az[j]? = some k->σ[k]? = some (some v)->(List.replicate nv (none:Option V)++az.map (fun i=>(σ[i]?).getD none))[nv+j]? = some (some v):=fun j k v h1 h2=>by
  rw [List.getElem?_append_right (by rw [List.length_replicate]; omega),List.length_replicate,Nat.add_sub_cancel_left,List.getElem?_map,h1];simp [h2]
 refine ⟨List.replicate nv none++az.map (fun i=>(σ[i]?).getD none),by rw [List.length_append,List.length_replicate,List.length_map,hN],fun i v x h1 h2 _=>?_,?_⟩
 ·by_cases hi:i<nv
  ·rw [List.getElem?_append_left (by rw [List.length_replicate]; exact hi)] at h1;have:=List.eq_of_mem_replicate (List.mem_of_getElem? h1); cases this
  ·rw [List.getElem?_append_right (by rw [List.length_replicate]; exact Nat.le_of_not_lt hi),List.length_replicate,List.getElem?_map] at h1;cases z:az[i - nv]? with
   | none=>rw [z] at h1; cases h1
   | some k =>
    rw [z] at h1;obtain ⟨y,n1,n2,ck⟩:=bO _ _ z;have e:nv+(i - nv)=i:=by omega
    rw [e,h2] at n1; cases n1;refine ⟨k,n2,?_,ck⟩;cases w:σ[k]? with
    | none=>simp [w] at h1
    | some s'=>simp [w] at h1; rw [h1]
 refine ⟨?_,?_,?_⟩
 ·refine Rel.Yx (B:=B) (H:=H1) ⟨R1.sub,R1.grow,fun i t f h=>?_,fun i j t u p hi hj=>?_,R1.sto,(fun p hp=>by cases hp),?_⟩ (fun i t h=>?_) sD1 nD1
  ·obtain ⟨j,k,rfl,hk,ek⟩:=b6 i _ h;obtain ⟨v,h1,h2,h3⟩:=R1.slots k t f ek;exact ⟨v,sig j k v hk h1,h2,h3⟩
  ·obtain ⟨j,k,rfl,hk,ek⟩:=b6 i _ hi;exact absurd ek (b4 k (List.mem_of_getElem? hk) t)
  ·show (List.replicate nv (none:Option V)++az.map _).length=(List.replicate nv (none:Slot)++az.map _).length;rw [List.length_append,List.length_append,List.length_replicate,List.length_replicate,List.length_map,List.length_map]
  ·obtain ⟨j,k,rfl,hk,ek⟩:=b6 i _ h;exact absurd ek (b4 k (List.mem_of_getElem? hk) t)
 ·intro i t h;obtain ⟨j,k,rfl,hk,ek⟩:=b6 i _ h;exact absurd ek (b4 k (List.mem_of_getElem? hk) t)
 ·exact R1.a2e bD sD1 nD1 noD
theorem Q7 {B:Bas} {nv:Nat} {az:List Nat} {g:G} {c:M Bool} {e:M T} {ts us:List T} {env:List Slot} {aU:List SO} {s2:Sta} {σ:L2.St} {H1 S1:Hp} {ae:List Addr} {ps aX:List (V × T)} {J:It} {Q:VK}
  (hN:N.length=nv+az.length) (hv:∀ i x,i<nv->N[i]? = some x->True)
  (bO:∀ (j k:Nat),az[j]? = some k->∃ x,N[nv+j]? = some x/\X.N[k]? = some x/\Wj X scope x)
  (R1:Rel X.K B ⟨env,aU⟩ σ H1 (aX++ps) S1 ae) (b4:∀ k∈az,∀ t,env[k]?≠some (some (t,true)))
  (facts:∀ S as H,Same B.S S->(∃ l,as=B.as++l)->(∀ p∈aX,Rep X.K S as p.1 p.2)->Same S H->Af X.K S as H J ts)
  (hc:Dt g c e ts ⟨List.replicate nv none++az.map (fun i=>(env[i]?).getD none),aU⟩ []=some (us,s2))
  (fin:∀ D H' S' ai,Rel X.K B ⟨env,s2.sto⟩ σ H' (aX++ps) S' ai->Np X.K B S' ai H' D (.lst us)->Bs ⟨env,s2.sto⟩ σ D->Q (.ref D) H') :
  Eo X scope N (gE X.K g) (cE X.K c) (eE X.K e) σ J H1 Q:=by
 intro D hD;obtain ⟨bD,sD1,nD1,noD⟩:=R1.fresh hD;obtain ⟨aV,z1,z2,z3,z4,z5⟩:=Gz hN bO R1 b4 hD;refine ⟨aV,z1,z2,fun i m af H'=>CI X.K B g c e ts us env s2 σ (aX++ps) D i m af H',⟨ts.length,.mk _ S1 ae [] [] (by simp) (Nat.zero_le _) z3 z4 z5 bw sD1 nD1 .nil hc⟩,?_⟩;rintro i m af H' ⟨aF,Si,aE,acc,aG,rfl,hi,Ri,no,Ro,hD',sD,nD,rA,ei⟩;have F:=facts Si aE H' Ro.grow.same Ro.grow.more (fun p hp=>Ro.pend p (List.mem_append_left _ hp)) Ri.sub
 by_cases aP:i<ts.length
 ·rw [List.drop_eq_getElem_cons aP] at ei;obtain ⟨s3,b,s4,eg,ec,er⟩:=Qi ei;have ht:ts[i]? = some ts[i]:=List.getElem?_eq_getElem aP;refine .inr ⟨(F.go i _ ht).1,fun x H2 y=>?_⟩;obtain ⟨S2,ex,rx⟩:=(F.go i _ ht).2 x H2 y;refine ⟨⟨Si,aE,H'⟩,aF,[],S2,aE,_,(Ri.ext ex).push rx,s3,eg,fun bI H3 S3 aJ R3=>⟨⟨Si,aE,H'⟩,s3,[],S3,aJ,R3,b,s4,ec,fun H4 S4 cZ R4=>?_⟩⟩;rcases er with ⟨rfl,w,s5,ee,hlen,erest⟩ | ⟨rfl,erest⟩
  ·refine S7 ⟨⟨Si,aE,H'⟩,s4,[],S4,cZ,R4,w,s5,ee,fun y H5 S5 cO R5=>?_⟩;obtain ⟨S6,R6⟩:=R5.jg;obtain ⟨k1,k2,k3⟩:=R6.grow.keep D _ hD' sD nD;have cL:=Ro.call R6.grow R6.sub R6.sto;refine ⟨aG,k1,?_,ts.length - (i+1),by omega,.mk (jg s5) S6 cO (acc++[w]) (aG++[y]) rfl aP (R6.drop.Yx (mq _) k2 k3) (mq _) (cL.a2e bD k2 k3 noD) bw k2 k3 ((rA.mono R6.grow.same R6.grow.more).append (.cons R6.top .nil)) erest⟩;rw [rA.length]; exact Nat.lt_of_lt_of_le hlen j7
  ·refine Qg ?_;obtain ⟨S6,R6⟩:=R4.jg;obtain ⟨k1,k2,k3⟩:=R6.grow.keep D _ hD' sD nD;have cL:=Ro.call R6.grow R6.sub R6.sto;exact ⟨ts.length - (i+1),by omega,.mk (jg s4) S6 cZ acc aG rfl aP (R6.rebase (mq _)) (mq _) cL k1 k2 k3 (rA.mono R6.grow.same R6.grow.more) erest⟩
 ·have cG:i=ts.length:=by omega
  subst cG;rw [List.drop_length] at ei;cases ei;exact .inl ⟨F.stop _ (Nat.le_refl _),fin D H' Si aE Ro ⟨⟨aG,hD',rA⟩,sD,nD,bD⟩ noD⟩
theorem Rel.give {K:PySem.W.Frag} {B:Bas} {st:Sta} {σ:L2.St} {H S:Hp} {ps:List (V × T)} {as:List Addr} {p:Addr} {t:T} (r:Rel K B st σ H ps S as) (o:Np K B S as H p t) (no:Bs st σ p):∃ S',Rel K B st σ H ((.ref p,t)::ps) S' as:=by
 obtain ⟨ob,ho⟩:=o.own.there;have sS:Same S (upd S p ob):=Same.upd o.out ob
 have rep:Rep K (upd S p ob) as (.ref p) t:=by
  have w:=o.own;cases t with
  | lst ts=>obtain ⟨vs,h,q⟩:=w; rw [ho] at h; cases h; exact .lst (SqL.of bw) (q.mono sS nol)
  | dic ts=>obtain ⟨vs,h,q⟩:=w; rw [ho] at h; cases h; exact .dic (.inl bw) (q.mono sS nol)
  | _=>exact w.elim
 have outs:∀ q,S q=none->q≠p->upd S p ob q=none:=fun q h n=>by rw [dj n]; exact h
 refine ⟨upd S p ob,Rel.push (v:=.ref p) (t:=t) ⟨?_,?_,?_,r.apart,?_,fun q hq=>(r.pend q hq).mono sS nol,r.len⟩ rep⟩
 ·intro b u q
  by_cases z:b=p
  ·subst z; rw [bw] at q; cases q; exact ho
  ·rw [dj z] at q; exact r.sub _ _ q
 ·refine ⟨r.grow.same.trans sS,r.grow.more,fun q w a b c=>?_⟩;obtain ⟨x,y,z⟩:=r.grow.keep q w a b c;refine ⟨x,outs q y fun n=>?_,z⟩;subst n; rw [o.new] at a; cases a
 ·intro j u f ej;obtain ⟨v',a1,a2,a3⟩:=r.slots j u f ej;refine ⟨v',a1,fun z=>(a2 z).mono sS nol,fun z=>?_⟩;subst z;obtain ⟨p',rfl,o'⟩:=a3 rfl;refine ⟨p',rfl,o'.own.mono sS rfl,outs p' o'.out fun n=>?_,o'.nas,o'.new⟩;subst n;exact no j u ej a1
 ·refine ⟨r.sto.len,r.sto.nd,fun n so en=>?_⟩;obtain ⟨a,a1,a2,a3⟩:=r.sto.at' n so en;refine ⟨a,a1,outs a a2 fun z=>?_,a3.mono sS rfl⟩;subst z;exact o.nas (List.mem_of_getElem? a1)
theorem Ly {K:PySem.W.Frag} {B:Bas} {m:M T} {σ:L2.St} {H:Hp} {Q:VK} (h:tOf K B m σ H Q):fOf K B m σ H Q:=by
 obtain ⟨st,ps,S,as,R,t,aa,e,q⟩:=h;refine ⟨st,ps,S,as,R,t,aa,e,fun p H' S' ai R' o n=>?_⟩;obtain ⟨S2,R2⟩:=R'.give o n;exact q _ H' S2 ai R2
theorem ni {e:Expr} {B:Bas} {m:M T} (h:PE X e (fOf X.K B m)):PE X e (tOf X.K B m):=h.imp fun σ H Q=>Ly
variable {B:Bas} {nv:Nat} {az:List Nat} {g:G} {it:M (List T)} {c:M Bool} {e:M T} {tg iter elt:Expr} {ifs:List Expr} {pos:Pos}
structure Yt (X:Cx) (scope:Scope) (N:List Str) (nv:Nat) (az:List Nat):Prop where
 len:N.length=nv+az.length
 at':∀ (j k:Nat),az[j]? = some k->∃ x,N[nv+j]? = some x/\X.N[k]? = some x/\Wj X scope x
theorem Lj (co:Yt X scope N nv az) (bz:∀ st ts aa,it st=some (ts,aa)->ts.length<=sizeLine) {σ:L2.St} {H:Hp} {Q:VK} (h:fOf X.K B (Uj nv az g it c e) σ H Q) :
  Ze X scope N (iOf X.K B it) (gE X.K g) (cE X.K c) (eE X.K e) σ H Q:=by
 obtain ⟨st,ps,S,as,R,t,aa,e,q⟩:=h;obtain ⟨ts,s1,us,s2,e1,e2,rfl,rfl⟩:=Qw e;refine ⟨st,ps,S,as,R,ts,s1,e1,bz _ _ _ e1,fun J H1 S1 ae aX R1 facts=>?_⟩;obtain ⟨S2,R2⟩:=R1.j9 az;exact Q7 co.len (fun _ _ _ _=>trivial) co.at' R2 (fun k hk=>xu az s1.env k hk) (fun S as H _ _=>facts S as H) e2 fun D H' S' ai R' o n=>q D H' S' ai (R'.pick fun p hp=>List.mem_append_right _ hp) o n
theorem qp (co:Yt X scope N nv az) (sc:wj X scope N) (calm:X.calm=true) (hi:PI X tg iter (iOf X.K B it)) (bz:∀ st ts aa,it st=some (ts,aa)->ts.length<=sizeLine)
  (hg:∀ C s₀ H₀ ex pn,PG (j6 X scope N C s₀ H₀ ex pn) tg (gE X.K g)) (hc:∀ C s₀ H₀ ex pn,PTs (j6 X scope N C s₀ H₀ ex pn) ifs (cE X.K c)) (he:∀ C s₀ H₀ ex pn,PE (j6 X scope N C s₀ H₀ ex pn) elt (eE X.K e))
  (hs:∀ x,foldedSetIterable iter X.env x=pure x:=by intro _; rfl):PE X (.ListComp elt [⟨tg,iter,ifs,0⟩] scope pos) (fOf X.K B (Uj nv az g it c e)) :=
 (Y6 sc calm hi hg hc he hs).imp fun σ H Q h=>Lj co bz h
end
section
variable {X:Cx}
theorem Ii {f:Value->Value->Sem Value} {g:T->T->Option T} {r:R2} (h:OpR X f r)
  (k:∀ S as x y t u w,Rep X.K S as x t->Rep X.K S as y u->g t u=some w->∀ (H:Hp) (Q:VK),Same S H->(∀ v H' S',Ext S H S' H'->Rep X.K S' as v w->Q v H')->r x y H Q):OpT X f g:=by
 intro pins s σ H x y v u Q I rx ry z8;obtain ⟨S,as,t,w,z,sub,ht,hu,hf,q⟩:=z8;exact h pins s σ H x y v u Q I rx ry (k S as x y t w z ht hu hf H Q sub q)
structure OI (g:T->Option T):Prop where
 n:g .non=none
 b:∀ x,g (.bl x)=none
 s:∀ x,g (.str x)=none
 t:∀ x,g (.tup x)=none
 l:∀ x,g (.lst x)=none
 d:∀ x,g (.dic x)=none
 o:∀ x,g (.obj x)=none
 a:∀ x,g (.adr x)=none
theorem OI.int {g:T->Option T} {w t:T} (h:OI g) (e:g t=some w):∃ i,t=.int i:=by
 cases t with
 | int i=>exact ⟨i,rfl⟩
 | non=>exact gj (h.n.symm.trans e)
 | bl x=>exact gj ((h.b x).symm.trans e)
 | str x=>exact gj ((h.s x).symm.trans e)
 | tup x=>exact gj ((h.t x).symm.trans e)
 | lst x=>exact gj ((h.l x).symm.trans e)
 | dic x=>exact gj ((h.d x).symm.trans e)
 | obj x=>exact gj ((h.o x).symm.trans e)
 | adr x=>exact gj ((h.a x).symm.trans e)
theorem qw {K:PySem.W.Frag} {S:Hp} {as:List Addr} {x y:V} {t u w:T} {g:T->T->Option T} {P:Prop} (ht:Rep K S as x t) (hu:Rep K S as y u) (hf:g t u=some w)
  (n1:∀ u,OI (g · u)) (n2:∀ i,OI (g (.int i))) (k:∀ i j,x=.int i->y=.int j->g (.int i) (.int j)=some w->P):P:=by
 obtain ⟨i,rfl⟩:=(n1 u).int hf;obtain ⟨j,rfl⟩:=(n2 i).int hf;cases ht; cases hu;exact k i j rfl rfl hf
theorem Fg:OpT X (binaryOp .Sub) a3x:=Ii a01 fun S as x y t u w ht hu hf H Q sub q =>
 qw (g:=a3x) ht hu hf (fun u=>⟨rfl,fun _=>rfl,fun _=>rfl,fun _=>rfl,fun _=>rfl,fun _=>rfl,fun _=>rfl,fun _=>rfl⟩) (fun i=>⟨rfl,fun _=>rfl,fun _=>rfl,fun _=>rfl,fun _=>rfl,fun _=>rfl,fun _=>rfl,fun _=>rfl⟩) fun i j ex ey hf=>by
 subst ex ey; cases hf;exact ⟨_,_,rfl,rfl,q _ H S (Ext.refl sub) (.int _)⟩
theorem uy:OpT X (binaryOp .Mod) a4q:=Ii a08 fun S as x y t u w ht hu hf H Q sub q =>
 qw (g:=a4q) ht hu hf (fun u=>⟨rfl,fun _=>rfl,fun _=>rfl,fun _=>rfl,fun _=>rfl,fun _=>rfl,fun _=>rfl,fun _=>rfl⟩) (fun i=>⟨rfl,fun _=>rfl,fun _=>rfl,fun _=>rfl,fun _=>rfl,fun _=>rfl,fun _=>rfl,fun _=>rfl⟩) fun i j ex ey hf=>by
 subst ex ey;obtain ⟨hc,hf⟩:=qz hf;cases hf; exact ⟨_,_,rfl,rfl,hc,q _ H S (Ext.refl sub) (.int _)⟩
def a2v (i j:Int):Prop:=0<j/\(j<1073741824\/j.natAbs<fdl)
theorem Vy:OpR X (binaryOp .FloorDiv) (rI a2v fun i j=>.int (i / j)):=opI fun i j _ _ _ _ _ hc q=>by
 have h1:(0:Int)<j:=hc.1
 have h2:j.natAbs<2 ^ 200:=by
  rcases hc.2 with h | h
  ·exact Nat.lt_trans (show j.natAbs<1073741824 by omega) (by decide)
  ·exact h
 exact floordiv_int (by omega) (by rw [Int.fdiv_eq_ediv_of_nonneg i (by omega)]; exact q) (.inl (PyProof.noPylong_of_log2 (Nat.lt_trans ((Nat.log2_lt (by omega)).mpr h2) (by decide))))
theorem Mh:OpT X (binaryOp .FloorDiv) Yi:=Ii Vy fun S as x y t u w ht hu hf H Q sub q =>
 qw (g:=Yi) ht hu hf (fun u=>⟨rfl,fun _=>rfl,fun _=>rfl,fun _=>rfl,fun _=>rfl,fun _=>rfl,fun _=>rfl,fun _=>rfl⟩) (fun i=>⟨rfl,fun _=>rfl,fun _=>rfl,fun _=>rfl,fun _=>rfl,fun _=>rfl,fun _=>rfl,fun _=>rfl⟩) fun i j ex ey hf=>by
 subst ex ey;obtain ⟨hc,hf⟩:=qz hf;cases hf; exact ⟨_,_,rfl,rfl,hc,q _ H S (Ext.refl sub) (.int _)⟩
theorem Cp:OpT X (binaryOp .Pow) a5j:=Ii a1m fun S as x y t u w ht hu hf H Q sub q =>
 qw (g:=a5j) ht hu hf (fun u=>⟨rfl,fun _=>rfl,fun _=>rfl,fun _=>rfl,fun _=>rfl,fun _=>rfl,fun _=>rfl,fun _=>rfl⟩) (fun i=>⟨rfl,fun _=>rfl,fun _=>rfl,fun _=>rfl,fun _=>rfl,fun _=>rfl,fun _=>rfl,fun _=>rfl⟩) fun i j ex ey hf=>by
 subst ex ey;obtain ⟨h,hf⟩:=qz hf;cases hf; exact ⟨_,_,rfl,rfl,⟨h.1,by omega,by omega⟩,q _ H S (Ext.refl sub) (.int _)⟩
theorem M4:OpT X (compareOp .Lt) ltT:=Ii a4o fun S as x y t u w ht hu hf H Q sub q =>
 qw (g:=ltT) ht hu hf (fun u=>⟨rfl,fun _=>rfl,fun _=>rfl,fun _=>rfl,fun _=>rfl,fun _=>rfl,fun _=>rfl,fun _=>rfl⟩) (fun i=>⟨rfl,fun _=>rfl,fun _=>rfl,fun _=>rfl,fun _=>rfl,fun _=>rfl,fun _=>rfl,fun _=>rfl⟩) fun i j ex ey hf=>by
 subst ex ey; cases hf;exact ⟨_,_,rfl,rfl,q _ H S (Ext.refl sub) (.bl _)⟩
theorem Ks:OpT X (compareOp .LtE) leT:=Ii a2s fun S as x y t u w ht hu hf H Q sub q =>
 qw (g:=leT) ht hu hf (fun u=>⟨rfl,fun _=>rfl,fun _=>rfl,fun _=>rfl,fun _=>rfl,fun _=>rfl,fun _=>rfl,fun _=>rfl⟩) (fun i=>⟨rfl,fun _=>rfl,fun _=>rfl,fun _=>rfl,fun _=>rfl,fun _=>rfl,fun _=>rfl,fun _=>rfl⟩) fun i j ex ey hf=>by
 subst ex ey; cases hf;exact ⟨_,_,rfl,rfl,q _ H S (Ext.refl sub) (.bl _)⟩
theorem Xa:OpT X (compareOp .Gt) gtT:=Ii a3r fun S as x y t u w ht hu hf H Q sub q =>
 qw (g:=gtT) ht hu hf (fun u=>⟨rfl,fun _=>rfl,fun _=>rfl,fun _=>rfl,fun _=>rfl,fun _=>rfl,fun _=>rfl,fun _=>rfl⟩) (fun i=>⟨rfl,fun _=>rfl,fun _=>rfl,fun _=>rfl,fun _=>rfl,fun _=>rfl,fun _=>rfl,fun _=>rfl⟩) fun i j ex ey hf=>by
 subst ex ey; cases hf;exact ⟨_,_,rfl,rfl,q _ H S (Ext.refl sub) (.bl _)⟩
theorem Wt:OpT X (compareOp .GtE) geT:=Ii a3u fun S as x y t u w ht hu hf H Q sub q =>
 qw (g:=geT) ht hu hf (fun u=>⟨rfl,fun _=>rfl,fun _=>rfl,fun _=>rfl,fun _=>rfl,fun _=>rfl,fun _=>rfl,fun _=>rfl⟩) (fun i=>⟨rfl,fun _=>rfl,fun _=>rfl,fun _=>rfl,fun _=>rfl,fun _=>rfl,fun _=>rfl,fun _=>rfl⟩) fun i j ex ey hf=>by
 subst ex ey; cases hf;exact ⟨_,_,rfl,rfl,q _ H S (Ext.refl sub) (.bl _)⟩
theorem sy:UnT X (unaryOp .USub) a3n:=by
 intro pins s σ H x v Q I rx z8;obtain ⟨S,as,t,w,sub,ht,hf,q⟩:=z8;cases ht <;> simp only [a3n,reduceCtorEq] at hf
 cases hf;exact Wu pins s σ H _ v Q I rx ⟨_,rfl,q _ H S (Ext.refl sub) (.int _)⟩
noncomputable def a4x (K:PySem.W.Frag):R2:=fun x y H Q=>∃ l b xs zs,x=.ref l/\y=.ref b/\SqL K H l xs/\SqL K H b zs/\xs.length+zs.length<=sizeLine/\∀ p,H p=none->Q (.ref p) (upd H p (.lst (xs++zs)))
theorem Pg:OpR X (binaryOp .Add) (a4x X.K):=by
 intro pins s σ H x y v u Q I rx ry h;obtain ⟨l,b,xs,zs,rfl,rfl,hH,hB,hz,q⟩:=h;cases rx;cases ry;obtain ⟨its,r,p1,hl⟩:=I.list hH;obtain ⟨aC,r2,p2,eG⟩:=I.list hB;obtain ⟨⟨cls,dd,data,sl⟩,n,ho,hc,hd0,hd⟩:=id p1;obtain ⟨⟨cls2,bG,data2,bJ⟩,n2,ho2,hc2,hd02,hd2⟩:=id p2;simp only at hc hd hc2 hd2;subst hc hd hc2 hd2
 refine concat_meets ⟨_,ho,rfl⟩ ⟨_,ho2,rfl⟩ noFill_list_add seq_list_add PySem.F.slot_list_add PySem.F.entry_list_add (PySem.F.args_list_add_2 _ _)
   (list_addW l b its.toArray aC.toArray n n2 dd bG sl bJ (by rw [List.size_toArray,List.size_toArray,<- r.length,<- r2.length]; exact hz)) ⟨ho,ho2,?_⟩
 have ea:its.toArray++aC.toArray=(its++aC).toArray:=by simp
 rw [ea];exact ⟨.ref _,_,I.a6j (t':=s.toks) (r.append r2) (by rw [List.length_append]; exact hz),rfl,q _ I.fresh⟩
noncomputable def a0v (K:PySem.W.Frag):R2:=fun x y H Q=>∃ a b ys,x=.ref a/\y=.ref b/\SqT K H a []/\SqT K H b ys/\Q (.ref b) H
theorem Vp:OpR X (binaryOp .Add) (a0v X.K):=by
 intro pins s σ H x y v u Q I rx ry h;obtain ⟨a,b,ys,rfl,rfl,ha,hb,q⟩:=h;cases rx;cases ry;obtain ⟨its,r1,p1,_⟩:=I.tuple ha;obtain ⟨aC,r2,p2,_⟩:=I.tuple hb;cases r1;obtain ⟨⟨cls,dd,data,sl⟩,ho,hc,n,hd⟩:=id p1;obtain ⟨⟨cls2,bG,data2,bJ⟩,ho2,hc2,n2,hd2⟩:=id p2;simp only at hc hd hc2 hd2;subst hc hd hc2 hd2
 exact concat_meets ⟨_,ho,rfl⟩ ⟨_,ho2,rfl⟩ noFill_tuple_add seq_tuple_add PySem.F.slot_tuple_add PySem.F.entry_tuple_add (PySem.F.args_tuple_add_2 _ _)
   (tuple_addW0 a b _ aC.toArray n n2 dd bG sl bJ (by rfl)) ⟨ho,ho2,⟨.ref b,H,I,rfl,q⟩⟩
theorem iw:OpT X (binaryOp .Add) a4a:=by
 intro pins s σ H x y v u Q I rx ry z8;obtain ⟨S,as,t,t2,w,sub,ht,hu,hf,q⟩:=z8;cases ht <;> first | exact nomatch (show none=some w from hf) | cases hu <;> first | exact nomatch (show none=some w from hf) | simp only [a4a] at hf
 ·cases hf;exact a0s pins s σ H _ _ v u Q I rx ry ⟨_,_,rfl,rfl,q _ H S (Ext.refl sub) (.int _)⟩
 ·split at hf
  ·rename_i hl; cases hf;exact Ng pins s σ H _ _ v u Q I rx ry ⟨_,_,rfl,rfl,Nat.le_trans (Nat.le_of_lt hl) j7,q _ H S (Ext.refl sub) (.str _)⟩
  ·cases hf
 ·rename_i a vs ts hs hr b ws us aO bV;split at hf
  ·rename_i hl; cases hf;have hz:vs.length+ws.length<=sizeLine:=by rw [hr.length,bV.length]; exact Nat.le_trans (Nat.le_of_lt hl) j7
   cases hr with
   | nil=>exact Vp pins s σ H _ _ v u Q I rx ry ⟨_,_,_,rfl,rfl,jf sub hs,jf sub aO,q _ H S (Ext.refl sub) (.tup aO bV)⟩
   | @cons v0 t0 vs0 ts0 h1 h2 =>
    refine Xr pins s σ H _ _ v u Q I rx ry ⟨_,_,_,_,rfl,rfl,jf sub hs,jf sub aO,by simp,hz,fun z=>?_,fun z p hp=>?_⟩
    ·subst z;cases bV;rw [List.append_nil] at q;exact q _ H S (Ext.refl sub) (.tup hs (.cons h1 h2))
    ·have x:=Ext.laid sub hp (.tup ((v0::vs0)++ws));exact q _ _ _ x (.tup (SqT.of bw) (((jz.cons h1 h2).append bV).mono x.s nol))
  ·cases hf
 ·rename_i a vs ts hs hr b ws us aO bV;split at hf
  ·rename_i hl; cases hf;have hz:vs.length+ws.length<=sizeLine:=by rw [hr.length,bV.length]; exact Nat.le_trans (Nat.le_of_lt hl) j7
   refine Pg pins s σ H _ _ v u Q I rx ry ⟨_,_,_,_,rfl,rfl,iz sub hs,iz sub aO,hz,fun p hp=>?_⟩;have x:=Ext.laid sub hp (.lst (vs++ws));exact q _ _ _ x (.lst (SqL.of bw) ((hr.append bV).mono x.s nol))
  ·cases hf
theorem Zc (x:Str) (n:Int) (h:0<=n):Txt.mul x n=⟨((List.replicate n.toNat x.cps.toList).flatten).toArray⟩:=by
 have key:∀ (k:Nat) (acc:Array Nat),(List.replicate k x.cps).foldl (· ++ ·) acc=acc++((List.replicate k x.cps.toList).flatten).toArray:=by
  intro k
  induction k with
  | zero=>intro acc; simp
  | succ k ih =>
   intro acc;rw [List.replicate_succ,List.foldl_cons,ih,List.replicate_succ,List.flatten_cons];apply Array.ext';simp
 unfold Txt.mul
 by_cases h1:n<1
 ·have:n=0:=by omega
  subst this;rw [if_pos h1]; rfl
 ·rw [if_neg h1]
  by_cases h2:(n==1||x.length==0)=true
  ·rw [if_pos h2];rw [Bool.or_eq_true] at h2;rcases h2 with h2 | h2
   ·have:n=1:=by simpa using h2
    subst this;cases x; simp
   ·have h3:x.cps.size=0:=by simpa [Str.length] using h2
    obtain ⟨c⟩:=x;have h4:c = #[]:=Array.eq_empty_of_size_eq_zero h3;subst h4;congr 1;apply Array.ext';simp
  ·rw [if_neg h2,key];congr 1;apply Array.ext';simp
theorem Fb:OpT X (binaryOp .Mult) a4z:=by
 intro pins s σ H x y v u Q I rx ry z8;obtain ⟨S,as,t,t2,w,sub,ht,hu,hf,q⟩:=z8;cases ht <;> first | exact nomatch (show none=some w from hf) | cases hu <;> first | exact nomatch (show none=some w from hf) | simp only [a4z] at hf
 ·split at hf
  ·rename_i hb; cases hf;refine Zz pins s σ H _ _ v u Q I rx ry ⟨_,_,rfl,rfl,?_,q _ H S (Ext.refl sub) (.int _)⟩;rw [Bool.or_eq_true] at hb;rcases hb with h | h
   ·exact .inl (of_decide_eq_true h)
   ·exact .inr (of_decide_eq_true h)
  ·cases hf
 ·rename_i z j;split at hf
  ·rename_i hb; cases hf;obtain ⟨t',rfl⟩:=rx;obtain ⟨ez,rfl⟩:=ry;refine SB.mul ⟨?_,fun _ _=>?_,fun _ _=>?_⟩ fun t3 k=>⟨.str (Txt.mul z j),H,I.tok _,⟨_,rfl⟩,?_⟩
   ·have h1:¬ j < -(2 ^ 63:Int):=by omega
    have h2:¬ j >= 2 ^ 63:=by omega
    rw [decide_eq_false h1,decide_eq_false h2]; rfl
   ·have h1:(z.length:Int)<=100:=by omega
    have h2:(100:Int)<=(2 ^ 63 - 1) / j:=by
     have hj:0<j:=by
      rcases Int.lt_or_le 0 j with h | h
      ·exact h
      ·exfalso;have:j=0:=by omega
       subst this;rename_i a _; exact a (by decide)
     exact (Int.le_ediv_iff_mul_le hj).mpr (by omega)
    omega
   ·have h3:z.length * j.toNat<=100 * 1000:=Nat.mul_le_mul hb.2.2 (by omega);unfold Builtin.Str.tooLong;rw [sizeLine_eq];exact decide_eq_false (by omega)
   ·rw [Zc z j hb.1]; exact q _ H S (Ext.refl sub) (.str _)
  ·cases hf
end
section
variable {X:Cx} {B:Bas} {a b c e o:Expr} {m m1 m2:M T} {pos p:Pos}
theorem Du (n:Nat) (i:Int):ixI n i=ixN n i:=rfl
theorem a03 {K:PySem.W.Frag} {S:Hp} {as:List Addr} {y:V} {t:T} {q:L2.Key} (r:Rep K S as y t) (h:keyOf t=some q):y=kV q:=by
 cases r <;> simp only [keyOf,reduceCtorEq] at h <;> (cases h; rfl)
def a3v:R2:=fun x y H Q=>∃ a v,x=.ref a/\Zj H a y (some v)/\Q v H
theorem Yo (hu:X.A.units+1<cLine):IxR X a3v:=by
 intro value slice pins s σ H x y v u Q I rx ry z8 hs;obtain ⟨a,w,ex,g,q⟩:=z8;subst ex;cases rx;refine tail_any (Jq I g) slot_dict_getitem.lookup (Rk hu I g ry fun w' s' I' r'=>⟨w,H,I',r',q⟩) hs
theorem Ua (hu:X.A.units+1<cLine):IxR X (r2 X.K Zu):=by
 intro value slice pins s σ H x y v u Q I rx ry z8 hs;obtain ⟨S,as,t,t2,w,sub,ht,hu2,hf,q⟩:=z8;cases ht with
 | @tup a vs ts h1 h2 =>
  cases hu2 <;> first | exact gj hf | skip
  rename_i i;obtain ⟨j,e1,e2⟩:=Option.bind_eq_some_iff.mp hf;obtain ⟨z,hz,rz⟩:=h2.get e2;refine a0z value slice pins s σ H _ _ v u Q I rx ry ⟨a,vs,i,z,rfl,rfl,jf sub h1,?_,q z H S (Ext.refl sub) rz⟩ hs;rw [Du,<- h2.length] at e1;unfold atI; rw [e1]; exact hz
 | @lst a vs ts h1 h2 =>
  cases hu2 <;> first | exact gj hf | skip
  rename_i i;obtain ⟨j,e1,e2⟩:=Option.bind_eq_some_iff.mp hf;obtain ⟨z,hz,rz⟩:=h2.get e2;refine Jl value slice pins s σ H _ _ v u Q I rx ry ⟨a,vs,i,z,rfl,rfl,iz sub h1,?_,q z H S (Ext.refl sub) rz⟩ hs;rw [Du,<- h2.length] at e1;unfold atI; rw [e1]; exact hz
 | str z =>
  cases hu2 <;> first | exact gj hf | skip
  rename_i i;obtain ⟨hl,hf⟩:=qz hf;obtain ⟨j,e1,e2⟩:=Option.bind_eq_some_iff.mp hf;obtain ⟨cc,e3,e4⟩:=Option.map_eq_some_iff.mp e2;subst e4;refine a0r value slice pins s σ H _ _ v u Q I rx ry ⟨z,i,cc,rfl,rfl,Nat.le_trans (Nat.le_of_lt hl) j7,?_,q _ H S (Ext.refl sub) (.str _)⟩ hs;rw [Du] at e1;unfold atI; rw [e1]; exact e3
 | @dic a ag ts h1 h2 =>
  obtain ⟨k,e1,e2⟩:=Option.bind_eq_some_iff.mp hf;have ey:=a03 hu2 e1;subst ey;rcases h2.get k with ⟨z,t',a1,a2,a3⟩ | ⟨_,a2⟩
  ·rw [e2] at a2; cases a2;exact Yo hu value slice pins s σ H _ _ v u Q I rx ry ⟨a,z,rfl,.inl ⟨ag,k,p7 sub h1,rfl,a1.symm⟩,q z H S (Ext.refl sub) a3⟩ hs
  ·rw [e2] at a2; cases a2
 | _=>exact gj hf
theorem ig (hu:X.A.units+1<cLine) (ha:PE X a (tOf X.K B m1)) (hb:PE X b (tOf X.K B m2)) (hs:Ft b):PE X (.Subscript a b pos) (tOf X.K B (mOp Zu m1 m2)):=Lr (Xz (Ua hu) ha hb hs)
theorem j8:Il X (.builtin "len") V9:=by
 intro pins s σ H xs us Q I rs z8;obtain ⟨S,as,ts,w,sub,hr,hf,q⟩:=z8;cases hr with
 | nil=>simp only [V9,reduceCtorEq] at hf
 | @cons x t cf ts' h1 h2 =>
  cases h2 with
  | cons h3 h4=>simp only [V9,reduceCtorEq] at hf
  | nil =>
   cases h1 with
   | tup g1 g2=>simp only [V9] at hf; cases hf; exact qu pins s σ H _ us Q I rs ⟨_,_,rfl,.inr (jf sub g1),by rw [g2.length]; exact q _ H S (Ext.refl sub) (.int _)⟩
   | lst g1 g2=>simp only [V9] at hf; cases hf; exact qu pins s σ H _ us Q I rs ⟨_,_,rfl,.inl (iz sub g1),by rw [g2.length]; exact q _ H S (Ext.refl sub) (.int _)⟩
   | str z =>
    simp only [V9] at hf;split at hf
    ·rename_i hl; cases hf; exact Hg pins s σ H _ us Q I rs ⟨_,rfl,Nat.le_trans (Nat.le_of_lt hl) j7,q _ H S (Ext.refl sub) (.int _)⟩
    ·cases hf
   | @dic a ag ts g1 g2 =>
    simp only [V9] at hf; cases hf;obtain ⟨u,rfl,ru⟩:=rs.one;cases ru;exact a1p I (p7 sub g1) fun t s' I'=>⟨.int ag.length,H,I',⟨t,rfl⟩,by rw [g2.length]; exact q _ H S (Ext.refl sub) (.int _)⟩
   | _=>simp only [V9,reduceCtorEq] at hf
theorem mj:Il X (.type "tuple") Dy:=by
 intro pins s σ H xs us Q I rs z8;obtain ⟨S,as,ts,w,sub,hr,hf,q⟩:=z8;cases hr with
 | nil=>simp only [Dy,reduceCtorEq] at hf
 | @cons x t cf ts' h1 h2 =>
  cases h2 with
  | cons h3 h4=>simp only [Dy,reduceCtorEq] at hf
  | nil =>
   cases h1 with
   | @tup a vs ts g1 g2=>simp only [Dy] at hf; cases hf; exact uh pins s σ H _ us Q I rs ⟨_,_,rfl,.inr ⟨jf sub g1,q _ H S (Ext.refl sub) (.tup g1 g2)⟩⟩
   | @lst a vs ts g1 g2 =>
    simp only [Dy] at hf; cases hf;refine uh pins s σ H _ us Q I rs ⟨_,_,rfl,.inl ⟨iz sub g1,fun p hp=>?_⟩⟩;have x:=Ext.laid sub hp (.tup vs);exact q _ _ _ x (.tup (SqT.of bw) (g2.mono x.s nol))
   | _=>simp only [Dy,reduceCtorEq] at hf
theorem Nm:Il X (.type "list") Oi:=by
 intro pins s σ H xs us Q I rs z8;obtain ⟨S,as,ts,w,sub,hr,hf,q⟩:=z8;cases hr with
 | nil=>simp only [Oi,reduceCtorEq] at hf
 | @cons x t cf ts' h1 h2 =>
  cases h2 with
  | cons h3 h4=>simp only [Oi,reduceCtorEq] at hf
  | nil =>
   cases h1 with
   | @tup a vs ts g1 g2 =>
    simp only [Oi] at hf; cases hf;refine Ba pins s σ H _ us Q I rs ⟨_,_,rfl,.inr (jf sub g1),fun p hp=>?_⟩;have x:=Ext.laid sub hp (.lst vs);exact q _ _ _ x (.lst (SqL.of bw) (g2.mono x.s nol))
   | @lst a vs ts g1 g2 =>
    simp only [Oi] at hf; cases hf;refine Ba pins s σ H _ us Q I rs ⟨_,_,rfl,.inl (iz sub g1),fun p hp=>?_⟩;have x:=Ext.laid sub hp (.lst vs);exact q _ _ _ x (.lst (SqL.of bw) (g2.mono x.s nol))
   | _=>simp only [Oi,reduceCtorEq] at hf
end
theorem Jj {i:Nat} {s s':Sta} {t:T} (h:Jk i s=some (t,s')):s'=s/\((∃ xs f,s.env[i]? = some (some (.lst xs,f))/\t=.int xs.length)\/(∃ xs f,s.env[i]? = some (some (.dic xs,f))/\t=.int xs.length)):=by
 unfold Jk at h;split at h
 ·rename_i xs f e; cases h; exact ⟨rfl,.inl ⟨xs,f,e,rfl⟩⟩
 ·rename_i xs f e; cases h; exact ⟨rfl,.inr ⟨xs,f,e,rfl⟩⟩
 ·cases h
section
variable {K:PySem.W.Frag} {B:Bas} {st:Sta} {σ:L2.St} {H S:Hp} {ps:List (V × T)} {as:List Addr}
theorem Rel.dictAt (r:Rel K B st σ H ps S as) {i:Nat} {ag:List (L2.Key × T)} {f:Bool} (e:st.env[i]? = some (some (.dic ag,f))):∃ p vs,σ[i]? = some (some (.ref p))/\Rd H p (.dK vs)/\Ax K S as vs ag:=by
 obtain ⟨v,h1,h2,h3⟩:=r.slots i _ f e;cases f with
 | false =>
  have h:=h2 rfl;cases h with
  | dic a b=>exact ⟨_,_,h1,p7 r.sub a,b⟩
 | true =>
  obtain ⟨p,rfl,o⟩:=h3 rfl;obtain ⟨vs,h,q⟩:=o.own;exact ⟨p,vs,h1,.inl h,q⟩
end
section
variable {X:Cx} {B:Bas} {a b c e o k d:Expr} {m mo mk md mv:M T} {pos p:Pos}
theorem v9 {i:Nat} {s:Sta} (h:vo i s=true):∃ ag f,s.env[i]? = some (some (.lst ag,f)):=by
 unfold vo at h;split at h
 ·rename_i ag f e; exact ⟨ag,f,e⟩
 ·cases h
end
theorem f9 {ms:M (List T)} {n:Nat} (h:∀ st ts aa,ms st=some (ts,aa)->ts.length<=n) (hn:n<=1000):∀ st ts aa,ms st=some (ts,aa)->ts.length<=1000:=fun st ts aa e=>Nat.le_trans (h st ts aa e) hn
theorem qe {m:M T}:∀ st ts aa,a00 m st=some (ts,aa)->ts.length<=sizeLine:=fun st ts aa e=>by
 unfold a00 at e;split at e
 ·split at e
  ·rename_i h; cases e; exact Nat.le_trans (Nat.le_of_lt h) j7
  ·cases e
 ·split at e
  ·rename_i h; cases e; exact Nat.le_trans (Nat.le_of_lt h) j7
  ·cases e
 ·cases e
theorem yd {m:M T}:∀ st ts aa,Im m st=some (ts,aa)->ts.length<=sizeLine:=fun st ts aa e=>by
 obtain ⟨n,_,h,rfl⟩:=Em e;unfold rangeT;rw [List.length_map,List.length_range];refine Nat.le_trans ?_ j7;show n.toNat<=1000000;omega
def jw (P:Program) (w:World) (K:PySem.W.Frag) (mg:Str->Option Value) (base:Heap) (x:Str) (k:Nat) (ps:List Str) (F:Fn):Prop :=
 ∃ f fd,ur P w K mg base CX0 k f fd ps (spF K ps.length F)/\Binds K fd ps []/\PySem.W.keepIn K (.ref f)=true/\mg x=some (.ref f)
theorem jw.mono {P:Program} {w:World} {K:PySem.W.Frag} {mg:Str->Option Value} {base:Heap} {x:Str} {j k:Nat} {ps:List Str} {F:Fn} (d:jw P w K mg base x j ps F) (h:j<=k):jw P w K mg base x k ps F:=by
 obtain ⟨f,fd,h1,h2⟩:=d;exact ⟨f,fd,h1.mono h,h2⟩
section
variable {X:Cx} {B:Bas} {a b c e o k:Expr} {m m1 m2:M T} {pos p:Pos} {es:List Expr} {ms:M (List T)} {F:Fn} {x:Str} {n:Nat} {pn:List Str}
theorem bh (D:jw X.prog X.w X.K X.mg X.base x n pn F) (hr:uf n X.A) (hg:Gl X x)
  (ha:PA X (e::es) (aOf X.K B ms)) (hl:∀ st ts aa,ms st=some (ts,aa)->ts.length=pn.length) (aW:(x==("__debug__" : Str))=false:=by decide)
  (he:starEach (e::es) X.env=(false,eval e X.env)::starEach es X.env:=by rfl) (aL:(backTo pos (starEach es X.env)).any (·.1)=false:=by rfl) :
  PE X (.Call (.Name x p) (e::es) [] pos) (tOf X.K B (Tp F ms)):=by
 obtain ⟨f,fd,h1,h2,h3,h4⟩:=D;exact Zf h1 hr hg h4 h3 h2 ha hl aW he aL
theorem Dg (h:PA X es (aOf X.K B ms)) (hm:∀ st ts aa,ms st=some (ts,aa)->ts.length<=1000):PE X (.List es pos) (fOf X.K B (Ow (fun l=>some (.lst l)) ms)) :=
 (Tj h).imp fun σ H Q z9=>by
  obtain ⟨st,ps,S,as,R,t,aa,e,q⟩:=z9;obtain ⟨ts,e1,e2⟩:=yh e;cases e2;refine ⟨st,ps,S,as,R,ts,aa,e1,fun vs H1 S1 ae R1 rs=>⟨?_,fun p hp=>?_⟩⟩
  ·rw [rs.length]; exact Nat.le_of_lt (v8 (hm _ _ _ e1))
  ·obtain ⟨bD,sD,nD,no⟩:=R1.fresh hp;exact q p _ S1 ae (R1.a2e bD sD nD no) ⟨⟨vs,bw,rs⟩,sD,nD,bD⟩ no
theorem Rel.listAt {K:PySem.W.Frag} {B:Bas} {st:Sta} {σ:L2.St} {H S:Hp} {ps:List (V × T)} {as:List Addr} (r:Rel K B st σ H ps S as) {i:Nat} {xs:List T} {f:Bool} (e:st.env[i]? = some (some (.lst xs,f))):∃ p vs,σ[i]? = some (some (.ref p))/\SqL K H p vs/\jz K S as vs xs:=by
 obtain ⟨v,h1,h2,h3⟩:=r.slots i _ f e;cases f with
 | false =>
  have h:=h2 rfl;cases h with
  | lst a b=>exact ⟨_,_,h1,iz r.sub a,b⟩
 | true =>
  obtain ⟨p,rfl,o⟩:=h3 rfl;obtain ⟨vs,h,q⟩:=o.own;exact ⟨p,vs,h1,SqL.of h,q⟩
theorem u6 (i:Nat) {st:Stmt} (h:PS X st (Nz (tBM X.K "list" Cu (Ol i) (Bf (tOf X.K B m) U7)))):PS X st (sOf X.K B (G4 i m)):=h.imp fun D σ H z9=>by
 obtain ⟨st,ps,S,as,R,fl,aa,e,q⟩:=z9;obtain ⟨hd,t,s1,xs,e1,e2,hl,rfl,rfl⟩:=Jo e;obtain ⟨a7,f0,e0⟩:=v9 hd;obtain ⟨p0,vs0,s0,q0,_⟩:=R.listAt e0;refine ⟨_,s0,.inl ⟨rfl,_,q0⟩,st,ps,S,as,R,t,s1,e1,fun v H1 S1 ae R1=>?_⟩;obtain ⟨w,h1,_,h3⟩:=R1.slots i _ true e2;rw [s0] at h1; cases h1;obtain ⟨p',ep,ow⟩:=h3 rfl;cases ep;obtain ⟨vs,hH,h4⟩:=ow.own;exact ⟨p0,vs,v,rfl,rfl,hH,by rw [h4.length]; exact Nat.lt_of_lt_of_le hl j7,q _ _ S1 ae (R1.drop.turn e2 s0 ⟨_,bw,h4.append (.cons R1.top .nil)⟩)⟩
end
section
variable {X:Cx} {B:Bas} {a b c e o k:Expr} {m m1 m2:M T} {pos p:Pos}
theorem Hz {K:PySem.W.Frag} {S:Hp} {as:List Addr}:∀ {vs:List V} {ts:List T} {l:List Int},jz K S as vs ts->Yp ts=some l->vs=l.map V.int
 | _,[],l,h0,h=>by cases h0; cases h; rfl
 | _,_::_,l,h0,h=>by
  cases h0 with | cons h1 h2=>?_
  cases h1 <;> first | exact gj h | skip
  obtain ⟨l',e1,e2⟩:=Option.map_eq_some_iff.mp h;subst e2;rw [Hz h2 e1]; rfl
theorem Dw {K:PySem.W.Frag} {S:Hp} {as:List Addr}:∀ {vs:List V} {ts:List T} {l:List Bool},jz K S as vs ts->M8 ts=some l->vs=l.map V.bl
 | _,_,l,.nil,h=>by cases h; rfl
 | _,_,l,.cons (t:=t) h1 h2,h=>by
  cases h1 <;> first | exact gj h | skip
  obtain ⟨l',e1,e2⟩:=Option.map_eq_some_iff.mp h;subst e2;rw [Dw h2 e1]; rfl
theorem Vb {l:List Int} {us:List Value} (r:Vals (l.map V.int) us) {i:Nat} {v:Value} (h:us.toArray[i]? = some v):∃ t,v=.int (l.getD i 0) t:=by
 rw [List.getElem?_toArray] at h;have hi:i<(l.map V.int).length:=by rw [r.length]; exact (List.getElem?_eq_some_iff.mp h).1
 rw [List.length_map] at hi;have e:(l.map V.int)[i]? = some (.int l[i]):=by rw [List.getElem?_map,List.getElem?_eq_getElem hi]; rfl
 obtain ⟨u,h1,t,h2⟩:=r.get e;rw [h] at h1; cases h1;exact ⟨t,by rw [h2,List.getD_eq_getElem?_getD,List.getElem?_eq_getElem hi]; rfl⟩
theorem Sy {l:List Bool} {us:List Value} (r:Vals (l.map V.bl) us) {i:Nat} {v:Value} (h:us.toArray[i]? = some v):v=.bool (l.getD i true):=by
 rw [List.getElem?_toArray] at h;have hi:i<(l.map V.bl).length:=by rw [r.length]; exact (List.getElem?_eq_some_iff.mp h).1
 rw [List.length_map] at hi;have e:(l.map V.bl)[i]? = some (.bl l[i]):=by rw [List.getElem?_map,List.getElem?_eq_getElem hi]; rfl
 obtain ⟨u,h1,h2⟩:=r.get e;rw [h] at h1; cases h1;rw [h2,List.getD_eq_getElem?_getD,List.getElem?_eq_getElem hi]; rfl
theorem Inv.vo {pins:List (Addr × Obj)} {σ:L2.St} {H:Hp} {s:Shared} {a:Addr} {xs:List V} (I:L2.Inv X pins σ H s) (h:SqL X.K H a xs):a<s.heap.objs.size:=by
 obtain ⟨its,_,⟨o,n,h1,_⟩,_⟩:=I.list h;exact Heap.lt_size h1
theorem Pb (hc:X.calm=true):Il X (.builtin "sum") a66:=by
 intro pins s σ H xs us Q I rs z8;obtain ⟨S,as,ts,w,sub,hr,hf,q⟩:=z8;cases hr with
 | nil=>exact gj hf
 | @cons x t cf ts' h1 h2 =>
  cases h2 with
  | cons h3 h4=>cases h1 <;> exact gj hf
  | nil =>
   cases h1 with
   | @lst a vs ts g1 g2 =>
    obtain ⟨l,e1,e2⟩:=Option.map_eq_some_iff.mp hf;subst e2;have ev:=Hz g2 e1;subst ev;obtain ⟨u,rfl,ru⟩:=rs.one;cases ru;obtain ⟨its,r,p,hz⟩:=I.list (iz sub g1);have aP:=Inv.vo I (iz sub g1);refine call_sum_walkG (wpAny_pyIter_list p.isList ?_);refine ⟨_,_,_,_,_,_,fun i=>l.getD i 0,rfl,Walks.list (A:=X.A.in1) (show X.A.in1.handled=none from I.ok.hd hc) s.heap.objs.size a (Nat.ne_of_lt aP) its.toArray,And.intro ⟨_,Heap.get?_push_size _ rfl,rfl,rfl⟩ (PlainL.keeps p fun b o e=>Heap.get?_push_of_some _ e).isList,fun b hb=>?_,fun i v hv=>Vb r hv,fun h' tk t' hk=>?_⟩
    ·rw [Heap.size_push];rcases List.mem_cons.mp hb with rfl | hb
     ·exact Nat.lt_succ_self _
     ·rw [List.mem_singleton.mp hb]; exact Nat.lt_succ_of_lt aP
    ·have hl:its.toArray.size=l.length:=by rw [List.size_toArray,<- r.length,List.length_map]
     rw [hl,preSum_getD,List.take_length];exact ⟨.int l.sum,H,I.kept (h':=h') (t':=tk) fun b u e=>hk b u (by simp; exact Nat.ne_of_lt (Heap.lt_size e)) (Heap.get?_push_of_some _ e),⟨_,rfl⟩,q _ H S (Ext.refl sub) (.int _)⟩
   | _=>exact gj hf
theorem all_range (l:List Bool) (d:Bool):((List.range l.length).all fun i=>l.getD i d)=l.all id:=by
 induction l with
 | nil=>rfl
 | cons x r ih =>
  rw [List.length_cons,List.range_succ_eq_map,List.all_cons,List.all_map,List.all_cons,<- ih];rfl
theorem Cg (hc:X.calm=true):Il X (.builtin "all") a6i:=by
 intro pins s σ H xs us Q I rs z8;obtain ⟨S,as,ts,w,sub,hr,hf,q⟩:=z8;cases hr with
 | nil=>exact gj hf
 | @cons x t cf ts' h1 h2 =>
  cases h2 with
  | cons h3 h4=>cases h1 <;> exact gj hf
  | nil =>
   cases h1 with
   | @lst a vs ts g1 g2 =>
    obtain ⟨l,e1,e2⟩:=Option.map_eq_some_iff.mp hf;subst e2;have ev:=Dw g2 e1;subst ev;obtain ⟨u,rfl,ru⟩:=rs.one;cases ru;obtain ⟨its,r,p,hz⟩:=I.list (iz sub g1);have aP:=Inv.vo I (iz sub g1);refine call_all_walk (wpAny_pyIter_list p.isList ?_);refine ⟨_,_,_,_,_,_,fun i=>l.getD i true,rfl,Walks.list (A:=X.A.in1) (show X.A.in1.handled=none from I.ok.hd hc) s.heap.objs.size a (Nat.ne_of_lt aP) its.toArray,And.intro ⟨_,Heap.get?_push_size _ rfl,rfl,rfl⟩ (PlainL.keeps p fun b o e=>Heap.get?_push_of_some _ e).isList,fun i v s Q E hv hq=>?_,fun h' tk hk=>?_⟩
    ·have e:=Sy r hv;subst e;exact wpAny_truthy_bool hq
    ·have hl:its.toArray.size=l.length:=by rw [List.size_toArray,<- r.length,List.length_map]
     rw [hl,all_range];exact ⟨.bl (l.all id),H,I.kept (h':=h') (t':=tk) fun b u e=>hk b u (by simp; exact Nat.ne_of_lt (Heap.lt_size e)) (Heap.get?_push_of_some _ e),rfl,q _ H S (Ext.refl sub) (.bl _)⟩
   | _=>exact gj hf
noncomputable def tyOf:T->Option Value
 | .non=>some (.type "NoneType")
 | .bl _=>some (.type "bool")
 | .int _=>some (.type "int")
 | .str _=>some (.type "str")
 | .tup _=>some (.type "tuple")
 | .lst _=>some (.type "list")
 | .dic _=>some (.type "dict")
 | .obj _=>none
 | .adr _=>none
theorem a0i {pins:List (Addr × Obj)} {σ:L2.St} {H S:Hp} {s:Shared} {as:List Addr} {x:V} {u c:Value} {t:T} {ty:Value} {b:Bool} {Q:Value->Shared->Prop} {E:Value->Shared->Prop} (I:L2.Inv X pins σ H s) (sub:Same S H) (rx:RelV x u) (r:Rep X.K S as x t) (br:tyOf t=some ty)
  (e:PySem.W.kitOne X.K ty c=some b) (h:∀ tk,Q (.bool b) { s with toks:=tk }):wpAny (model X.prog X.w) X.A (call (.builtin "isinstance") [u,c]) Q E s:=by
 cases r with
 | non=>cases br; exact yt I rx .non e h
 | bl y=>cases br; exact yt I rx (.bl y) e h
 | int y=>cases br; exact yt I rx (.int y) e h
 | str y=>cases br; exact yt I rx (.str y) e h
 | @tup a vs ts g1 g2 =>
  cases br;cases (show u=Value.ref a from rx);obtain ⟨its,_,⟨o,h1,h2,_⟩,_⟩:=I.tuple (jf sub g1);exact PySem.W.kia_one PySem.W.kitx_tuple I.kIn ⟨o,h1,h2⟩ e (fun z=>nomatch z) h
 | @lst a vs ts g1 g2 =>
  cases br;cases (show u=Value.ref a from rx);obtain ⟨its,_,⟨o,n,h1,h2,_⟩,_⟩:=I.list (iz sub g1);exact PySem.W.kia_one PySem.W.kitx_list I.kIn ⟨o,h1,h2⟩ e (fun z=>nomatch z) h
 | @dic a ag ts g1 g2 =>
  cases br;cases (show u=Value.ref a from rx);obtain ⟨_,_,vs,_,o,es,ep,h1,h2,_⟩:=Iu I.hok (p7 sub g1);exact PySem.W.kia_one PySem.W.kitx_dict I.kIn ⟨o,h1,h2.1⟩ e (fun z=>nomatch z) h
 | obj h=>cases br
 | adr h=>cases br
def Zo (f:Value->Bool):List T->Option T
 | [t]=>(tyOf t).map fun ty=>.bl (f ty)
 | _=>none
theorem Ld {cn:String} {f:Value->Bool} {pc:Pos} (hg:Gl X "isinstance") (hm:X.mg "isinstance" = none) (bU:Gl X (Str.ofString cn)) (bT:X.mg (Str.ofString cn)=none) (hv:bootBuiltins (Str.ofString cn)=some (.type cn))
  (hf:∀ t ty,tyOf t=some ty->PySem.W.kitOne X.K ty (.type cn)=some (f ty)) (ha:PE X a (tOf X.K B m)) (hd:((Str.ofString cn)==("__debug__" : Str))=false) (hn:(Str.ofString cn) ≠ "__name__")
  (he:starEach [a,.Name (Str.ofString cn) pc] X.env=(false,eval a X.env)::starEach [.Name (Str.ofString cn) pc] X.env:=by rfl) (dB:starEach [.Name (Str.ofString cn) pc] X.env=(false,eval (.Name (Str.ofString cn) pc) X.env)::starEach [] X.env:=by rfl)
  (aL:(backTo pos (starEach [.Name (Str.ofString cn) pc] X.env)).any (·.1)=false:=by rfl) :
  PE X (.Call (.Name "isinstance" p) [a,.Name (Str.ofString cn) pc] [] pos) (tOf X.K B (Ow (Zo f) (Bb m U9))):=by
 have hc:Bp X (.builtin "isinstance") (fun xs H Q=>∃ S as x t ty,xs=[x,.ty cn]/\Same S H/\Rep X.K S as x t/\tyOf t=some ty/\Q (.bl (f ty)) H):=by
  intro pins s σ H xs us Q I rs z8;obtain ⟨S,as,x,t,ty,ex,sub,r,br,q⟩:=z8;subst ex;obtain ⟨u,w,rfl,r1,r2⟩:=rs.two;cases r2;exact a0i I sub r1 r br (hf t ty br) fun tk=>⟨.bl (f ty),H,I.tok _,rfl,q⟩
 have dG:PE X (.Name (Str.ofString cn) pc) (tC (.ty cn)):=Rb bU bT hv rfl hn hd;refine (gk hc hg hm PyProof.Rows.boot_isinstance (jc ha (jc dG lg dB) he) (by decide) (by decide) he aL).imp fun σ H Q z0=>?_;obtain ⟨st,ps,S,as,R,t,aa,e,q⟩:=z0;obtain ⟨ts,e1,e2⟩:=yh e;obtain ⟨t1,s1,us,ea,en,rfl⟩:=zu e1;cases en;simp only [Zo] at e2;obtain ⟨ty,e3,e4⟩:=Option.map_eq_some_iff.mp e2;subst e4;exact ⟨st,ps,S,as,R,t1,_,ea,fun v H1 S1 ae R1=>⟨S1,ae,v,t1,ty,rfl,R1.sub,R1.top,e3,q _ H1 S1 ae (R1.drop.push (.bl _))⟩⟩
example (K:PySem.W.Frag):PySem.W.kitOne K (.type "bool") (.type "int")=some true:=by rfl
example (K:PySem.W.Frag):PySem.W.kitOne K (.type "str") (.type "int")=some false:=by rfl
end
theorem Ir (l b:Addr) (a7 bQ:Array Value) (n n2:Nat) (bG:Option Addr) (bJ:Array (Option Value)) (eU:¬(!a7.isEmpty&&Builtin.List.listTooLong (a7.size+bQ.size))=true) (d0:a7.size<=sizeLine) (aO:a7.size+bQ.size<=sizeLine+1) :
  Meets (Builtin.«list.extend» ⟨[.ref l,.ref b],[]⟩) (fun _ R s=>s.heap.get? l=some { cls:=.type "list",dict:=none,data:=.seq a7 n,slots:=#[] }/\s.heap.get? b=some { cls:=.type "list",dict:=bG,data:=.seq bQ n2,slots:=bJ }/\R (.ok (.ret Value.none)) { s with heap:=s.heap.update l (Obj.mapSeq fun x=>x++bQ),toks:=s.toks }) :=
 .of_wp fun pr wd Ar R z h=>by
  obtain ⟨hp,gs,dr,tk,os⟩:=z; obtain ⟨hl,hb,h⟩:=h; have f1:=AutoSeq1.idx_int; have f2:=AutoSeq1.sub_tuple_tuple; have f3:=AutoSeq1.sub_list_list; have f4:=AutoSeq1.sub_tuple_list; have f5:=AutoSeq1.sub_list_tuple;have dv:(a7++bQ).size<=sizeLine+1:=by rw [Array.size_append]; exact aO
  wp_walk using (wpAny_updateSeq hl rfl (hz:=d0) (_hz':=dv)),AutoSeq1.wpAny_loadPart' hl,AutoSeq1.wpAny_loadPart' hb; exact ⟨_,rfl,h⟩
theorem Gf (l b:Addr) (a7 bQ:Array Value) (n n2:Nat) (bG:Option Addr) (bJ:Array (Option Value)) (eU:¬(!a7.isEmpty&&Builtin.List.listTooLong (a7.size+bQ.size))=true) (d0:a7.size<=sizeLine) (aO:a7.size+bQ.size<=sizeLine+1) :
  Meets (Builtin.«list.extend» ⟨[.ref l,.ref b],[]⟩) (fun _ R s=>s.heap.get? l=some { cls:=.type "list",dict:=none,data:=.seq a7 n,slots:=#[] }/\s.heap.get? b=some { cls:=.type "tuple",dict:=bG,data:=.seq bQ n2,slots:=bJ }/\R (.ok (.ret Value.none)) { s with heap:=s.heap.update l (Obj.mapSeq fun x=>x++bQ),toks:=s.toks }) :=
 .of_wp fun pr wd Ar R z h=>by
  obtain ⟨hp,gs,dr,tk,os⟩:=z; obtain ⟨hl,hb,h⟩:=h; have f1:=AutoSeq1.idx_int; have f2:=AutoSeq1.sub_tuple_tuple; have f3:=AutoSeq1.sub_list_list; have f4:=AutoSeq1.sub_tuple_list; have f5:=AutoSeq1.sub_list_tuple;have dv:(a7++bQ).size<=sizeLine+1:=by rw [Array.size_append]; exact aO
  wp_walk using (wpAny_updateSeq hl rfl (hz:=d0) (_hz':=dv)),AutoSeq1.wpAny_loadPart' hl,AutoSeq1.wpAny_loadPart' hb; exact ⟨_,rfl,h⟩
section
variable {X:Cx} {B:Bas} {m:M T}
def Lb (K:PySem.W.Frag):V->List V->Hp->VK->Prop:=fun x vs H Q=>∃ l b xs zs,x=.ref l/\vs=[.ref b]/\H l=some (.lst xs)/\(SqL K H b zs\/SqT K H b zs)/\xs.length+zs.length<=sizeLine/\Q .non (upd H l (.lst (xs++zs)))
theorem Ed:MtM X "list.extend" (Lb X.K):=by
 intro pins s σ H x vs v us Q I rx rv h;obtain ⟨l,b,xs,zs,rfl,rfl,hH,hB,hz,q⟩:=h;cases rx;obtain ⟨u,rfl,ru⟩:=rv.one;cases ru;obtain ⟨z,its,n,r,hl,e⟩:=I.a2x hH
 have fin:∀ aC:List Value,Vals zs aC->L2.Inv X pins σ (upd H l (.lst (xs++zs))) { s with heap:=s.heap.update l (Obj.mapSeq fun x=>x++aC.toArray),toks:=s.toks }:=fun aC r2 =>
  I.a3s (its':=its++aC) hH e (by simp) (r.append r2) (by rw [List.length_append]; exact hz)
 have b8:∀ aC:List Value,Vals zs aC->¬ (!its.toArray.isEmpty&&Builtin.List.listTooLong (its.toArray.size+aC.toArray.size))=true:=fun aC r2=>by
  have bz:its.toArray.size+aC.toArray.size<=sizeLine:=by rw [List.size_toArray,List.size_toArray,<- hl,<- r2.length]; exact hz
  rw [W0 bz,Bool.and_false];exact Bool.false_ne_true
 rcases hB with hB | hB
 ·obtain ⟨aC,r2,⟨⟨cls2,bG,data2,bJ⟩,n2,ho2,hc2,hd02,hd2⟩,_⟩:=I.list hB;simp only at hc2 hd2;subst hc2 hd2
  refine call_meets F.slot_list_extend ⟨_,e,rfl⟩ F.entry_list_extend (F.args_list_extend_2 _ _)
   (Ir l b its.toArray aC.toArray n n2 bG bJ (b8 aC r2) (by rw [List.size_toArray,<- hl]; omega) (by rw [List.size_toArray,List.size_toArray,<- hl,<- r2.length]; omega)) ⟨e,ho2,?_⟩
  exact ⟨.non,_,fin aC r2,rfl,q⟩
 ·obtain ⟨aC,r2,⟨⟨cls2,bG,data2,bJ⟩,ho2,hc2,n2,hd2⟩,_⟩:=I.tuple hB;simp only at hc2 hd2;subst hc2 hd2
  refine call_meets F.slot_list_extend ⟨_,e,rfl⟩ F.entry_list_extend (F.args_list_extend_2 _ _)
   (Gf l b its.toArray aC.toArray n n2 bG bJ (b8 aC r2) (by rw [List.size_toArray,<- hl]; omega) (by rw [List.size_toArray,List.size_toArray,<- hl,<- r2.length]; omega)) ⟨e,ho2,?_⟩
  exact ⟨.non,_,fin aC r2,rfl,q⟩
theorem Hx (i:Nat) {st:Stmt} (h:PS X st (Nz (tBM X.K "list" (Lb X.K) (Ol i) (Bf (tOf X.K B m) U7)))):PS X st (sOf X.K B (Fw i m)):=h.imp fun D σ H z9=>by
 obtain ⟨st,ps,S,as,R,fl,aa,e,q⟩:=z9;obtain ⟨hd,t,s1,xs,ys,e1,ey,e2,hl,rfl,rfl⟩:=Jy e;obtain ⟨a7,f0,e0⟩:=v9 hd;obtain ⟨p0,vs0,s0,q0,_⟩:=R.listAt e0;refine ⟨_,s0,.inl ⟨rfl,_,q0⟩,st,ps,S,as,R,t,s1,e1,fun v H1 S1 ae R1=>?_⟩;obtain ⟨w,h1,_,h3⟩:=R1.slots i _ true e2;rw [s0] at h1; cases h1;obtain ⟨p',ep,ow⟩:=h3 rfl;cases ep;obtain ⟨vs,hH,h4⟩:=ow.own;have top:=R1.top;cases top with
 | @tup b zs _ g1 g2 =>
  cases ey;exact ⟨p0,b,vs,zs,rfl,rfl,hH,.inr (jf R1.sub g1),by rw [h4.length,g2.length]; exact Nat.le_trans (Nat.le_of_lt hl) j7,q _ _ S1 ae (R1.drop.turn e2 s0 ⟨_,bw,h4.append g2⟩)⟩
 | @lst b zs _ g1 g2 =>
  cases ey;exact ⟨p0,b,vs,zs,rfl,rfl,hH,.inl (iz R1.sub g1),by rw [h4.length,g2.length]; exact Nat.le_trans (Nat.le_of_lt hl) j7,q _ _ S1 ae (R1.drop.turn e2 s0 ⟨_,bw,h4.append g2⟩)⟩
 | _=>exact gj ey
end
theorem Rel.newObj {K:PySem.W.Frag} {B:Bas} {st:Sta} {σ:L2.St} {H S:Hp} {ps:List (V × T)} {as:List Addr} {p:Addr} {ob:HO} {so:SO} (r:Rel K B st σ H ps S as) (hp:H p=none) (h:X3 K S (as++[p]) (upd H p ob) p so) :
  Rel K B { st with sto:=st.sto++[so] } σ (upd H p ob) ((.ref p,.obj st.sto.length)::ps) S (as++[p]):=by
 obtain ⟨bD,sD,nD,no⟩:=r.fresh hp;have mo:∃ l,as++[p]=as++l:=⟨[p],rfl⟩;have other:∀ q,q≠p->H q=upd H p ob q:=fun q n=>(dj n).symm;refine Rel.push (st:={ st with sto:=st.sto++[so] }) (H:=upd H p ob) (v:=.ref p) (t:=.obj st.sto.length) ⟨fun b u e=>?_,⟨r.grow.same,?_,fun q o a b c=>?_⟩,fun i t f e=>?_,r.apart,⟨?_,?_,fun n cM e=>?_⟩,fun q hq=>(r.pend q hq).mono (Same.refl _) mo,r.len⟩ (.obj ?_)
 ·rw [dj (fun z=>by subst z; rw [sD] at e; cases e)]; exact r.sub _ _ e
 ·obtain ⟨l,e⟩:=r.grow.more;exact ⟨l++[p],by rw [e,List.append_assoc]⟩
 ·obtain ⟨x,y,z⟩:=r.grow.keep q o a b c;have n:q≠p:=fun w=>by subst w; rw [bD] at a; cases a
  refine ⟨by rw [dj n]; exact x,y,fun m=>?_⟩;rcases List.mem_append.mp m with m | m
  ·exact z m
  ·exact n (List.mem_singleton.mp m)
 ·obtain ⟨v,h1,h2,h3⟩:=r.slots i t f e;refine ⟨v,h1,fun z=>(h2 z).mono (Same.refl _) mo,fun z=>?_⟩;obtain ⟨q,rfl,o⟩:=h3 z;have n:q≠p:=fun w=>by subst w; subst z; exact no i t e h1
  refine ⟨q,rfl,o.own.more (Same.refl _) mo (other q n),o.out,fun m=>?_,o.new⟩;rcases List.mem_append.mp m with m | m
  ·exact o.nas m
  ·exact n (List.mem_singleton.mp m)
 ·show (as++[p]).length=(st.sto++[so]).length;rw [List.length_append,List.length_append,r.sto.len]; rfl
 ·refine List.nodup_append.mpr ⟨r.sto.nd,by simp,fun a ha b hb=>?_⟩;rw [List.mem_singleton.mp hb];intro z; subst z; exact nD ha
 ·have e:(st.sto++[so])[n]? = some cM:=e
  by_cases hn:n<st.sto.length
  ·rw [List.getElem?_append_left hn] at e;obtain ⟨a,h1,h2,h3⟩:=r.sto.at' n cM e;have na:a≠p:=fun z=>by subst z; exact nD (List.mem_of_getElem? h1)
   refine ⟨a,Rv h1,h2,?_⟩;cases cM with
   | dic ts=>obtain ⟨vs,x,y⟩:=h3; exact ⟨vs,by rw [dj na]; exact x,y.mono (Same.refl _) mo⟩
   | lst ts=>obtain ⟨vs,x,y⟩:=h3; exact ⟨vs,by rw [dj na]; exact x,y.mono (Same.refl _) mo⟩
   | dit ts=>obtain ⟨vs,x,y⟩:=h3; exact ⟨vs,by rw [dj na]; exact x,y.mono (Same.refl _) mo⟩
   | exc C f t=>obtain ⟨dx,v,x,g,y⟩:=h3; exact ⟨dx,v,by rw [dj na]; exact x,g,y.mono (Same.refl _) mo⟩
   | ins C fs=>obtain ⟨dx,vs,x,y⟩:=h3; exact ⟨dx,vs,by rw [dj na]; exact x,y.mono (Same.refl _) mo⟩
   | fdc ts=>obtain ⟨vs,x,y⟩:=h3; exact ⟨vs,by rw [dj na]; exact x,y.mono (Same.refl _) mo⟩
  ·rw [List.getElem?_append_right (Nat.le_of_not_lt hn)] at e
   have fW:n - st.sto.length=0:=by
    have:=(List.getElem?_eq_some_iff.mp e).1;simp at this; omega
   rw [fW] at e; cases e;have dC:n=as.length:=by rw [r.sto.len]; omega
   subst dC;exact ⟨p,by rw [List.getElem?_append_right (Nat.le_refl _),Nat.sub_self]; rfl,sD,h⟩
 ·rw [<- r.sto.len,List.getElem?_append_right (Nat.le_refl _),Nat.sub_self]; rfl
def PN (X:Cx) (e:Expr) (N:L2.St->V->Prop):Prop:=PE X e (fun σ H Q=>∃ v,N σ v/\Q v H)
def MN (K:PySem.W.Frag) (m:M T) (N:L2.St->V->Prop):Prop:=∀ (B:Bas) (st:Sta) (σ:L2.St) (H:Hp) (ps:List (V × T)) (S:Hp) (as:List Addr) (t:T) (aa:Sta),Rel K B st σ H ps S as->m st=some (t,aa)->aa=st/\∃ v,N σ v/\Rep K S as v t
structure PM (X:Cx) (e:Expr) (m:M T) (N:L2.St->V->Prop):Prop where
 p:PN X e N
 m:MN X.K m N
section
variable {X:Cx} {B:Bas} {a b e e1 e2:Expr} {m m1 m2:M T} {N N1 N2:L2.St->V->Prop} {pos p:Pos}
end
inductive V6:List Expr->List Str->Prop where
 | nil:V6 [] []
 | cons {x:Str} {k:Nat} {q:Pos} {es:List Expr} {xs:List Str}:V6 es xs->V6 (.Constant (.str x) k q::es) (x::xs)
theorem Js {X:Cx} {B:Bas}:∀ {es:List Expr} {xs:List Str},V6 es xs->PA X es (aOf X.K B (Wf xs))
 | _,_,.nil=>au
 | _,_,.cons h=>aj cj (Js h)
theorem len_strs:∀ (xs:List Str) (st:Sta) (ts:List T) (aa:Sta),Wf xs st=some (ts,aa)->ts.length<=xs.length
 | [],st,ts,aa,e=>dg st ts aa e
 | _::xs,st,ts,aa,e=>bf (len_strs xs) st ts aa e
section
variable {X:Cx} {B:Bas} {a b c e o k:Expr} {m m1 m2:M T} {pos p p2:Pos}
theorem Wa (l:List T):isTup l=Zo (fun ty=>ty == .type "tuple") l:=by
 match l with
 | []=>rfl
 | [t]=>cases t <;> rfl
 | x::y::r=>cases x <;> rfl
theorem W7 (l:List T):isInt l=Zo (fun ty=>ty == .type "int" || ty == .type "bool") l:=by
 match l with
 | []=>rfl
 | [t]=>cases t <;> rfl
 | x::y::r=>cases x <;> rfl
theorem Xe (l:List T):a4r l=Zo (fun ty=>ty == .type "bool") l:=by
 match l with
 | []=>rfl
 | [t]=>cases t <;> rfl
 | x::y::r=>cases x <;> rfl
theorem Ut (l:List T):isStr l=Zo (fun ty=>ty == .type "str") l:=by
 match l with
 | []=>rfl
 | [t]=>cases t <;> rfl
 | x::y::r=>cases x <;> rfl
theorem Ss:bootBuiltins "int" = some (.type "int"):=by decide +kernel
theorem Ob:bootBuiltins "bool" = some (.type "bool"):=by decide +kernel
theorem T9:bootBuiltins "str" = some (.type "str"):=by decide +kernel
theorem Aq {pc:Pos} (hg:Gl X "isinstance") (hm:X.mg "isinstance" = none) (bU:Gl X "tuple") (bT:X.mg "tuple" = none) (ha:PE X a (tOf X.K B m)) (he:starEach [a,.Name "tuple" pc] X.env=(false,eval a X.env)::starEach [.Name "tuple" pc] X.env:=by rfl) :
  PE X (.Call (.Name "isinstance" p) [a,.Name "tuple" pc] [] pos) (tOf X.K B (Ow isTup (Bb m U9))):=by
 rw [show isTup=_ from funext Wa];exact Ld (cn := "tuple") hg hm bU bT boot_tuple (fun t ty h=>by cases t <;> cases h <;> rfl) ha (by decide) (by decide) he
theorem Mw {pc:Pos} (hg:Gl X "isinstance") (hm:X.mg "isinstance" = none) (bU:Gl X "int") (bT:X.mg "int" = none) (ha:PE X a (tOf X.K B m)) (he:starEach [a,.Name "int" pc] X.env=(false,eval a X.env)::starEach [.Name "int" pc] X.env:=by rfl) :
  PE X (.Call (.Name "isinstance" p) [a,.Name "int" pc] [] pos) (tOf X.K B (Ow isInt (Bb m U9))):=by
 rw [show isInt=_ from funext W7];exact Ld (cn := "int") hg hm bU bT Ss (fun t ty h=>by cases t <;> cases h <;> rfl) ha (by decide) (by decide) he
theorem K1 {pc:Pos} (hg:Gl X "isinstance") (hm:X.mg "isinstance" = none) (bU:Gl X "bool") (bT:X.mg "bool" = none) (ha:PE X a (tOf X.K B m)) (he:starEach [a,.Name "bool" pc] X.env=(false,eval a X.env)::starEach [.Name "bool" pc] X.env:=by rfl) :
  PE X (.Call (.Name "isinstance" p) [a,.Name "bool" pc] [] pos) (tOf X.K B (Ow a4r (Bb m U9))):=by
 rw [show a4r=_ from funext Xe];exact Ld (cn := "bool") hg hm bU bT Ob (fun t ty h=>by cases t <;> cases h <;> rfl) ha (by decide) (by decide) he
theorem Cr (i:Nat) (hm:X.mg "len" = none) {es:Expr} (hg:Gl X "len") (h:PE X es (Ol i)) (he:starEach [es] X.env=(false,eval es X.env)::starEach [] X.env:=by rfl) (aL:(backTo pos (starEach [] X.env)).any (·.1)=false:=by rfl) :
  PE X (.Call (.Name "len" p) [es] [] pos) (tOf X.K B (Jk i)):=by
 have hc:Bp X (.builtin "len") (fun xs H Q=>∃ q,xs=[.ref q]/\((∃ ys,SqL X.K H q ys/\Q (.int ys.length) H)\/(∃ ag,Rd H q (.dK ag)/\Q (.int ag.length) H))):=by
  intro pins s σ H xs us Q I rs z8;obtain ⟨q,ex,h⟩:=z8;rcases h with ⟨ys,h1,h2⟩ | ⟨ag,h1,h2⟩
  ·exact qu pins s σ H xs us Q I rs ⟨q,ys,ex,.inl h1,h2⟩
  ·subst ex;obtain ⟨u,rfl,ru⟩:=rs.one;cases ru;exact a1p I h1 fun t s' I'=>⟨.int ag.length,H,I',⟨t,rfl⟩,h2⟩
 refine (gk hc hg hm PySem.boot_len (jc h lg he) (by decide) (by decide) he aL).imp fun σ H Q z0=>?_;obtain ⟨st,ps,S,as,R,t,aa,e,q⟩:=z0;obtain ⟨rfl,h⟩:=Jj e;rcases h with ⟨xs,f,e1,rfl⟩ | ⟨xs,f,e1,rfl⟩
 ·obtain ⟨p0,vs,s0,h1,h2⟩:=R.listAt e1;exact ⟨_,s0,p0,rfl,.inl ⟨vs,h1,by rw [h2.length]; exact q _ H S as (R.push (.int _))⟩⟩
 ·obtain ⟨p0,vs,s0,h1,h2⟩:=R.dictAt e1;exact ⟨_,s0,p0,rfl,.inr ⟨vs,h1,by rw [h2.length]; exact q _ H S as (R.push (.int _))⟩⟩
end
section
variable {X:Cx} {pins:List (Addr × Obj)} {σ:L2.St} {H S:Hp} {s:Shared} {as:List Addr}
theorem Rx (I:L2.Inv X pins σ H s) (sub:Same S H):(∀ {v:V} {t:T},Rep X.K S as v t->∀ {d:PyData} {u:Value},dat t=some d->RelV v u->∃ bs,Reads s.heap u d bs)/\∀ {vs:List V} {ts:List T},jz X.K S as vs ts->∀ {ds:List PyData} {us:List Value},Gb ts=some ds->Vals vs us->∃ bs,ReadsAll s.heap us ds bs:=by
 have tp:∀ {a:Addr} {vs:List V} {ts:List T},SqT X.K S a vs->jz X.K S as vs ts->(∀ {ds:List PyData} {us:List Value},Gb ts=some ds->Vals vs us->∃ bs,ReadsAll s.heap us ds bs)->∀ {d:PyData} {u:Value},dat (.tup ts)=some d->RelV (.ref a) u->∃ bs,Reads s.heap u d bs:=by
  intro a vs ts h _ q d u e r;simp only [dat] at e;obtain ⟨l,e1,e2⟩:=Option.map_eq_some_iff.mp e;subst e2;cases r;obtain ⟨its,rv,⟨o,h1,h2,n,h3⟩,_⟩:=I.tuple (jf sub h);obtain ⟨bs,rb⟩:=q e1 rv;exact ⟨_,.tuple h1 h2 h3 rb⟩
 have ls:∀ {a:Addr} {vs:List V} {ts:List T},SqL X.K S a vs->jz X.K S as vs ts->(∀ {ds:List PyData} {us:List Value},Gb ts=some ds->Vals vs us->∃ bs,ReadsAll s.heap us ds bs)->∀ {d:PyData} {u:Value},dat (.lst ts)=some d->RelV (.ref a) u->∃ bs,Reads s.heap u d bs:=by
  intro a vs ts h _ q d u e r;simp only [dat] at e;obtain ⟨l,e1,e2⟩:=Option.map_eq_some_iff.mp e;subst e2;cases r;obtain ⟨its,rv,⟨o,n,h1,h2,_,h3⟩,_⟩:=I.list (iz sub h);obtain ⟨bs,rb⟩:=q e1 rv;exact ⟨_,.list h1 h2 h3 rb⟩
 have st:∀ (x:Str) {d:PyData} {u:Value},dat (.str x)=some d->RelV (.str x) u->∃ bs,Reads s.heap u d bs:=by
  intro x d u e r;simp only [dat] at e;split at e
  ·cases e; obtain ⟨t,rfl⟩:=r; exact ⟨_,.str x t⟩
  ·cases e
 have cn:∀ {v:V} {t:T} {vs:List V} {ts:List T},Rep X.K S as v t->jz X.K S as vs ts->(∀ {d:PyData} {u:Value},dat t=some d->RelV v u->∃ bs,Reads s.heap u d bs)->(∀ {ds:List PyData} {us:List Value},Gb ts=some ds->Vals vs us->∃ bs,ReadsAll s.heap us ds bs)->∀ {ds:List PyData} {us:List Value},Gb (t::ts)=some ds->Vals (v::vs) us->∃ bs,ReadsAll s.heap us ds bs:=by
  intro v t vs ts _ _ h q ds us e r;obtain ⟨a,l,e1,e2,e3⟩:=U4 e;subst e3;cases r with
  | cons r1 r2 =>
   obtain ⟨b1,x1⟩:=h e1 r1;obtain ⟨b2,x2⟩:=q e2 r2;exact ⟨_,.cons x1 x2⟩
 have nl:∀ {ds:List PyData} {us:List Value},Gb []=some ds->Vals [] us->∃ bs,ReadsAll s.heap us ds bs:=by
  intro ds us e r; simp only [Gb] at e; cases e; cases r; exact ⟨_,.nil⟩
 have no:∀ {d:PyData} {u:Value},dat .non=some d->RelV .non u->∃ bs,Reads s.heap u d bs:=by
  intro d u e r; simp only [dat] at e; cases e; cases r; exact ⟨_,.none⟩
 have bo:∀ (b:Bool) {d:PyData} {u:Value},dat (.bl b)=some d->RelV (.bl b) u->∃ bs,Reads s.heap u d bs:=by
  intro b d u e r; simp only [dat] at e; cases e; cases r; exact ⟨_,.bool b⟩
 have it:∀ (i:Int) {d:PyData} {u:Value},dat (.int i)=some d->RelV (.int i) u->∃ bs,Reads s.heap u d bs:=by
  intro i d u e r; simp only [dat] at e; cases e; obtain ⟨t,rfl⟩:=r; exact ⟨_,.int i t⟩
 have di:∀ {a:Addr} {ts:List (L2.Key × T)} {d:PyData} {u:Value},dat (.dic ts)=some d->RelV (.ref a) u->∃ bs,Reads s.heap u d bs:=by
  intro a ts d u e; simp only [dat] at e; cases e
 have ob:∀ {a:Addr} {n:Nat} {d:PyData} {u:Value},dat (.obj n)=some d->RelV (.ref a) u->∃ bs,Reads s.heap u d bs:=by
  intro a n d u e; simp only [dat] at e; cases e
 have ad:∀ (a:Addr) {d:PyData} {u:Value},dat (.adr a)=some d->RelV (.ref a) u->∃ bs,Reads s.heap u d bs:=by
  intro a d u e; simp only [dat] at e; cases e
 exact ⟨fun h=>Rep.rec (motive_1:=fun v t _=>∀ {d:PyData} {u:Value},dat t=some d->RelV v u->∃ bs,Reads s.heap u d bs) (motive_2:=fun vs ts _=>∀ {ds:List PyData} {us:List Value},Gb ts=some ds->Vals vs us->∃ bs,ReadsAll s.heap us ds bs) (motive_3:=fun _ _ _=>True) no bo it st tp ls (fun _ _ _=>di) (fun _=>ob) ad nl cn trivial (fun _ _ _ _=>trivial) h,
  fun h=>jz.rec (motive_1:=fun v t _=>∀ {d:PyData} {u:Value},dat t=some d->RelV v u->∃ bs,Reads s.heap u d bs) (motive_2:=fun vs ts _=>∀ {ds:List PyData} {us:List Value},Gb ts=some ds->Vals vs us->∃ bs,ReadsAll s.heap us ds bs) (motive_3:=fun _ _ _=>True) no bo it st tp ls (fun _ _ _=>di) (fun _=>ob) ad nl cn trivial (fun _ _ _ _=>trivial) h⟩
theorem Rep.reads (I:L2.Inv X pins σ H s) (sub:Same S H) {v:V} {t:T} (h:Rep X.K S as v t) {d:PyData} {u:Value} (e:dat t=some d) (r:RelV v u):∃ bs,Reads s.heap u d bs:=(Rx I sub).1 h e r
theorem X5 (I:L2.Inv X pins σ H s) (sub:Same S H) {x y:V} {t u:T} {v w:Value} {b:Bool} {A:Around} (hx:Rep X.K S as x t) (hy:Rep X.K S as y u) (rx:RelV x v) (ry:RelV y w) (e:eqD t u=some b) (hu:A.units+40<cLine):SeqAt.EqAt A s v w b:=by
 obtain ⟨dx,dy,e1,e2,hd,rfl⟩:=J6 e;obtain ⟨b1,x1⟩:=hx.reads I sub e1 rx;obtain ⟨b2,x2⟩:=hy.reads I sub e2 ry;exact SeqAt.eqAt_reads dx dy A s v w b1 b2 x1 x2 (qd _ e1) (qd _ e2) (by have:=Nat.min_le_left dx.depth dy.depth; omega)
theorem T6 (I:L2.Inv X pins σ H s) (sub:Same S H) {A:Around} (hu:A.units+40<cLine) {kb:List (L2.Key × V)} {ub:List (L2.Key × T)} {wb:List (L2.Key × Value)} (rb:Ax X.K S as kb ub) (vb:KV kb wb) :
  ∀ {ka:List (L2.Key × V)} {ua:List (L2.Key × T)} {wa:List (L2.Key × Value)} {r:Bool},Ax X.K S as ka ua->KV ka wa->Zr ua ub=some r->PySem.W.KeqHits A s wb wa r
 | _,[],_,_,h0,va,e=>by
  cases h0;simp only [Zr] at e; cases e;cases va;exact .nil
 | _,(k,_)::_,_,_,h0,va,e=>by
  cases h0 with | cons h q=>?_
  simp only [Zr] at e;cases va with
  | @cons _ p2 _ _ hp hr =>
   obtain ⟨pk,pv⟩:=p2;obtain ⟨ek,rv⟩:=hp;dsimp only at ek rv;subst ek;rcases rb.get k with ⟨z,t',a1,a2,a3⟩ | ⟨a1,a2⟩
   ·rw [a2] at e;dsimp only at e;have rel:=KV.val vb k;rw [a1] at rel;obtain ⟨w',hw,rw'⟩:=Ge.some_of rel;split at e
    ·rename_i eb he;obtain ⟨b',e1,e2⟩:=Option.map_eq_some_iff.mp e;subst e2;exact .hit hw (X5 I sub h a3 rv rw' he hu) (T6 I sub hu rb vb q hr e1)
    ·cases e
   ·rw [a2] at e;cases e;have rel:=KV.val vb k;rw [a1] at rel;exact .miss (Ge.none_of rel)
end
section
variable {X:Cx}
theorem Gy {op:CmpOp} {neg:Bool} (bZ:(op=.Eq/\neg=false)\/(op=.NotEq/\neg=true)) {g:T->T->Option T} (hg:∀ t u w,g t u=some w->∃ b,eqT t u=some b/\w=.bl (xor neg b)) (hu:X.A.units+64<cLine):OpT X (compareOp op) g:=by
 intro pins s σ H x y v u Q I rx ry z8;obtain ⟨S,as,t,t2,w,sub,ht,hu2,hf,q⟩:=z8;obtain ⟨b,e,rfl⟩:=hg _ _ _ hf;have fin:EP X pins σ Q (.bool (xor neg b)) s:=⟨.bl (xor neg b),H,I,rfl,q _ H S (Ext.refl sub) (.bl _)⟩;rcases Yk e with ⟨xs,ys,rfl,rfl,hd⟩ | he
 ·cases ht with
  | @dic a ag _ g1 g2 =>
   cases hu2 with
   | @dic a' kvs' _ k1 k2 =>
    cases rx;cases ry;obtain ⟨z,hs,vs,rel,dd⟩:=Iu I.hok (p7 sub g1);obtain ⟨z',bC,vs',rel',dd'⟩:=Iu I.hok (p7 sub k1);have l1:vs.length=xs.length:=by rw [<- rel.length]; exact g2.length
    have l2:vs'.length=ys.length:=by rw [<- rel'.length]; exact k2.length
    have de:X.A.in1.units+40<cLine:=by show X.A.units+1+40<cLine; omega
    rcases hd with ⟨hl,eb⟩ | ⟨hl,rfl⟩
    ·have hits:vs.length=vs'.length->PySem.W.KeqHits X.A.in1 s vs' vs b:=fun _=>T6 I sub de k2 rel' g2 rel eb;have el:(vs.length==vs'.length)=true:=by rw [l1,l2,hl]; exact beq_self_eq_true _
     rcases bZ with ⟨rfl,rfl⟩ | ⟨rfl,rfl⟩
     ·refine PySem.W.keq_eq hs bC dd dd' (by omega) hits ?_;rw [el]; simpa using fin
     ·refine PySem.W.keq_ne hs bC dd dd' (by omega) hits ?_;rw [el]; simpa using fin
    ·have hits:vs.length=vs'.length->PySem.W.KeqHits X.A.in1 s vs' vs true:=fun h=>absurd (by rw [<- l1,<- l2]; exact h) hl;have el:(vs.length==vs'.length)=false:=by rw [l1,l2]; exact beq_eq_false_iff_ne.mpr hl
     rcases bZ with ⟨rfl,rfl⟩ | ⟨rfl,rfl⟩
     ·refine PySem.W.keq_eq hs bC dd dd' (by omega) hits ?_;rw [el]; simpa using fin
     ·refine PySem.W.keq_ne hs bC dd dd' (by omega) hits ?_;rw [el]; simpa using fin
 ·obtain ⟨dx,dy,e1,e2,hd,rfl⟩:=J6 he;obtain ⟨b1,x1⟩:=ht.reads I sub e1 rx;obtain ⟨b2,x2⟩:=hu2.reads I sub e2 ry;have hm:X.A.units+min dx.depth dy.depth<cLine:=by have:=Nat.min_le_left dx.depth dy.depth; omega
  rcases bZ with ⟨rfl,rfl⟩ | ⟨rfl,rfl⟩
  ·exact SeqAt.compareEq_reads x1 x2 (qd _ e1) (qd _ e2) hm (by simpa using fin)
  ·exact SeqAt.compareNe_reads x1 x2 (qd _ e1) (qd _ e2) hm (by simpa using fin)
theorem iu (hu:X.A.units+64<cLine):OpT X (compareOp .Eq) eqO:=Gy (.inl ⟨rfl,rfl⟩) (fun t u w h=>by
 unfold eqO at h;split at h
 ·rename_i b e; cases h; exact ⟨b,e,by simp⟩
 ·cases h) hu
theorem Gj (hu:X.A.units+64<cLine):OpT X (compareOp .NotEq) neO:=Gy (.inr ⟨rfl,rfl⟩) (fun t u w h=>by
 unfold neO at h;split at h
 ·rename_i b e; cases h; exact ⟨b,e,by simp⟩
 ·cases h) hu
open Classical in
noncomputable def X8 (h:Heap) (dx:PyData) (y:Value):Bool:=if e:∃ d bs,Reads h y d bs/\d.canLay0=true then PyData.eqv (Classical.choose e) dx else false
theorem Xc {h:Heap} {dx d:PyData} {y:Value} {bs:List Addr} (r:Reads h y d bs) (l:d.canLay0=true):X8 h dx y=PyData.eqv d dx:=by
 have e:∃ d bs,Reads h y d bs/\d.canLay0=true:=⟨d,bs,r,l⟩;unfold X8;rw [dif_pos e];obtain ⟨bs',r',l'⟩:=Classical.choose_spec e;rw [SeqAt.Reads.unique _ _ _ _ _ l' r' r]
theorem Qt {pins:List (Addr × Obj)} {σ:L2.St} {H S:Hp} {s:Shared} {as:List Addr} {A:Around} (I:L2.Inv X pins σ H s) (sub:Same S H) (hu:A.units+40<cLine) {x:V} {t:T} {v:Value} {dx:PyData} (hx:Rep X.K S as x t) (rx:RelV x v) (ex:dat t=some dx) :
  ∀ {vs:List V} {ts:List T} {us:List Value} {b:Bool},jz X.K S as vs ts->Vals vs us->inL t ts=some b->(∀ y∈us,SeqAt.EqAt A s y v (X8 s.heap dx y))/\us.any (X8 s.heap dx)=b
 | _,[],_,_,h0,r,e=>by cases h0; simp only [inL] at e; cases e; cases r; exact ⟨fun y h=>(nomatch h),rfl⟩
 | _,_::_,_,_,h0,r,e=>by
  cases h0 with | cons h q=>?_
  simp only [inL] at e;cases r with
  | @cons _ u1 _ us1 r1 r2 =>
   split at e
   ·rename_i eb he;obtain ⟨b',e1,e2⟩:=Option.map_eq_some_iff.mp e;subst e2;obtain ⟨i1,i2⟩:=Qt I sub hu hx rx ex q r2 e1;obtain ⟨dy,dx',f1,f2,hd,rfl⟩:=J6 he;rw [ex] at f2; cases f2;obtain ⟨b1,x1⟩:=h.reads I sub f1 r1;have hb:=Xc (dx:=dx) x1 (qd _ f1);refine ⟨fun y hy=>?_,by rw [List.any_cons,i2,hb]⟩;rcases List.mem_cons.mp hy with rfl | hy
    ·rw [hb]; exact X5 I sub h hx r1 rx he hu
    ·exact i1 y hy
   ·cases e
theorem Xv {t u w:T} (h:inT t u=some w):(∃ ys b,(u=.tup ys\/u=.lst ys)/\inL t ys=some b/\(dat t).isSome=true/\w=.bl b)\/(∃ ag q,u=.dic ag/\keyOf t=some q/\w=.bl (U6 q ag).isSome):=by
 unfold inT at h;split at h
 ·obtain ⟨q,e1,e2⟩:=Option.map_eq_some_iff.mp h;exact .inr ⟨_,q,rfl,e1,e2.symm⟩
 ·split at h
  ·rename_i hd;split at h
   ·obtain ⟨b,e1,e2⟩:=Option.map_eq_some_iff.mp h; exact .inl ⟨_,b,.inl rfl,e1,hd,e2.symm⟩
   ·obtain ⟨b,e1,e2⟩:=Option.map_eq_some_iff.mp h; exact .inl ⟨_,b,.inr rfl,e1,hd,e2.symm⟩
   ·cases h
  ·cases h
theorem Qf {op:CmpOp} {neg:Bool} (bZ:(op=.In/\neg=false)\/(op=.NotIn/\neg=true)) {g:T->T->Option T} (hg:∀ t u w,g t u=some w->∃ w',inT t u=some w'/\∃ b,w'=.bl b/\w=.bl (xor neg b)) (hu:X.A.units+64<cLine):OpT X (compareOp op) g:=by
 intro pins s σ H x y v u Q I rx ry z8;obtain ⟨S,as,t,t2,w,sub,ht,hu2,hf,q⟩:=z8;obtain ⟨w',ei,b0,rfl,rfl⟩:=hg _ _ _ hf;rcases Xv ei with ⟨ys,b,hy,e,hdt,eb⟩ | ⟨ag,qk,rfl,ek,eb⟩
 ·cases eb;obtain ⟨dx,ex⟩:=Option.isSome_iff_exists.mp hdt;have fin:EP X pins σ Q (.bool (xor neg b0)) s:=⟨.bl (xor neg b0),H,I,rfl,q _ H S (Ext.refl sub) (.bl _)⟩;have de:X.A.in1.units+40<cLine:=by show X.A.units+1+40<cLine; omega
  rcases hy with rfl | rfl
  ·cases hu2 with
   | @tup a vs _ g1 g2 =>
    cases ry;obtain ⟨its,r,p,hz⟩:=I.tuple (jf sub g1);obtain ⟨i1,i2⟩:=Qt I sub de ht rx ex g2 r e;have he:∀ y,y∈its.toArray->SeqAt.EqAt X.A.in1 s y v (X8 s.heap dx y):=fun y hy=>i1 y (by simpa using hy);have ha:its.toArray.any (X8 s.heap dx)=b0:=by rw [<- i2]; simp
    rcases bZ with ⟨rfl,rfl⟩ | ⟨rfl,rfl⟩
    ·exact SeqAt.in_tupleAt _ (show s.heap.IsTuple a its.toArray from p) he (by rw [ha]; simpa using fin)
    ·exact SeqAt.notIn_tupleAt _ (show s.heap.IsTuple a its.toArray from p) he (by rw [ha]; simpa using fin)
  ·cases hu2 with
   | @lst a vs _ g1 g2 =>
    cases ry;obtain ⟨its,r,p,hz⟩:=I.list (iz sub g1);obtain ⟨i1,i2⟩:=Qt I sub de ht rx ex g2 r e;have he:∀ y,y∈its.toArray->SeqAt.EqAt X.A.in1 s y v (X8 s.heap dx y):=fun y hy=>i1 y (by simpa using hy);have ha:its.toArray.any (X8 s.heap dx)=b0:=by rw [<- i2]; simp
    rcases bZ with ⟨rfl,rfl⟩ | ⟨rfl,rfl⟩
    ·exact SeqAt.in_listAt _ p.isList he (by rw [ha]; simpa using fin)
    ·exact SeqAt.notIn_listAt _ p.isList he (by rw [ha]; simpa using fin)
 ·cases eb;cases hu2 with
  | @dic a kv _ g1 g2 =>
   cases ry;have ey:=a03 ht ek;subst ey
   have hs:(U6 qk ag).isSome=(Ny kv qk).isSome:=by
    rcases g2.get qk with ⟨z,t',a1,a2,_⟩ | ⟨a1,a2⟩
    ·simp [a1,a2]
    ·simp [a1,a2]
   rw [hs] at q;have gd:Zj H a (kV qk) (Ny kv qk):=.inl ⟨kv,qk,p7 sub g1,rfl,rfl⟩;rcases bZ with ⟨rfl,rfl⟩ | ⟨rfl,rfl⟩
   ·exact a70 (by omega) I gd rx fun s' I'=>⟨.bl _,H,I',rfl,by simpa using q _ H S (Ext.refl sub) (.bl _)⟩
   ·exact Ys (by omega) I gd rx fun s' I'=>⟨.bl _,H,I',rfl,by simpa using q _ H S (Ext.refl sub) (.bl _)⟩
theorem Qq (hu:X.A.units+64<cLine):OpT X (compareOp .NotIn) Wh:=Qf (.inr ⟨rfl,rfl⟩) (fun t u w h=>by
 unfold Wh at h;split at h
 ·rename_i b e;cases h;exact ⟨_,e,b,rfl,by simp⟩
 ·cases h) hu
end
section
variable {X:Cx} {B:Bas} {a b c e:Expr} {m m1 m2:M T} {pos p:Pos} {u v:S} {es:List Expr} {ms:M (List T)} {k n:Nat} {f:Addr} {fd:FuncData} {pn:List Str} {F:Fn} {x:Str}
end
section
variable {X:Cx} {B:Bas} {a b c e:Expr} {m m1 m2:M T} {pos p:Pos} {es:List Expr} {ms:M (List T)} {n:Nat} {pn:List Str} {F:Fn} {x:Str}
end
section
variable {P:Program} {w:World} {K:PySem.W.Frag} {mg:Str->Option Value} {base:Heap}
end
section
variable {X:Cx} {B:Bas} {a b c e:Expr} {m m1 m2:M T} {pos p p2 fT:Pos}
def P0:List Nat->TGs
 | []=>a5g
 | i::is=>a0u (Er i) (P0 is)
theorem Mq {K:PySem.W.Frag} {H S:Hp} {as:List Addr} {ps:List (V × T)}:∀ (is:List Nat) {vs:List V} {xs:List T} {st:Sta} {σ:L2.St} {Q:L2.St->Hp->Prop},Rel K B st σ H ps S as->jz K S as vs xs->xs.length=is.length ->
  (∀ af,Rel K B ((is.zip xs).foldl (fun s p=>jj p.1 p.2 false s) st) af H ps S as->Q af H)->P0 is vs σ H Q
 | [],_,_,_,_,_,R,.nil,_,q=>⟨rfl,q _ R⟩
 | i::is,_,_,_,_,_,R,.cons r rs,hl,q=>⟨_,_,rfl,Mq is (R.put (i:=i) r) rs (by simpa using hl) q⟩
 | [],_,_,_,_,_,_,.cons _ _,hl,_=>by simp at hl
 | _::_,_,_,_,_,_,_,.nil,hl,_=>by simp at hl
theorem Qm {is:List Nat} {tg:Expr} (h:PG X tg (a5q X.K is.length (P0 is))):PG X tg (gOf X.K B (a5m is)):=fun pins s σ H x u Q I r z9=>h pins s σ H x u Q I r (by
 obtain ⟨st,ps,S,as,t,R,aa,e,q⟩:=z9;have top:=R.top;cases t with
 | tup xs =>
  cases top with
  | @tup a vs _ g1 g2 =>
   obtain ⟨hl,e⟩:=qz e;cases e;exact ⟨a,vs,rfl,jf R.sub g1,by rw [g2.length]; exact hl,Mq is R.drop g2 hl fun af R'=>q af H S as R'⟩
 | _=>exact gj e)
end
end C
namespace C
open PySem PySem.Spec PyProof.Rows L2
section
variable {X:Cx} {B:Bas} {a b c e lo hi:Expr} {m m1 m2 ml mh:M T} {pos p p2:Pos}
end
theorem O9 {o k:M T} {s s':Sta} {t:T} (h:Sh o k s=some (t,s')):∃ n s1 i xs j,o s=some (.obj n,s1)/\k s1=some (.int i,s')/\s'.sto[n]? = some (.lst xs)/\ixI xs.length i=some j/\xs[j]? = some t:=by
 unfold Sh at h;split at h
 ·rename_i n s1 e1;split at h
  ·rename_i i s2 e2;split at h
   ·rename_i xs e3;split at h
    ·rename_i t' e4;cases h;obtain ⟨j,e5,e6⟩:=Option.bind_eq_some_iff.mp e4;exact ⟨n,s1,i,xs,j,e1,e2,e3,e5,e6⟩
    ·cases h
   ·cases h
  ·cases h
 ·cases h
theorem K5 {o:M T} {s s':Sta} {t:T} (h:K6 o s=some (t,s')):∃ n xs,o s=some (.obj n,s')/\s'.sto[n]? = some (.lst xs)/\t=.int xs.length:=by
 unfold K6 at h;split at h
 ·rename_i n s1 e1;split at h
  ·rename_i xs e3; cases h; exact ⟨n,xs,e1,e3,rfl⟩
  ·cases h
 ·cases h
theorem Kc {a:M (List T)} {s s':Sta} {t:T} (h:Kl a s=some (t,s')):∃ ts s1,a s=some (ts,s1)/\t=.obj s1.sto.length/\s' = { s1 with sto:=s1.sto++[.lst ts] }:=by
 unfold Kl at h;split at h
 ·rename_i ts s1 e1; cases h; exact ⟨ts,s1,e1,rfl,rfl⟩
 ·cases h
theorem O6 {o k v:M T} {s s':Sta} {fl:Flow} (h:Py o k v s=some (fl,s')) :
  ∃ t s1 n s2 i s3 xs j,v s=some (t,s1)/\o s1=some (.obj n,s2)/\k s2=some (.int i,s3)/\s3.sto[n]? = some (.lst xs)/\ixI xs.length i=some j/\fl=.next/\s' = { s3 with sto:=s3.sto.set n (.lst (xs.set j t)) }:=by
 unfold Py at h;split at h
 ·rename_i t s1 e;split at h
  ·rename_i n s2 eo;split at h
   ·rename_i i s3 ek;split at h
    ·rename_i xs ex;split at h
     ·rename_i j ej; cases h; exact ⟨t,s1,n,s2,i,s3,xs,j,e,eo,ek,ex,ej,rfl,rfl⟩
     ·cases h
    ·cases h
   ·cases h
  ·cases h
 ·cases h
theorem Jt {i:Nat} {v:M T} {s s':Sta} {fl:Flow} (h:K4 i v s=some (fl,s')) :
  ∃ n ys t s1 xs,s.env[i]? = some (some (.obj n,false))/\s.sto[n]? = some (.lst ys)/\v s=some (t,s1)/\s1.sto[n]? = some (.lst xs)/\xs.length<lim/\fl=.next/\s' = { s1 with sto:=s1.sto.set n (.lst (xs++[t])) }:=by
 unfold K4 at h;split at h
 ·rename_i n e;split at h
  ·rename_i ys ey;split at h
   ·rename_i t s1 fc;split at h
    ·rename_i xs ex;split at h
     ·rename_i hl; cases h; exact ⟨n,ys,t,s1,xs,e,ey,fc,ex,hl,rfl,rfl⟩
     ·cases h
    ·cases h
   ·cases h
  ·cases h
 ·cases h
theorem jz.set {K:PySem.W.Frag} {S:Hp} {as:List Addr} {v:V} {t:T} (h:Rep K S as v t):∀ {vs:List V} {ts:List T} (j:Nat),jz K S as vs ts->jz K S as (vs.set j v) (ts.set j t)
 | _,_,_,.nil=>.nil
 | _,_,0,.cons _ r=>.cons h r
 | _,_,j+1,.cons q r=>.cons q (jz.set h j r)
section
variable {X:Cx} {B:Bas} {a b c e o k:Expr} {m mo mk mv:M T} {pos p:Pos}
theorem vf (ho:PE X o (tOf X.K B mo)) (hk:PE X k (tOf X.K B mk)) (hs:Ft k):PE X (.Subscript o k pos) (tOf X.K B (Sh mo mk)):=(Xz Jl ho hk hs).imp fun σ H Q z9=>by
 obtain ⟨st,ps,S,as,R,t,aa,e,q⟩:=z9;obtain ⟨n,s1,i,xs,j,e1,e2,e3,e4,e5⟩:=O9 e;refine ⟨st,ps,S,as,R,_,s1,e1,fun v H1 S1 ae R1=>⟨s1,_,S1,ae,R1,_,aa,e2,fun u H2 S2 aA R2=>?_⟩⟩;have t2:=R2.top2;cases R2.top;cases t2 with
 | @obj _ a ha =>
  obtain ⟨a',h1,h2,vs,h3,h4⟩:=R2.sto.at' n _ e3;rw [ha] at h1; cases h1;obtain ⟨z,hz,rz⟩:=h4.get e5;refine ⟨a,vs,i,z,rfl,rfl,SqL.of h3,?_,q z H2 S2 aA (R2.drop.drop.push rz)⟩;rw [Du,<- h4.length] at e4;unfold atI; rw [e4]; exact hz
theorem S8 (hg:Gl X "len") (hm:X.mg "len" = none) (ho:PE X o (tOf X.K B mo)) (he:starEach [o] X.env=(false,eval o X.env)::starEach [] X.env:=by rfl) (aL:(backTo pos (starEach [] X.env)).any (·.1)=false:=by rfl) :
  PE X (.Call (.Name "len" p) [o] [] pos) (tOf X.K B (K6 mo)):=(gk qu hg hm PySem.boot_len (jc ho lg he) (by decide) (by decide) he aL).imp fun σ H Q z9=>by
 obtain ⟨st,ps,S,as,R,t,aa,e,q⟩:=z9;obtain ⟨n,xs,e1,e2,rfl⟩:=K5 e;refine ⟨st,ps,S,as,R,_,aa,e1,fun v H1 S1 ae R1=>?_⟩;have t1:=R1.top;cases t1 with
 | @obj _ a ha =>
  obtain ⟨a',h1,h2,vs,h3,h4⟩:=R1.sto.at' n _ e2;rw [ha] at h1; cases h1;exact ⟨a,vs,rfl,.inl (SqL.of h3),by rw [h4.length]; exact q _ H1 S1 ae (R1.drop.push (.int _))⟩
theorem Cj {es:List Expr} {ms:M (List T)} (h:PA X es (aOf X.K B ms)) (hm:∀ st ts aa,ms st=some (ts,aa)->ts.length<=1000):PE X (.List es pos) (tOf X.K B (Kl ms)) :=
 (Tj h).imp fun σ H Q z9=>by
  obtain ⟨st,ps,S,as,R,t,aa,e,q⟩:=z9;obtain ⟨ts,s1,e1,rfl,rfl⟩:=Kc e;refine ⟨st,ps,S,as,R,ts,s1,e1,fun vs H1 S1 ae R1 rs=>⟨?_,fun p hp=>?_⟩⟩
  ·rw [rs.length]; exact Nat.le_of_lt (v8 (hm _ _ _ e1))
  ·exact q _ _ _ _ (R1.newObj hp ⟨vs,bw,rs.mono (Same.refl _) ⟨[p],rfl⟩⟩)
theorem La {st:Stmt} (h:PS X st (Xl (tOf X.K B mv) (a5s (tOf X.K B mo) (tOf X.K B mk) a05))):PS X st (sOf X.K B (Py mo mk mv)):=h.imp fun D σ H z9=>by
 obtain ⟨st,ps,S,as,R,fl,aa,e,q⟩:=z9;obtain ⟨t,s1,n,s2,i,s3,xs,j,e1,e2,e3,e4,e5,rfl,rfl⟩:=O6 e;refine ⟨st,ps,S,as,R,t,s1,e1,fun v H1 S1 ae R1=>⟨s1,_,S1,ae,R1,_,s2,e2,fun x H2 S2 aA R2=>⟨s2,_,S2,aA,R2,_,s3,e3,fun y H3 S3 aJ R3=>?_⟩⟩⟩;have t2:=R3.top2;cases R3.top;cases t2 with
 | @obj _ a ha =>
  obtain ⟨a',h1,h2,vs,h3,h4⟩:=R3.sto.at' n _ e4;rw [ha] at h1; cases h1;have tv:Rep X.K S3 aJ v t:=R3.pend _ (List.mem_cons_of_mem _ (List.mem_cons_of_mem _ List.mem_cons_self));rw [Du,<- h4.length] at e5;exact ⟨a,vs,i,j,rfl,rfl,h3,e5,q _ _ S3 aJ (R3.drop.drop.drop.Gk e4 ha ⟨_,bw,jz.set tv j h4⟩)⟩
theorem U3 (i:Nat) {st:Stmt} (h:PS X st (Nz (tBM X.K "list" Cu (Ol i) (Bf (tOf X.K B mv) U7)))):PS X st (sOf X.K B (K4 i mv)):=h.imp fun D σ H z9=>by
 obtain ⟨st,ps,S,as,R,fl,aa,e,q⟩:=z9;obtain ⟨n,ys,t,s1,xs,e0,ey,e1,e2,hl,rfl,rfl⟩:=Jt e;obtain ⟨w,h1,h2,_⟩:=R.slots i _ false e0;have r0:=h2 rfl;cases r0 with
 | @obj _ a ha =>
  obtain ⟨a0,l0,_,vs0,l1,_⟩:=R.sto.at' n _ ey;rw [ha] at l0; cases l0;refine ⟨_,h1,.inl ⟨rfl,_,SqL.of l1⟩,st,(.ref a,.obj n)::ps,S,as,R.push (h2 rfl),t,s1,e1,fun v H1 S1 ae R1=>?_⟩;have t2:=R1.top2;cases t2 with
  | @obj _ a2 ha2 =>
   obtain ⟨a',k1,k2,vs,k3,k4⟩:=R1.sto.at' n _ e2;rw [ha2] at k1; cases k1;exact ⟨a,vs,v,rfl,rfl,k3,by rw [k4.length]; exact Nat.lt_of_lt_of_le hl j7,q _ _ S1 ae (R1.drop.drop.Gk e2 ha2 ⟨_,bw,k4.append (.cons R1.top .nil)⟩)⟩
end
section
variable {X:Cx} {B:Bas} {pins:List (Addr × Obj)} {σ:L2.St} {H S:Hp} {s:Shared} {as:List Addr} {Q:VK}
theorem Ax.keys {K:PySem.W.Frag} {S:Hp} {as:List Addr}:∀ {ag:List (L2.Key × V)} {ts:List (L2.Key × T)},Ax K S as ag ts->ag.map (·.1)=ts.map (·.1)
 | _,_,.nil=>rfl
 | _,_,.cons h q=>by rw [List.map_cons,List.map_cons,Ax.keys q]
end
section
variable {prog:Program} {w:World} {A:Around} {E:Value->Shared->Prop} {s:Shared}
end
section
variable {prog:Program} {w:World} {A:Around} {R:Result->Shared->Prop} {I:Addr} {fp wr:List Addr} {G:Array GenState->Array GenState->Prop} {n:Nat} {P:Nat->Value->Prop} {St:Nat->Shared->Prop} {κ:Type} [DecidableEq κ] {knd:PySem.KeyKind prog w κ}
end
section
variable {prog:Program} {w:World} {A:Around} {E:Value->Shared->Prop} {s:Shared} {κ:Type} [DecidableEq κ] {knd:PySem.KeyKind prog w κ}
end
section
variable {X:Cx} {pins:List (Addr × Obj)} {σ:L2.St} {H S:Hp} {s:Shared} {as:List Addr}
inductive Dl (h:Heap) (prog:Program) (w:World):List Value->List L2.Key->List Value->Prop where
 | nil:Dl h prog w [] [] []
 | cons {t:Addr} {kx wv:Value} {o:Obj} {n:Nat} {q:L2.Key} {us:List Value} {qs:List L2.Key} {ws:List Value}:h.get? t=some o->o.cls=.type "tuple" -> o.data=.seq #[kx,wv] n->(qt prog w).is q kx=true ->
   Dl h prog w us qs ws->Dl h prog w (.ref t::us) (q::qs) (wv::ws)
theorem Dl.len {h:Heap} {prog:Program} {w:World}:∀ {us:List Value} {qs:List L2.Key} {ws:List Value},Dl h prog w us qs ws->us.length=qs.length/\us.length=ws.length:=by
 intro us qs ws h
 induction h with
 | nil=>exact ⟨rfl,rfl⟩
 | cons _ _ _ _ _ ih=>exact ⟨congrArg (· + 1) ih.1,congrArg (· + 1) ih.2⟩
end
section
variable {X:Cx} {B:Bas} {a:Expr} {m:M T} {pos p:Pos}
end
theorem jw.zero {P:Program} {w:World} {K:PySem.W.Frag} {mg:Str->Option Value} {base:Heap} {x qual:Str} {st:Stmt} {f:Addr} {fd:FuncData} {ps:List Str} {k:Nat} (F:Fun K x qual st f fd) (h:mg x=some (.ref f)) (b:Binds K fd ps []):jw P w K mg base x k ps (fun _ _=>none):=by
 have no:∀ vs H Q E,¬ spF K ps.length (fun _ _=>none) vs H Q E:=fun vs H Q E z=>by
  obtain ⟨S,as,sto,ts,t,aD,_,_,_,_,e,_⟩:=z;cases e
 exact ⟨f,fd,⟨fun vs H Q E z=>absurd z (no vs H Q E),fun A outer s H args us vs Q E _ _ _ _ z=>absurd z (no vs H Q E)⟩,b,F.kp,h⟩
end C
end
section
namespace C
open PySem
noncomputable def wu:Nat->M Bool->S->S
 | 0,_,_=>fun _=>none
 | n+1,c,b=>fun s=>match c s with
  | some (false,s1)=>some (.next,s1)
  | some (true,s1)=>match b s1 with
   | some (.next,s2)=>wu n c b s2
   | some (.cont,s2)=>wu n c b s2
   | some (.brk,s2)=>some (.next,s2)
   | some (.ret v,s2)=>some (.ret v,s2)
   | none=>none
  | none=>none
noncomputable def a3p (i j:Nat):S:=fun s=>match s.env[i]? with
 | some (some (.lst xs,true))=>match xs[xs.length - 1]? with
  | some t=>some (.next,jj j t false (jj i (.lst xs.dropLast) true s))
  | none=>none
 | _=>none
end C
end
section
namespace C
open PySem PySem.Spec PyProof.Rows L2
theorem Ot {n:Nat} {c:M Bool} {b:S} {s s':Sta} {fl:Flow} (h:wu (n+1) c b s=some (fl,s')):(∃ s1,c s=some (false,s1)/\fl=.next/\s'=s1) \/
  ∃ s1 fb s2,c s=some (true,s1)/\b s1=some (fb,s2)/\(match fb with | .next=>wu n c b s2=some (fl,s') | .cont=>wu n c b s2=some (fl,s') | .brk=>fl=.next/\s'=s2 | .ret v=>fl=.ret v/\s'=s2):=by
 rw [wu] at h;dsimp only at h;split at h
 ·rename_i s1 e1; cases h; exact .inl ⟨_,e1,rfl,rfl⟩
 ·rename_i s1 e1;split at h
  ·rename_i s2 e2; exact .inr ⟨s1,.next,s2,e1,e2,h⟩
  ·rename_i s2 e2; exact .inr ⟨s1,.cont,s2,e1,e2,h⟩
  ·rename_i s2 e2; cases h; exact .inr ⟨s1,.brk,_,e1,e2,rfl,rfl⟩
  ·rename_i v s2 e2; cases h; exact .inr ⟨s1,.ret v,_,e1,e2,rfl,rfl⟩
  ·cases h
 ·cases h
theorem Vs {i j:Nat} {s s':Sta} {fl:Flow} (h:a3p i j s=some (fl,s')):∃ xs t,s.env[i]? = some (some (.lst xs,true))/\xs[xs.length - 1]? = some t/\fl=.next/\s'=jj j t false (jj i (.lst xs.dropLast) true s):=by
 unfold a3p at h;split at h
 ·rename_i xs e;split at h
  ·rename_i t e2; cases h; exact ⟨xs,t,e,e2,rfl,rfl⟩
  ·cases h
 ·cases h
theorem jz.dropLast {K:PySem.W.Frag} {S:Hp} {as:List Addr}:∀ {vs:List V} {ts:List T},jz K S as vs ts->jz K S as vs.dropLast ts.dropLast
 | _,_,.nil=>.nil
 | _,_,.cons h .nil=>.nil
 | _,_,.cons h (.cons h2 r)=>.cons h (jz.dropLast (.cons h2 r))
section
variable {X:Cx} {B:Bas} {c e:Expr} {m:M T} {pos p:Pos} {u:S} {body:List Stmt}
theorem Mi (n:Nat) {mc:M Bool} (hp:PassesOwn (model X.prog X.w) X.A X.env X.xe) (hc:PT X c (cOf X.K B mc)) (hb:PSs X body (sOf X.K B u)):PS X (.While c body [] pos) (sOf X.K B (wu n mc u)):=(Ml hp hc hb).imp fun D σ H z9=>by
 obtain ⟨st,ps,S,as,R,fl,aa,e,q⟩:=z9;refine ⟨fun k σ H=>∃ aF Si aE,Rel X.K B aF σ H ps Si aE/\wu k mc u aF=some (fl,aa),⟨n,st,S,as,R,e⟩,?_⟩;rintro k bt H2 ⟨aF,Si,aE,Ri,ei⟩;cases k with
 | zero=>rw [wu] at ei; cases ei
 | succ k =>
  rcases Ot ei with ⟨s1,e1,rfl,rfl⟩ | ⟨s1,fb,s2,e1,e2,er⟩
  ·exact ⟨aF,ps,Si,aE,Ri,false,_,e1,fun H3 S3 aJ R3=>Qg (q bt H3 S3 aJ R3)⟩
  ·refine ⟨aF,ps,Si,aE,Ri,true,s1,e1,fun H3 S3 aJ R3=>S7 ⟨fun af H'=>∃ aF Si aE,Rel X.K B aF af H' ps Si aE/\wu k mc u aF=some (fl,aa),fun af H' h=>⟨k,Nat.lt_succ_self _,h⟩,s1,ps,S3,aJ,R3,fb,s2,e2,?_⟩⟩;cases fb with
   | next=>exact fun af H' S' ai R'=>⟨s2,S',ai,R',er⟩
   | cont=>exact fun af H' S' ai R'=>⟨s2,S',ai,R',er⟩
   | brk =>
    obtain ⟨rfl,rfl⟩:=er;exact fun af H' S' ai R'=>q af H' S' ai R'
   | ret v =>
    obtain ⟨rfl,rfl⟩:=er;exact fun v af H' S' ai R'=>q v af H' S' ai R'
theorem a1d (i j:Nat) {st:Stmt} (h:PS X st (Xl (a4n X.K "list" a4f (Ol i)) (Er j))):PS X st (sOf X.K B (a3p i j)):=h.imp fun D σ H z9=>by
 obtain ⟨st,ps,S,as,R,fl,aa,e,q⟩:=z9;obtain ⟨xs,t,e2,e3,rfl,rfl⟩:=Vs e;obtain ⟨w,h1,_,h3⟩:=R.slots i _ true e2;obtain ⟨p0,rfl,ow⟩:=h3 rfl;obtain ⟨vs,hH,h4⟩:=ow.own;obtain ⟨y,hy,ry⟩:=h4.get e3;have cT:vs[vs.length - 1]? = some y:=by rw [h4.length]; exact hy
 have R2:=R.turn (ob:=.lst vs.dropLast) (t':=.lst xs.dropLast) e2 h1 ⟨_,bw,h4.dropLast⟩;exact ⟨_,h1,.inl ⟨rfl,_,SqL.of hH⟩,p0,vs,y,rfl,rfl,hH,cT,q _ _ S as (R2.put (i:=j) ry)⟩
end
section
variable {X:Cx} {B:Bas} {e st:Expr} {te:TE} {m:M T} {pos p2 p3 p4:Pos} {j:Nat}
end
end C
end
section
namespace C
open PySem
def Zq (xs ys:List T):List T:=(xs.zip ys).map fun p=>.tup [p.1,p.2]
noncomputable def a2h (a b:M T):M (List T):=fun s=>match a s with
 | some (t,s1)=>match b s1 with
  | some (u,s2)=>match Ci t,Ci u with
   | some xs,some ys=>if xs.length<lim/\ys.length<lim then some (Zq xs ys,s2) else none
   | _,_=>none
  | none=>none
 | none=>none
noncomputable def sIx (n d:Nat):Option Int->Nat
 | none=>d
 | some v=>if v<0 then (v+(n:Int)).toNat else min v.toNat n
noncomputable def X7 (xs:List T) (lo hi:Option Int):List T:=(xs.drop (sIx xs.length 0 lo)).take (sIx xs.length xs.length hi - sIx xs.length 0 lo)
def a3a (lo hi:Option Int):T->Option T
 | .lst xs=>some (.lst (X7 xs lo hi))
 | _=>none
def a2u:M (Option Int):=fun s=>some (none,s)
noncomputable def a2c (e:M T):M (Option Int):=fun s=>match e s with
 | some (.int i,s1)=>some (some i,s1)
 | _=>none
noncomputable def Rm (m:M T) (lo hi:M (Option Int)):M T:=fun s=>match m s with
 | some (t,s1)=>match lo s1 with
  | some (l,s2)=>match hi s2 with
   | some (h,s3)=>match a3a l h t with
    | some u=>some (u,s3)
    | none=>none
   | none=>none
  | none=>none
 | none=>none
noncomputable def Q9 (i:Nat) (k:M T):M T:=fun s=>if vo i s then (match k s with
 | some (.int j,s1)=>match s1.env[i]? with
  | some (some (.lst xs,_))=>match (ixI xs.length j).bind (xs[·]?) with
   | some t=>some (t,s1)
   | none=>none
  | _=>none
 | _=>none) else none
end C
end
section
namespace C
open PySem PySem.Sem
def Ad:Bool->Heap->Addr->Addr->Nat->Prop
 | true,h,it,a,i=>h.IsListIter it a i
 | false,h,it,a,i=>h.IsTupleIter it a i
def uw:Bool->Heap->Addr->Array Value->Prop
 | true,h,a,xs=>h.IsList a xs
 | false,h,a,xs=>h.IsTuple a xs
theorem Ad.to {k:Bool} {h h':Heap} {it a:Addr} {i:Nat} (x:Ad k h it a i) (e:∀ o,h.get? it=some o->h'.get? it=some o):Ad k h' it a i:=by
 cases k <;> obtain ⟨o,ho,r⟩:=x <;> exact ⟨o,e o ho,r⟩
theorem Ad.obj {k:Bool} {h:Heap} {it a:Addr} {i:Nat} (x:Ad k h it a i):∃ o,h.get? it=some o/\∀ v,o.data≠.cell v:=by
 cases k <;> obtain ⟨o,ho,_,d⟩:=x <;> exact ⟨o,ho,fun v z=>by rw [d] at z; cases z⟩
theorem uw.to {k:Bool} {h h':Heap} {a:Addr} {xs:Array Value} (x:uw k h a xs) (e:∀ o,h.get? a=some o->h'.get? a=some o):uw k h' a xs:=by
 cases k <;> obtain ⟨o,ho,r⟩:=x <;> exact ⟨o,e o ho,r⟩
section
variable {prog:Program} {w:World} {A:Around} {E:Value->Shared->Prop} {s:Shared}
theorem nextT {it t:Addr} {i:Nat} {xs:Array Value} {x:Value} {Q:Value->Shared->Prop} (h1:s.heap.IsTupleIter it t i) (h2:s.heap.IsTuple t xs) (h3:xs[i]? = some x)
  (q:∀ h',h'.IsTupleIter it t (i+1)->Heap.SameBut it s.heap h'->Q x { s with heap:=h' }):wpAny (model prog w) A (Builtin.SmallTypes.nextOf (.ref it)) Q E s:=by
 have ty:s.TypeIs (.ref it) "tuple_iterator" := h1.typeIs;obtain ⟨oi,gi,ci,di⟩:=h1;obtain ⟨ot,gt,_,m,dt⟩:=h2
 have upd:∀ (h':Heap),h'=s.heap.update it (Obj.mapFields (·.setIfInBounds 1 (rawInt ((i:Int)+1))))->h'.IsTupleIter it t (i+1):=fun h' e=>by
  subst e;refine ⟨_,Heap.get?_update_self _ gi (Obj.isFreed_of_fields (Obj.data_mapFields di _)),(Obj.cls_mapFields ..).trans ci,?_⟩;rw [Obj.data_mapFields di]; rfl
 unfold Builtin.SmallTypes.nextOf;refine wpAny_bind (wpAny_callSpecial?_slot (name:=Str.ofString "__next__") ty F.slot_tuple_iterator_next (wpAny_call_entry F.slot_tuple_iterator_next ty F.entry_tuple_iterator_next ?_ (F.args_tuple_iterator_next_1 _)));refine (show wpAny _ _ (field (.ref it) 0 >>= _) _ _ s from wpAny_bind (wpAny_field gi di (x:=.ref t) rfl ?_));dsimp only;rw [if_neg (by intro z; cases z)];refine (show wpAny _ _ (field (.ref it) 1 >>= _) _ _ s from wpAny_bind (wpAny_field gi di (x:=.int i 0) rfl ?_));refine (show wpAny _ _ (seqItems? (.ref t) >>= _) _ _ s from wpAny_bind (wpAny_seqItems gt dt ?_));dsimp only;rw [Int.toNat_natCast,h3];exact wpAny_bind (wpAny_setField gi di (by simp) (wpAny_pure ⟨x,rfl,wpAny_pure (q _ (upd _ rfl) (Heap.SameBut.update ..))⟩))
theorem Sg {it t:Addr} {i:Nat} {xs:Array Value} {Q:Value->Shared->Prop} (hh:A.handled=none) (h1:s.heap.IsTupleIter it t i) (h2:s.heap.IsTuple t xs) (h3:xs[i]? = none)
  (q:∀ h' e,Heap.ExtBut it s.heap h'->(∃ o,h'.get? e=some o/\o.cls=.type "StopIteration")->E (.ref e) { s with heap:=h' }):wpAny (model prog w) A (Builtin.SmallTypes.nextOf (.ref it)) Q E s:=by
 have ty:s.TypeIs (.ref it) "tuple_iterator" := h1.typeIs;obtain ⟨oi,gi,ci,di⟩:=h1;obtain ⟨ot,gt,_,m,dt⟩:=h2;unfold Builtin.SmallTypes.nextOf;refine wpAny_bind (wpAny_callSpecial?_slot (name:=Str.ofString "__next__") ty F.slot_tuple_iterator_next (wpAny_call_entry F.slot_tuple_iterator_next ty F.entry_tuple_iterator_next ?_ (F.args_tuple_iterator_next_1 _)));refine (show wpAny _ _ (field (.ref it) 0 >>= _) _ _ s from wpAny_bind (wpAny_field gi di (x:=.ref t) rfl ?_));dsimp only;rw [if_neg (by intro z; cases z)];refine (show wpAny _ _ (field (.ref it) 1 >>= _) _ _ s from wpAny_bind (wpAny_field gi di (x:=.int i 0) rfl ?_));refine (show wpAny _ _ (seqItems? (.ref t) >>= _) _ _ s from wpAny_bind (wpAny_seqItems gt dt ?_));dsimp only;rw [Int.toNat_natCast,h3];refine wpAny_bind (wpAny_rule (wpAny_bind (wpAny_setField gi di (by simp) ?_)));refine (show wpAny _ _ (newExc (.type "StopIteration") [] >>= _) _ _ _ from wpAny_bind ?_);simp only [newExc,newTuple];refine wpAny_bind (wpAny_newObj_type (wpAny_bind (m:=firstArgMember _ _) (wpAny_of_eq (a:=Value.none) (by first | rfl | (simp only [firstArgMember]; rfl)) (wpAny_newObj_type ?_ (by size_fits)))) (by size_fits));simp only [raiseNew];refine wpAny_bind (wpAny_handled ?_);rw [show A.in1.handled=none from hh];exact wpAny_bind (wpAny_pure (wpAny_throw (q _ _ (((Heap.SameBut.update ..).extBut.push _).push _) ⟨_,Heap.get?_push_size _ rfl,rfl⟩)))
theorem Fe {k:Bool} {it a:Addr} {i:Nat} {xs:Array Value} {x:Value} {Q:Value->Shared->Prop} (h1:Ad k s.heap it a i) (h2:uw k s.heap a xs) (h3:xs[i]? = some x)
  (q:∀ h',Ad k h' it a (i+1)->Heap.SameBut it s.heap h'->Q x { s with heap:=h' }):wpAny (model prog w) A (Builtin.SmallTypes.nextOf (.ref it)) Q E s:=by
 cases k with
 | true=>exact wpAny_nextOf_list_item h1 h2 h3 q
 | false=>exact nextT h1 h2 h3 q
theorem Ao {k:Bool} {it a:Addr} {i:Nat} {xs:Array Value} {Q:Value->Shared->Prop} (hh:A.handled=none) (h1:Ad k s.heap it a i) (h2:uw k s.heap a xs) (h3:xs[i]? = none)
  (q:∀ h' e,Heap.ExtBut it s.heap h'->(∃ o,h'.get? e=some o/\o.cls=.type "StopIteration")->E (.ref e) { s with heap:=h' }):wpAny (model prog w) A (Builtin.SmallTypes.nextOf (.ref it)) Q E s:=by
 cases k with
 | true=>exact wpAny_nextOf_list_end hh h1 h2 h3 q
 | false=>exact Sg hh h1 h2 h3 q
end
structure Gq (h:Heap) (z ti ay i1 i2:Addr) (f:Value):Prop where
 zip:IsZip h z ti ay f
 its:IsPair h ti (.ref i1) (.ref i2)
 kept:∃ a b,IsPair h ay a b
structure Far (z ti ay i1 i2:Addr):Prop where
 nd:[z,ti,ay,i1,i2].Nodup
theorem Far.all {z ti ay i1 i2:Addr} (f:Far z ti ay i1 i2):ti≠z/\ay≠z/\i1≠z/\i2≠z/\ti≠ay/\ti≠i1/\ti≠i2/\ay≠i1/\ay≠i2/\i1≠i2:=by
 have:=f.nd;simp only [List.nodup_cons,List.mem_cons,List.not_mem_nil,or_false,not_or] at this;obtain ⟨⟨a,b,c,d⟩,⟨e,f,g⟩,⟨h,i⟩,j,_⟩:=this;exact ⟨Ne.symm a,Ne.symm b,Ne.symm c,Ne.symm d,e,f,g,h,i,j⟩
def Qp (z ay i1 i2:Addr) (h h':Heap):Prop:=∀ c o,c≠z->c≠ay->c≠i1->c≠i2->h.get? c=some o->h'.get? c=some o
section
variable {prog:Program} {w:World} {A:Around} {E:Value->Shared->Prop} {s:Shared}
theorem V0 {k1 k2:Bool} {z ti ay i1 i2 a1 a2:Addr} {j1 j2:Nat} {xs ys:Array Value} {x y:Value} {Q:Value->Shared->Prop} (D:Far z ti ay i1 i2) (Z:Gq s.heap z ti ay i1 i2 .none)
  (h1:Ad k1 s.heap i1 a1 j1) (h2:Ad k2 s.heap i2 a2 j2) (r1:uw k1 s.heap a1 xs) (r2:uw k2 s.heap a2 ys) (n2:a2≠z/\a2≠ay/\a2≠i1/\a2≠i2) (n1:a1≠z) (hx:xs[j1]? = some x) (hy:ys[j2]? = some y)
  (q:∀ h',Gq h' z ti ay i1 i2 (rawInt s.heap.objs.size)->Ad k1 h' i1 a1 (j1+1)->Ad k2 h' i2 a2 (j2+1)->IsPair h' s.heap.objs.size x y->Qp z ay i1 i2 s.heap h'->Q (.ref s.heap.objs.size) { s with heap:=h' }) :
  wpAny (model prog w) A (Builtin.«zip.__next__» ⟨[.ref z],[]⟩) (fun fin s'=>∃ v,fin=.done (.ret v)/\Q v s') E s:=by
 obtain ⟨hz,hI,a,b,hO⟩:=Z;obtain ⟨d1,d2,d3,d4,d5,d6,d7,d8,d9,d10⟩:=D.all;refine (show wpAny _ _ (field (.ref z) 2 >>= _) _ _ _ from wpAny_bind (wpAny_field hz rfl (x:=.bool false) rfl ?_));refine (show wpAny _ _ (field (.ref z) 3 >>= _) _ _ _ from wpAny_bind (wpAny_field hz rfl (x:=.ref ti) rfl (wpAny_bind (wpAny_seqItems hI rfl ?_))));refine (show wpAny _ _ (Builtin.SmallTypes.ownedTupleIsFree (.ref z) >>= _) _ _ _ from wpAny_bind ?_);unfold Builtin.SmallTypes.ownedTupleIsFree;refine wpAny_bind (wpAny_field hz rfl (x:=.none) rfl (wpAny_pure ?_));dsimp only;rw [if_pos rfl];refine wpAny_bind (wpAny_rule (wpAny_bind (wpAny_field hz rfl (x:=.ref ay) rfl (wpAny_bind (wpAny_setField_rec hz (by simp) fun g1 z1 s1=>wpAny_bind ?_)))));have z1:IsZip g1 z ti ay .ellipsis:=z1;simp only [List.zipIdx_cons,List.zipIdx_nil,List.forIn_cons,List.forIn_nil];refine wpAny_bind (wpAny_bind (wpAny_onRaise (show wpAny _ _ (Builtin.SmallTypes.nextOf (.ref i1) >>= _) _ _ _ from wpAny_bind (Fe (h1.to fun o e=>s1.extBut _ _ d3 e) (r1.to fun o e=>s1.extBut _ _ n1 e) hx fun g2 t2 s2=>wpAny_pure ?_))));have o2:IsPair g2 ay a b:=s2.extBut _ _ d8 (s1.extBut _ _ d2 hO);refine wpAny_bind (wpAny_seqItems o2 rfl (wpAny_bind (wpAny_updateSeq_pair o2 fun g3 o3 s3=>wpAny_bind (wpAny_letGo (wpAny_pure ?_)))));have o3:IsPair g3 ay x b:=o3;have e3:∀ c o,c≠z->c≠i1->c≠ay->s.heap.get? c=some o->g3.get? c=some o:=fun c o c1 c2 c3 e=>s3.extBut _ _ c3 (s2.extBut _ _ c2 (s1.extBut _ _ c1 e));refine wpAny_bind (wpAny_bind (wpAny_onRaise (show wpAny _ _ (Builtin.SmallTypes.nextOf (.ref i2) >>= _) _ _ _ from wpAny_bind (Fe (h2.to fun o e=>e3 _ o d4 (Ne.symm d10) (Ne.symm d9) e) (r2.to fun o e=>e3 _ o n2.1 n2.2.2.1 n2.2.1 e) hy fun g4 t4 s4=>wpAny_pure ?_))));have o4:IsPair g4 ay x b:=s4.extBut _ _ d9 o3;refine wpAny_bind (wpAny_seqItems o4 rfl (wpAny_bind (wpAny_updateSeq_pair o4 fun g5 o5 s5=>wpAny_bind (wpAny_letGo (wpAny_pure (wpAny_pure ?_))))));have o5:IsPair g5 ay x y:=o5;have sz:g5.objs.size=s.heap.objs.size:=by rw [s5.1,s4.1,s3.1,s2.1,s1.1]
 have z5:IsZip g5 z ti ay .ellipsis:=s5.extBut _ _ (Ne.symm d2) (s4.extBut _ _ (Ne.symm d4) (s3.extBut _ _ (Ne.symm d2) (s2.extBut _ _ (Ne.symm d3) z1)));have t5:Ad k1 g5 i1 a1 (j1+1):=t2.to fun o e=>s5.extBut _ _ (Ne.symm d8) (s4.extBut _ _ d10 (s3.extBut _ _ (Ne.symm d8) e));have u5:Ad k2 g5 i2 a2 (j2+1):=t4.to fun o e=>s5.extBut _ _ (Ne.symm d9) e;refine wpAny_bind (wpAny_seqItems o5 rfl (wpAny_bind (wpAny_newTuple ?_)));refine (show wpAny _ _ (Builtin.SmallTypes.ownedTupleHandOut (.ref z) (.ref g5.objs.size) >>= _) _ _ _ from wpAny_bind ?_);unfold Builtin.SmallTypes.ownedTupleHandOut;have z6:IsZip (g5.push { cls:=.type "tuple",data:=.seq #[x,y] }) z ti ay .ellipsis:=Heap.get?_push_of_some _ z5;refine wpAny_bind (wpAny_setField_rec z6 (by simp) fun g7 z7 s7=>?_);have z7:IsZip g7 z ti ay (rawInt g5.objs.size):=z7;refine wpAny_setField_rec z7 (by simp) fun g8 z8 s8=>wpAny_pure ⟨_,rfl,?_⟩;have z8:IsZip g8 z ti ay (rawInt g5.objs.size):=z8;have e8:∀ c o,c≠z->g5.get? c=some o->g8.get? c=some o:=fun c o c1 e=>s8.extBut _ _ c1 (s7.extBut _ _ c1 (Heap.get?_push_of_some _ e));have p8:IsPair g8 g5.objs.size x y:=s8.extBut _ _ (Nat.ne_of_gt (Heap.lt_size z5)) (s7.extBut _ _ (Nat.ne_of_gt (Heap.lt_size z5)) (Heap.get?_push_size _ rfl));have all:∀ c o,c≠z->c≠ay->c≠i1->c≠i2->s.heap.get? c=some o->g8.get? c=some o:=fun c o c1 c2 c3 c4 e=>e8 c o c1 (s5.extBut _ _ c2 (s4.extBut _ _ c4 (e3 c o c1 c3 c2 e)));rw [sz] at z8 p8;show Q (.ref g5.objs.size) _;rw [sz];exact q g8 ⟨z8,all _ _ d1 d5 d6 d7 hI,x,y,e8 _ _ d2 o5⟩ (t5.to fun o e=>e8 _ o d3 e) (u5.to fun o e=>e8 _ o d4 e) p8 all
theorem Vh {k1 k2:Bool} {z ti ay i1 i2 a1 a2:Addr} {j1 j2:Nat} {xs ys:Array Value} {Q:PySem.Fin->Shared->Prop} (hh:A.handled=none) (D:Far z ti ay i1 i2) (Z:Gq s.heap z ti ay i1 i2 .none)
  (h1:Ad k1 s.heap i1 a1 j1) (h2:Ad k2 s.heap i2 a2 j2) (r1:uw k1 s.heap a1 xs) (r2:uw k2 s.heap a2 ys) (n2:a2≠z/\a2≠ay/\a2≠i1/\a2≠i2) (n1:a1≠z) (cC:xs[j1]? = none\/ys[j2]? = none)
  (q:∀ h' e,Qp z ay i1 i2 s.heap h'->(∃ o,h'.get? e=some o/\o.cls=.type "StopIteration")->E (.ref e) { s with heap:=h' }) :
  wpAny (model prog w) A (Builtin.«zip.__next__» ⟨[.ref z],[]⟩) Q E s:=by
 obtain ⟨hz,hI,a,b,hO⟩:=Z;obtain ⟨d1,d2,d3,d4,d5,d6,d7,d8,d9,d10⟩:=D.all;refine (show wpAny _ _ (field (.ref z) 2 >>= _) _ _ _ from wpAny_bind (wpAny_field hz rfl (x:=.bool false) rfl ?_));refine (show wpAny _ _ (field (.ref z) 3 >>= _) _ _ _ from wpAny_bind (wpAny_field hz rfl (x:=.ref ti) rfl (wpAny_bind (wpAny_seqItems hI rfl ?_))));refine (show wpAny _ _ (Builtin.SmallTypes.ownedTupleIsFree (.ref z) >>= _) _ _ _ from wpAny_bind ?_);unfold Builtin.SmallTypes.ownedTupleIsFree;refine wpAny_bind (wpAny_field hz rfl (x:=.none) rfl (wpAny_pure ?_));dsimp only;rw [if_pos rfl];refine wpAny_bind (wpAny_rule (wpAny_bind (wpAny_field hz rfl (x:=.ref ay) rfl (wpAny_bind (wpAny_setField_rec hz (by simp) fun g1 z1 s1=>wpAny_bind ?_)))));have z1:IsZip g1 z ti ay .ellipsis:=z1;simp only [List.zipIdx_cons,List.zipIdx_nil,List.forIn_cons,List.forIn_nil]
 have fin:∀ (g:Heap) (e:Addr) (zg:IsZip g z ti ay .ellipsis) (he:∃ o,g.get? e=some o/\o.cls=.type "StopIteration") (kg:Qp z ay i1 i2 s.heap g),wpAny (model prog w) A (setField (.ref z) 0 .none) (fun _ s'=>E (.ref e) s') E { s with heap:=g }:=fun g e zg ⟨o,ho,hc⟩ kg=>by
  have ne:e≠z:=fun x=>by subst x; rw [zg] at ho; cases ho; simp at hc
  exact wpAny_setField_rec zg (by simp) fun g' _ s'=>q g' e (fun c o c1 c2 c3 c4 x=>s'.extBut _ _ c1 (kg c o c1 c2 c3 c4 x)) ⟨o,s'.extBut _ _ ne ho,hc⟩
 cases hx:xs[j1]? with
 | none =>
  refine wpAny_bind (wpAny_bind (wpAny_onRaise (show wpAny _ _ (Builtin.SmallTypes.nextOf (.ref i1) >>= _) _ _ _ from wpAny_bind (Ao hh (h1.to fun o e=>s1.extBut _ _ d3 e) (r1.to fun o e=>s1.extBut _ _ n1 e) hx fun g2 e s2 he=>?_))));exact fin g2 e (s2 _ _ (Ne.symm d3) z1) he fun c o c1 _ c3 _ x=>s2 _ _ c3 (s1.extBut _ _ c1 x)
 | some x =>
  have hy:ys[j2]? = none:=cC.resolve_left fun h=>by rw [hx] at h; cases h
  refine wpAny_bind (wpAny_bind (wpAny_onRaise (show wpAny _ _ (Builtin.SmallTypes.nextOf (.ref i1) >>= _) _ _ _ from wpAny_bind (Fe (h1.to fun o e=>s1.extBut _ _ d3 e) (r1.to fun o e=>s1.extBut _ _ n1 e) hx fun g2 t2 s2=>wpAny_pure ?_))));have o2:IsPair g2 ay a b:=s2.extBut _ _ d8 (s1.extBut _ _ d2 hO);refine wpAny_bind (wpAny_seqItems o2 rfl (wpAny_bind (wpAny_updateSeq_pair o2 fun g3 o3 s3=>wpAny_bind (wpAny_letGo (wpAny_pure ?_)))));have e3:∀ c o,c≠z->c≠i1->c≠ay->s.heap.get? c=some o->g3.get? c=some o:=fun c o c1 c2 c3 e=>s3.extBut _ _ c3 (s2.extBut _ _ c2 (s1.extBut _ _ c1 e));refine wpAny_bind (wpAny_bind (wpAny_onRaise (show wpAny _ _ (Builtin.SmallTypes.nextOf (.ref i2) >>= _) _ _ _ from wpAny_bind (Ao hh (h2.to fun o e=>e3 _ o d4 (Ne.symm d10) (Ne.symm d9) e) (r2.to fun o e=>e3 _ o n2.1 n2.2.2.1 n2.2.1 e) hy fun g4 e s4 he=>?_))));exact fin g4 e (s4 _ _ (Ne.symm d4) (s3.extBut _ _ (Ne.symm d2) (s2.extBut _ _ (Ne.symm d3) z1))) he fun c o c1 c2 c3 c4 x=>s4 _ _ c4 (e3 c o c1 c3 c2 x)
theorem Vw {k1 k2:Bool} {z ti ay i1 i2 a1 a2:Addr} {j1 j2:Nat} {xs ys:Array Value} {x y:Value} {Q:Option Value->Shared->Prop} (D:Far z ti ay i1 i2) (Z:Gq s.heap z ti ay i1 i2 .none)
  (h1:Ad k1 s.heap i1 a1 j1) (h2:Ad k2 s.heap i2 a2 j2) (r1:uw k1 s.heap a1 xs) (r2:uw k2 s.heap a2 ys) (n2:a2≠z/\a2≠ay/\a2≠i1/\a2≠i2) (n1:a1≠z) (hx:xs[j1]? = some x) (hy:ys[j2]? = some y)
  (q:∀ h',Gq h' z ti ay i1 i2 (rawInt s.heap.objs.size)->Ad k1 h' i1 a1 (j1+1)->Ad k2 h' i2 a2 (j2+1)->IsPair h' s.heap.objs.size x y->Qp z ay i1 i2 s.heap h'->Q (some (.ref s.heap.objs.size)) { s with heap:=h' }) :
  wpAny (model prog w) A (pyNext (.ref z)) Q E s:=by
 have ty:s.TypeIs (.ref z) "zip" := ⟨_,Z.zip,rfl⟩;unfold pyNext
 exact wpAny_bind (wpAny_attempt (wpAny_callSpecial?_slot (name:=Str.ofString "__next__") ty F.slot_zip_next (wpAny_call_entry F.slot_zip_next ty F.entry_zip_next
  (V0 D Z h1 h2 r1 r2 n2 n1 hx hy fun h' a b c d e=>wpAny_pure (q h' a b c d e)) (F.args_zip_next_1 _))))
theorem Vj {k1 k2:Bool} {z ti ay i1 i2 a1 a2:Addr} {j1 j2:Nat} {xs ys:Array Value} {Q:Option Value->Shared->Prop} (hh:A.handled=none) (D:Far z ti ay i1 i2) (Z:Gq s.heap z ti ay i1 i2 .none)
  (h1:Ad k1 s.heap i1 a1 j1) (h2:Ad k2 s.heap i2 a2 j2) (r1:uw k1 s.heap a1 xs) (r2:uw k2 s.heap a2 ys) (n2:a2≠z/\a2≠ay/\a2≠i1/\a2≠i2) (n1:a1≠z) (cC:xs[j1]? = none\/ys[j2]? = none)
  (q:∀ h',Qp z ay i1 i2 s.heap h'->Q none { s with heap:=h' }):wpAny (model prog w) A (pyNext (.ref z)) Q E s:=by
 have ty:s.TypeIs (.ref z) "zip" := ⟨_,Z.zip,rfl⟩;unfold pyNext
 refine wpAny_bind (wpAny_attempt (wpAny_callSpecial?_slot (name:=Str.ofString "__next__") ty F.slot_zip_next (wpAny_call_entry F.slot_zip_next ty F.entry_zip_next
  (Vh hh D Z h1 h2 r1 r2 n2 n1 cC fun h' e kp he=>?_) (F.args_zip_next_1 _))))
 obtain ⟨o,ho,hc⟩:=he;exact wpAny_bind (wpAny_isInstance (T := "StopIteration") (b:=true) ⟨o,ho,hc⟩ isSubtype_stop (wpAny_pure (q _ kp)))
end
abbrev Qy (k:Bool) (a:Addr):Obj:={ cls:=.type (if k then "list_iterator" else "tuple_iterator"),data:=.fields #[.ref a,.int 0 0] }
abbrev zh1 (h:Heap) (k1:Bool) (a1:Addr):Heap:=h.push (Qy k1 a1)
abbrev zh2 (h:Heap) (k1 k2:Bool) (a1 a2:Addr):Heap:=(zh1 h k1 a1).push (Qy k2 a2)
abbrev zh3 (h:Heap) (k1 k2:Bool) (a1 a2:Addr):Heap:=(zh2 h k1 k2 a1 a2).push { cls:=.type "tuple",data:=.seq #[.ref h.objs.size,.ref (zh1 h k1 a1).objs.size] }
abbrev zh4 (h:Heap) (k1 k2:Bool) (a1 a2:Addr):Heap:=(zh3 h k1 k2 a1 a2).push { cls:=.type "tuple",data:=.seq #[.none,.none] }
abbrev zh5 (h:Heap) (k1 k2:Bool) (a1 a2:Addr):Heap:=(zh4 h k1 k2 a1 a2).push { cls:=.type "zip",data:=.fields #[.none,.bool false,.bool false,.ref (zh2 h k1 k2 a1 a2).objs.size,.ref (zh3 h k1 k2 a1 a2).objs.size] }
set_option maxHeartbeats 4000000 in
theorem Jf (a1 a2:Addr) (xs ys:Array Value):Meets (Builtin.«zip.__new__» ⟨[.type "zip",.ref a1,.ref a2],[]⟩) (fun _ R s=>s.heap.IsTuple a1 xs/\s.heap.IsTuple a2 ys /\
   R (.ok (.ret (.ref (zh4 s.heap false false a1 a2).objs.size))) { s with heap:=zh5 s.heap false false a1 a2 }) :=
 .of_wp fun prog w A R s z9=>by
  obtain ⟨r1,r2,fin⟩:=z9;obtain ⟨hp,g,d,tk,os⟩:=s;have cq:=sub_zip;have q1:Heap.IsTuple (Shared.heap ⟨hp,g,d,tk,os⟩) a1 xs:=r1;have q2:Heap.IsTuple (Shared.heap ⟨hp.push { cls:=.type "tuple_iterator",data:=.fields #[.ref a1,.int 0 0] },g,d,tk,os⟩) a2 ys:=Heap.IsTuple.push r2 _
  wp_walk using wpAny_pyIter_tuple q1,wpAny_pyIter_tuple q2
  exact ⟨_,rfl,fin⟩
set_option maxHeartbeats 4000000 in
theorem Ji (a1 a2:Addr) (xs ys:Array Value):Meets (Builtin.«zip.__new__» ⟨[.type "zip",.ref a1,.ref a2],[]⟩) (fun _ R s=>s.heap.IsTuple a1 xs/\s.heap.IsList a2 ys /\
   R (.ok (.ret (.ref (zh4 s.heap false true a1 a2).objs.size))) { s with heap:=zh5 s.heap false true a1 a2 }) :=
 .of_wp fun prog w A R s z9=>by
  obtain ⟨r1,r2,fin⟩:=z9;obtain ⟨hp,g,d,tk,os⟩:=s;have cq:=sub_zip;have q1:Heap.IsTuple (Shared.heap ⟨hp,g,d,tk,os⟩) a1 xs:=r1;have q2:Heap.IsList (Shared.heap ⟨hp.push { cls:=.type "tuple_iterator",data:=.fields #[.ref a1,.int 0 0] },g,d,tk,os⟩) a2 ys:=Heap.IsList.push r2 _
  wp_walk using wpAny_pyIter_tuple q1,wpAny_pyIter_list q2
  exact ⟨_,rfl,fin⟩
set_option maxHeartbeats 4000000 in
theorem Ka (a1 a2:Addr) (xs ys:Array Value):Meets (Builtin.«zip.__new__» ⟨[.type "zip",.ref a1,.ref a2],[]⟩) (fun _ R s=>s.heap.IsList a1 xs/\s.heap.IsTuple a2 ys /\
   R (.ok (.ret (.ref (zh4 s.heap true false a1 a2).objs.size))) { s with heap:=zh5 s.heap true false a1 a2 }) :=
 .of_wp fun prog w A R s z9=>by
  obtain ⟨r1,r2,fin⟩:=z9;obtain ⟨hp,g,d,tk,os⟩:=s;have cq:=sub_zip;have q1:Heap.IsList (Shared.heap ⟨hp,g,d,tk,os⟩) a1 xs:=r1;have q2:Heap.IsTuple (Shared.heap ⟨hp.push { cls:=.type "list_iterator",data:=.fields #[.ref a1,.int 0 0] },g,d,tk,os⟩) a2 ys:=Heap.IsTuple.push r2 _
  wp_walk using wpAny_pyIter_list q1,wpAny_pyIter_tuple q2
  exact ⟨_,rfl,fin⟩
set_option maxHeartbeats 4000000 in
theorem J7 (a1 a2:Addr) (xs ys:Array Value):Meets (Builtin.«zip.__new__» ⟨[.type "zip",.ref a1,.ref a2],[]⟩) (fun _ R s=>s.heap.IsList a1 xs/\s.heap.IsList a2 ys /\
   R (.ok (.ret (.ref (zh4 s.heap true true a1 a2).objs.size))) { s with heap:=zh5 s.heap true true a1 a2 }) :=
 .of_wp fun prog w A R s z9=>by
  obtain ⟨r1,r2,fin⟩:=z9;obtain ⟨hp,g,d,tk,os⟩:=s;have cq:=sub_zip;have q1:Heap.IsList (Shared.heap ⟨hp,g,d,tk,os⟩) a1 xs:=r1;have q2:Heap.IsList (Shared.heap ⟨hp.push { cls:=.type "list_iterator",data:=.fields #[.ref a1,.int 0 0] },g,d,tk,os⟩) a2 ys:=Heap.IsList.push r2 _
  wp_walk using wpAny_pyIter_list q1,wpAny_pyIter_list q2
  exact ⟨_,rfl,fin⟩
theorem V2 (k1 k2:Bool) (a1 a2:Addr) (xs ys:Array Value):Meets (Builtin.«zip.__new__» ⟨[.type "zip",.ref a1,.ref a2],[]⟩) (fun _ R s=>uw k1 s.heap a1 xs/\uw k2 s.heap a2 ys /\
   R (.ok (.ret (.ref (zh4 s.heap k1 k2 a1 a2).objs.size))) { s with heap:=zh5 s.heap k1 k2 a1 a2 }):=by
 cases k1 <;> cases k2
 ·exact Jf a1 a2 xs ys
 ·exact Ji a1 a2 xs ys
 ·exact Ka a1 a2 xs ys
 ·exact J7 a1 a2 xs ys
theorem M5 {k:Bool} {h:Heap} {p a:Addr} (e:h.get? p=some (Qy k a)):Ad k h p a 0:=by
 cases k <;> exact ⟨_,e,rfl,rfl⟩
section
variable {prog:Program} {w:World} {A:Around} {E:Value->Shared->Prop} {s:Shared}
theorem V4 {k1 k2:Bool} {a1 a2:Addr} {xs ys:Array Value} {Q:Value->Shared->Prop} (r1:uw k1 s.heap a1 xs) (r2:uw k2 s.heap a2 ys)
  (q:∀ h',Gq h' (s.heap.objs.size+4) (s.heap.objs.size+2) (s.heap.objs.size+3) s.heap.objs.size (s.heap.objs.size+1) .none->Ad k1 h' s.heap.objs.size a1 0->Ad k2 h' (s.heap.objs.size+1) a2 0 ->
   (∀ c o,s.heap.get? c=some o->h'.get? c=some o)->Q (.ref (s.heap.objs.size+4)) { s with heap:=h' }):wpAny (model prog w) A (call (.type "zip") [.ref a1,.ref a2]) Q E s:=by
 refine callType_new F.called_zip (by decide) (F.typeCall_zip_2 _ _) (F.newCall_zip_2 _ _) (fun obj=>F.args_object_init_3 obj _ _) F.entry_zip_new (V2 k1 k2 a1 a2 xs ys) ⟨r1,r2,?_⟩;have y1:(zh1 s.heap k1 a1).objs.size=s.heap.objs.size+1:=Heap.size_push ..;have y2:(zh2 s.heap k1 k2 a1 a2).objs.size=s.heap.objs.size+2:=by rw [Heap.size_push,y1]
 have y3:(zh3 s.heap k1 k2 a1 a2).objs.size=s.heap.objs.size+3:=by rw [Heap.size_push,y2]
 have y4:(zh4 s.heap k1 k2 a1 a2).objs.size=s.heap.objs.size+4:=by rw [Heap.size_push,y3]
 have up:∀ {h:Heap} {o:Obj} {c:Addr} {u:Obj},h.get? c=some u->(h.push o).get? c=some u:=fun e=>Heap.get?_push_of_some _ e;have g5:(zh5 s.heap k1 k2 a1 a2).get? (zh4 s.heap k1 k2 a1 a2).objs.size=some _:=Heap.get?_push_size _ rfl;have g4:(zh5 s.heap k1 k2 a1 a2).get? (zh3 s.heap k1 k2 a1 a2).objs.size=some _:=up (Heap.get?_push_size _ rfl);have g3:(zh5 s.heap k1 k2 a1 a2).get? (zh2 s.heap k1 k2 a1 a2).objs.size=some _:=up (up (Heap.get?_push_size _ rfl));have g2:(zh5 s.heap k1 k2 a1 a2).get? (zh1 s.heap k1 a1).objs.size=some (Qy k2 a2):=up (up (up (Heap.get?_push_size _ rfl)));have g1:(zh5 s.heap k1 k2 a1 a2).get? s.heap.objs.size=some (Qy k1 a1):=up (up (up (up (Heap.get?_push_size _ rfl))));show _/\_;rw [y2,y3,y4] at g5;rw [y1,y2] at g3;rw [y3] at g4;rw [y1] at g2;rw [y4];exact ⟨⟨_,g5,rfl⟩,q _ ⟨g5,g3,_,_,g4⟩ (M5 g1) (M5 g2) fun c o x=>up (up (up (up (up x))))⟩
end
end C
end
section
namespace C
open PySem PySem.Spec PyProof.Rows L2
theorem Inv.Yc {X:Cx} {pins:List (Addr × Obj)} {σ:L2.St} {H:Hp} {s:Shared} {h':Heap} {t':Nat} {ch:List Addr} {n:Addr} {o:HO} (I:L2.Inv X pins σ H s) (aQ:∀ b∈ch,Dj X pins H b)
  (k:∀ b u,b∉ch->s.heap.get? b=some u->h'.get? b=some u) (hp:s.heap.objs.size<=n) (new:mz X.prog X.w (upd H n o) h' n o):L2.Inv X pins σ (upd H n o) { s with heap:=h',toks:=t' }:=by
 have fr:=I.hok.fresh hp;have nn:∀ b u,s.heap.get? b=some u->b≠n:=fun b u e=>Nat.ne_of_lt (Nat.lt_of_lt_of_le (Heap.lt_size e) hp);have bW:∀ b u,H b=some u->b∉ch:=fun b u e z=>by rw [(aQ b z).1] at e; cases e
 refine I.step (g':=s.gens) (d':=s.drawn) (ch:=ch) (fun b hb=>?_) (fun b u _ _ hc e _=>k b u hc e) (fun b u _ _ hc e _=>⟨u.slots,k b u hc e⟩) (fun b u _ e z=>by rw [dj (nn b u e)]; exact z)
  (fun b u hc e=>⟨u,k b u hc e⟩) (fun b xs e=>by rw [dj (ju e fr)]; exact e) (fun b u xs e=>by rw [dj (ju e fr)]; exact e) (fun b ps e=>⟨#[],by rw [dj (ju e fr),e]; simp⟩) (fun m hm=>?_) (fun b u e=>?_) I.bare
 ·obtain ⟨f0,f1,f2,f3,f4,f5⟩:=aQ b hb;exact ⟨f3,f1,f4,f5⟩
 ·obtain ⟨ob,es,ep,ho,r⟩:=hm;exact ⟨ob,es,ep,k _ ob (fun z=>(aQ _ z).2.1 rfl) ho,r⟩
 ·by_cases hb:b=n
  ·subst hb; rw [bw] at e; cases e; exact new
  ·rw [dj hb] at e;refine (I.hok b u e).stay (fun c v hc q=>k c v ?_ q) (fun c q=>by rw [dj (ju q fr)]; exact q) fun c xs q=>by rw [dj (ju q fr)]; exact q
   rcases hc with rfl | hc
   ·exact bW _ _ e
   ·exact bW _ _ hc
theorem Inv.Y0 {X:Cx} {pins:List (Addr × Obj)} {σ:L2.St} {H:Hp} {s:Shared} {h':Heap} {t':Nat} {ch:List Addr} (I:L2.Inv X pins σ H s) (aQ:∀ b∈ch,Dj X pins H b)
  (k:∀ b u,b∉ch->s.heap.get? b=some u->h'.get? b=some u):L2.Inv X pins σ H { s with heap:=h',toks:=t' }:=by
 have bW:∀ b u,H b=some u->b∉ch:=fun b u e z=>by rw [(aQ b z).1] at e; cases e
 refine I.step (g':=s.gens) (d':=s.drawn) (ch:=ch) (fun b hb=>?_) (fun b u _ _ hc e _=>k b u hc e) (fun b u _ _ hc e _=>⟨u.slots,k b u hc e⟩) (fun b u _ e z=>z)
  (fun b u hc e=>⟨u,k b u hc e⟩) (fun b xs e=>e) (fun b u xs e=>e) (fun b ps e=>⟨#[],by rw [e]; simp⟩) (fun m hm=>?_) (fun b u e=>?_) I.bare
 ·obtain ⟨f0,f1,f2,f3,f4,f5⟩:=aQ b hb;exact ⟨f3,f1,f4,f5⟩
 ·obtain ⟨ob,es,ep,ho,r⟩:=hm;exact ⟨ob,es,ep,k _ ob (fun z=>(aQ _ z).2.1 rfl) ho,r⟩
 ·refine (I.hok b u e).stay (fun c v hc q=>k c v ?_ q) (fun c q=>q) fun c xs q=>q;rcases hc with rfl | hc
  ·exact bW _ _ e
  ·exact bW _ _ hc
def Sq:Bool->PySem.W.Frag->Hp->Addr->List V->Prop
 | true,K,H,a,xs=>SqL K H a xs
 | false,K,H,a,xs=>SqT K H a xs
section
variable {X:Cx} {pins:List (Addr × Obj)} {σ:L2.St} {H:Hp} {s:Shared} {a:Addr} {xs ys:List V} {k:Bool}
theorem Sq.row (I:L2.Inv X pins σ H s) (h:Sq k X.K H a xs):∃ its:List Value,Vals xs its/\uw k s.heap a its.toArray:=by
 cases k with
 | true=>obtain ⟨its,r,p,_⟩:=I.list h; exact ⟨its,r,p.isList⟩
 | false=>obtain ⟨its,r,p,_⟩:=I.tuple h; exact ⟨its,r,p⟩
theorem Sq.inj (I:L2.Inv X pins σ H s) (h:Sq k X.K H a xs) (h':Sq k X.K H a ys):xs=ys:=by
 cases k with
 | true=>exact I.Mu h h'
 | false=>exact I.Gm h h'
theorem Sq.far (I:L2.Inv X pins σ H s) {b:Addr} (h:Sq k X.K H a xs) (f:Dj X pins H b):a≠b:=by
 have held:∀ o,X.K.lookup a=some o->a≠b:=fun o e z=>by
  subst z;have eb:=I.mod.kin a o e;rcases f.2.2.2.1 with q | q
  ·exact I.ok.noex a o eb q
  ·exact absurd (Nat.lt_of_lt_of_le (Heap.lt_size (I.ok.bs a o eb).1) q) (Nat.lt_irrefl _)
 have there:∀ u,Rd H a u->a≠b:=fun u e z=>by
  subst z;rcases e with e | ⟨o,e⟩ <;> rw [f.1] at e <;> cases e
 cases k with
 | true =>
  rcases h with h | ⟨o,_,_,e,_⟩
  ·exact there _ h
  ·exact held o e
 | false =>
  rcases h with h | ⟨o,_,_,e,_⟩
  ·exact there _ h
  ·exact held o e
end
noncomputable def Itz (K:PySem.W.Frag) (k1 k2:Bool) (a1 a2:Addr):It :=
 ⟨fun i H=>∃ xs ys x y,Sq k1 K H a1 xs/\Sq k2 K H a2 ys/\xs[i]? = some x/\ys[i]? = some y,
   fun i H v H'=>∃ p x y,H p=none/\v=.ref p/\H'=upd H p (.tup [x,y])/\(∀ xs,Sq k1 K H a1 xs->xs[i]? = some x)/\∀ ys,Sq k2 K H a2 ys->ys[i]? = some y,
   fun i H=>∃ xs ys,Sq k1 K H a1 xs/\Sq k2 K H a2 ys/\(xs.length<=i\/ys.length<=i)⟩
theorem Vr {P:Program} {w:World} {K:PySem.W.Frag} {elts:List Expr} {x1:Nat} {pos:Pos} {k1 k2:Bool} {a1 a2 z ti ay i1 i2:Addr} (D:Far z ti ay i1 i2) :
  Turn P w K (.Tuple elts x1 pos) (Itz K k1 k2 a1 a2) [z,ti,ay,i1,i2] z (fun i h=>Gq h z ti ay i1 i2 .none/\Ad k1 h i1 a1 i/\Ad k2 h i2 a2 i) where
 mem:=by simp
 obj:=fun i h ⟨Z,t1,t2⟩ b hb=>by
  simp only [List.mem_cons,List.not_mem_nil,or_false] at hb;obtain ⟨zz,its,a,b,kp⟩:=Z;rcases hb with rfl | rfl | rfl | rfl | rfl
  ·exact ⟨_,zz,fun v q=>by cases q⟩
  ·exact ⟨_,its,fun v q=>by cases q⟩
  ·exact ⟨_,kp,fun v q=>by cases q⟩
  ·exact t1.obj
  ·exact t2.obj
 keep:=fun i h h' ⟨⟨zz,its,a,b,kp⟩,t1,t2⟩ e=>⟨⟨e z (by simp) _ zz,e ti (by simp) _ its,a,b,e ay (by simp) _ kp⟩,t1.to fun o q=>e i1 (by simp) o q,t2.to fun o q=>e i2 (by simp) o q⟩
 item:=by
  intro X hP hw hK hc i pins s σ H E I hf ⟨Z,t1,t2⟩ ⟨xs,ys,x,y,q1,q2,e1,e2⟩;subst hP hw hK;obtain ⟨its1,v1,r1⟩:=q1.row I;obtain ⟨aC,v2,r2⟩:=q2.row I;obtain ⟨u1,g1,ru1⟩:=v1.get e1;obtain ⟨u2,g2,ru2⟩:=v2.get e2;have f1:∀ b∈[z,ti,ay,i1,i2],a1≠b:=fun b hb=>q1.far I (hf b hb);have f2:∀ b∈[z,ti,ay,i1,i2],a2≠b:=fun b hb=>q2.far I (hf b hb);refine Vw D Z t1 t2 r1 r2 ⟨f2 z (by simp),f2 ay (by simp),f2 i1 (by simp),f2 i2 (by simp)⟩ (f1 z (by simp)) (by simpa using g1) (by simpa using g2) fun h' Z' fF ez hp kp=>?_;refine ⟨_,rfl,wpAny_letOwnedTupleGo_zip (s:={ s with heap:=h' }) Z'.zip fun h2 z2 s2=>?_⟩;obtain ⟨d1,d2,d3,d4,d5,d6,d7,d8,d9,d10⟩:=D.all
  have lt:∀ b∈[z,ti,ay,i1,i2],s.heap.objs.size≠b:=fun b hb=>by
   have ob:∃ o,s.heap.get? b=some o:=by
    simp only [List.mem_cons,List.not_mem_nil,or_false] at hb;obtain ⟨zz,its,a,b',kp⟩:=Z;rcases hb with rfl | rfl | rfl | rfl | rfl
    ·exact ⟨_,zz⟩
    ·exact ⟨_,its⟩
    ·exact ⟨_,kp⟩
    ·exact ⟨_,t1.obj.choose_spec.1⟩
    ·exact ⟨_,t2.obj.choose_spec.1⟩
   obtain ⟨o,e⟩:=ob;exact Nat.ne_of_gt (Heap.lt_size e)
  have pair:IsPair h2 s.heap.objs.size u1 u2:=s2.extBut _ _ (lt z (by simp)) hp
  have J:L2.Inv X pins σ (upd H s.heap.objs.size (.tup [x,y])) { s with heap:=h2,toks:=s.toks }:=Inv.Yc (ch:=[z,ti,ay,i1,i2]) I hf (fun b u hb e=>by
   simp only [List.mem_cons,List.not_mem_nil,or_false,not_or] at hb;exact s2.extBut _ _ hb.1 (kp b u hb.1 hb.2.2.1 hb.2.2.2.1 hb.2.2.2.2 e)) (Nat.le_refl _) ⟨by show 2<=sizeLine; rw [sizeLine_eq]; decide,[u1,u2],.cons ru1 (.cons ru2 .nil),⟨_,pair,rfl,rfl,0,rfl⟩⟩
  refine ⟨.ref s.heap.objs.size,_,J,rfl,⟨s.heap.objs.size,x,y,I.hok.fresh (Nat.le_refl _),rfl,rfl,fun cf h=>by rw [h.inj I q1]; exact e1,fun gg h=>by rw [h.inj I q2]; exact e2⟩,?_,fun b hb=>?_⟩
  ·obtain ⟨_,its,a,b,kk⟩:=Z';exact ⟨⟨z2,s2.extBut _ _ d1 its,a,b,s2.extBut _ _ d2 kk⟩,fF.to fun o q=>s2.extBut _ _ d3 q,ez.to fun o q=>s2.extBut _ _ d4 q⟩
  ·rw [dj (Ne.symm (lt b hb))]; exact (hf b hb).1
 done:=by
  intro X hP hw hK hc i pins s σ H E I hf ⟨Z,t1,t2⟩ ⟨xs,ys,q1,q2,e⟩;subst hP hw hK;obtain ⟨its1,v1,r1⟩:=q1.row I;obtain ⟨aC,v2,r2⟩:=q2.row I;have f1:∀ b∈[z,ti,ay,i1,i2],a1≠b:=fun b hb=>q1.far I (hf b hb);have f2:∀ b∈[z,ti,ay,i1,i2],a2≠b:=fun b hb=>q2.far I (hf b hb);refine Vj (I.ok.hd hc) D Z t1 t2 r1 r2 ⟨f2 z (by simp),f2 ay (by simp),f2 i1 (by simp),f2 i2 (by simp)⟩ (f1 z (by simp)) ?_ fun h' kp=>⟨rfl,Inv.Y0 (t':=s.toks) (ch:=[z,ti,ay,i1,i2]) I hf fun b u hb e=>?_⟩
  ·have l1:=v1.length;have l2:=v2.length;rcases e with e | e
   ·exact .inl (by simp; omega)
   ·exact .inr (by simp; omega)
  ·simp only [List.mem_cons,List.not_mem_nil,or_false,not_or] at hb;exact kp b u hb.1 hb.2.2.1 hb.2.2.2.1 hb.2.2.2.2 e
 self:=fun _ _ _ _ _ ⟨Z,_⟩ h=>wpAny_pyIter_zip Z.zip h
theorem Xi (n:Nat):Far (n+4) (n+2) (n+3) n (n+1):=⟨by
 have h1:n+4≠n+2:=by omega
 have h2:n+4≠n+3:=by omega
 have h3:n+4≠n:=by omega
 have h4:n+4≠n+1:=by omega
 have h5:n+2≠n+3:=by omega
 have h6:n+2≠n:=by omega
 have h7:n+2≠n+1:=by omega
 have h8:n+3≠n:=by omega
 have h9:n+3≠n+1:=by omega
 have h10:n≠n+1:=by omega
 exact List.nodup_cons.mpr ⟨by simp only [List.mem_cons,List.not_mem_nil,or_false,not_or]; exact ⟨h1,h2,h3,h4⟩,List.nodup_cons.mpr ⟨by simp only [List.mem_cons,List.not_mem_nil,or_false,not_or]; exact ⟨h5,h6,h7⟩,List.nodup_cons.mpr ⟨by simp only [List.mem_cons,List.not_mem_nil,or_false,not_or]; exact ⟨h8,h9⟩,List.nodup_cons.mpr ⟨by simp only [List.mem_cons,List.not_mem_nil,or_false]; exact h10,List.nodup_cons.mpr ⟨by simp,.nil⟩⟩⟩⟩⟩⟩
noncomputable def iZp (K:PySem.W.Frag) (ta:TA):TI:=fun σ H R=>ta σ H fun vs H1=>∃ k1 k2 a1 a2 xs ys,vs=[.ref a1,.ref a2]/\Sq k1 K H1 a1 xs/\Sq k2 K H1 a2 ys/\R (Itz K k1 k2 a1 a2) H1
section
variable {X:Cx} {B:Bas} {a b:Expr} {m m1 m2:M T} {pos p:Pos} {elts:List Expr} {x1:Nat} {aM:Pos}
theorem a1v {ta:TA} (hg:Gl X "zip") (hm:X.mg "zip" = none) (ha:PA X [a,b] ta) (hs:starEach [a,b] X.env=[(false,eval a X.env),(false,eval b X.env)]:=by rfl) (aO:starEach [b] X.env=[(false,eval b X.env)]:=by rfl) :
  PI X (.Tuple elts x1 aM) (.Call (.Name "zip" p) [a,b] [] pos) (iZp X.K ta):=by
 intro pins s σ H R I h;refine Call_ (Ek I hg hm boot_zip (PyProof.Rows.callWith_type1 (thn (ha pos pins s σ H _ I h) fun us s1 z0=>?_) (by rw [hs,aO]) (by rw [aO]; rfl)));obtain ⟨vs,H1,I1,r1,q1⟩:=z0;obtain ⟨k1,k2,a1,a2,xs,ys,e,w1,w2,q⟩:=q1;subst e;cases r1 with
 | cons r rr =>
  cases rr with
  | cons r' rr =>
   cases rr;cases r;cases r';obtain ⟨its1,v1,r1⟩:=w1.row I1;obtain ⟨aC,v2,r2⟩:=w2.row I1;refine V4 r1 r2 fun h' Z t1 t2 kp=>wpAny_pyIter_zip Z.zip ?_;have D:Far (s1.heap.objs.size+4) (s1.heap.objs.size+2) (s1.heap.objs.size+3) s1.heap.objs.size (s1.heap.objs.size+1):=Xi s1.heap.objs.size;refine ⟨_,_,_,_,H1,rfl,I1.kept (t':=s1.toks) kp,Vr D,⟨Z,t1,t2⟩,fun b hb=>?_,q⟩
   have hle:s1.heap.objs.size<=b:=by
    simp only [List.mem_cons,List.not_mem_nil,or_false] at hb;rcases hb with rfl | rfl | rfl | rfl | rfl
    ·exact Nat.le_add_right _ 4
    ·exact Nat.le_add_right _ 2
    ·exact Nat.le_add_right _ 3
    ·exact Nat.le_refl _
    ·exact Nat.le_add_right _ 1
   exact I1.Xw hle (I1.hok.fresh hle)
theorem Ma {ts:List T} {s s':Sta} (h:a2h m1 m2 s=some (ts,s')):∃ t u s1 xs ys,m1 s=some (t,s1)/\m2 s1=some (u,s')/\Ci t=some xs/\Ci u=some ys/\xs.length<lim/\ys.length<lim/\ts=Zq xs ys:=by
 unfold a2h at h;split at h
 ·rename_i t s1 e1;split at h
  ·rename_i u s2 e2;split at h
   ·rename_i xs ys e3 e4;split at h
    ·rename_i hl; cases h; exact ⟨t,u,s1,xs,ys,e1,e2,e3,e4,hl.1,hl.2,rfl⟩
    ·cases h
   ·cases h
  ·cases h
 ·cases h
theorem Zy:∀ st ts aa,a2h m1 m2 st=some (ts,aa)->ts.length<=sizeLine:=fun st ts aa e=>by
 obtain ⟨t,u,s1,xs,ys,_,_,_,_,l1,_,rfl⟩:=Ma e;unfold Zq;rw [List.length_map,List.length_zip];have:=j7;omega
theorem V8 {xs ys:List T} {i:Nat} {t:T} (h:(Zq xs ys)[i]? = some t):∃ x y,xs[i]? = some x/\ys[i]? = some y/\t=.tup [x,y]:=by
 unfold Zq at h;rw [List.getElem?_map] at h;obtain ⟨p,e,rfl⟩:=Option.map_eq_some_iff.mp h;obtain ⟨e1,e2⟩:=List.getElem?_zip_eq_some.mp e;exact ⟨p.1,p.2,e1,e2,rfl⟩
theorem Ph {K:PySem.W.Frag} {S:Hp} {as:List Addr} {v:V} {t:T} {xs:List T} (r:Rep K S as v t) (e:Ci t=some xs):∃ k a vs,v=.ref a/\Sq k K S a vs/\jz K S as vs xs/\(k=true/\t=.lst xs\/k=false/\t=.tup xs):=by
 cases r with
 | @lst a vs ts g1 g2=>simp only [Ci] at e; cases e; exact ⟨true,a,vs,rfl,g1,g2,.inl ⟨rfl,rfl⟩⟩
 | @tup a vs ts g1 g2=>simp only [Ci] at e; cases e; exact ⟨false,a,vs,rfl,g1,g2,.inr ⟨rfl,rfl⟩⟩
 | _=>simp only [Ci,reduceCtorEq] at e
theorem Sq.mono {k:Bool} {K:PySem.W.Frag} {S H:Hp} {a:Addr} {vs:List V} (e:Same S H) (h:Sq k K S a vs):Sq k K H a vs:=by
 cases k with
 | true=>exact iz e h
 | false=>exact jf e h
theorem Qo {K:PySem.W.Frag} {S:Hp} {as:List Addr} {a:Addr} {t:T} {xs:List T} {k:Bool} (r:Rep K S as (.ref a) t) (e:k=true/\t=.lst xs\/k=false/\t=.tup xs):∃ vs,Sq k K S a vs/\jz K S as vs xs:=by
 rcases e with ⟨rfl,rfl⟩ | ⟨rfl,rfl⟩
 ·cases r with
  | lst g1 g2=>exact ⟨_,g1,g2⟩
 ·cases r with
  | tup g1 g2=>exact ⟨_,g1,g2⟩
theorem a2g (hg:Gl X "zip") (hm:X.mg "zip" = none) (h1:PE X a (tOf X.K B m1)) (h2:PE X b (tOf X.K B m2)) (hs:starEach [a,b] X.env=[(false,eval a X.env),(false,eval b X.env)]:=by rfl) (aO:starEach [b] X.env=[(false,eval b X.env)]:=by rfl) :
  PI X (.Tuple elts x1 aM) (.Call (.Name "zip" p) [a,b] [] pos) (iOf X.K B (a2h m1 m2)):=by
 intro pins s σ H R I hw;refine a1v (ta:=Bf (tOf X.K B m1) (Bf (tOf X.K B m2) U7)) hg hm (jc h1 (jc h2 lg (by rw [aO]; rfl)) (by rw [hs,aO])) hs aO pins s σ H R I ?_;obtain ⟨st,ps,S,as,Rl,ts,aa,e,hz,q⟩:=hw;obtain ⟨t,u,s1,xs,ys,e1,e2,e3,e4,l1,l2,rfl⟩:=Ma e;refine ⟨st,ps,S,as,Rl,t,s1,e1,fun v H1 S1 ae R1=>⟨s1,_,S1,ae,R1,u,aa,e2,fun v2 H2 S2 aA R2=>?_⟩⟩;obtain ⟨k1,a1,vs1,rfl,w1,p1,c1⟩:=Ph R2.top2 e3;obtain ⟨k2,a2,vs2,rfl,w2,p2,c2⟩:=Ph R2.top e4;refine ⟨k1,k2,a1,a2,vs1,vs2,rfl,w1.mono R2.sub,w2.mono R2.sub,q _ H2 S2 aA [(.ref a2,u),(.ref a1,t)] R2 fun S3 aJ H3 hp hh=>?_⟩;obtain ⟨us1,y1,z1⟩:=Qo (hp (.ref a1,t) (by simp)) c1;obtain ⟨us2,y2,z2⟩:=Qo (hp (.ref a2,u) (by simp)) c2;refine ⟨fun i tt et=>?_,fun i hi=>⟨us1,us2,y1.mono hh,y2.mono hh,?_⟩⟩
 ·obtain ⟨x,y,f1,f2,rfl⟩:=V8 et;obtain ⟨vx,gx,rx⟩:=z1.get f1;obtain ⟨vy,gy,ry⟩:=z2.get f2;refine ⟨⟨us1,us2,vx,vy,y1.mono hh,y2.mono hh,gx,gy⟩,fun v H' z0=>?_⟩;obtain ⟨pp,x',y',hn,hv,hH,b1,b2⟩:=z0;have c1:=b1 _ (y1.mono hh);have c2:=b2 _ (y2.mono hh);rw [gx] at c1; rw [gy] at c2;cases c1; cases c2;subst hv hH;have x:=Ext.laid hh hn (.tup [vx,vy]);exact ⟨_,x,.tup (SqT.of bw) (.cons (rx.mono x.s nol) (.cons (ry.mono x.s nol) .nil))⟩
 ·rw [z1.length,z2.length];unfold Zq at hi;rw [List.length_map,List.length_zip] at hi;omega
end
section
variable {X:Cx}
variable {B:Bas} {o e:Expr} {m1 m2:M T} {apos aw:Pos}
end
theorem Kq (n d:Nat) (o:Option Int):sIx n d o=HT.sIx n d o:=by cases o <;> rfl
inductive oOf (K:PySem.W.Frag) (B:Bas) (m:M (Option Int)) (σ:L2.St) (H:Hp) (Q:Option Int->Hp->Prop):Prop
 | mk (st:Sta) (ps:List (V × T)) (S:Hp) (as:List Addr) (R:Rel K B st σ H ps S as) (o:Option Int) (aa:Sta) (e:m st=some (o,aa)) (q:∀ H' S' ai,Rel K B aa σ H' ps S' ai->Q o H')
section
variable {X:Cx} {B:Bas} {a e:Expr} {m:M T} {ml mh:M (Option Int)} {lo hi:Option Expr} {pos p2:Pos}
theorem qb:PO X none (oOf X.K B a2u):=fun pins s σ H Q I ⟨st,ps,S,as,R,o,aa,e,q⟩=>Xy pins s σ H Q I (by cases e; exact q H S as R)
theorem ou (h:PE X e (tOf X.K B m)):PO X (some e) (oOf X.K B (a2c m)):=fun pins s σ H Q I z9=>Ye h pins s σ H Q I (by
 obtain ⟨st,ps,S,as,R,o,aa,eo,q⟩:=z9;unfold a2c at eo;split at eo
 ·rename_i i s1 e1;cases eo;refine ⟨st,ps,S,as,R,.int i,_,e1,fun v H1 S1 ae R1=>?_⟩;cases R1.top;exact ⟨i,rfl,q H1 S1 ae R1.drop⟩
 ·cases eo)
theorem Oh {s s':Sta} {v:T} (h:Rm m ml mh s=some (v,s')):∃ t s1 l s2 u,m s=some (t,s1)/\ml s1=some (l,s2)/\mh s2=some (u,s')/\a3a l u t=some v:=by
 unfold Rm at h;split at h
 ·rename_i t s1 e1;split at h
  ·rename_i l s2 e2;split at h
   ·rename_i u s3 e3;split at h
    ·rename_i w e4; cases h; exact ⟨t,s1,l,s2,u,e1,e2,e3,e4⟩
    ·cases h
   ·cases h
  ·cases h
 ·cases h
theorem jz.takes {K:PySem.W.Frag} {S:Hp} {as:List Addr}:∀ (n:Nat) {vs:List V} {ts:List T},jz K S as vs ts->jz K S as (vs.take n) (ts.take n)
 | 0,_,_,_=>.nil
 | _+1,_,_,.nil=>.nil
 | n+1,_,_,.cons h r=>.cons h (jz.takes n r)
theorem Fj {K:PySem.W.Frag} {S:Hp} {as:List Addr} {vs:List V} {ts:List T} (r:jz K S as vs ts) (lo hi:Option Int):jz K S as (Qa vs lo hi) (X7 ts lo hi):=by
 unfold Qa X7;rw [Kq,Kq,r.length];exact jz.takes _ (r.drop _)
theorem Bk (ha:PE X a (tOf X.K B m)) (hl:PO X lo (oOf X.K B ml)) (hh:PO X hi (oOf X.K B mh)):PE X (.Subscript a (.Slice lo hi none p2) pos) (tOf X.K B (Rm m ml mh)) :=
 (Bl Q5 ha hl hh).imp fun σ H Q z9=>by
  obtain ⟨st,ps,S,as,R,t,aa,e,q⟩:=z9;obtain ⟨t1,s1,l,s2,u,e1,e2,e3,e4⟩:=Oh e;refine ⟨st,ps,S,as,R,t1,s1,e1,fun v H1 S1 ae R1=>⟨s1,_,S1,ae,R1,l,s2,e2,fun H2 S2 aA R2=>⟨s2,_,S2,aA,R2,u,aa,e3,fun H3 S3 aJ R3=>?_⟩⟩⟩;have top:=R3.top;cases top with
  | @lst b vs ts g1 g2 =>
   simp only [a3a] at e4; cases e4;refine ⟨b,vs,rfl,iz R3.sub g1,fun p hp=>?_⟩;have x:=Ext.laid R3.sub hp (.lst (Qa vs l u));exact q _ _ _ _ ((R3.drop.ext x).push (.lst (SqL.of bw) ((Fj g2 l u).mono x.s nol)))
  | _=>exact gj e4
end
section
variable {prog:Program} {w:World} {A:Around} {E:Value->Shared->Prop} {s:Shared}
theorem Ia {sl:Addr} {t:Tok} {n:Nat} {Q:Int × Int × Nat->Shared->Prop} (hs:s.heap.IsSliceOf sl .none .none (.int (-1) t)) (h:Q ((n:Int) - 1,-1,n) s):wpAny (model prog w) A (Builtin.Slice.sliceApplied (.ref sl) (pure (n:Int))) Q E s:=by
 obtain ⟨os,g1,g2,g3⟩:=id hs
 have ea:Builtin.Slice.sliceAdjust none none (-1) (n:Int)=((n:Int) - 1,-1):=by
  unfold Builtin.Slice.sliceAdjust;simp
 have en:Builtin.Slice.slicePlaces ((n:Int) - 1) (-1) (-1)=n:=by
  unfold Builtin.Slice.slicePlaces;have h1:¬ ((-1:Int) > 0):=by decide
  rw [if_neg h1];split
  ·first
   | (simp; done)
   | (simp; omega)
  ·omega
 unfold Builtin.Slice.sliceApplied Builtin.Slice.sliceFields;refine wpAny_bind (wpAny_bind (wpAny_field g1 g3 (x:=.none) rfl (wpAny_bind (wpAny_field g1 g3 (x:=.none) rfl (wpAny_bind (wpAny_field g1 g3 (x:=.int (-1) t) rfl (wpAny_pure ?_)))))));refine wpAny_bind (HT.uc (.int (-1) t) ?_);refine (show wpAny _ _ (if ((-1:Int)==0)=true then _ else _) _ _ s from ?_);rw [if_neg (by decide)];refine wpAny_bind (HT.uc .none (wpAny_bind (HT.uc .none (wpAny_bind (wpAny_pure ?_)))));refine (show wpAny _ _ (match Builtin.Slice.sliceAdjust none none (-1) (n:Int) with | (lo,hi)=>pure (lo,(-1:Int),Builtin.Slice.slicePlaces lo hi (-1))) _ _ s from ?_);rw [ea];refine (show wpAny _ _ (pure ((n:Int) - 1,(-1:Int),Builtin.Slice.slicePlaces ((n:Int) - 1) (-1) (-1))) _ _ s from ?_);rw [en];exact wpAny_pure h
theorem a1e {α β:Type} {f g:α->Option β}:∀ {l:List α},(∀ a∈l,f a=g a)->l.filterMap f=l.filterMap g
 | [],_=>rfl
 | a::l,h=>by rw [List.filterMap_cons,List.filterMap_cons,h a List.mem_cons_self,a1e fun b hb=>h b (List.mem_cons_of_mem _ hb)]
theorem Rt (xs:Array Value):((List.range xs.size).filterMap fun (m:Nat)=>xs[(((xs.size:Nat):Int) - 1+(m:Int) * (-1)).toNat]?)=xs.toList.reverse:=by
 have e:∀ m∈List.range xs.size,xs[(((xs.size:Nat):Int) - 1+(m:Int) * (-1)).toNat]? = some (xs.toList.reverse.getD m .none):=fun m hm=>by
  have hm:=List.mem_range.mp hm;have e1:(((xs.size:Nat):Int) - 1+(m:Int) * (-1)).toNat=xs.size - 1 - m:=by omega
  rw [e1,List.getD_eq_getElem?_getD,List.getElem?_reverse (by rw [Array.length_toList]; exact hm),Array.getElem?_toList,Array.length_toList,Array.getElem?_eq_getElem (by omega)];rfl
 rw [a1e e];rw [show (fun (x:Nat)=>some (xs.toList.reverse.getD x Value.none))=some ∘ fun x=>xs.toList.reverse.getD x .none from rfl,List.filterMap_eq_map];apply List.ext_getElem
 ·simp
 ·intro i h1 h2;simp [List.getD_eq_getElem?_getD,List.getElem?_eq_getElem h2]
theorem Mx {t sl:Addr} {k:Tok} {items:Array Value} {Q:Value->Shared->Prop} (ht:IsTup s.heap t items) (hs:s.heap.IsSliceOf sl .none .none (.int (-1) k))
  (h:Q (.ref s.heap.objs.size) { s with heap:=s.heap.push { cls:=.type "tuple",data:=.seq items.toList.reverse.toArray } }) (bz:items.size<=sizeLine):wpAny (model prog w) A (getItem (.ref t) (.ref sl)) Q E s:=by
 have hz:sizeOk (.seq items.toList.reverse.toArray):=by
  show items.toList.reverse.toArray.size<=sizeLine;rw [List.size_toArray,List.length_reverse,Array.length_toList]; exact bz
 obtain ⟨os,g1,g2,g3⟩:=id hs;have ty:s.TypeIs (.ref sl) "slice" := ⟨os,g1,g2⟩;unfold getItem
 try with_reducible refine wpAny_holding ?_
 first | refine wpAny_bind (wpAny_pure ?_) | skip
 refine wpAny_bind (wpAny_sequenceKey ht.typeIs (by decide) (wpAny_bind (wpAny_callSpecial?_slot (name:=Str.ofString "__getitem__") ht.typeIs PyProof.Rows.slot_tuple_getitem
  (wpAny_call_entry PyProof.Rows.slot_tuple_getitem ht.typeIs entry_tuple_getitem ?_ (args_tuple_getitem _ _)))))
 refine (show wpAny _ _ (Builtin.Tuple.tupleItemsOf (.ref t) >>= _) _ _ s from wpAny_bind (tupleItemsOf_ ht (wpAny_bind (wpAny_typeOf ty ?_))));rw [if_pos (by decide)];refine wpAny_bind (Ia hs ?_);refine (show wpAny _ _ (if ((((items.size:Nat):Int) - 1)==0&&(-1:Int)==1&&items.size==items.size)=true then _ else _) _ _ s from ?_);rw [if_neg (by rw [show ((-1:Int)==1)=false from rfl,Bool.and_false,Bool.false_and]; exact Bool.false_ne_true),Rt]
 first
  | exact wpAny_bind (m:=Builtin.Tuple.tupleExact _) (wpAny_newObj_type (wpAny_pure ⟨_,rfl,wpAny_pure h⟩) hz)
  | exact wpAny_bind (m:=Builtin.Tuple.tupleExact _) (wpAny_newObj_type (wpAny_bind (wpAny_pure (wpAny_pure ⟨_,rfl,wpAny_pure h⟩))) hz)
  | exact wpAny_bind (wpAny_bind (m:=Builtin.Tuple.tupleExact _) (wpAny_newObj_type (wpAny_pure (wpAny_pure ⟨_,rfl,wpAny_pure h⟩)) hz))
  | exact wpAny_bind (wpAny_bind (m:=Builtin.Tuple.tupleExact _) (wpAny_newObj_type (wpAny_pure ⟨_,rfl,wpAny_pure h⟩) hz))
end
section
variable {X:Cx} {B:Bas} {e:Expr} {te:TE} {m m1 m2:M T} {pos p p2 p3 p4:Pos} {j:Nat}
def a4e (K:PySem.W.Frag):V->Hp->VK->Prop:=fun x H Q=>∃ a xs,x=.ref a/\((SqL K H a xs/\∀ p,H p=none->Q (.ref p) (upd H p (.lst xs.reverse)))\/(SqT K H a xs/\∀ p,H p=none->Q (.ref p) (upd H p (.tup xs.reverse))))
theorem Z2:PE X (.UnaryOp .USub (.Constant (.int 1) j p4) p3) (tC (.int (-1))):=(Yv Wu X6).imp fun σ H Q q=>⟨1,rfl,q⟩
theorem Za (he:PE X e te):PE X (.Subscript e (.Slice none none (some (.UnaryOp .USub (.Constant (.int 1) j p4) p3)) p2) pos) (fun σ H Q=>te σ H fun x H1=>a4e X.K x H1 Q):=by
 intro pins s σ H Q I h;refine Subscript_ (thn (he pins s σ H _ I h) fun v s1 z0=>?_);obtain ⟨x,H1,I1,r1,q1⟩:=z0;refine wpAny_Slice ?_;rw [evalPart_none];refine wpAny_pure (wpAny_pure ?_);rw [evalPart_some];refine thn (Z2 pins s1 σ H1 (fun v H2=>v=.int (-1)/\H2=H1) I1 ⟨rfl,rfl⟩) fun vk s2 z0=>?_;obtain ⟨y,H2,I2,r2,ey,eH⟩:=z0;subst ey eH;obtain ⟨t,rfl⟩:=r2;obtain ⟨a,xs,rfl,hx⟩:=q1;cases r1;have I4:L2.Inv X pins σ H2 { s2 with heap:=s2.heap.push { cls:=.type "slice",data:=.fields #[.none,.none,.int (-1) t] } }:=I2.kept (t':=s2.toks) fun b ob q=>Heap.get?_push_of_some _ q;rcases hx with ⟨hx,q⟩ | ⟨hx,q⟩
 ·obtain ⟨its,r,ht,hz⟩:=I4.list hx;have hlen:=r.length;refine tail_any (ops:=[.ref a,.ref s2.heap.objs.size]) (T := "list") ht.isList.typeIs slot_list_getitem.lookup ?_ (by with_unfolding_all rfl);refine wpAny_getItem_list_slice ht.isList (Heap.IsSliceOf.new ..) .none .none (.int (-1) t) (by decide) ?_ (by rw [List.size_toArray] <;> omega);rw [PySem.W.krv_pick];refine ⟨.ref _,_,I4.laid (t':=s2.toks) (o:=.lst xs.reverse) (fun b ob q=>Heap.get?_push_of_some _ q) (Nat.le_refl _) ?_,rfl,q _ (I4.hok.fresh (Nat.le_refl _))⟩;exact ⟨by rw [List.length_reverse]; exact hz,_,0,by simpa using r.reverse,Heap.get?_push_size _ rfl⟩
 ·obtain ⟨its,r,ht,hz⟩:=I4.tuple hx;have hlen:=r.length;refine tail_any (ops:=[.ref a,.ref s2.heap.objs.size]) (T := "tuple") ht.typeIs PyProof.Rows.slot_tuple_getitem.lookup ?_ (by with_unfolding_all rfl);refine Mx ht (Heap.IsSliceOf.new ..) ?_ (by rw [List.size_toArray] <;> omega);refine ⟨.ref _,_,I4.laid (t':=s2.toks) (o:=.tup xs.reverse) (fun b ob q=>Heap.get?_push_of_some _ q) (Nat.le_refl _) ?_,rfl,q _ (I4.hok.fresh (Nat.le_refl _))⟩;exact ⟨by rw [List.length_reverse]; exact hz,its.reverse,r.reverse,Ug.new _ its.reverse.toArray⟩
theorem Y5 (ha:PE X e (tOf X.K B m)):PE X (.Subscript e (.Slice none none (some (.UnaryOp .USub (.Constant (.int 1) j p4) p3)) p2) pos) (tOf X.K B (mUn a4u m)) :=
 (Za ha).imp fun σ H Q z9=>by
  obtain ⟨st,ps,S,as,R,t,aa,e,q⟩:=z9;obtain ⟨t1,e1,e3⟩:=R8 e;refine ⟨st,ps,S,as,R,t1,aa,e1,fun v H1 S1 ae R1=>?_⟩;have top:=R1.top;cases top with
  | @lst a vs ts g1 g2 =>
   simp only [a4u] at e3; cases e3;refine ⟨a,vs,rfl,.inl ⟨iz R1.sub g1,fun p hp=>?_⟩⟩;have x:=Ext.laid R1.sub hp (.lst vs.reverse);exact q _ _ _ _ ((R1.drop.ext x).push (.lst (SqL.of bw) (g2.reverse.mono x.s nol)))
  | @tup a vs ts g1 g2 =>
   simp only [a4u] at e3; cases e3;refine ⟨a,vs,rfl,.inr ⟨jf R1.sub g1,fun p hp=>?_⟩⟩;have x:=Ext.laid R1.sub hp (.tup vs.reverse);exact q _ _ _ _ ((R1.drop.ext x).push (.tup (SqT.of bw) (g2.reverse.mono x.s nol)))
  | _=>exact gj e3
theorem Bj {x:Str} {i:Int} (hg:Gl X x) (h:∃ tk,X.mg x=some (.int i tk)) (hd:(x==("__debug__" : Str))=false:=by decide):PE X (.Name x pos) (tOf X.K B (Hr (.int i))):=by
 obtain ⟨tk,h⟩:=h;exact yx (v:=.int i) (Sd hg h (show RelV (.int i) _ from ⟨tk,rfl⟩) hd) fun _ _=>.int i
theorem Oa {i:Nat} {k:M T} {s s':Sta} {t:T} (h:Q9 i k s=some (t,s')):vo i s=true/\∃ j xs f n,k s=some (.int j,s')/\s'.env[i]? = some (some (.lst xs,f))/\ixI xs.length j=some n/\xs[n]? = some t:=by
 unfold Q9 at h;split at h
 ·rename_i hd;refine ⟨hd,?_⟩;split at h
  ·rename_i j s1 e1;split at h
   ·rename_i xs f e2;split at h
    ·rename_i u e3;cases h;obtain ⟨n,h1,h2⟩:=Option.bind_eq_some_iff.mp e3;exact ⟨j,xs,f,n,e1,e2,h1,h2⟩
    ·cases h
   ·cases h
  ·cases h
 ·cases h
theorem Bm (i:Nat) {o k:Expr} {mk:M T} (ho:PE X o (Ol i)) (hk:PE X k (tOf X.K B mk)) (hs:Ft k):PE X (.Subscript o k pos) (tOf X.K B (Q9 i mk)):=(Xz Jl ho hk hs).imp fun σ H Q z9=>by
 obtain ⟨st,ps,S,as,R,t,aa,e,q⟩:=z9;obtain ⟨hd,j,xs,f,n,e1,e2,e3,e4⟩:=Oa e;obtain ⟨a7,f0,e0⟩:=v9 hd;obtain ⟨p0,vs0,s0,_⟩:=R.listAt e0;refine ⟨_,s0,st,ps,S,as,R,.int j,aa,e1,fun u H2 S2 aA R2=>?_⟩;cases R2.top;obtain ⟨p1,vs1,s1,rd1,h4⟩:=R2.listAt e2;rw [s0] at s1; cases s1;obtain ⟨z,hz,rz⟩:=h4.get e4;refine ⟨p0,vs1,j,z,rfl,rfl,rd1,?_,q z H2 S2 aA (R2.drop.push rz)⟩;rw [Du,<- h4.length] at e3;unfold atI; rw [e3]; exact hz
theorem En {a:Expr} {pc:Pos} (hg:Gl X "isinstance") (hm:X.mg "isinstance" = none) (bU:Gl X "str") (bT:X.mg "str" = none) (ha:PE X a (tOf X.K B m)) (he:starEach [a,.Name "str" pc] X.env=(false,eval a X.env)::starEach [.Name "str" pc] X.env:=by rfl) :
  PE X (.Call (.Name "isinstance" p) [a,.Name "str" pc] [] pos) (tOf X.K B (Ow isStr (Bb m U9))):=by
 rw [show isStr=_ from funext Ut];exact Ld (cn := "str") hg hm bU bT T9 (fun t ty h=>by cases t <;> cases h <;> rfl) ha (by decide) (by decide) he
end
end C
end
section
end
section
namespace C
open PySem PySem.Spec L2
def Held (K:PySem.W.Frag) (u:Value) (t:T):Prop:=∃ v,RelV v u/\∀ S as,Rep K S as v t
def n6 (K:PySem.W.Frag) (us:List Value) (ts:List T):Prop:=∃ vs,Vals vs us/\∀ S as,jz K S as vs ts
section
variable {K:PySem.W.Frag}
theorem Held.str {x:Str} {tk:Tok}:Held K (.str x tk) (.str x):=⟨.str x,⟨tk,rfl⟩,fun _ _=>.str x⟩
theorem n6.nil:n6 K [] []:=⟨[],.nil,fun _ _=>.nil⟩
theorem n6.cons {u:Value} {t:T} {us:List Value} {ts:List T} (h:Held K u t) (hs:n6 K us ts):n6 K (u::us) (t::ts):=by
 obtain ⟨v,r,e⟩:=h;obtain ⟨vs,rs,es⟩:=hs;exact ⟨v::vs,.cons r rs,fun S as=>.cons (e S as) (es S as)⟩
theorem Held.tup {a:Addr} {us:List Value} {n:Nat} {sl:Array (Option Value)} {ts:List T} (h:K.lookup a=some ⟨.type "tuple",none,.seq us.toArray n,sl⟩) (hz:us.length<=1000) (hs:n6 K us ts):Held K (.ref a) (.tup ts):=by
 obtain ⟨vs,rs,es⟩:=hs;refine ⟨.ref a,rfl,fun S as=>.tup (.inr ⟨_,us.toArray,n,h,rfl,rfl,rfl,?_,?_⟩) (es S as)⟩
 ·rw [List.size_toArray,sizeLine_eq]; omega
 ·exact rs
end
section
variable {X:Cx} {B:Bas} {pos:Pos}
theorem Bo {x:Str} {t:T} (hg:Gl X x) (h:∃ u,X.mg x=some u/\Held X.K u t) (hd:(x==("__debug__" : Str))=false:=by decide):PE X (.Name x pos) (tOf X.K B (Hr t)):=by
 obtain ⟨u,h,v,r,e⟩:=h;exact yx (v:=v) (Sd hg h r hd) e
end
end C
end
section
namespace C
open PySem PySem.Spec PyProof.Rows
section
variable {prog:Program} {w:World} {A:Around} {E:Value->Shared->Prop} {s:Shared}
end
section
variable {prog:Program} {w:World} {A:Around} {R:Result->Shared->Prop} {I:Addr} {fp wr:List Addr} {G:Array GenState->Array GenState->Prop} {n:Nat} {P:Nat->Value->Prop} {St:Nat->Shared->Prop}
end
section
variable {prog:Program} {w:World} {A:Around} {E:Value->Shared->Prop} {s:Shared}
end
section
variable {prog:Program} {w:World} {A:Around} {E:Value->Shared->Prop} {s:Shared}
end
section
variable {prog:Program} {w:World} {A:Around} {E:Value->Shared->Prop} {s:Shared}
end
section
variable {prog:Program} {w:World} {A:Around} {E:Value->Shared->Prop} {s:Shared} {I a:Addr} {i n ep:Nat} {o:Obj} {es:Array (Int × Value)} {t:SetTable} {Q:Option Value->Shared->Prop}
end
section
variable {prog:Program} {w:World} {A:Around} {E:Value->Shared->Prop} {s:Shared} {I a q:Addr} {i n ep:Nat} {o:Obj} {es:Array (Int × Value)} {t:SetTable} {Q:Option Value->Shared->Prop} {ps:List Nat}
end
section
variable {prog:Program} {w:World} {A:Around} {E:Value->Shared->Prop} {s:Shared} {I a q:Addr} {n ep:Nat} {o:Obj} {es:Array (Int × Value)} {t:SetTable} {ps:List Nat}
end
section
variable {prog:Program} {w:World} {A:Around} {E:Value->Shared->Prop} {s:Shared} {a:Addr} {o:Obj} {l:List Str}
end
section
variable {prog:Program} {w:World} {A:Around} {E:Value->Shared->Prop} {s:Shared} {a:Addr} {o:Obj} {l:List Str}
end
end C
end
section
namespace C
open PySem PySem.Spec PyProof.Rows L2
section
variable {X:Cx} {B:Bas} {e:Expr} {m1:M T} {p1 p2 p3 p4:Pos}
end
open AutoSeq1 (wpAny_loadPart') -- here
open MeetsSeq MeetsSeq2 MeetsSeq3 -- here
section
variable {prog:Program} {w:World}
end
section
variable {X:Cx} {pins:List (Addr × Obj)} {σ:L2.St} {H S:Hp} {s:Shared} {as:List Addr}
end
end C
end
section
namespace C
open PySem PySem.Spec PyProof.Rows L2
theorem Z6 {K:PySem.W.Frag} {F:Fn} {H:Hp} {a:Addr} {ns:List Int} (hS:SqL K H a (ns.map V.int)) (hE:∃ st,F [.lst (ns.map T.int)] []=some (.bl true,st)):spF K 1 F [.ref a] H (fun v _=>v=.bl true) fun _ _ _=>False:=by
 obtain ⟨st,hF⟩:=hE
 have dQ:∀ (S:Hp) (l:List Int),jz K S [] (l.map V.int) (l.map T.int):=fun S l=>by
  induction l with
  | nil=>exact .nil
  | cons x l ih=>exact .cons (.int x) ih
 let S:Hp:=fun p=>if p=a then H p else none
 have sa:S a=H a:=if_pos rfl
 have sub:Same S H:=fun p u h=>by
  by_cases e:p=a
  ·subst e; rw [<- sa]; exact h
  ·have:S p=none:=if_neg e;rw [this] at h; cases h
 have sq:SqL K S a (ns.map V.int):=by
  rcases hS with h | h
  ·refine .inl ?_;unfold Rd at h ⊢;rw [sa]; exact h
  ·exact .inr h
 refine ⟨S,[],[],[.lst (ns.map T.int)],.bl true,st,sub,⟨rfl,.nil,fun n so e=>by simp at e⟩,.cons (.lst sq (dQ S ns)) .nil,rfl,hF,fun v H' S' ai _ _ _ r=>?_⟩;cases r;rfl
end C
end
section
namespace C
open PySem
abbrev FnX:=List T->List SO->Option ((T ⊕ T) × List SO)
abbrev SX:=Sta->Option ((Flow ⊕ T) × Sta)
def lx (u:S):SX:=fun s=>match u s with
 | some (fl,s1)=>some (.inl fl,s1)
 | none=>none
def a3t (a b:SX):SX:=fun s=>match a s with
 | some (.inl .next,s1)=>b s1
 | r=>r
noncomputable def xIf (c:M Bool) (a b:SX):SX:=fun s=>match c s with
 | some (true,s1)=>a s1
 | some (false,s1)=>b s1
 | none=>none
def Tn (m:M T):SX:=fun s=>match m s with
 | some (t,s1)=>some (.inr t,s1)
 | none=>none
noncomputable def Kw (n:Nat) (b:SX):FnX:=fun ts sto=>match b ⟨ts.map (fun t=>some (t,false))++List.replicate (n - ts.length) none,sto⟩ with
 | some (.inl (.ret t),s)=>some (.inl t,s.sto)
 | some (.inl .next,s)=>some (.inl .non,s.sto)
 | some (.inr t,s)=>some (.inr t,s.sto)
 | _=>none
def norm (F:FnX):Fn:=fun ts sto=>match F ts sto with
 | some (.inl t,s)=>some (t,s)
 | _=>none
end C
end
section
namespace My
open PySem PySem.W PySem.Calls PyProof.Rows PySem.Spec
abbrev vB:List Value:=[.type "ValueError",.type "Exception",.type "BaseException",.type "object"]
theorem a4s {K:Frag} {h:Heap} {D:Addr} {newId:String} (X:K.In h) (q:excIn K D vB newId=true):OwnTail h vB (.ref D::vB):=by
 refine tail_of_in X ?_;unfold excIn at q;unfold tailIn;split at q
 ·rename_i dd cd sl ho;split at q
  ·simp only [Bool.and_eq_true] at q;dsimp only;rw [ho];dsimp only;rw [q.1.2,q.2];have z:tailIn K vB vB=true:=by unfold tailIn; rfl
   rw [z];simp
  ·cases q
 ·cases q
abbrev Q8 (C t:Addr):Obj:={ cls:=.ref C,data:=.fields #[.ref t,.none,.none,.none,.bool false,.none] }
abbrev Wz (vs:List Value):Obj:={ cls:=.type "tuple",data:=.seq vs.toArray }
section
variable {prog:Program} {w:World} {A:Around} {E:Value->Shared->Prop} {s:Shared} {h₀:Heap} {L:Addr} {m:Str->Option Value} {news:List (Addr × Obj)} {K:Frag}
variable {nm q:Str} {C D Na:Addr} {bs:List Value} {hdct:Bool} {sn:List Str} {sub:List Value} {ab:Bool} {col:Option Bool} {dd:Option Addr} {k0 k1 k2 k3 k5:Option Value}
theorem Dp {h:Heap} {g:Array GenState} {d:Drawn} {t:Nat} {os:OsState} {rest:List Value} {fI:Addr} {R:Fin->Shared->Prop} (X:K.In h)
  (hC:h.get? C=some (excClassObj nm q C Na bs (.ref D::vB) hdct sn sub ab col dd k0 k1 k2 k3 k5 "ValueError.__new__")) (T:OwnTail h vB (.ref D::vB))
  (hi:findIn K (.ref C) "__init__" = some (some (.ref fI))) (hf:typeIn K (.ref fI)=some (.type "function"))
  (hq:wpAny (model prog w) A (call (.ref fI) (.ref (h.objs.size+1)::rest)) (fun r s'=>r=.none/\R (.done (.ret (.ref (h.objs.size+1)))) s') E ⟨(h.push (Wz rest)).push (Q8 C h.objs.size),g,d,t,os⟩) (bS:rest.length<=sizeLine) :
  wpAny (model prog w) A (Builtin.«type.__call__» ⟨.ref C::rest,[]⟩) R E ⟨h,g,d,t,os⟩:=by
 have Fv:=PySem.F.excBase_ValueError;have hv:vB.contains (.type "ValueError")=true:=by decide
 repeat (first | with_reducible refine wpAny_loadPart_at hC ?_ | with_reducible refine wpAny_madeBy_exc hC ?_ | wp_step) -- here
 refine codeAny_call_builtin_code (Code.quiet_builtin _ Fv.quiet) (wpAny_check_new_subU Fv hv T hC ?_);refine codeAny_exc_new_subU Fv hv Fv T hC ?_ bS;show wpAny _ _ _ _ _ _;have kp:∀ b o,h.get? b=some o->((h.push (Wz rest)).push (Q8 C h.objs.size)).get? b=some o:=fun b o e=>Heap.get?_push_of_some _ (Heap.get?_push_of_some _ e);have X1:=X.keeps kp;have dP:((h.push (Wz rest)).push (Q8 C h.objs.size)).get? (h.objs.size+1)=some (Q8 C h.objs.size):=by heap_get
 have fg:(Value.ref C :: .ref D::vB).contains (.ref C)=true:=by simp
 have fK:=kp _ _ hC;unfold isInstance
 repeat (first | with_reducible refine wpAny_loadPart_at dP ?_ | (with_reducible refine wpAny_isSubtype_exc fK ?_; rw [fg]) | wp_step)
 show wpAny _ _ (typeLookup (.ref C) _) _ _ _;refine looks_findIn X1 hi _ _ _ _ (fun _ _ e=>e) ?_;refine wpAny_holding (wpAny_bind ?_);refine bind_fn X1 _ hf _ _ _ _ (fun _ _ e=>e) ?_;refine wpAny_bind (wpAny_mono hq (fun r s' hr=>?_) fun _ _ x=>x);obtain ⟨rfl,hQ⟩:=hr
 wp_walk
 exact hQ
end
end My
end
section
namespace My
open PySem PySem.W PySem.Calls PyProof.Rows PySem.Spec Builtin.ObjectAttr
abbrev Us (C t dx:Addr):Obj:={ cls:=.ref C,dict:=some dx,data:=.fields #[.ref t,.none,.none,.none,.bool false,.none] }
theorem a4b (self:Value):refuseLoop self "__setattr__" vB=pure ():=by kernel_rfl
section
variable {prog:Program} {w:World} {A:Around} {E:Value->Shared->Prop} {s:Shared} {h₀:Heap} {L:Addr} {m:Str->Option Value} {news:List (Addr × Obj)} {K:Frag} {x C D t:Addr} {cd:ClassData} {name:Str} {v:Value} {g:Obj->List (Addr × Obj)}
end
section
variable {prog:Program} {w:World} {A:Around} {E:Value->Shared->Prop} {s:Shared} {K:Frag} {x C:Addr} {ox:Obj} {od:Option Obj} {name:Str} {v:Value} {expr:Bool}
end
section
variable {prog:Program} {w:World} {A:Around} {E:Value->Shared->Prop} {s:Shared} {K:Frag} {x C:Addr} {ox od:Obj} {name:Str} {tk:Tok} {v:Value} {fill expr:Bool}
end
end My
end
section
namespace L2
open PySem PySem.Spec PyProof.Rows
abbrev U8 (C dx:Addr) (vs:Array Value):Obj:={ cls:=.ref C,dict:=some dx,data:=.fields vs }
structure XAt (h:Heap) (e C dx T:Addr) (fl:Value):Prop where
 ne:T≠e
 at_:∃ vs,h.get? e=some (U8 C dx vs)/\vs[1]? = some (.ref T)
 tb:∃ o ts,h.get? T=some o/\o.data=.fields ts/\ts[3]? = some fl
structure Kp (fs ch:List Addr) (h h':Heap):Prop where
 keep:∀ b o,h.get? b=some o->b∉fs->b∉ch->h'.get? b=some o
 slot:∀ b o,h.get? b=some o->b∉ch->∃ sl,h'.get? b=some { o with slots:=sl }
 there:∀ b o,h.get? b=some o->∃ o',h'.get? b=some o'
 size:h.objs.size<=h'.objs.size
theorem Kp.trans {fs ch:List Addr} {h h1 h2:Heap} (a:Kp fs ch h h1) (b:Kp fs ch h1 h2):Kp fs ch h h2 where
 keep:=fun c o q n m=>b.keep c o (a.keep c o q n m) n m
 slot:=fun c o q m=>by
  obtain ⟨sl,e1⟩:=a.slot c o q m;obtain ⟨sl',e2⟩:=b.slot c _ e1 m;exact ⟨sl',e2⟩
 there:=fun c o q=>by
  obtain ⟨o',e1⟩:=a.there c o q;exact b.there c o' e1
 size:=Nat.le_trans a.size b.size
theorem Kp.mono {fs ch cV ch':List Addr} {h h':Heap} (a:Kp fs ch h h') (hf:∀ b∈fs,b∈cV) (hc:∀ b∈ch,b∈ch'):Kp cV ch' h h' where
 keep:=fun c o q n m=>a.keep c o q (fun z=>n (hf _ z)) fun z=>m (hc _ z)
 slot:=fun c o q m=>a.slot c o q fun z=>m (hc _ z)
 there:=a.there
 size:=a.size
theorem Kp.slots {fs:List Addr} {h h':Heap} (x:Heap.SlotsOnly fs h h'):Kp fs [] h h' where
 keep:=fun b o q n _=>(x.2.1 b n).trans q
 slot:=fun b o q _=>x.2.2 b o q
 there:=fun b o q=>let ⟨sl,e⟩:=x.2.2 b o q; ⟨_,e⟩
 size:=Nat.le_of_eq x.1.symm
theorem Kp.pushed {fs ch:List Addr} {h:Heap} (o:Obj):Kp fs ch h (h.push o) where
 keep:=fun b u q _ _=>Heap.get?_push_of_some _ q
 slot:=fun b u q _=>⟨u.slots,Heap.get?_push_of_some _ q⟩
 there:=fun b u q=>⟨u,Heap.get?_push_of_some _ q⟩
 size:=by rw [Heap.size_push]; exact Nat.le_succ _
theorem Kp.field {fs:List Addr} {h:Heap} {e:Addr} {o:Obj} {vs:Array Value} (he:h.get? e=some o) (hd:o.data=.fields vs) (f:Array Value->Array Value):Kp fs [e] h (h.update e (Obj.mapFields f)) where
 keep:=fun b u q _ m=>by rw [Heap.get?_update_other _ _ (fun z=>m (by simp [z]))]; exact q
 slot:=fun b u q m=>⟨u.slots,by rw [Heap.get?_update_other _ _ (fun z=>m (by simp [z]))]; exact q⟩
 there:=fun b u q=>by
  by_cases z:e=b
  ·subst z; exact ⟨_,Heap.get?_update_self _ he (Obj.isFreed_of_fields (Obj.data_mapFields hd f))⟩
  ·exact ⟨u,by rw [Heap.get?_update_other _ _ z]; exact q⟩
 size:=Nat.le_of_eq (Heap.size_after_update ..).symm
section
variable {M:Model} {A:Around} {E:Value->Shared->Prop} {s:Shared} {base:Heap} {env:Env} {outer:List Env} {L e C dx T:Addr} {fl:Value} {vs:Array Value} {Q:Unit->Shared->Prop}
theorem Ae {head:Value} {hn:Bool} (hfr:A.frames=some (env::outer)) (hl:s.heap.FunFrames base (env::outer)) (hf:env.frame=some L) (he:s.heap.get? e=some (U8 C dx vs)) (h1:1<vs.size)
  (cw:e∉frs (env::outer))
  (h:∀ h' T,s.heap.objs.size<=T->Kp (frs (env::outer)) [e] s.heap h'->XAt h' e C dx T (rawInt L)->Q () { s with heap:=h' }) :
  wpAny M A (frameOf env >>= fun a=>entryPlaceOf L hn >>= fun pl=>EntryCells.newEntry head a .none (rawInt L) .none pl >>= fun b=>setField (.ref e) 1 b) Q E s:=by
 refine wpAny_bind (wpAny_frameOf_fun hfr hl hf fun cD hs=>?_);refine wpAny_bind (wpAny_entryPlaceOf fun pl aL=>?_);unfold EntryCells.newEntry newFields;have e1:cD.get? e=some (U8 C dx vs):=(hs.2.1 e cw).trans he;refine wpAny_bind (wpAny_newObj_type ?_ (aL.sizeOk5 _ _ _ _ _));refine wpAny_setField (Heap.get?_push_of_some _ e1) rfl h1 ?_;have ne:cD.objs.size≠e:=Nat.ne_of_gt (Heap.lt_size e1);refine h _ cD.objs.size (Nat.le_of_eq hs.1.symm) ?_ ⟨ne,⟨vs.setIfInBounds 1 (.ref cD.objs.size),?_,by simp [h1]⟩,?_⟩
 ·exact (((Kp.slots hs).mono (ch':=[e]) (fun _ z=>z) (fun _ z=>nomatch z)).trans (Kp.pushed _)).trans (Kp.field (Heap.get?_push_of_some _ e1) rfl _)
 ·exact Heap.get?_update_self _ (Heap.get?_push_of_some _ e1) rfl
 ·refine ⟨_,_,(Heap.get?_update_other _ _ (Ne.symm ne)).trans (Heap.get?_push_size _ rfl),rfl,?_⟩;rcases aL with rfl | ⟨_,_,_,_,_,_,_,rfl⟩ <;> simp
theorem Nv (hfr:A.frames=some (env::outer)) (hl:s.heap.FunFrames base (env::outer)) (hf:env.frame=some L) (he:s.heap.get? e=some (U8 C dx vs)) (h1:vs[1]? = some .none) (cw:e∉frs (env::outer))
  (h:∀ h' T,s.heap.objs.size<=T->Kp (frs (env::outer)) [e] s.heap h'->XAt h' e C dx T (rawInt L)->Q () { s with heap:=h' }):wpAny M A (noteFrame (.ref e) env) Q E s:=by
 unfold noteFrame;simp only [hf];refine wpAny_bind (wpAny_field he rfl h1 ?_);rw [if_neg (by decide)];exact Ae hfr hl hf he (Array.getElem?_eq_some_iff.mp h1).1 cw h
theorem O4 (hf:env.frame=some L) (x:XAt s.heap e C dx T (rawInt L)) (h:Q () s):wpAny M A (noteFrame (.ref e) env) Q E s:=by
 obtain ⟨ne,⟨vs,he,h1⟩,o,ts,hT,hd,h3⟩:=x;unfold noteFrame;simp only [hf];refine wpAny_bind (wpAny_field he rfl h1 ?_);rw [if_pos (show (Value.ref T != Value.none)=true from by simp)];refine wpAny_bind (wpAny_field hT hd h3 ?_);rw [if_pos (show (rawInt L==rawInt L)=true from by simp)];exact wpAny_pure h
theorem Hj (hfr:A.frames=some (env::outer)) (hl:s.heap.FunFrames base (env::outer)) (hf:env.frame=some L) (x:XAt s.heap e C dx T .none) (cw:e∉frs (env::outer)) (fx:T∉frs (env::outer))
  (h:∀ h' T',s.heap.objs.size<=T'->Kp (frs (env::outer)) [e,T] s.heap h'->XAt h' e C dx T' (rawInt L)->Q () { s with heap:=h' }):wpAny M A (noteFrame (.ref e) env) Q E s:=by
 obtain ⟨ne,⟨vs,he,h1⟩,o,ts,hT,hd,h3⟩:=x;have k1:Kp (frs (env::outer)) [T] s.heap (s.heap.update T (Obj.mapFields (·.setIfInBounds 3 Value.none))):=Kp.field hT hd _;unfold noteFrame;simp only [hf];refine wpAny_bind (wpAny_field he rfl h1 ?_);rw [if_pos (show (Value.ref T != Value.none)=true from by simp)];refine wpAny_bind (wpAny_field hT hd h3 ?_);rw [if_neg (show ¬ ((Value.none==rawInt L)=true) from by simp [rawInt])];refine wpAny_bind (wpAny_setField hT hd (Array.getElem?_eq_some_iff.mp h3).1 ?_);have b9:(s.heap.update T (Obj.mapFields (·.setIfInBounds 3 Value.none))).get? e=some (U8 C dx vs):=(Heap.get?_update_other _ _ ne).trans he;refine Ae (base:=base) hfr (hl.of_keeps fun b u q nf=>?_) hf b9 (Array.getElem?_eq_some_iff.mp h1).1 cw fun h' T' hz k2 x=>h h' T' (Nat.le_trans k1.size hz) ((k1.mono (fun _ z=>z) (by simp)).trans (k2.mono (fun _ z=>z) (by simp))) x;refine ⟨u,?_,rfl⟩;have:T≠b:=fun z=>by subst z; rw [hT] at q; cases q; exact nf ts hd
 rw [Heap.get?_update_other _ _ this]; exact q
theorem vh (x:XAt s.heap e C dx T fl) (h:∀ h',Kp [] [T] s.heap h'->XAt h' e C dx T .none->Q () { s with heap:=h' }):wpAny M A (setFlight (.ref e) none) Q E s:=by
 obtain ⟨ne,⟨vs,he,h1⟩,o,ts,hT,hd,h3⟩:=x;have z3:=(Array.getElem?_eq_some_iff.mp h3).1;unfold setFlight;refine wpAny_bind (wpAny_field he rfl h1 ?_);rw [if_pos (show (Value.ref T != Value.none)=true from by simp)];refine wpAny_setField hT hd z3 (h _ (Kp.field hT hd _) ⟨ne,⟨vs,(Heap.get?_update_other _ _ ne).trans he,h1⟩,_,_,Heap.get?_update_self _ hT (Obj.isFreed_of_fields (Obj.data_mapFields hd _)),Obj.data_mapFields hd _,by simp [z3]⟩)
end
end L2
end
section
namespace My
open PySem PySem.W PySem.Calls PyProof.Rows PySem.Spec Builtin.ObjectAttr
section
variable {prog:Program} {w:World} {A:Around} {E:Value->Shared->Prop} {s:Shared} {K:Frag} {x C D t:Addr} {cd:ClassData} {name:Str} {v:Value}
theorem Uu {Q:Unit->Shared->Prop} (X:K.In s.heap) (hx:s.heap.get? x=some (Q8 C t))
  (hs:findIn K (.ref C) "__setattr__" = some (some (.builtin "object.__setattr__"))) (hc:clsIn K C=some cd) (hm:cd.mro=.ref C :: .ref D::vB) (hd:cd.hasDict=true)
  (ho:mroIn K C (.type "object")=some true) (ha:findIn K (.ref C) name=some none)
  (h:∀ h',(∀ b o,b≠x->s.heap.get? b=some o->h'.get? b=some o)->h'.get? x=some (Us C t s.heap.objs.size)->h'.get? s.heap.objs.size=some (dictOf [⟨PyData.keyHash w.params name,.str name (s.toks+1),v⟩] 1)->Q () { s with heap:=h',toks:=s.toks+2 }) :
  wpAny (model prog w) A (setAttr (.ref x) name v) Q E s:=by
 have I:InstAt s.heap x (Q8 C t) C none:=⟨hx,rfl,rfl,trivial⟩;refine set_plain X I hs ?_;have SF:=PySem.F.store_object;have sub:Looks (model prog w) s.heap (isInstance (.ref x) (.type "object")) true:=I.type.andThen (looks_mroIn X ho);refine codeAny_call_builtin SF.slot.plain SF.entry (@check_slot (model prog w) _ _ _ "object.__setattr__" "object" "__setattr__" (.ref x) [.str name s.toks,v] [] _ SF.kind SF.split sub (SF.args (.ref x) (.str name s.toks) v) ?_);have ff:Looks (model prog w) s.heap (mroOf (.ref C)) cd.mro:=(looks_clsIn X hc).andThen .now;rw [osa_eq,refuse_eq];refine wpAny_bind (wpAny_bind (I.type _ _ _ _ (fun _ _ e=>e) (wpAny_bind (ff _ _ _ _ (fun _ _ e=>e) ?_))));rw [hm,refuseLoop_ref,refuseLoop_ref,a4b];refine wpAny_pure (wpAny_bind (I.type _ _ _ _ (fun _ _ e=>e) (wpAny_bind (looks_findIn X ha _ _ _ _ (fun _ _ e=>e) (wpAny_bind (wpAny_pure ?_))))));dsimp only;refine wpAny_bind (wpAny_pure (wpAny_bind (wpAny_bind (wpAny_loadPart hx (wpAny_bind (looks_clsIn X hc _ _ _ _ (fun _ _ e=>e) ?_))))));rw [hd];show wpAny _ _ (alloc { cls:=.type "dict",data:=.dict #[] } >>= fun dx=>update x (fun o=>{ o with dict:=some dx }) >>= fun _=>dictMade (.ref C) x dx) _ _ _;have lx:x<s.heap.objs.size:=Heap.lt_size hx;have g1:=Heap.get?_push_of_some (h:=s.heap) (dictOf [] 0) hx;have g2:((s.heap.push (dictOf [] 0)).update x (fun o=>{ o with dict:=some s.heap.objs.size })).get? x=some (Us C t s.heap.objs.size):=Heap.get?_update_self _ g1 rfl;have g3:((s.heap.push (dictOf [] 0)).update x (fun o=>{ o with dict:=some s.heap.objs.size })).get? s.heap.objs.size=some (dictOf [] 0):=(Heap.get?_update_other _ _ (Nat.ne_of_lt lx)).trans (Heap.get?_push_size _ rfl);refine wpAny_bind (wpAny_alloc (wpAny_bind (wpAny_update g1 ?_)));refine wpAny_pure (a:=some s.heap.objs.size) (wpAny_bind (wpAny_pure (wpAny_bind ?_)));unfold nsSet;refine wpAny_bind (wpAny_bind (wpAny_askSetting (wpAny_pure (wpAny_bind (wpAny_mkText (wpAny_bind (wpAny_loadPart g3 ?_)))))));have c:aRefKeyMayBeTheName name [].toArray=false:=by rw [aRefKeyMayBeTheName_at]; simp
 show wpAny _ _ (if aRefKeyMayBeTheName name [].toArray=true then _ else _) _ _ _;rw [c];refine wpAny_updatePart g3 ?_;have g4:=Heap.get?_update_self (Obj.putName name (PyData.keyHash w.params name) (.str name (s.toks+1)) v) g3 (by rw [putName_dict]; rfl);refine wpAny_bind (wpAny_lookBehind g4 (pastItsLine_dict (by rw [List.size_toArray,sizeLine_eq]; show 1<=_; decide)) ?_);refine wpAny_pure (h _ (fun b o nb q=>?_) ?_ ?_)
 ·have l:=Heap.lt_size q;rw [Heap.get?_update_other _ _ (Nat.ne_of_gt l),Heap.get?_update_other _ _ (Ne.symm nb)];exact Heap.get?_push_of_some _ q
 ·rw [Heap.get?_update_other _ _ (Nat.ne_of_gt lx)]; exact g2
 ·exact g4
end
end My
end
section
namespace L2
open PySem PySem.Spec PyProof.Rows
structure XC (K:PySem.W.Frag) (C D fI:Addr) (f:Str):Prop where
 lk:∃ nm q Na bs sn sub ab col dd k0 k1 k2 k3 k5,K.lookup C=some (excClassObj nm q C Na bs (.ref D::My.vB) true sn sub ab col dd k0 k1 k2 k3 k5 "ValueError.__new__")
 base:PySem.W.excIn K D My.vB "ValueError.__new__" = true
 init:PySem.W.findIn K (.ref C) "__init__" = some (some (.ref fI))
 fn:PySem.W.isFn K (.ref fI)=true
 sa:PySem.W.findIn K (.ref C) "__setattr__" = some (some (.builtin "object.__setattr__"))
 ob:PySem.W.mroIn K C (.type "object")=some true
 na:PySem.W.findIn K (.ref C) f=some none
 kp:PySem.W.keepIn K (.ref C)=true
def a2k (e C t:Addr):HO:=.ext fun h=>h.get? e=some (My.Q8 C t)
def Rh (e C t dx:Addr):HO:=.ext fun h=>h.get? e=some (My.Us C t dx)
noncomputable def xg (dx:Addr) (f:Str) (v:V):HO:=.ext fun h=>∃ hs tk u,RelV v u/\h.get? dx=some (PySem.W.dictOf [⟨hs,.str f tk,u⟩] 1)
theorem Wk {P:Program} {w:World} {H:Hp} {h:Heap} {a:Addr} {o:Obj} (e:h.get? a=some o):mz P w H h a (.ext fun h=>h.get? a=some o):=⟨e,⟨_,e⟩,fun _ _ q k=>k _ q⟩
theorem Ul {P:Program} {w:World} {H:Hp} {h:Heap} {dx:Addr} {f:Str} {v:V} {hs:Int} {tk:Tok} {u:Value} (r:RelV v u) (e:h.get? dx=some (PySem.W.dictOf [⟨hs,.str f tk,u⟩] 1)):mz P w H h dx (xg dx f v) :=
 ⟨⟨hs,tk,u,r,e⟩,⟨_,e⟩,fun _ _ ⟨a,b,c,r,q⟩ k=>⟨a,b,c,r,k _ q⟩⟩
section
variable {X:Cx} {pins:List (Addr × Obj)} {σ:St} {H:Hp} {s:Shared} {e C D fI t:Addr} {f:Str} {v:V} {u:Value} {A:Around} {E:Value->Shared->Prop}
theorem Inv.a1r {h':Heap} {dx:Addr} {o p:HO} {t':Nat} (I:Inv X pins σ H s) (he:Mut (H e)) (hz:s.heap.objs.size<=dx) (k:∀ b u,b≠e->s.heap.get? b=some u->h'.get? b=some u) (fv:∃ u,h'.get? e=some u)
  (n1:∀ H',mz X.prog X.w H' h' e o) (n2:∀ H',mz X.prog X.w H' h' dx p):Inv X pins σ (upd (upd H dx p) e o) { s with heap:=h',toks:=t' }:=by
 have ef:H dx=none:=I.hok.fresh hz;have ne:dx≠e:=fun z=>by subst z; rw [ef] at he; exact he
 have nb:∀ b,H b=none->b≠e:=fun b n z=>by subst z; rw [n] at he; exact he
 have ns:∀ b u,s.heap.get? b=some u->b≠dx:=fun b u q z=>by subst z; exact absurd (Nat.lt_of_lt_of_le (Heap.lt_size q) hz) (Nat.lt_irrefl _)
 have nm:∀ b u,H b=some u->¬ Mut (some u)->b≠e/\b≠dx:=fun b u q n=>⟨fun z=>by subst z; rw [q] at he; exact n he,fun z=>by subst z; rw [ef] at q; cases q⟩;have up:∀ b,b≠e->b≠dx->upd (upd H dx p) e o b=H b:=fun b n m=>by rw [dj n,dj m]
 refine I.un (t':=t') ⟨fun b u q n _ _=>k b u (nb b n) q,fun b u q n _ _=>⟨u.slots,k b u (nb b n) q⟩,fun b u q n _=>by rw [up b (nb b n) (ns b u q)]; exact n,fun b u q _=>?_,
  fun b xs q=>?_,fun b u xs q=>?_,fun b ps q=>⟨#[],?_⟩⟩ fun b u q=>?_
 ·by_cases z:b=e
  ·subst z; exact fv
  ·exact ⟨u,k b u z q⟩
 ·obtain ⟨a,c⟩:=nm b _ q fun z=>z;rw [up b a c]; exact q
 ·obtain ⟨a,c⟩:=nm b _ q fun z=>z;rw [up b a c]; exact q
 ·obtain ⟨a,c⟩:=nm b _ q fun z=>z;rw [up b a c,q]; simp
 ·by_cases z:b=e
  ·subst z; rw [bw] at q; cases q; exact n1 _
  ·rw [dj z] at q
   by_cases y:b=dx
   ·subst y; rw [bw] at q; cases q; exact n2 _
   ·rw [dj y] at q;refine (I.hok b u q).stay (fun c w hc r=>k c w ?_ r) (fun c r=>?_) fun c xs r=>?_
    ·rcases hc with hc | hc
     ·rw [hc]; exact z
     ·exact (nm c _ hc fun z=>z).1
    ·obtain ⟨a,d⟩:=nm c _ r fun z=>z;rw [up c a d]; exact r
    ·obtain ⟨a,d⟩:=nm c _ r fun z=>z;rw [up c a d]; exact r
theorem T3 {Q:Unit->Shared->Prop} (c:XC X.K C D fI f) (I:Inv X pins σ H s) (e0:H e=some (a2k e C t)) (r:RelV v u)
  (h:∀ s' dx,H dx=none->dx≠e->Inv X pins σ (upd (upd H dx (xg dx f v)) e (Rh e C t dx)) s'->Q () s'):wpAny (model X.prog X.w) A (setAttr (.ref e) f u) Q E s:=by
 obtain ⟨nm,q,Na,bs,sn,sub,ab,col,dd,k0,k1,k2,k3,k5,lk⟩:=c.lk;have hx:s.heap.get? e=some (My.Q8 C t):=(I.hok e _ e0).1;refine My.Uu (cd:={ name:=nm,bases:=bs,mro:=.ref C :: .ref D::My.vB,ns:=Na,qualname:=q,hasDict:=true,slotNames:=sn,subclasses:=sub,abstract:=ab,collection:=col,hasDel:=false }) I.kIn hx c.sa (by unfold PySem.W.clsIn; rw [lk]) rfl rfl c.ob c.na fun h' k g1 g2=>h _ s.heap.objs.size (I.hok.fresh (Nat.le_refl _)) (Nat.ne_of_gt (Heap.lt_size hx)) ?_;exact I.a1r (by rw [e0]; exact True.intro) (Nat.le_refl _) k ⟨_,g1⟩ (fun _=>Wk g1) fun _=>Ul r g2
end
noncomputable def a4h (C:Addr) (f:Str) (ta tv:TE):TS:=fun D σ H=>tv σ H fun v H1=>ta σ H1 fun x H2=>∃ e t,x=.ref e/\H2 e=some (a2k e C t)/\∀ dx,H2 dx=none->dx≠e->D.nx σ (upd (upd H2 dx (xg dx f v)) e (Rh e C t dx))
noncomputable def Gn (C:Addr) (f:Str):Sp:=fun vs H Q _=>∃ e t v,vs=[.ref e,v]/\H e=some (a2k e C t)/\∀ dx,H dx=none->dx≠e->Q .non (upd (upd H dx (xg dx f v)) e (Rh e C t dx))
section
variable {X:Cx} {o value:Expr} {ta tv:TE} {f:Str} {pos pos':Pos} {C D fI:Addr}
theorem Xf (c:XC X.K C D fI f) (ha:PE X o ta) (hv:PE X value tv) (hs:swapsWith value (some (.Attribute o f pos')) pos.line X.env=pure false):PS X (.Assign [.Attribute o f pos'] value pos) (a4h C f ta tv):=by
 intro pins s σ H D I h;refine plainObj_wpAny_Assign_Attribute (thn (hv pins s σ H _ I h) fun u s1 ⟨y,H1,I1,ry,q⟩=>thn (ha pins s1 σ H1 _ I1 q) fun ov s2 ⟨x,H2,I2,rx,e,t,ex,e0,q2⟩=>?_) hs;subst ex;obtain rfl:ov=Value.ref e:=rx;exact T3 c I2 e0 ry fun s3 dx h1 h2 I3=>⟨σ,_,I3,q2 dx h1 h2⟩
end
section
variable {P:Program} {w:World} {K:PySem.W.Frag} {mg:Str->Option Value} {base:Heap}
theorem Z9 {qual p f:Str} {st:Stmt} {C D fI:Addr} {fd:FuncData} {q1 q2 q3 q4:Pos} (c:XC K C D fI f) (F:Fun K "__init__" qual st fI fd) (S:rm ["self",p] ["self",p] (fj st))
  (hb:nj st=[.Assign [.Attribute (.Name "self" q1) f q2] (.Name p q3) q4]) (h1:(fj st).names.lookup ("self" : Str)=some .local) (h2:(fj st).names.lookup p=some .local) (hp:("self" : Str)≠p) (hd:(p==("__debug__" : Str))=false) (bq:(p==("__classdict__" : Str))=false)
  (cQ:∀ env:Env,swapsWith (.Name p q3) (some (.Attribute (.Name "self" q1) f q2)) q4.line env=pure false) :
  ur P w K mg base CX0 1 fI fd ["self",p] (Gn C f):=by
 refine F.ok S (fun vs H Q E ⟨e,t,v,h,_⟩=>by rw [h]; rfl) fun aB A outer s H vs Q E hr ⟨e,t,v,h,h0,h3⟩=>?_;subst h;rw [hb];refine ⟨_,Ja (Xf (C:=C) (D:=D) (fI:=fI) c (R7 (i:=0) rfl (.inl h1)) (R7 (i:=1) rfl (.inl h2) hd bq) (cQ _)),?_⟩;exact ⟨v,rfl,.ref e,rfl,e,t,rfl,h0,h3⟩
end
section
variable {X:Cx} {pins:List (Addr × Obj)} {σ:St} {H:Hp} {s:Shared} {C D fI:Addr} {f p:Str} {v:V} {u:Value} {E:Value->Shared->Prop} {fd:FuncData}
theorem Xx {Q:Value->Shared->Prop} (c:XC X.K C D fI f) (F:ur X.prog X.w X.K X.mg X.base CX0 1 fI fd ["self",p] (Gn C f)) (hr:uf 2 X.A) (hb:Binds X.K fd ["self",p] []) (I:Inv X pins σ H s) (r:RelV v u)
  (h:∀ s' e t dx,H e=none->H dx=none->dx≠e->s.heap.objs.size<=e->Inv X pins σ (upd (upd H dx (xg dx f v)) e (Rh e C t dx)) s'->Q (.ref e) s'):wpAny (model X.prog X.w) X.A (call (.ref C) [u]) Q E s:=by
 obtain ⟨nm,q,Na,bs,sn,sub,ab,col,dd,k0,k1,k2,k3,k5,lk⟩:=c.lk;have hC:=I.kIn _ _ lk;have f1:=tc_lookup;have f2:=tc_bind (.ref C);have I1:Inv X pins σ H { s with heap:=s.heap.push (My.Wz [u]) }:=I.kept (t':=s.toks) fun b o z=>Heap.get?_push_of_some _ z;have z1:(s.heap.push (My.Wz [u])).objs.size=s.heap.objs.size+1:=Heap.size_push ..
 have g1:((s.heap.push (My.Wz [u])).push (My.Q8 C s.heap.objs.size)).get? (s.heap.objs.size+1)=some (My.Q8 C s.heap.objs.size):=by
  rw [<- z1]; exact Heap.get?_push_size _ rfl
 have I2:Inv X pins σ (upd H (s.heap.objs.size+1) (a2k (s.heap.objs.size+1) C s.heap.objs.size)) { s with heap:=(s.heap.push (My.Wz [u])).push (My.Q8 C s.heap.objs.size) } :=
  I1.laid (t':=s.toks) (fun b o z=>Heap.get?_push_of_some _ z) (by show (s.heap.push (My.Wz [u])).objs.size<=_; rw [z1]; exact Nat.le_refl _) (Wk g1)
 have hE:H (s.heap.objs.size+1)=none:=I.hok.fresh (Nat.le_succ _);have r2:Vals [V.ref (s.heap.objs.size+1),v] [Value.ref (s.heap.objs.size+1),u]:=.cons rfl (.cons r .nil);obtain ⟨hh,g,d,tk,os⟩:=s;have hT:(⟨hh,g,d,tk,os⟩:Shared).TypeIs (.ref C) "type" := ⟨_,hC,rfl⟩;refine wpAny_call (codeAny_of_tree ?_);show wpAny _ _ (callAny (.ref C) _) _ _ _
 repeat (any_goals (first | assumption | with_reducible refine wpAny_loadPart_at hC ?_ | wp_step)) -- here
 refine ⟨rfl,?_⟩
 refine codeAny_call_builtin_at (Code.quiet_builtin _ (by decide +kernel)) entry_typeCall (wpAny_check_type_call_sub hC (My.Dp I.kIn hC (My.a4s I.kIn c.base) c.init (beq_iff_eq.mp c.fn) (wpAny_call (codeAny_mono
  (F.run _ X.stack _ _ ⟨[Value.ref (hh.objs.size+1),u],[]⟩ [Value.ref (hh.objs.size+1),u] _ (fun w H'=>w=.non/\∃ dx,H dx=none/\dx≠hh.objs.size+1/\H'=upd (upd H dx (xg dx f v)) (hh.objs.size+1) (Rh (hh.objs.size+1) C hh.objs.size dx)) (fun _ _ _=>False) (hr.make C [u] []) (I2.env0.make C [u] [])
   (hb _ [Value.ref (hh.objs.size+1),u] I2.kIn rfl) r2 ⟨_,_,v,rfl,bw,fun dx h1 h2=>⟨rfl,dx,by rw [dj h2] at h1; exact h1,h2,?_⟩⟩) fun r s' hq=>?_)) (by show 1<=sizeLine; rw [sizeLine_eq]; decide)))
 ·funext b
  by_cases e1:b=hh.objs.size+1
  ·subst e1; rw [bw,bw]
  ·rw [dj e1,dj e1]
   by_cases e2:b=dx
   ·subst e2; rw [bw,bw]
   ·rw [dj e2,dj e2,dj e1]
 ·cases r with
  | error e=>exact False.elim hq
  | ok fl =>
   cases fl with
   | ret u' =>
    obtain ⟨v',H',I3,rv,⟨ev,dx,h1,h2,e3⟩⟩:=I2.after hq;subst ev;subst e3;exact ⟨rv,h s' _ _ dx hE h1 h2 (Nat.le_succ _) I3⟩
   | next=>exact False.elim hq
   | brk=>exact False.elim hq
   | cont=>exact False.elim hq
end
noncomputable def CXx (P:Program) (w:World):CXT:=fun outer H s E e s'=>∃ a C dx T H',e=.ref a/\s.heap.objs.size<=a/\s.heap.objs.size<=T/\XAt s'.heap a C dx T .none/\H' a=none/\H' T=none /\
 s'.os=s.os/\AllBare s'.gens/\Un (frs outer) [] H H' s.heap s'.heap/\HOk P w H' s'.heap/\E (.ref C) (some dx) H'
section
variable {X:Cx} {pins:List (Addr × Obj)} {σ:St} {H:Hp} {s:Shared}
theorem Inv.noted {h':Heap} {ch:List Addr} (I:Inv X pins σ H s) (k:Kp (frs X.stack) ch s.heap h') (hn:∀ b∈ch,H b=none)
  (aQ:∀ b∈ch,(b∈X.ex\/X.s₀.heap.objs.size<=b)/\b≠X.env.locals/\(∀ x c,X.env.cells.lookup x=some c->c≠b)/\∀ p∈X.pn++pins,p.1≠b):Inv X pins σ H { s with heap:=h' }:=by
 refine I.step (g':=s.gens) (d':=s.drawn) (t':=s.toks) (ch:=ch) aQ (fun b o hL hb hc e n=>k.keep b o e (fun z=>(List.mem_cons.mp (I.Ij b z)).elim hL hb) hc) (fun b o _ _ hc e _=>k.slot b o e hc) (fun _ _ _ _ n=>n)
  (fun b o _ e=>k.there b o e) (fun _ _ e=>e) (fun _ _ _ e=>e) (fun b ps e=>⟨#[],by rw [e]; simp⟩) (fun m hm=>?_) (fun b u e=>?_) I.bare
 ·obtain ⟨o,es,ep,ho,r⟩:=hm;obtain ⟨sl,q⟩:=k.slot _ o ho fun z=>(aQ _ z).2.1 rfl;exact ⟨_,es,ep,q,r⟩
 ·have tr:∀ c x,H c=some x->c∉frs X.stack/\c∉ch:=fun c x q=>⟨(fun z=>by rw [I.Iz c z] at q; cases q),(fun z=>by rw [hn c z] at q; cases q)⟩;refine (I.hok b u e).stay (fun c v hc q=>?_) (fun _ q=>q) fun _ _ q=>q;rcases hc with hc | hc
  ·subst hc; exact k.keep c v q (tr c u e).1 (tr c u e).2
  ·exact k.keep c v q (tr c _ hc).1 (tr c _ hc).2
theorem Inv.wk {e:Addr} {o:Obj} {vs:Array Value} (I:Inv X pins σ H s) (he:s.heap.get? e=some o) (hd:o.data=.fields vs):e≠X.env.locals/\(∀ x c,X.env.cells.lookup x=some c->c≠e)/\e∉frs X.stack:=by
 refine ⟨fun z=>?_,fun x c q z=>?_,fun z=>?_⟩
 ·obtain ⟨m,⟨o',es,ep,aY,hd',_⟩,_⟩:=I.loc;rw [<- z,he] at aY; cases aY; rw [hd'] at hd; cases hd
 ·obtain ⟨v,o',aY,hd'⟩:=I.cell x c q;rw [z,he] at aY; cases aY; rw [hd'] at hd; cases hd
 ·obtain ⟨_,o',aY,hnf⟩:=I.stack.mem z;rw [he] at aY; cases aY; exact hnf vs hd
end
section
variable {P:Program} {w:World} {K:PySem.W.Frag} {mg:Str->Option Value} {base:Heap} {N:List Str} {qual:Str} {scope:Scope} {f:Addr} {cd:Value} {A:Around} {outer:List Env} {s₀ s:Shared} {H₀ H:Hp} {E:XK} {pins:List (Addr × Obj)} {σ:St} {e C dx:Addr} {vs:Array Value}
theorem Ux (I:Inv (Hl (CXx P w) P w K mg base N qual scope f cd A outer s₀ H₀ E) pins σ H s) (he:s.heap.get? e=some (U8 C dx vs)) (h1:vs[1]? = some .none) (hn:H e=none) (hz:s₀.heap.objs.size<=e) (hE:E (.ref C) (some dx) H) :
  (Hl (CXx P w) P w K mg base N qual scope f cd A outer s₀ H₀ E).xe (.ref e) s:=by
 have I0:=I.xq (pins':=[]) (fun p hp=>nomatch hp);have ne:=I0.wk he rfl;show wpAny _ _ (leaving _ _) _ _ _;unfold leaving;refine wpAny_bind (Nv (L:=s₀.heap.objs.size) (base:=base) I0.ok.frames I0.stack rfl he h1 ne.2.2 fun h' T hT k x=>?_)
 have I1:=I0.noted k (fun b hb=>by rw [List.mem_singleton.mp hb]; exact hn) fun b hb=>by
  obtain rfl:=List.mem_singleton.mp hb;exact ⟨.inr hz,ne.1,ne.2.1,fun p hp=>nomatch hp⟩
 have eK:H T=none:=I0.hok.fresh hT;obtain ⟨oT,tsT,gT,dT,_⟩:=x.tb;have neT:=I1.wk (s:={ s with heap:=h' }) gT dT;have sz:s₀.heap.objs.size<=T:=Nat.le_trans I0.sz hT;refine vh (s:={ s with heap:=h' }) x fun h2 k2 x2=>?_
 have I2:=I1.noted (h':=h2) (k2.mono (fun _ z=>nomatch z) (fun _ z=>z)) (fun b hb=>by rw [List.mem_singleton.mp hb]; exact eK) fun b hb=>by
  obtain rfl:=List.mem_singleton.mp hb;exact ⟨.inr sz,neT.1,neT.2.1,fun p hp=>nomatch hp⟩
 exact ⟨e,C,dx,T,H,rfl,hz,sz,x2,hn,eK,I2.os,I2.bare,I2.base,I2.hok,hE⟩
end
section
variable {X:Cx} {pins:List (Addr × Obj)} {σ:St} {H:Hp} {s:Shared} {e:Addr}
theorem Inv.Yr {φ:Heap->Prop} (I:Inv X pins σ (upd H e (.ext φ)) s) (hn:H e=none):Inv X pins σ H s:=by
 have ne:∀ b u,upd H e (.ext φ) b=some u->(∀ ψ,u≠.ext ψ)->b≠e/\H b=some u:=fun b u q n=>by
  by_cases z:b=e
  ·subst z; rw [bw] at q; cases q; exact absurd rfl (n _)
  ·rw [dj z] at q; exact ⟨z,q⟩
 have fr:∀ b,upd H e (.ext φ) b=none->H b=none:=fun b q=>by
  by_cases z:b=e
  ·subst z; exact hn
  ·rw [dj z] at q; exact q
 refine I.step (g':=s.gens) (d':=s.drawn) (t':=s.toks) (h':=s.heap) (ch:=[]) (fun _ z=>nomatch z) (fun b o _ _ _ q _=>q) (fun b o _ _ _ q _=>⟨o.slots,q⟩) (fun b o _ _ n=>fr b n) (fun b o _ q=>⟨o,q⟩)
  (fun b xs q=>(ne b _ q (fun _=>by intro z; cases z)).2) (fun b o u q=>(ne b _ q (fun _=>by intro z; cases z)).2) (fun b ps q=>⟨#[],by rw [(ne b _ q (fun _=>by intro z; cases z)).2]; simp⟩) (fun _ hm=>hm) (fun b u q=>?_) I.bare
 have z:b≠e:=fun z=>by subst z; rw [hn] at q; cases q
 refine (I.hok b u (by rw [dj z]; exact q)).stay (fun _ _ _ r=>r) (fun c r=>(ne c _ r (fun _=>by intro z; cases z)).2) fun c xs r=>(ne c _ r (fun _=>by intro z; cases z)).2
end
def XW (X:Cx) (E:XK):Prop:=∀ (pins:List (Addr × Obj)) (σ:St) (H:Hp) (s:Shared) (e C dx:Addr) (vs:Array Value),Inv X pins σ H s->s.heap.get? e=some (U8 C dx vs)->vs[1]? = some .none->H e=none->X.s₀.heap.objs.size<=e->E (.ref C) (some dx) H->X.xe (.ref e) s
theorem a1b {P:Program} {w:World} {K:PySem.W.Frag} {mg:Str->Option Value} {base:Heap} {N:List Str} {qual:Str} {scope:Scope} {f:Addr} {cd:Value} {A:Around} {outer:List Env} {s₀:Shared} {H₀:Hp} {E:XK} :
  XW (Hl (CXx P w) P w K mg base N qual scope f cd A outer s₀ H₀ E) E:=fun _ _ _ _ _ _ _ _ I he h1 hn hz hE=>Ux I he h1 hn hz hE
section
variable {M:Model} {A:Around} {E:Value->Shared->Prop} {env:Env}
variable {nm q:Str} {C N:Addr} {bs bm:List Value} {hdct:Bool} {sn:List Str} {sub:List Value} {ab:Bool} {col:Option Bool} {dd:Option Addr} {k0 k1 k2 k3 k5:Option Value} {newId:String}
theorem Tr {s:Shared} {x:Sem Value} {Q:Flow->Shared->Prop} (aN:bm.contains (.type "BaseException")=true) (hh:A.handled=none)
  (h:wpAny M A x (fun v s1=>∃ e dx vs,v=.ref e/\s1.heap.get? C=some (excClassObj nm q C N bs bm hdct sn sub ab col dd k0 k1 k2 k3 k5 newId)/\s1.heap.get? e=some (U8 C dx vs)/\vs[1]? = some .none/\E (.ref e) s1) E s) :
  wpAny M A (raiseStmt env (some x) none) Q E s:=by
 have fU:(Value.ref C::bm).contains (.type "BaseException")=true:=by rw [List.contains_cons,aN,Bool.or_true]
 unfold raiseStmt;refine wpAny_bind (wpAny_mono h (fun v s1 h1=>?_) fun _ _ x=>x);obtain ⟨e,dx,vs,rfl,hC,he,hv,hE⟩:=h1;obtain ⟨hp,g,d,tk,os⟩:=s1
 repeat (first | with_reducible refine wpAny_loadPart_at he ?_ | with_reducible refine wpAny_loadPart_at hC ?_ | (with_reducible refine wpAny_isSubtype_exc hC ?_; rw [fU]) | wp_step)
 rw [hv];exact wpAny_pure (wpAny_pure (wpAny_raiseNew_none hh hE))
end
noncomputable def sRz (C:Addr) (f:Str) (E:XK) (te:TE):TS:=fun _ σ H=>te σ H fun v H1=>∀ dx,H1 dx=none->E (.ref C) (some dx) (upd H1 dx (xg dx f v))
section
variable {X:Cx} {E:XK} {C D fI:Addr} {f p x:Str} {fd:FuncData} {arg:Expr} {te:TE} {np aw pos:Pos}
theorem W3 (W:XW X E) (c:XC X.K C D fI f) (F:ur X.prog X.w X.K X.mg X.base CX0 1 fI fd ["self",p] (Gn C f)) (hr:uf 2 X.A) (hb:Binds X.K fd ["self",p] []) (hg:Gl X x) (hm:X.mg x=some (.ref C)) (ha:PE X arg te)
  (aW:(x==("__debug__" : Str))=false:=by decide) (he:starEach [arg] X.env=[(false,eval arg X.env)]:=by rfl) :
  PS X (.Raise (some (.Call (.Name x np) [arg] [] aw)) none pos) (sRz C f E te):=by
 intro pins s σ H Dn I h;obtain ⟨nm,q,Na,bs,sn,sub,ab,col,dd,k0,k1,k2,k3,k5,lk⟩:=c.lk;rw [arm_exec_Raise];refine wpAny_bind (wpAny_standAt ?_);show wpAny _ _ (raiseStmt X.env (some (eval (.Call (.Name x np) [arg] [] aw) X.env >>= fun v=>standAt pos >>= fun _=>pure v)) none) _ _ _;refine Tr (C:=C) (nm:=nm) (q:=q) (N:=Na) (bs:=bs) (bm:=.ref D::My.vB) (hdct:=true) (sn:=sn) (sub:=sub) (ab:=ab) (col:=col) (dd:=dd) (k0:=k0) (k1:=k1) (k2:=k2) (k3:=k3) (k5:=k5) (newId := "ValueError.__new__") (by simp) hr.hd ?_;refine wpAny_bind (wpAny_mono (Q:=fun v s1=>∃ e dx vs,v=.ref e/\s1.heap.get? C=some (excClassObj nm q C Na bs (.ref D::My.vB) true sn sub ab col dd k0 k1 k2 k3 k5 "ValueError.__new__")/\s1.heap.get? e=some (U8 C dx vs)/\vs[1]? = some .none/\X.xe (.ref e) s1) ?_ (fun v s1 h1=>wpAny_bind (wpAny_standAt (wpAny_pure h1))) fun _ _ z=>z);refine wpAny_Call_Name_kw (G9 I hg hm ?_ aW);refine PySem.W.callWith_K (h₀:=X.base) I.ok.mod.kin c.kp (thn (jc ha lg (by rw [he]; rfl) aw pins s σ H (fun vs H1=>match vs with | [v]=>∀ dx,H1 dx=none->E (.ref C) (some dx) (upd H1 dx (xg dx f v)) | _=>False) I h) fun us s1 ⟨vs,H1,I1,r,q⟩=>⟨I1.kIn,?_⟩) he rfl
 obtain ⟨v,ev,hE⟩:∃ v,vs=[v]/\∀ dx,H1 dx=none->E (.ref C) (some dx) (upd H1 dx (xg dx f v)):=by
  match vs,q with
  | [v],q=>exact ⟨v,rfl,q⟩
 subst ev;obtain ⟨u,eu,rv⟩:=r.one;subst eu
 exact Xx c F hr hb I1 rv fun s' e t dx h1 h2 h3 h4 I2=>by
  have e0:upd H1 dx (xg dx f v) e=none:=by rw [dj (Ne.symm h3)]; exact h1
  have b9:s'.heap.get? e=some (My.Us C t dx):=(I2.hok e _ bw).1;have I3:=I2.Yr e0;exact ⟨e,dx,_,rfl,I3.kIn _ _ lk,b9,rfl,W pins σ _ s' e C dx _ I3 b9 rfl e0 (Nat.le_trans I1.sz h4) (hE dx h2)⟩
end
def Off (X:Cx) (pins:List (Addr × Obj)) (b:Addr):Prop:=(b∈X.ex\/X.s₀.heap.objs.size<=b)/\b≠X.env.locals/\(∀ x c,X.env.cells.lookup x=some c->c≠b)/\∀ p∈X.pn++pins,p.1≠b
section
variable {X:Cx} {pins:List (Addr × Obj)} {σ:St} {H:Hp} {s:Shared}
theorem Inv.off {b:Addr} (I:Inv X pins σ H s) (h:s.heap.objs.size<=b):Off X pins b:=by
 refine ⟨.inr (Nat.le_trans I.sz h),fun z=>?_,fun x c q z=>?_,fun p hp z=>?_⟩
 ·subst z; exact absurd (Nat.lt_of_lt_of_le I.lt h) (Nat.lt_irrefl _)
 ·obtain ⟨v,o,ho,_⟩:=I.cell x c q;subst z; exact absurd (Nat.lt_of_lt_of_le (Heap.lt_size ho) h) (Nat.lt_irrefl _)
 ·have:=(I.pin p hp).1;rw [z] at this;exact absurd (Nat.lt_of_lt_of_le (Heap.lt_size this) h) (Nat.lt_irrefl _)
def XP (X:Cx) (CX:CXT) (pins:List (Addr × Obj)) (σ:St) (E:XK) (e:Value) (s':Shared):Prop:=∃ H1 s1,Inv X pins σ H1 s1/\CX X.stack H1 s1 E e s'
structure Lies (X:Cx) (pins:List (Addr × Obj)) (σ:St) (H:Hp) (s:Shared) (a C dx T:Addr):Prop where
 inv:Inv X pins σ H s
 at_:XAt s.heap a C dx T .none
 ha:H a=none
 hT:H T=none
 oa:Off X pins a
 oT:Off X pins T
theorem XP.lies {E:XK} {e:Value} (h:XP X (CXx X.prog X.w) pins σ E e s):∃ a C dx T H',e=.ref a/\Lies X pins σ H' s a C dx T/\E (.ref C) (some dx) H':=by
 obtain ⟨H1,s1,I,a,C,dx,T,H',rfl,za,zT,x,na,nT,os,ba,un,hok,hE⟩:=h;exact ⟨a,C,dx,T,H',rfl,⟨I.call' (ch:=[]) os un hok ba (fun b z=>nomatch z),x,na,nT,I.off za,I.off zT⟩,hE⟩
end
section
variable {X:Cx} {CX:CXT} {k:Nat} {f:Addr} {fd:FuncData} {ps:List Str} {sp:Sp} {x:Str} {p pos:Pos} {e:Expr} {es:List Expr} {t:TA}
end
section
variable {X:Cx} {pins:List (Addr × Obj)} {σ:St} {H:Hp} {s:Shared} {a:Addr}
end
def XCl (K:PySem.W.Frag) (C:Addr) (bm:List Value):Prop:=bm.contains (.type "BaseException")=true/\∃ nm q Na bs hdct sn sub ab col dd k0 k1 k2 k3 k5,K.lookup C=some (excClassObj nm q C Na bs bm hdct sn sub ab col dd k0 k1 k2 k3 k5 "ValueError.__new__")
section
variable {M:Model} {A:Around} {E:Value->Shared->Prop} {K:PySem.W.Frag} {C C1 C2 C3:Addr} {bm eR e9 fP:List Value} {Q:Bool->Shared->Prop}
end
section
variable {X:Cx} {pins:List (Addr × Obj)} {σ:St} {H:Hp} {s:Shared} {a C dx T:Addr}
end
section
variable {X:Cx} {rest:List ExceptHandler} {C C1 C2 C3:Addr} {bm eR e9 fP:List Value} {t:Addr->TS} {x1 x2 x3:Str} {p1 p2 p3 pt pos:Pos} {nm:Option Str} {body:List Stmt} {ec:Nat}
end
section
variable {X:Cx} {pins:List (Addr × Obj)} {σ:St} {H:Hp} {s:Shared} {a C dx T:Addr}
theorem Lies.note {A:Around} {E:Value->Shared->Prop} {Q:Unit->Shared->Prop} (hst:X.stack=X.env::X.outer) (hfr:X.env.frame=some X.env.locals) (hA:A.frames=some X.stack) (L:Lies X pins σ H s a C dx T) (h:∀ s' T',Lies X pins σ H s' a C dx T'->Q () s') :
  wpAny (model X.prog X.w) A (noteFrame (.ref a) X.env) (fun _ s2=>wpAny (model X.prog X.w) A (setFlight (.ref a) none) Q E s2) E s:=by
 obtain ⟨ne,⟨vs,ga,v1⟩,o,ts,gT,dT,t3⟩:=id L.at_;have n1:=L.inv.wk ga rfl;have n2:=L.inv.wk gT dT;have fr:=L.inv.stack;rw [hst] at hA n1 n2 fr;refine Hj (L:=X.env.locals) (base:=X.base) hA fr hfr L.at_ n1.2.2 n2.2.2 fun h' T' bL k x=>?_;rw [<- hst] at k
 have I1:=L.inv.noted k (fun b hb=>by
  rcases List.mem_cons.mp hb with rfl | hb -- here
  ·exact L.ha
  ·rw [List.mem_singleton.mp hb]; exact L.hT) (fun b hb=>by
  rcases List.mem_cons.mp hb with rfl | hb -- here
  ·exact L.oa
  ·rw [List.mem_singleton.mp hb]; exact L.oT)
 refine vh (s:={ s with heap:=h' }) x fun h2 k2 x2=>h _ T' ⟨I1.noted (h':=h2) (k2.mono (fun _ z=>nomatch z) (fun _ z=>z)) (fun b hb=>by rw [List.mem_singleton.mp hb]; exact L.inv.hok.fresh bL) (fun b hb=>by rw [List.mem_singleton.mp hb]; exact L.inv.off bL),x2,L.ha,L.inv.hok.fresh bL,L.oa,L.inv.off bL⟩
end
section
variable {X:Cx} {rest:List ExceptHandler} {C C1:Addr} {bm eR:List Value} {t:Addr->TS} {x1 n:Str} {p1 pos:Pos} {fk:Stmt} {eO:List Stmt} {ts:TS} {i:Nat}
end
abbrev TB:=Ends->XK->St->Hp->Prop
section
variable {X:Cx} {body:List Stmt} {h₀:ExceptHandler} {hs:List ExceptHandler} {C:Addr} {tb:TB} {th:Addr->TS} {pos:Pos}
end
end L2
end
section
namespace C
open PySem PySem.Spec PyProof.Rows L2
def a5x (K:PySem.W.Frag) (B:Bas) (Cl:Addr) (f:Str) (E:XK) (D:Ends) (ps:List (V × T)):Flow ⊕ T->Sta->Prop
 | .inl fl,aa=>Fin K B D ps fl aa
 | .inr t,aa=>∀ v dx af H' S' ai,Rel K B aa af H' ((v,t)::ps) S' ai->S' dx=some (xg dx f v)->E (.ref Cl) (some dx) H'
noncomputable def Dr (K:PySem.W.Frag) (B:Bas) (Cl:Addr) (f:Str) (E:XK) (s:SX):TS:=fun D σ H=>∃ st ps S as,Rel K B st σ H ps S as/\∃ fl aa,s st=some (fl,aa)/\a5x K B Cl f E D ps fl aa
theorem Ext.beside {S H:Hp} {p:Addr} (h:Same S H) (n:H p=none) (o:HO):Ext S H S (upd H p o) :=
 ⟨Same.refl _,Same.upd n o,fun b u q=>by rw [dj (ju (h _ _ q) n)]; exact h _ _ q,fun _ q=>.inl q⟩
section
variable {K:PySem.W.Frag} {B:Bas} {st:Sta} {σ af:L2.St} {H S:Hp} {ps:List (V × T)} {as:List Addr}
end
section
variable {X:Cx} {B:Bas} {c:Expr} {pos:Pos} {u v:SX} {Cl:Addr} {f:Str} {E:XK}
theorem m8 {st:Stmt} {w:S} (h:PS X st (sOf X.K B w)):PS X st (Dr X.K B Cl f E (lx w)):=h.imp fun D σ H z9=>by
 obtain ⟨st,ps,S,as,R,fl,aa,e,q⟩:=z9;unfold lx at e;cases z:w st with
 | none=>rw [z] at e; cases e
 | some p=>obtain ⟨cy,s'⟩:=p; rw [z] at e; cases e; exact ⟨st,ps,S,as,R,cy,_,z,q⟩
theorem qx {st:List Stmt} {w:S} (h:PSs X st (sOf X.K B w)):PSs X st (Dr X.K B Cl f E (lx w)):=fun pins s σ H D I z9=>by
 obtain ⟨st,ps,S,as,R,fl,aa,e,q⟩:=z9;unfold lx at e;cases z:w st with
 | none=>rw [z] at e; cases e
 | some p=>obtain ⟨cy,s'⟩:=p; rw [z] at e; cases e; exact h pins s σ H D I ⟨st,ps,S,as,R,cy,_,z,q⟩
theorem m7 {st:Stmt} (h1:PS X st (Dr X.K B Cl f E u)):PSs X [st] (Dr X.K B Cl f E u):=Ja h1
theorem Vx {st aa:Sta} {fl:Flow ⊕ T} (h:a3t u v st=some (fl,aa)):(∃ s1,u st=some (.inl .next,s1)/\v s1=some (fl,aa))\/(u st=some (fl,aa)/\fl≠.inl .next):=by
 unfold a3t at h;split at h
 ·rename_i s1 e; exact .inl ⟨s1,e,h⟩
 ·rename_i r hn;refine .inr ⟨h,fun z=>?_⟩;subst z;exact hn _ h
theorem gb {st:Stmt} {rest:List Stmt} (h1:PS X st (Dr X.K B Cl f E u)) (h2:PSs X rest (Dr X.K B Cl f E v)):PSs X (st::rest) (Dr X.K B Cl f E (a3t u v)):=(Kr h1 h2).imp fun D σ H z9=>by
 obtain ⟨st,ps,S,as,R,fl,aa,e,q⟩:=z9;rcases Vx e with ⟨s1,e1,e2⟩ | ⟨e1,hn⟩
 ·exact ⟨st,ps,S,as,R,.inl .next,s1,e1,fun af H' S' ai R'=>⟨s1,ps,S',ai,R',fl,aa,e2,q⟩⟩
 ·refine ⟨st,ps,S,as,R,fl,aa,e1,?_⟩;cases fl with
  | inr t=>exact q
  | inl fl =>
   cases fl with
   | next=>exact absurd rfl hn
   | ret t=>exact q
   | brk=>exact q
   | cont=>exact q
theorem Hi {c1:M Bool} {sa sb:List Stmt} (hc:PT X c (cOf X.K B c1)) (ha:PSs X sa (Dr X.K B Cl f E u)) (hb:PSs X sb (Dr X.K B Cl f E v)):PS X (.If c sa sb pos) (Dr X.K B Cl f E (xIf c1 u v)):=(a1x hc ha hb).imp fun D σ H z9=>by
 obtain ⟨st,ps,S,as,R,fl,aa,e,q⟩:=z9;unfold xIf at e;split at e
 ·rename_i s1 e1;exact ⟨st,ps,S,as,R,true,s1,e1,fun H1 S1 ae R1=>S7 ⟨s1,ps,S1,ae,R1,fl,aa,e,q⟩⟩
 ·rename_i s1 e1;exact ⟨st,ps,S,as,R,false,s1,e1,fun H1 S1 ae R1=>Qg ⟨s1,ps,S1,ae,R1,fl,aa,e,q⟩⟩
 ·cases e
theorem Uw {D fI:Addr} {p x:Str} {fd:FuncData} {arg:Expr} {m:M T} {np aw:Pos} (W:XW X E) (c:XC X.K Cl D fI f) (F:ur X.prog X.w X.K X.mg X.base CX0 1 fI fd ["self",p] (Gn Cl f)) (hr:uf 2 X.A) (hb:Binds X.K fd ["self",p] []) (hg:Gl X x) (hm:X.mg x=some (.ref Cl)) (ha:PE X arg (tOf X.K B m))
  (aW:(x==("__debug__" : Str))=false:=by decide) (he:starEach [arg] X.env=[(false,eval arg X.env)]:=by rfl) :
  PS X (.Raise (some (.Call (.Name x np) [arg] [] aw)) none pos) (Dr X.K B Cl f E (Tn m)):=(W3 W c F hr hb hg hm ha aW he).imp fun D σ H z9=>by
 obtain ⟨st,ps,S,as,R,fl,aa,e,q⟩:=z9;unfold Tn at e;split at e
 ·rename_i t s1 e1;cases e;exact ⟨st,ps,S,as,R,t,_,e1,fun v H1 S1 ae R1 dx hn=>q v dx σ _ _ ae (R1.ext (Ext.laid R1.sub hn _)) bw⟩
 ·cases e
end
def a6n (K:PySem.W.Frag) (B:Bas) (Cl:Addr) (f:Str) (aD:List SO) (Q:VK) (E:XK):T ⊕ T->Prop
 | .inl t=>∀ v H' S' ai,a1a B S' ai H'->Same S' H'->Ac K S' ai H' aD->Rep K S' ai v t->Q v H'
 | .inr t=>∀ v dx H' S' ai,a1a B S' ai H'->Same S' H'->Ac K S' ai H' aD->Rep K S' ai v t->S' dx=some (xg dx f v)->E (.ref Cl) (some dx) H'
noncomputable def spX (K:PySem.W.Frag) (ar:Nat) (Cl:Addr) (f:Str) (F:FnX):Sp:=fun vs H Q E=>∃ S as sto ts r aD,Same S H/\Ac K S as H sto/\jz K S as vs ts/\ts.length=ar/\F ts sto=some (r,aD)/\a6n K ⟨S,as,H⟩ Cl f aD Q E r
section
variable {P:Program} {w:World} {K:PySem.W.Frag} {mg:Str->Option Value} {base:Heap}
theorem M6 {x qual:Str} {st:Stmt} {a Cl:Addr} {f:Str} {fd:FuncData} {N ps:List Str} {k:Nat} {b:SX} (F:Fun K x qual st a fd) (Sc:rm N ps (fj st)) (hN:ps.length<=N.length)
  (hb:∀ (aB:Value) (A:Around) (outer:List Env) (s:Shared) (H:Hp) (E:XK) (B:Bas),uf k (A.deeper (envOfC qual (fj st) s.heap.objs.size a aB)) ->
   PSs (Hl (CXx P w) P w K mg base N qual (fj st) a aB A outer s H E) (nj st) (Dr K B Cl f E b)):ur P w K mg base (CXx P w) (k+1) a fd ps (spX K ps.length Cl f (Kw N.length b)):=by
 obtain ⟨oc,od,kV,doc,pm,an,aB,ct,bF,rfl,lk,bq⟩:=F.ex;refine Zw lk bq Sc (fun vs H Q E ⟨S,as,sto,ts,t,aD,h1,h2,h3,h4,_⟩=>by rw [h3.length,h4]) fun A outer s H vs Q E hr h=>?_;obtain ⟨S,as,sto,ts,r,aD,h1,h2,h3,h4,h5,q⟩:=h;refine ⟨_,hb aB A outer s H E ⟨S,as,H⟩ hr,?_⟩;have R:Rel K ⟨S,as,H⟩ ⟨ts.map (fun t=>some (t,false))++List.replicate (N.length - ts.length) none,sto⟩ (L2.start N vs) H [] S as:=Ig h1 h2 h3 (by rw [h4]; exact hN);unfold Kw at h5;split at h5
 ·rename_i t' s' e;cases h5;exact ⟨_,[],S,as,R,.inl (.ret _),s',e,fun v af H' S' ai R'=>q v H' S' ai R'.grow R'.sub R'.sto R'.top⟩
 ·rename_i s' e;cases h5;exact ⟨_,[],S,as,R,.inl .next,s',e,fun af H' S' ai R'=>q .non H' S' ai R'.grow R'.sub R'.sto .non⟩
 ·rename_i t' s' e;cases h5;exact ⟨_,[],S,as,R,.inr _,s',e,fun v dx af H' S' ai R' hd=>q v dx H' S' ai R'.grow R'.sub R'.sto R'.top hd⟩
 ·cases h5
theorem Yj {a Cl:Addr} {f:Str} {fd:FuncData} {ps:List Str} {k:Nat} {F:FnX} (G:ur P w K mg base (CXx P w) k a fd ps (spX K ps.length Cl f F)):ur P w K mg base CX0 k a fd ps (spF K ps.length (norm F)):=by
 refine ⟨fun vs H Q E ⟨S,as,sto,ts,t,aD,h1,h2,h3,h4,_⟩=>by rw [h3.length,h4],fun A outer s H args us vs Q E hr he hb hv h=>?_⟩;obtain ⟨S,as,sto,ts,t,aD,h1,h2,h3,h4,h5,q⟩:=h;unfold norm at h5;split at h5
 ·rename_i t1 s1 e;cases h5;refine codeAny_mono (G.run A outer s H args us vs Q (fun _ _ _=>False) hr he hb hv ⟨S,as,sto,ts,.inl _,_,h1,h2,h3,h4,e,q⟩) fun r s' hq=>?_;cases r with
  | ok fl=>cases fl <;> exact hq
  | error e =>
   obtain ⟨_,_,_,_,_,_,_,_,_,_,_,_,_,_,_,z⟩:=hq;exact z
 ·cases h5
end
section
variable {X:Cx} {B:Bas} {e:Expr} {es:List Expr} {ms:M (List T)} {pos p q1 q2 aM:Pos} {k:Nat} {a Cl:Addr} {f x:Str} {fd:FuncData} {pn:List Str} {F:FnX} {h₀:ExceptHandler} {hs:List ExceptHandler} {th:Addr->TS} {i j:Nat} {hv:T->Option T}
end
end C
end
section
namespace L2
open PySem PySem.Spec PyProof.Rows
structure XG (K:PySem.W.Frag) (C:Addr) (f:Str):Prop where
 ga:PySem.W.findIn K (.ref C) "__getattribute__" = some (some (.builtin "BaseException.__getattribute__"))
 gt:PySem.W.findIn K (.ref C) "__getattr__" = some none
 bx:PySem.W.mroIn K C (.type "BaseException")=some true
 dc:PySem.W.hasDictIn K C=true
 na:PySem.W.findIn K (.ref C) f=some none
 cl:PySem.W.findIn K (.ref C) "__class__" = some (some (.builtin "object.__class__"))
 cg:PySem.W.specialIn K (.builtin "object.__class__") "__get__" = some (some (.builtin "getset_descriptor.__get__"))
 ct:PySem.W.takesIn K (.builtin "object.__class__")=some true
 ob:PySem.W.mroIn K C (.type "object")=some true
 ve:PySem.W.kitOne K (.ref C) (.type "ValueError")=some true
section
variable {X:Cx} {e:Expr} {C:Addr} {f:Str} {i:Nat} {pos p:Pos}
end
end L2
namespace C
open PySem PySem.Spec PyProof.Rows L2
section
variable {K:PySem.W.Frag} {B:Bas} {f:Str} {i j:Nat} {hv:T->Option T} {th:Addr->TS} {Cl:Addr} {te:TE}
end
structure XR (P:Program) (w:World) (K:PySem.W.Frag) (mg:Str->Option Value) (base:Heap) (x:Str) (Cl:Addr) (f p:Str):Prop where
 ex:∃ D fI fd,XC K Cl D fI f/\ur P w K mg base CX0 1 fI fd ["self",p] (Gn Cl f)/\Binds K fd ["self",p] []
 m:mg x=some (.ref Cl)
def qj (P:Program) (w:World) (K:PySem.W.Frag) (mg:Str->Option Value) (base:Heap) (x:Str) (n:Nat) (ps:List Str) (Cl:Addr) (f:Str) (F:FnX):Prop :=
 ∃ (a:Addr) (fd:FuncData),ur P w K mg base (CXx P w) n a fd ps (spX K ps.length Cl f F)/\Binds K fd ps []/\PySem.W.keepIn K (.ref a)=true/\mg x=some (.ref a)
theorem qj.norm {P:Program} {w:World} {K:PySem.W.Frag} {mg:Str->Option Value} {base:Heap} {x:Str} {n:Nat} {ps:List Str} {Cl:Addr} {f:Str} {F:FnX} (D:qj P w K mg base x n ps Cl f F):jw P w K mg base x n ps (C.norm F) :=
 let ⟨a,fd,h1,h2,h3,h4⟩:=D; ⟨a,fd,Yj h1,h2,h3,h4⟩
def a6f (K:PySem.W.Frag) (mg:Str->Option Value) (x:Str) (Cl:Addr) (bm:List Value):Prop:=XCl K Cl bm/\mg x=some (.ref Cl)
section
variable {X:Cx} {B:Bas} {e:Expr} {es:List Expr} {ms:M (List T)} {pos p q1 q2 aM:Pos} {k:Nat} {Cl:Addr} {f x:Str} {pn:List Str} {F:FnX} {h₀:ExceptHandler} {hs:List ExceptHandler} {th:Addr->TS} {i j:Nat} {hv:T->Option T}
theorem Gi {E:XK} {pr:Str} {arg:Expr} {m:M T} {np aw:Pos} (R:XR X.prog X.w X.K X.mg X.base x Cl f pr) (W:XW X E) (hr:uf 2 X.A) (hg:Gl X x) (ha:PE X arg (tOf X.K B m))
  (aW:(x==("__debug__" : Str))=false:=by decide) (he:starEach [arg] X.env=[(false,eval arg X.env)]:=by rfl) :
  PS X (.Raise (some (.Call (.Name x np) [arg] [] aw)) none pos) (Dr X.K B Cl f E (Tn m)):=by
 obtain ⟨⟨D,fI,fd,h1,h2,h3⟩,m⟩:=R;exact Uw W h1 h2 hr h3 hg m ha aW he
end
end C
end
section
namespace C
open PySem
noncomputable def wg:Nat->M Bool->SX->SX
 | 0,_,_=>fun _=>none
 | n+1,c,b=>fun s=>match c s with
  | some (false,s1)=>some (.inl .next,s1)
  | some (true,s1)=>match b s1 with
   | some (.inl .next,s2)=>wg n c b s2
   | some (.inl .cont,s2)=>wg n c b s2
   | some (.inl .brk,s2)=>some (.inl .next,s2)
   | some (.inl (.ret v),s2)=>some (.inl (.ret v),s2)
   | some (.inr v,s2)=>some (.inr v,s2)
   | none=>none
  | none=>none
end C
end
section
namespace L2
open PySem PySem.Spec PyProof.Rows
section
variable {P:Program} {w:World} {K:PySem.W.Frag} {mg:Str->Option Value} {base:Heap} {N:List Str} {qual:Str} {scope:Scope} {f:Addr} {cd:Value} {A:Around} {outer:List Env} {s₀:Shared} {H₀:Hp} {E:XK}
theorem jk:Passes (CXx P w) (Hl (CXx P w) P w K mg base N qual scope f cd A outer s₀ H₀ E) E:=by
 intro pins σ H s e s' I h;have I0:=I.xq (pins':=[]) (fun p hp=>nomatch hp);obtain ⟨a,C,dx,T,H',rfl,L,hE⟩:=XP.lies (X:=Hl (CXx P w) P w K mg base N qual scope f cd A outer s₀ H₀ E) ⟨H,s,I0,h⟩;show wpAny _ _ (leaving _ _) _ _ _;unfold leaving;refine wpAny_bind (L.note rfl rfl L.inv.ok.frames fun s2 T' L2=>?_);have za:s₀.heap.objs.size<=a:=L2.oa.1.elim (fun z=>nomatch z) id;have zT:s₀.heap.objs.size<=T':=L2.oT.1.elim (fun z=>nomatch z) id;exact ⟨a,C,dx,T',H',rfl,za,zT,L2.at_,L2.ha,L2.hT,L2.inv.os,L2.inv.bare,L2.inv.base,L2.inv.hok,hE⟩
end
end L2
namespace C
open PySem PySem.Spec PyProof.Rows L2
section
variable {X:Cx} {B:Bas} {c e:Expr} {es:List Expr} {ms:M (List T)} {pos p q1 aM:Pos} {u:SX} {Cl a:Addr} {f x y:Str} {E:XK} {fd:FuncData} {pn:List Str} {F:FnX} {k i:Nat}
theorem Mz {n:Nat} {mc:M Bool} {b:SX} {s s':Sta} {fl:Flow ⊕ T} (h:wg (n+1) mc b s=some (fl,s')):(∃ s1,mc s=some (false,s1)/\fl=.inl .next/\s'=s1) \/
  ∃ s1 fb s2,mc s=some (true,s1)/\b s1=some (fb,s2)/\(match fb with | .inl .next=>wg n mc b s2=some (fl,s') | .inl .cont=>wg n mc b s2=some (fl,s') | .inl .brk=>fl=.inl .next/\s'=s2 | .inl (.ret v)=>fl=.inl (.ret v)/\s'=s2 | .inr v=>fl=.inr v/\s'=s2):=by
 rw [wg] at h;dsimp only at h;split at h
 ·rename_i s1 e1; cases h; exact .inl ⟨_,e1,rfl,rfl⟩
 ·rename_i s1 e1;split at h
  ·rename_i s2 e2; exact .inr ⟨s1,.inl .next,s2,e1,e2,h⟩
  ·rename_i s2 e2; exact .inr ⟨s1,.inl .cont,s2,e1,e2,h⟩
  ·rename_i s2 e2; cases h; exact .inr ⟨s1,.inl .brk,_,e1,e2,rfl,rfl⟩
  ·rename_i v s2 e2; cases h; exact .inr ⟨s1,.inl (.ret v),_,e1,e2,rfl,rfl⟩
  ·rename_i v s2 e2; cases h; exact .inr ⟨s1,.inr v,_,e1,e2,rfl,rfl⟩
  ·cases h
 ·cases h
theorem Mv (n:Nat) {mc:M Bool} {body:List Stmt} (hp:PassesOwn (model X.prog X.w) X.A X.env X.xe) (hc:PT X c (cOf X.K B mc)) (hb:PSs X body (Dr X.K B Cl f E u)):PS X (.While c body [] pos) (Dr X.K B Cl f E (wg n mc u)):=(Ml hp hc hb).imp fun D σ H z9=>by
 obtain ⟨st,ps,S,as,R,fl,aa,e,q⟩:=z9;refine ⟨fun k σ H=>∃ aF Si aE,Rel X.K B aF σ H ps Si aE/\wg k mc u aF=some (fl,aa),⟨n,st,S,as,R,e⟩,?_⟩;rintro k bt H2 ⟨aF,Si,aE,Ri,ei⟩;cases k with
 | zero=>rw [wg] at ei; cases ei
 | succ k =>
  rcases Mz ei with ⟨s1,e1,rfl,rfl⟩ | ⟨s1,fb,s2,e1,e2,er⟩
  ·exact ⟨aF,ps,Si,aE,Ri,false,_,e1,fun H3 S3 aJ R3=>Qg (q bt H3 S3 aJ R3)⟩
  ·refine ⟨aF,ps,Si,aE,Ri,true,s1,e1,fun H3 S3 aJ R3=>S7 ⟨fun af H'=>∃ aF Si aE,Rel X.K B aF af H' ps Si aE/\wg k mc u aF=some (fl,aa),fun af H' h=>⟨k,Nat.lt_succ_self _,h⟩,s1,ps,S3,aJ,R3,fb,s2,e2,?_⟩⟩;cases fb with
   | inr v =>
    obtain ⟨rfl,rfl⟩:=er;exact fun w dx af H' S' ai R' hd=>q w dx af H' S' ai R' hd
   | inl fb =>
    cases fb with
    | next=>exact fun af H' S' ai R'=>⟨s2,S',ai,R',er⟩
    | cont=>exact fun af H' S' ai R'=>⟨s2,S',ai,R',er⟩
    | brk =>
     obtain ⟨rfl,rfl⟩:=er;exact fun af H' S' ai R'=>q af H' S' ai R'
    | ret v =>
     obtain ⟨rfl,rfl⟩:=er;exact fun v af H' S' ai R'=>q v af H' S' ai R'
end
end C
end
section
namespace L2
open PySem PySem.Spec PyProof.Rows
section
variable {X:Cx} {pins:List (Addr × Obj)} {σ:St} {H:Hp} {s:Shared} {e:Addr}
end
section
variable {X:Cx} {C D fI:Addr} {f p x:Str} {fd:FuncData} {arg:Expr} {te:TE} {np aw pos:Pos}
end
section
variable {X:Cx} {e:Expr} {C:Addr} {f:Str} {te:TE} {pos p:Pos}
end
end L2
namespace C
open PySem PySem.Spec PyProof.Rows L2
section
variable {X:Cx} {B:Bas} {Cl D fI:Addr} {f p x:Str} {fd:FuncData} {arg:Expr} {m:M T} {np aw pos:Pos}
end
section
variable {K:PySem.W.Frag} {B:Bas} {f:Str} {i j:Nat} {th:Addr->TS} {Cl:Addr}
end
section
variable {X:Cx} {B:Bas} {e:Expr} {es:List Expr} {ms:M (List T)} {pos p q1 q2 aM:Pos} {k:Nat} {a Cl:Addr} {f x:Str} {fd:FuncData} {pn:List Str} {F:FnX} {h₀:ExceptHandler} {hs:List ExceptHandler} {th:Addr->TS} {i j:Nat}
end
end C
end
section
namespace C
open PySem
noncomputable def J8 (i:Nat) (m:M T):M T:=fun s=>if vo i s then (match m s with
 | some (.lst ys,s1)=>match s1.env[i]? with
  | some (some (.lst xs,_))=>if xs.length+ys.length<lim then some (.lst (xs++ys),s1) else none
  | _=>none
 | _=>none) else none
noncomputable def Sw (i:Nat) (lo hi:M (Option Int)):M T:=fun s=>if vo i s then (match lo s with
 | some (l,s1)=>match hi s1 with
  | some (h,s2)=>match s2.env[i]? with
   | some (some (.lst xs,_))=>some (.lst (X7 xs l h),s2)
   | _=>none
  | none=>none
 | none=>none) else none
noncomputable def a02:T->T->Option T
 | .str sep,.lst ts=>match Ti ts with
  | some l=>if (l.map (·.length)).sum+l.length * sep.length<lim then some (.str (Str.join sep l)) else none
  | none=>none
 | _,_=>none
end C
end
section
namespace C
open PySem PySem.W PyProof.Rows
def a2l (lo hi:Option Int):T->Option T
 | .tup xs=>some (.tup (X7 xs lo hi))
 | _=>none
noncomputable def Jw (m:M T) (lo hi:M (Option Int)):M T:=fun s=>match m s with
 | some (t,s1)=>match lo s1 with
  | some (l,s2)=>match hi s2 with
   | some (h,s3)=>match a2l l h t with
    | some u=>some (u,s3)
    | none=>none
   | none=>none
  | none=>none
 | none=>none
end C
end
section
namespace C
open PySem
end C
end
section
namespace C
open PySem PySem.Spec PyProof.Rows L2
section
variable {K:PySem.W.Frag} {S S':Hp} {as:List Addr}
end
section
variable {X:Cx} {scope:Scope} {N:List Str} {B:Bas} {nv:Nat} {az:List Nat} {g:G} {c:M Bool} {e:M T} {tg iter elt:Expr} {ifs:List Expr} {pos:Pos} {i:Nat}
end
section
end
section
variable {K:PySem.W.Frag} {B:Bas} {st:Sta} {σ:L2.St} {H S:Hp} {ps:List (V × T)} {as:List Addr}
end
section
variable {X:Cx} {B:Bas} {a b c e o k d:Expr} {m mo mk md mv:M T} {pos p:Pos}
end
section
variable {K:PySem.W.Frag} {S:Hp} {as:List Addr}
end
section
variable {X:Cx} {B:Bas} {a b e:Expr} {m m2:M T} {pos p1:Pos} {es:List Expr} {ms:M (List T)}
theorem Rel.base {K:PySem.W.Frag} {B:Bas} {st:Sta} {σ:L2.St} {H S:Hp} {ps:List (V × T)} {as:List Addr} (r:Rel K B st σ H ps S as):Rel K ⟨S,as,B.H⟩ st σ H ps S as :=
 ⟨r.sub,⟨Same.refl _,nol,fun p o h1 h2 h3=>by
  change S p=none at h2
  have b2:B.S p=none:=by
   cases q:B.S p with
   | none=>rfl
   | some u=>have:=r.grow.same _ _ q; rw [h2] at this; cases this
  have b3:p∉B.as:=fun q=>by obtain ⟨l,e⟩:=r.grow.more; exact h3 (by show p∈as; rw [e]; exact List.mem_append_left _ q)
  exact ⟨(r.grow.keep p o h1 b2 b3).1,h2,h3⟩⟩,fun i t f e=>by
   obtain ⟨v,h1,h2,h3⟩:=r.slots i t f e;exact ⟨v,h1,h2,fun q=>by obtain ⟨p,ep,o⟩:=h3 q; exact ⟨p,ep,o.own,o.out,o.nas,o.new⟩⟩,r.apart,r.sto,r.pend,r.len⟩
end
end C
end
section
namespace C
open PySem L2
section
variable {K:PySem.W.Frag} {S S':Hp} {as:List Addr}
end
section
variable {X:Cx} {B:Bas} {e:Expr}
end
section
variable {X:Cx} {B:Bas} {e:Expr}
end
end C
end
section
namespace C
open PySem PySem.Spec PyProof.Rows L2
section
variable {X:Cx} {B:Bas} {a b c e o k d:Expr} {m mo mk md mv:M T} {pos p:Pos}
end
section
variable {X:Cx} {B:Bas} {m gh gf:M T}
end
section
variable {K:PySem.W.Frag} {S:Hp} {as:List Addr}
end
section
variable {X:Cx} {pins:List (Addr × Obj)} {σ:L2.St} {H:Hp} {s:Shared} {a b:Addr} {u:Value} {v:V} {A:Around} {E:Value->Shared->Prop}
end
section
variable {X:Cx} {B:Bas} {o k e:Expr} {es:List Expr} {mo mk mv:M T} {ms:M (List T)} {td ty:TE} {i:Expr} {pos pos' p2:Pos} {j:Nat}
end
section
variable {X:Cx} {B:Bas} {a b c e:Expr} {m:M T} {pos p:Pos} {u v:S}
end
end C
end
section
namespace HT
open PySem PyProof.Rows
section
variable {prog:Program} {w:World} {A:Around} {E:Value->Shared->Prop} {s:Shared}
theorem yc {t sl:Addr} {items:Array Value} {vl vu:Value} {lo hi:Option Int} {Q:Value->Shared->Prop} (ht:IsTup s.heap t items) (hs:s.heap.IsSliceOf sl vl vu .none) (pl:IsPart vl lo) (pu:IsPart vu hi)
  (hw:sIx items.size 0 lo=0/\sIx items.size items.size hi=items.size) (h:Q (.ref t) s):wpAny (model prog w) A (getItem (.ref t) (.ref sl)) Q E s:=by
 obtain ⟨os,b7,hcs,hds⟩:=id hs;have dS:s.TypeIs (.ref sl) "slice" := ⟨os,b7,hcs⟩;unfold getItem
 try with_reducible refine wpAny_holding ?_
 first | refine wpAny_bind (wpAny_pure ?_) | skip
 refine wpAny_bind (wpAny_sequenceKey ht.typeIs (by decide) ?_)
 refine wpAny_bind (wpAny_callSpecial?_slot (name:=Str.ofString "__getitem__") ht.typeIs PyProof.Rows.slot_tuple_getitem
  (wpAny_call_entry PyProof.Rows.slot_tuple_getitem ht.typeIs entry_tuple_getitem ?_ (args_tuple_getitem _ _)))
 show wpAny _ _ (Builtin.Tuple.tupleItemsOf (.ref t) >>= _) _ _ s;refine wpAny_bind (tupleItemsOf_ ht ?_);refine wpAny_bind (wpAny_typeOf dS ?_);rw [if_pos (by decide)];refine wpAny_bind (uq hs pl pu ?_)
 have dX:(((sIx items.size 0 lo:Nat):Int)==0&&(1:Int)==1&&(sIx items.size items.size hi - sIx items.size 0 lo)==items.size)=true:=by
  rw [hw.1,hw.2]; simp
 show wpAny _ _ (if (((sIx items.size 0 lo:Nat):Int)==0&&(1:Int)==1&&(sIx items.size items.size hi - sIx items.size 0 lo)==items.size)=true then _ else _) _ _ s;rw [if_pos dX];refine wpAny_bind (wpAny_bind (wpAny_typeOf ht.typeIs (wpAny_pure ?_)));rw [if_pos (by decide)];exact wpAny_bind (wpAny_rule (wpAny_bind (wpAny_pure (wpAny_pure ⟨_,rfl,wpAny_pure h⟩))))
end
end HT
namespace C
open PySem PySem.Spec PyProof.Rows L2
section
variable {X:Cx} {B:Bas} {a:Expr} {m:M T} {ml mh:M (Option Int)} {lo hi:Option Expr} {pos p2:Pos}
def a6u (K:PySem.W.Frag):V->Option Int->Option Int->Hp->VK->Prop:=fun x lo hi H Q=>∃ a xs,x=.ref a/\SqT K H a xs /\
 (HT.sIx xs.length 0 lo=0/\HT.sIx xs.length xs.length hi=xs.length)/\Q x H
theorem Z5:SlR X (a6u X.K):=by
 intro pins s σ H x v vl vu lo hi sl Q I rx hs pl pu h;obtain ⟨a,xs,rfl,hx,hw,q⟩:=h;cases rx;obtain ⟨its,r,ht,hz⟩:=I.tuple hx;have hlen:its.toArray.size=xs.length:=by rw [List.size_toArray]; exact r.length.symm
 refine ⟨"tuple",_,PyProof.Rows.slot_tuple_getitem.lookup,ht.typeIs,?_⟩;exact HT.yc ht hs pl pu (by rw [hlen]; exact hw) ⟨.ref a,H,I,rfl,q⟩
theorem Ke {s s':Sta} {v:T} (h:Jw m ml mh s=some (v,s')):∃ t s1 l s2 u,m s=some (t,s1)/\ml s1=some (l,s2)/\mh s2=some (u,s')/\a2l l u t=some v:=by
 unfold Jw at h;split at h
 ·rename_i t s1 e1;split at h
  ·rename_i l s2 e2;split at h
   ·rename_i u s3 e3;split at h
    ·rename_i w e4; cases h; exact ⟨t,s1,l,s2,u,e1,e2,e3,e4⟩
    ·cases h
   ·cases h
  ·cases h
 ·cases h
theorem Br (ha:PE X a (tOf X.K B m)) (hl:PO X lo (oOf X.K B ml)) (hh:PO X hi (oOf X.K B mh)):PE X (.Subscript a (.Slice lo hi none p2) pos) (tOf X.K B (Jw m ml mh)) :=
 (Bl (Wv.or Z5) ha hl hh).imp fun σ H Q z9=>by
  obtain ⟨st,ps,S,as,R,t,aa,e,q⟩:=z9;obtain ⟨t1,s1,l,s2,u,e1,e2,e3,e4⟩:=Ke e;refine ⟨st,ps,S,as,R,t1,s1,e1,fun v H1 S1 ae R1=>⟨s1,_,S1,ae,R1,l,s2,e2,fun H2 S2 aA R2=>⟨s2,_,S2,aA,R2,u,aa,e3,fun H3 S3 aJ R3=>?_⟩⟩⟩;have top:=R3.top;cases top with
  | @tup b vs ts g1 g2 =>
   simp only [a2l] at e4;cases e4
   by_cases hw:HT.sIx vs.length 0 l=0/\HT.sIx vs.length vs.length u=vs.length
   ·refine .inr ⟨b,vs,rfl,jf R3.sub g1,hw,?_⟩
    have ec:X7 ts l u=ts:=by
     unfold X7;rw [Kq,Kq,<- g2.length,hw.1,hw.2,List.drop_zero,Nat.sub_zero,g2.length,List.take_length]
    exact q _ _ _ _ (R3.drop.push (by rw [ec]; exact R3.top))
   ·refine .inl ⟨b,vs,rfl,jf R3.sub g1,hw,fun p hp=>?_⟩;have x:=Ext.laid R3.sub hp (.tup (Qa vs l u));exact q _ _ _ _ ((R3.drop.ext x).push (.tup (SqT.of bw) ((Fj g2 l u).mono x.s nol)))
  | _=>simp only [a2l,reduceCtorEq] at e4
end
end C
end
section
namespace C
open PySem PySem.Spec
section
variable {prog:Program} {w:World} {A:Around} {E:Value->Shared->Prop} {s:Shared} {it l:Addr} {xs:Array Value}
end
end C
end
section
namespace C
open PySem PySem.Spec PyProof.Rows L2
section
variable {X:Cx} {B:Bas} {a b e e1 e2:Expr} {m m1 m2:M T} {pos p1 p2 p3 p4:Pos} {lo hi:Option Expr} {ml mh:M (Option Int)}
theorem Jd {i:Nat} {s s':Sta} {t:T} (h:J8 i m s=some (t,s')):vo i s=true/\∃ xs f ys,m s=some (.lst ys,s')/\s'.env[i]? = some (some (.lst xs,f))/\xs.length+ys.length<lim/\t=.lst (xs++ys):=by
 unfold J8 at h;split at h
 ·rename_i hd;refine ⟨hd,?_⟩;split at h
  ·rename_i ys s1 e1;split at h
   ·rename_i xs f e2;split at h
    ·rename_i hl;cases h;exact ⟨xs,f,ys,e1,e2,hl,rfl⟩
    ·cases h
   ·cases h
  ·cases h
 ·cases h
theorem Qd (i:Nat) (hi:PE X a (Ol i)) (hb:PE X b (tOf X.K B m)):PE X (.BinOp a .Add b pos) (fOf X.K B (J8 i m)):=(Xb Pg hi hb).imp fun σ H Q z9=>by
 obtain ⟨st,ps,S,as,R,t,aa,ev,q⟩:=z9;obtain ⟨hd,xs,f,ys,e1,e2,hl,rfl⟩:=Jd ev;obtain ⟨a7,f0,e0⟩:=v9 hd;obtain ⟨p0,vs0,s0,_⟩:=R.listAt e0;refine ⟨_,s0,st,ps,S,as,R,.lst ys,aa,e1,fun u H2 S2 aA R2=>?_⟩;have tp:=R2.top;cases tp with
 | @lst c vs ts g1 g2 =>
  obtain ⟨q1,vs1,s1,rd1,h4⟩:=R2.listAt e2;rw [s0] at s1; cases s1;refine ⟨p0,c,vs1,vs,rfl,rfl,rd1,iz R2.sub g1,?_,fun l eG=>?_⟩
  ·rw [h4.length,g2.length]; exact Nat.le_trans (Nat.le_of_lt hl) j7
  ·obtain ⟨bD,sD,nD,no⟩:=R2.fresh eG;exact q l _ S2 aA (R2.drop.a2e bD sD nD (fun j w e1 e2=>no j w e1 e2)) ⟨⟨vs1++vs,bw,h4.append g2⟩,sD,nD,bD⟩ (fun j w e1 e2=>no j w e1 e2)
theorem Nr {i:Nat} {s s':Sta} {t:T} (h:Sw i ml mh s=some (t,s')):vo i s=true/\∃ l s1 u xs f,ml s=some (l,s1)/\mh s1=some (u,s')/\s'.env[i]? = some (some (.lst xs,f))/\t=.lst (X7 xs l u):=by
 unfold Sw at h;split at h
 ·rename_i hd;refine ⟨hd,?_⟩;split at h
  ·rename_i l s1 e1;split at h
   ·rename_i u s2 e2;split at h
    ·rename_i xs f e3;cases h;exact ⟨l,s1,u,xs,f,e1,e2,e3,rfl⟩
    ·cases h
   ·cases h
  ·cases h
 ·cases h
theorem Ur (i:Nat) (ha:PE X a (Ol i)) (hl:PO X lo (oOf X.K B ml)) (hh:PO X hi (oOf X.K B mh)):PE X (.Subscript a (.Slice lo hi none p2) pos) (tOf X.K B (Sw i ml mh)) :=
 (Bl (Q5.or Wv) ha hl hh).imp fun σ H Q z9=>by
  obtain ⟨st,ps,S,as,R,t,aa,ev,q⟩:=z9;obtain ⟨hd,l,s1,u,xs,f,e1,e2,e3,rfl⟩:=Nr ev;obtain ⟨a7,f0,e0⟩:=v9 hd;obtain ⟨p0,vs0,s0,_⟩:=R.listAt e0;refine ⟨_,s0,st,_,S,as,R,l,s1,e1,fun H2 S2 aA R2=>⟨s1,_,S2,aA,R2,u,aa,e2,fun H3 S3 aJ R3=>?_⟩⟩;obtain ⟨q1,vs1,s1',rd1,h4⟩:=R3.listAt e3;rw [s0] at s1'; cases s1';refine .inl ⟨p0,vs1,rfl,rd1,fun p hp=>?_⟩;have x:=Ext.laid R3.sub hp (.lst (Qa vs1 l u));exact q _ _ _ _ ((R3.ext x).push (.lst (SqL.of bw) ((Fj h4 l u).mono x.s nol)))
end
section
variable {X:Cx} {B:Bas} {a:Expr} {m:M T} {pos p:Pos} {elts:List Expr} {x1:Nat} {aM:Pos}
end
end C
end
section
namespace C
open PySem L2
section
variable {X:Cx} {B:Bas} {a b tg:Expr} {m1 m2:M T} {pos p:Pos}
end
end C
end
section
namespace C
open PySem
noncomputable def Zm (f:Str) (t:T):List (Str × T)->List (Str × T)
 | []=>[(f,t)]
 | (k,x)::r=>if k=f then (k,t)::r else (k,x)::Zm f t r
noncomputable def Te (C:Nat) (n:Nat) (sto:List SO):Option (List (Str × T)):=match sto[n]? with
 | some (.ins D fs)=>if D=C then some fs else none
 | _=>none
noncomputable def a4p (C:Nat) (f:Str) (o:M T):M T:=fun s=>match o s with
 | some (.obj n,s1)=>match Te C n s1.sto with
  | some fs=>match fs.lookup f with
   | some t=>some (t,s1)
   | none=>none
  | none=>none
 | _=>none
noncomputable def J5 (C:Nat) (f:Str) (o v:M T):S:=fun s=>match v s with
 | some (t,s1)=>match o s1 with
  | some (.obj n,s2)=>match Te C n s2.sto with
   | some fs=>if fs.length<100 then some (.next,{ s2 with sto:=s2.sto.set n (.ins C (Zm f t fs)) }) else none
   | none=>none
  | _=>none
 | none=>none
noncomputable def Z8 (C:Nat) (F:Fn) (a:M (List T)):M T:=fun s=>match a s with
 | some (ts,s1)=>match F (.obj s1.sto.length::ts) (s1.sto++[.ins C []]) with
  | some (.non,sto)=>some (.obj s1.sto.length,{ s1 with sto:=sto })
  | _=>none
 | none=>none
noncomputable def Y7 (n:Nat) (g:G) (c:M Bool) (e:M T):Nat->Nat->Sta->List T->Option (List T × Sta)
 | 0,_,_,_=>none
 | k+1,i,s,acc=>match s.sto[n]? with
  | some (.lst xs)=>match xs[i]? with
   | none=>some (acc,s)
   | some t=>match g t s with
    | some s1=>match c s1 with
     | some (true,s2)=>match e s2 with
      | some (u,s3)=>if acc.length<lim then Y7 n g c e k (i+1) (jg s3) (acc++[u]) else none
      | none=>none
     | some (false,s2)=>Y7 n g c e k (i+1) (jg s2) acc
     | none=>none
    | none=>none
  | _=>none
end C
namespace C
open PySem
end C
end
section
namespace C
open PySem PySem.Spec PyProof.Rows L2
theorem zx {Cl n:Nat} {sto:List SO} {fs:List (Str × T)} (h:Te Cl n sto=some fs):sto[n]? = some (.ins Cl fs):=by
 unfold Te at h;split at h
 ·rename_i D cV e
  by_cases z:D=Cl
  ·rw [if_pos z] at h; cases h; rw [<- z]; exact e
  ·rw [if_neg z] at h; cases h
 ·cases h
theorem Vl {Cl:Nat} {f:Str} {o:M T} {s s':Sta} {t:T} (h:a4p Cl f o s=some (t,s')):∃ n fs,o s=some (.obj n,s')/\s'.sto[n]? = some (.ins Cl fs)/\fs.lookup f=some t:=by
 unfold a4p at h;split at h
 ·rename_i n s1 e1;split at h
  ·rename_i fs e2;split at h
   ·rename_i t' e3;cases h; exact ⟨n,fs,e1,zx e2,e3⟩
   ·cases h
  ·cases h
 ·cases h
theorem Jv {Cl:Nat} {f:Str} {o v:M T} {s s':Sta} {fl:Flow} (h:J5 Cl f o v s=some (fl,s')):∃ t s1 n s2 fs,v s=some (t,s1)/\o s1=some (.obj n,s2)/\s2.sto[n]? = some (.ins Cl fs)/\fs.length<100/\fl=.next/\s' = { s2 with sto:=s2.sto.set n (.ins Cl (Zm f t fs)) }:=by
 unfold J5 at h;split at h
 ·rename_i t s1 e1;split at h
  ·rename_i n s2 e2;split at h
   ·rename_i fs e3;obtain ⟨hl,h⟩:=qz h;cases h; exact ⟨t,s1,n,s2,fs,e1,e2,zx e3,hl,rfl,rfl⟩
   ·cases h
  ·cases h
 ·cases h
theorem Rn {Cl:Nat} {F:Fn} {a:M (List T)} {s s':Sta} {t:T} (h:Z8 Cl F a s=some (t,s')):∃ ts s1 sto,a s=some (ts,s1)/\F (.obj s1.sto.length::ts) (s1.sto++[.ins Cl []])=some (.non,sto)/\t=.obj s1.sto.length/\s' = { s1 with sto:=sto }:=by
 unfold Z8 at h;split at h
 ·rename_i ts s1 e1;split at h
  ·rename_i sto e2;cases h; exact ⟨ts,s1,sto,e1,e2,rfl,rfl⟩
  ·cases h
 ·cases h
section
variable {K:PySem.W.Frag} {S:Hp} {as:List Addr}
theorem Lx.get {f:Str} {vs:List (Str × V)} {ts:List (Str × T)} (h:Lx K S as vs ts):(∀ t,ts.lookup f=some t->∃ v,vs.lookup f=some v/\Rep K S as v t)/\(ts.lookup f=none->vs.lookup f=none):=by
 induction h with
 | nil=>exact ⟨fun t z=>(by cases z),fun _=>rfl⟩
 | @cons k v t vs ts r _ ih =>
  rw [List.lookup_cons,List.lookup_cons];cases hk:f==k with
  | true=>exact ⟨fun u z=>(by cases z; exact ⟨v,rfl,r⟩),fun z=>(by cases z)⟩
  | false=>exact ih
theorem Lx.length {vs:List (Str × V)} {ts:List (Str × T)} (h:Lx K S as vs ts):vs.length=ts.length:=by
 induction h with
 | nil=>rfl
 | cons _ _ ih=>exact congrArg (· + 1) ih
theorem Lx.put {f:Str} {v:V} {t:T} (r:Rep K S as v t) {vs:List (Str × V)} {ts:List (Str × T)} (h:Lx K S as vs ts):Lx K S as (Fq f v vs) (Zm f t ts):=by
 induction h with
 | nil=>exact .cons r .nil
 | @cons k v' t' vs ts r' h' ih =>
  rw [show Fq f v ((k,v')::vs)=(if k=f then (k,v)::vs else (k,v')::Fq f v vs) from rfl,show Zm f t ((k,t')::ts)=(if k=f then (k,t)::ts else (k,t')::Zm f t ts) from rfl]
  by_cases hk:k=f
  ·rw [if_pos hk,if_pos hk]; exact .cons r h'
  ·rw [if_neg hk,if_neg hk]; exact .cons r' ih
end
section
variable {X:Cx} {B:Bas} {o e v:Expr} {es:List Expr} {mo mv m1:M T} {ms:M (List T)} {pos p apos:Pos} {Cl:Addr} {f m x:Str} {k:Nat} {g:Addr} {fd:FuncData} {pn:List Str} {F:Fn}
theorem zm (c:Cls X.K Cl) (n:wz X.K Cl f) (ho:PE X o (tOf X.K B mo)) (hb:attributeBase o f X.env (eval o X.env)=eval o X.env:=by rfl):PE X (.Attribute o f pos) (tOf X.K B (a4p Cl f mo)):=(a1c ho hb).imp fun σ H Q z9=>by
 obtain ⟨st,ps,S,as,R,t,aa,e,q⟩:=z9;obtain ⟨k,fs,e1,e2,e3⟩:=Vl e;refine ⟨st,ps,S,as,R,_,aa,e1,fun v H1 S1 ae R1=>?_⟩;have t1:=R1.top;cases t1 with
 | @obj _ a ha =>
  obtain ⟨a',h1,_,dx,vs,h3,h4⟩:=R1.sto.at' k _ e2;rw [ha] at h1; cases h1;obtain ⟨w,hw,rw'⟩:=(h4.get (f:=f)).1 t e3;exact ⟨a,Cl,dx,vs,w,rfl,h3,c,n,hw,q w H1 S1 ae (R1.drop.push rw')⟩
theorem Di {pos':Pos} (c:Cls X.K Cl) (n:wz X.K Cl f) (ho:PE X o (tOf X.K B mo)) (hv:PE X v (tOf X.K B mv)) (hs:swapsWith v (some (.Attribute o f pos')) pos.line X.env=pure false:=by rfl):PS X (.Assign [.Attribute o f pos'] v pos) (sOf X.K B (J5 Cl f mo mv)):=(a06 ho hv hs).imp fun D σ H z9=>by
 obtain ⟨st,ps,S,as,R,fl,aa,e,q⟩:=z9;obtain ⟨t,s1,k,s2,fs,e1,e2,e3,hl,rfl,rfl⟩:=Jv e;refine ⟨st,ps,S,as,R,t,s1,e1,fun v H1 S1 ae R1=>⟨s1,_,S1,ae,R1,_,s2,e2,fun x H2 S2 aA R2=>?_⟩⟩;have t1:=R2.top;cases t1 with
 | @obj _ a ha =>
  obtain ⟨a',h1,_,dx,vs,h3,h4⟩:=R2.sto.at' k _ e3;rw [ha] at h1; cases h1;exact ⟨a,Cl,dx,vs,rfl,h3,c,n,by rw [h4.length]; omega,q _ _ S2 aA (R2.drop.drop.Gk e3 ha ⟨dx,_,bw,h4.put R2.top2⟩)⟩
structure Y4 (P:Program) (w:World) (K:PySem.W.Frag) (mg:Str->Option Value) (base:Heap) (Cl:Addr) (m:Str) (k:Nat) (ps:List Str) (F:Fn):Prop where
 ex:∃ g fd,Meth K Cl m g/\ur P w K mg base CX0 k g fd ps (spF K ps.length F)/\Binds K fd ps []
 c:Cls K Cl
theorem Y4.mono {P:Program} {w:World} {K:PySem.W.Frag} {mg:Str->Option Value} {base:Heap} {Cl:Addr} {m:Str} {j k:Nat} {ps:List Str} {F:Fn} (h:Y4 P w K mg base Cl m j ps F) (l:j<=k):Y4 P w K mg base Cl m k ps F:=by
 obtain ⟨⟨g,fd,a,b,d⟩,c⟩:=h;exact ⟨⟨g,fd,a,b.mono l,d⟩,c⟩
structure a1w (P:Program) (w:World) (K:PySem.W.Frag) (mg:Str->Option Value) (base:Heap) (x:Str) (Cl:Addr) (k:Nat) (ps:List Str) (F:Fn):Prop where
 ex:∃ g fd,Mk K Cl g/\ur P w K mg base CX0 k g fd ps (spF K ps.length F)/\Binds K fd ps []
 m:mg x=some (.ref Cl)
theorem a1w.mono {P:Program} {w:World} {K:PySem.W.Frag} {mg:Str->Option Value} {base:Heap} {x:Str} {Cl:Addr} {j k:Nat} {ps:List Str} {F:Fn} (h:a1w P w K mg base x Cl j ps F) (l:j<=k):a1w P w K mg base x Cl k ps F:=by
 obtain ⟨⟨g,fd,a,b,d⟩,c⟩:=h;exact ⟨⟨g,fd,a,b.mono l,d⟩,c⟩
theorem Zh (h:a1w X.prog X.w X.K X.mg X.base x Cl k pn F) (hr:uf (k+1) X.A) (hg:Gl X x) (ha:PA X (e::es) (aOf X.K B ms)) (hl:∀ st ts aa,ms st=some (ts,aa)->ts.length+1=pn.length) (aW:(x==("__debug__" : Str))=false:=by decide)
  (he:starEach (e::es) X.env=(false,eval e X.env)::starEach es X.env:=by rfl) (aL:(backTo pos (starEach es X.env)).any (·.1)=false:=by rfl) :
  PE X (.Call (.Name x p) (e::es) [] pos) (tOf X.K B (Z8 Cl F ms)):=by
 obtain ⟨⟨g,fd,hM,G,hb⟩,hm⟩:=h;refine (Y8 hM G hr hg hm hb .nil a0w ha aW he aL).imp fun σ H Q z0=>?_;obtain ⟨st,ps,S,as,R,t,aa,e,q⟩:=z0;obtain ⟨ts,s1,sto,e1,e2,rfl,rfl⟩:=Rn e;refine ⟨st,ps,S,as,R,ts,s1,e1,fun us H1 S1 ae R1 rs y dx hy hd ne=>?_⟩;have R2:=R1.ext (Ext.beside R1.sub hd (.own y));have eW:upd H1 dx (.own y) y=none:=by rw [dj (Ne.symm ne)]; exact hy
 have R3:=R2.newObj (ob:=.ins Cl dx []) (so:=.ins Cl []) eW ⟨dx,[],bw,.nil⟩;show spF X.K pn.length F (.ref y::(us++[])) _ _ E0;rw [List.append_nil];refine ⟨S1,ae++[y],s1.sto++[.ins Cl []],.obj s1.sto.length::ts,.non,sto,R3.sub,R3.sto,.cons R3.top (rs.mono (Same.refl _) ⟨[y],rfl⟩),hl _ _ _ e1,e2,fun v H3 S3 aJ g sub so r=>?_⟩;cases r;exact ⟨rfl,q _ H3 S3 aJ (R3.call g sub so)⟩
end
section
variable {X:Cx} {B:Bas} {tg iter:Expr} {mo:M T} {g:G} {u:S} {body:List Stmt} {pos:Pos}
end
section
variable {X:Cx} {scope:Scope} {N:List Str}
inductive CIO (K:PySem.W.Frag) (B:Bas) (n:Nat) (g:G) (c:M Bool) (e:M T) (us:List T) (env:List Slot) (s2:Sta) (σ:L2.St) (pp:List (V × T)) (D:Addr) (i m:Nat) (af:L2.St) (H':Hp):Prop where
 | mk (aF:Sta) (Si:Hp) (aE:List Addr) (acc:List T) (aG:List V) (Ri:Rel K ⟨Si,aE,H'⟩ aF af H' [] Si aE) (no:Kh aF) (Ro:Rel K B ⟨env,aF.sto⟩ σ H' pp Si aE) (hD:H' D=some (.lst aG)) (sD:Si D=none) (nD:D∉aE) (rA:jz K Si aE aG acc) (ei:Y7 n g c e m i aF acc=some (us,s2)):CIO K B n g c e us env s2 σ pp D i m af H'
variable {B:Bas} {nv:Nat} {az:List Nat} {g:G} {mo:M T} {c:M Bool} {e:M T} {tg iter elt:Expr} {ifs:List Expr} {pos:Pos}
end
end C
end
section
namespace L2
open PySem PySem.Spec
open Sem (wp)
open Builtin
end L2
namespace C
open PySem PySem.Spec PyProof.Rows L2
section
variable {X:Cx} {B:Bas} {a b c e o k d v:Expr} {m m1 m2 mo mk md mv:M T} {pos p apos:Pos} {i:Nat}
end
section
variable {prog:Program} {w:World} {A:Around} {E:Value->Shared->Prop} {s:Shared}
end
section
variable {X:Cx} {B:Bas} {e l:Expr} {es elts:List Expr} {mo:M T} {ms:M (List T)} {body:List Stmt} {pos p q1 aM apos aw:Pos} {x1:Nat} {Cl:Addr} {f x:Str} {E:XK} {pn:List Str} {F:FnX} {k:Nat} {g:G} {u:S}
end
end C
end
section
namespace C
open PySem L2
section
variable {X:Cx} {B:Bas} {pos:Pos}
theorem Yn {ms:M (List T)} {n:Nat} (h:∀ st ts aa,ms st=some (ts,aa)->ts.length=n):∀ st ts aa,ms st=some (ts,aa)->ts.length+1=n+1:=fun st ts aa e=>congrArg (· + 1) (h st ts aa e)
end
end C
end
section
namespace C
open PySem
abbrev MX:=Sta->Option ((T ⊕ T) × Sta)
abbrev MXs:=Sta->Option ((List T ⊕ T) × Sta)
def a5u (m:M T):MX:=fun s=>match m s with
 | some (t,s1)=>some (.inl t,s1)
 | none=>none
noncomputable def Tf (F:FnX) (a:M (List T)):MX:=fun s=>match a s with
 | some (ts,s1)=>match F ts s1.sto with
  | some (r,st)=>some (r,{ s1 with sto:=st })
  | none=>none
 | none=>none
def V3:MXs:=fun s=>some (.inl [],s)
noncomputable def Ei (m:MX) (l:MXs):MXs:=fun s=>match m s with
 | some (.inl t,s1)=>(match l s1 with
  | some (.inl ts,s2)=>some (.inl (t::ts),s2)
  | some (.inr x,s2)=>some (.inr x,s2)
  | none=>none)
 | some (.inr x,s1)=>some (.inr x,s1)
 | none=>none
noncomputable def Kz (C:Nat) (m:Str) (F:FnX) (o:M T) (a:MXs):MX:=fun s=>match o s with
 | some (.obj n,s1)=>(match Te C n s1.sto with
  | some fs=>if fs.lookup m=none then (match a s1 with
   | some (.inl ts,s2)=>(match F (.obj n::ts) s2.sto with
    | some (r,st)=>some (r,{ s2 with sto:=st })
    | none=>none)
   | some (.inr x,s2)=>some (.inr x,s2)
   | none=>none) else none
  | none=>none)
 | _=>none
noncomputable def a4y (i:Nat) (m:MX):SX:=fun s=>match m s with
 | some (.inl t,s1)=>some (.inl .next,jj i t false s1)
 | some (.inr x,s1)=>some (.inr x,s1)
 | none=>none
noncomputable def a1f (m:MX):SX:=fun s=>match m s with
 | some (.inl _,s1)=>some (.inl .next,s1)
 | some (.inr x,s1)=>some (.inr x,s1)
 | none=>none
noncomputable def a5b (m:MX):SX:=fun s=>match m s with
 | some (.inl t,s1)=>some (.inl (.ret t),s1)
 | some (.inr x,s1)=>some (.inr x,s1)
 | none=>none
end C
end
section
namespace C
open PySem PySem.Spec PyProof.Rows L2
def FinE (K:PySem.W.Frag) (B:Bas) (Cl:Addr) (f:Str) (E:XK) (σ:L2.St) (ps:List (V × T)) (Q:VK):T ⊕ T->Sta->Prop
 | .inl t,aa=>∀ v H' S' ai,Rel K B aa σ H' ((v,t)::ps) S' ai->Q v H'
 | .inr t,aa=>∀ v dx H' S' ai,Rel K B aa σ H' ((v,t)::ps) S' ai->S' dx=some (xg dx f v)->E (.ref Cl) (some dx) H'
noncomputable def Dm (K:PySem.W.Frag) (B:Bas) (Cl:Addr) (f:Str) (E:XK) (m:MX):TE:=fun σ H Q=>∃ st ps S as,Rel K B st σ H ps S as/\∃ r aa,m st=some (r,aa)/\FinE K B Cl f E σ ps Q r aa
def FinA (K:PySem.W.Frag) (B:Bas) (Cl:Addr) (f:Str) (E:XK) (σ:L2.St) (ps:List (V × T)) (Q:List V->Hp->Prop):List T ⊕ T->Sta->Prop
 | .inl ts,aa=>∀ vs H' S' ai,Rel K B aa σ H' ps S' ai->jz K S' ai vs ts->Q vs H'
 | .inr t,aa=>∀ v dx H' S' ai,Rel K B aa σ H' ((v,t)::ps) S' ai->S' dx=some (xg dx f v)->E (.ref Cl) (some dx) H'
noncomputable def Zt (K:PySem.W.Frag) (B:Bas) (Cl:Addr) (f:Str) (E:XK) (m:MXs):TA:=fun σ H Q=>∃ st ps S as,Rel K B st σ H ps S as/\∃ r aa,m st=some (r,aa)/\FinA K B Cl f E σ ps Q r aa
section
variable {X:Cx} {B:Bas} {e o:Expr} {es:List Expr} {m:M T} {mo:M T} {mx:MX} {ms:M (List T)} {bK:MXs} {pos p q1 aM apos:Pos} {Cl a:Addr} {f x y mn:Str} {E:XK} {fd:FuncData} {pn:List Str} {F:FnX} {k i:Nat} {Co:Addr}
theorem qm (h:PE X e (tOf X.K B m)):PE X e (Dm X.K B Cl f E (a5u m)):=h.imp fun σ H Q z9=>by
 obtain ⟨st,ps,S,as,R,r,aa,ev,q⟩:=z9;unfold a5u at ev;split at ev
 ·rename_i t s1 e1; cases ev; exact ⟨st,ps,S,as,R,t,_,e1,q⟩
 ·cases ev
theorem Oo {st aa:Sta} {r:T ⊕ T} (h:Tf F ms st=some (r,aa)):∃ ts s1 sto,ms st=some (ts,s1)/\F ts s1.sto=some (r,sto)/\aa = { s1 with sto:=sto }:=by
 unfold Tf at h;split at h
 ·rename_i ts s1 e1;split at h
  ·rename_i r sto e2; cases h; exact ⟨ts,s1,sto,e1,e2,rfl⟩
  ·cases h
 ·cases h
theorem jt (hx:Passes (CXx X.prog X.w) X E) (D:qj X.prog X.w X.K X.mg X.base x k pn Cl f F) (hr:uf k X.A) (hg:Gl X x)
  (ha:PA X (e::es) (aOf X.K B ms)) (hl:∀ st ts aa,ms st=some (ts,aa)->ts.length=pn.length) (aW:(x==("__debug__" : Str))=false:=by decide)
  (he:starEach (e::es) X.env=(false,eval e X.env)::starEach es X.env:=by rfl) (aL:(backTo pos (starEach es X.env)).any (·.1)=false:=by rfl) :
  PE X (.Call (.Name x p) (e::es) [] pos) (Dm X.K B Cl f E (Tf F ms)):=by
 obtain ⟨a,fd,h1,h2,h3,h4⟩:=D;refine (Qj h1 hr hg h4 h3 h2 .nil hx ha aW he aL).imp fun σ H Q z0=>?_;obtain ⟨st,ps,S,as,R,r,aa,ev,q⟩:=z0;obtain ⟨ts,s1,sto,e1,e2,rfl⟩:=Oo ev;refine ⟨st,ps,S,as,R,ts,s1,e1,fun vs H1 S1 ae R1 rs=>?_⟩;show spX _ _ _ _ _ (vs++[]) _ _ _;rw [List.append_nil];refine ⟨S1,ae,s1.sto,ts,r,sto,R1.sub,R1.sto,rs,hl _ _ _ e1,e2,?_⟩;cases r with
 | inl t=>exact fun v H2 S2 aA g sub so r=>q v H2 S2 aA ((R1.call g sub so).push r)
 | inr t=>exact fun v dx H2 S2 aA g sub so r hd=>q v dx H2 S2 aA ((R1.call g sub so).push r) hd
theorem kh:PA X [] (Zt X.K B Cl f E V3):=lg.imp fun σ H Q z9=>by
 obtain ⟨st,ps,S,as,R,r,aa,ev,q⟩:=z9;cases ev;exact q [] H S as R .nil
theorem fu (ha:PE X e (Dm X.K B Cl f E mx)) (hr:PA X es (Zt X.K B Cl f E bK)) (hs:starEach (e::es) X.env=(false,eval e X.env)::starEach es X.env:=by rfl):PA X (e::es) (Zt X.K B Cl f E (Ei mx bK)) :=
 (jc ha hr hs).imp fun σ H Q z9=>by
  obtain ⟨st,ps,S,as,R,r,aa,ev,q⟩:=z9;unfold Ei at ev;split at ev
  ·rename_i t s1 e1;split at ev
   ·rename_i ts s2 e2;cases ev;exact ⟨st,ps,S,as,R,_,s1,e1,fun v H1 S1 ae R1=>⟨s1,_,S1,ae,R1,_,_,e2,fun vs H2 S2 aA R2 rs=>q (v::vs) H2 S2 aA R2.drop (.cons R2.top rs)⟩⟩
   ·rename_i x s2 e2;cases ev;exact ⟨st,ps,S,as,R,_,s1,e1,fun v H1 S1 ae R1=>⟨s1,_,S1,ae,R1,_,_,e2,fun w dx H2 S2 aA R2 hd=>q w dx H2 S2 aA (R2.drop.drop.push R2.top) hd⟩⟩
   ·cases ev
  ·rename_i x s1 e1;cases ev;exact ⟨st,ps,S,as,R,_,_,e1,q⟩
  ·cases ev
structure Lq (P:Program) (w:World) (K:PySem.W.Frag) (mg:Str->Option Value) (base:Heap) (Co:Addr) (m:Str) (k:Nat) (ps:List Str) (Cl:Addr) (f:Str) (F:FnX):Prop where
 ex:∃ g fd,Meth K Co m g/\ur P w K mg base (CXx P w) k g fd ps (spX K ps.length Cl f F)/\Binds K fd ps []
 c:Cls K Co
theorem Ef {st aa:Sta} {r:T ⊕ T} (h:Kz Co mn F mo bK st=some (r,aa)):∃ n s1 fs ra s2,mo st=some (.obj n,s1)/\s1.sto[n]? = some (.ins Co fs)/\fs.lookup mn=none/\bK s1=some (ra,s2)/\(match ra with
  | .inl ts=>∃ sto,F (.obj n::ts) s2.sto=some (r,sto)/\aa = { s2 with sto:=sto }
  | .inr x=>r=.inr x/\aa=s2):=by
 unfold Kz at h;split at h
 ·rename_i n s1 e1;split at h
  ·rename_i fs e2;split at h
   ·rename_i e3;split at h
    ·rename_i ts s2 e4;split at h
     ·rename_i r sto e5; cases h; exact ⟨n,s1,fs,_,s2,e1,zx e2,e3,e4,sto,e5,rfl⟩
     ·cases h
    ·rename_i x s2 e4; cases h; exact ⟨n,s1,fs,_,_,e1,zx e2,e3,e4,rfl,rfl⟩
    ·cases h
   ·cases h
  ·cases h
 ·cases h
theorem nu {pl:Sem Bool} (h:Lq X.prog X.w X.K X.mg X.base Co mn k pn Cl f F) (hx:Passes (CXx X.prog X.w) X E) (hr:uf k X.A) (ho:PE X o (tOf X.K B mo)) (ha:PA X (e::es) (Zt X.K B Cl f E bK)) (hl:∀ st ts aa,bK st=some (.inl ts,aa)->ts.length+1=pn.length)
  (hst:starEach (e::es) X.env=(false,eval e X.env)::starEach es X.env:=by rfl) (aL:(backTo pos (starEach es X.env)).any (·.1)=false:=by rfl)
  (ht:eval (.Call (.Attribute o mn apos) (e::es) [] pos) X.env=(do
   let ov <- eval o X.env
   standAt apos.atName
   let (f,first) <- holding [ov] (getMethod ov mn pl)
   callWith pos f first (backTo pos (starEach (e::es) X.env)) (backToKw pos (keywordEach [] X.env))):=by rfl) :
  PE X (.Call (.Attribute o mn apos) (e::es) [] pos) (Dm X.K B Cl f E (Kz Co mn F mo bK)):=by
 obtain ⟨⟨g,fd,hm,G,hb⟩,c⟩:=h;refine (Xp (pl:=pl) ho c hm G hr hb .nil hx ha hst aL ht).imp fun σ H Q z0=>?_;obtain ⟨st,ps,S,as,R,r,aa,ev,q⟩:=z0;obtain ⟨n,s1,fs,ra,s2,e1,e2,hn,e3,e4⟩:=Ef ev;refine ⟨st,ps,S,as,R,_,s1,e1,fun v H1 S1 ae R1=>?_⟩;have t1:=R1.top;cases t1 with
 | @obj _ a ha =>
  obtain ⟨a',h1,_,dx,vs,h3,h4⟩:=R1.sto.at' n _ e2;rw [ha] at h1; cases h1;refine ⟨a,dx,vs,rfl,h3,(h4.get (f:=mn)).2 hn,s1,_,S1,ae,R1,ra,s2,e3,?_⟩;cases ra with
  | inr x =>
   obtain ⟨rfl,rfl⟩:=e4;exact fun w dx H2 S2 aA R2 hd=>q w dx H2 S2 aA (R2.drop.drop.push R2.top) hd
  | inl ts =>
   obtain ⟨sto,e5,rfl⟩:=e4;intro us H2 S2 aA R2 rs;show spX X.K pn.length Cl f F (.ref a::(us++[])) H2 Q E;rw [List.append_nil];have r0:Rep X.K S2 aA (.ref a) (.obj n):=R2.top;refine ⟨S2,aA,s2.sto,.obj n::ts,r,sto,R2.sub,R2.sto,.cons r0 rs,hl _ _ _ e3,e5,?_⟩;cases r with
   | inl t=>exact fun v H3 S3 aJ g sub so r=>q v H3 S3 aJ ((R2.drop.call g sub so).push r)
   | inr t=>exact fun v dx H3 S3 aJ g sub so r hd=>q v dx H3 S3 aJ ((R2.drop.call g sub so).push r) hd
end
section
variable {X:Cx} {B:Bas} {e o:Expr} {es:List Expr} {m:M T} {mo:M T} {mx:MX} {ms:M (List T)} {bK:MXs} {pos p q1 aM apos:Pos} {Cl a:Addr} {f x y mn:Str} {E:XK} {fd:FuncData} {pn:List Str} {F:Fn} {k i:Nat} {Co:Addr}
theorem n8 (he:PE X e (Dm X.K B Cl f E mx)) (hs:swapsWith e none pos.line X.env=pure false:=by rfl):PS X (.Expr e pos) (Dr X.K B Cl f E (a1f mx)):=(pq he hs).imp fun D σ H z9=>by
 obtain ⟨st,ps,S,as,R,fl,aa,ev,q⟩:=z9;unfold a1f at ev;split at ev
 ·rename_i t s1 e1; cases ev; exact ⟨st,ps,S,as,R,_,_,e1,fun v H1 S1 ae R1=>q σ H1 S1 ae R1.drop⟩
 ·rename_i t s1 e1; cases ev; exact ⟨st,ps,S,as,R,_,_,e1,fun v dx H1 S1 ae R1 hd=>q v dx σ H1 S1 ae R1 hd⟩
 ·cases ev
theorem vd (he:PE X e (Dm X.K B Cl f E mx)):PS X (.Return (some e) pos) (Dr X.K B Cl f E (a5b mx)):=(Wo he).imp fun D σ H z9=>by
 obtain ⟨st,ps,S,as,R,fl,aa,ev,q⟩:=z9;unfold a5b at ev;split at ev
 ·rename_i t s1 e1; cases ev; exact ⟨st,ps,S,as,R,_,_,e1,fun v H1 S1 ae R1=>q v σ H1 S1 ae R1⟩
 ·rename_i t s1 e1; cases ev; exact ⟨st,ps,S,as,R,_,_,e1,fun v dx H1 S1 ae R1 hd=>q v dx σ H1 S1 ae R1 hd⟩
 ·cases ev
theorem Ce (hN:X.N.Nodup) (hi:X.N[i]? = some y) (hy:Loc X.env.scope y) (he:PE X e (Dm X.K B Cl f E mx)) (cQ:swapsWith e (some (.Name y aM)) q1.line X.env=pure false:=by rfl)
  (hf:X.fn y=true\/X.env.scope.names.lookup y=some .local:=by first | exact .inl rfl | exact .inr rfl | assumption):PS X (.Assign [.Name y aM] e q1) (Dr X.K B Cl f E (a4y i mx)):=(ud hN hi hy he cQ hf).imp fun D σ H z9=>by
 obtain ⟨st,ps,S,as,R,fl,aa,ev,q⟩:=z9;unfold a4y at ev;split at ev
 ·rename_i t s1 e1; cases ev; exact ⟨st,ps,S,as,R,_,_,e1,fun v H1 S1 ae R1=>q _ H1 S1 ae (R1.drop.put R1.top)⟩
 ·rename_i t s1 e1; cases ev; exact ⟨st,ps,S,as,R,_,_,e1,fun v dx H1 S1 ae R1 hd=>q v dx σ H1 S1 ae R1 hd⟩
 ·cases ev
end
end C
end
section
namespace C
open PySem
end C
end
section
namespace C
open PySem PySem.Spec PyProof.Rows L2
section
variable {X:Cx} {B:Bas} {o k v e:Expr} {mo mk mv:M T} {mx:MX} {pos pos':Pos} {Cl:Addr} {f:Str} {E:XK}
end
section
variable {X:Cx} {B:Bas} {e o:Expr} {mx mo:M T} {pos:Pos}
end
section
variable {X:Cx} {B:Bas} {l:Expr} {elts:List Expr} {mo:M T} {body:List Stmt} {pos aM apos aw:Pos} {x1:Nat} {Co:Addr} {f:Str} {jh jl jp jd:Nat}
end
end C
end
section
namespace L2
open PySem PySem.Spec PyProof.Rows
section
variable {M:Model} {A:Around} {E:Value->Shared->Prop} {s:Shared} {base:Heap} {env en:Env} {outer:List Env} {L e C dx T:Addr} {fl:Value} {Q:Unit->Shared->Prop}
theorem N6 (hfr:A.frames=some (env::outer)) (hl:s.heap.FunFrames base (env::outer)) (hf:env.frame=some L) (x:XAt s.heap e C dx T fl) (c6:fl≠rawInt L) (cw:e∉frs (env::outer)) (fx:T∉frs (env::outer))
  (h:∀ h' T',s.heap.objs.size<=T'->Kp (frs (env::outer)) [e,T] s.heap h'->XAt h' e C dx T' (rawInt L)->Q () { s with heap:=h' }):wpAny M A (noteFrame (.ref e) env) Q E s:=by
 obtain ⟨ne,⟨vs,he,h1⟩,o,ts,hT,hd,h3⟩:=x;have k1:Kp (frs (env::outer)) [T] s.heap (s.heap.update T (Obj.mapFields (·.setIfInBounds 3 Value.none))):=Kp.field hT hd _;unfold noteFrame;simp only [hf];refine wpAny_bind (wpAny_field he rfl h1 ?_);rw [if_pos (show (Value.ref T != Value.none)=true from by simp)];refine wpAny_bind (wpAny_field hT hd h3 ?_);rw [if_neg (show ¬ ((fl==rawInt L)=true) from fun z=>c6 (eq_of_beq z))];refine wpAny_bind (wpAny_setField hT hd (Array.getElem?_eq_some_iff.mp h3).1 ?_);have b9:(s.heap.update T (Obj.mapFields (·.setIfInBounds 3 Value.none))).get? e=some (U8 C dx vs):=(Heap.get?_update_other _ _ ne).trans he;refine Ae (base:=base) hfr (hl.of_keeps fun b u q nf=>?_) hf b9 (Array.getElem?_eq_some_iff.mp h1).1 cw fun h' T' hz k2 x=>h h' T' (Nat.le_trans k1.size hz) ((k1.mono (fun _ z=>z) (by simp)).trans (k2.mono (fun _ z=>z) (by simp))) x;refine ⟨u,?_,rfl⟩;have:T≠b:=fun z=>by subst z; rw [hT] at q; cases q; exact nf ts hd
 rw [Heap.get?_update_other _ _ this]; exact q
theorem Nk (fr:Option Addr) (x:XAt s.heap e C dx T fl) (h:∀ h' cy,Kp [] [T] s.heap h'->XAt h' e C dx T cy->Q () { s with heap:=h' }):wpAny M A (setFlight (.ref e) fr) Q E s:=by
 obtain ⟨ne,⟨vs,he,h1⟩,o,ts,hT,hd,h3⟩:=x;have z3:=(Array.getElem?_eq_some_iff.mp h3).1;unfold setFlight;refine wpAny_bind (wpAny_field he rfl h1 ?_);rw [if_pos (show (Value.ref T != Value.none)=true from by simp)];refine wpAny_setField hT hd z3 (h _ _ (Kp.field hT hd _) ⟨ne,⟨vs,(Heap.get?_update_other _ _ ne).trans he,h1⟩,_,_,Heap.get?_update_self _ hT (Obj.isFreed_of_fields (Obj.data_mapFields hd _)),Obj.data_mapFields hd _,by simp [z3]; rfl⟩)
theorem Q0 (h:en.frame=env.frame) (v:Value):noteFrame v en=noteFrame v env:=by
 unfold noteFrame PySem.frameOf;rw [h]
end
section
variable {X:Cx} {pins:List (Addr × Obj)} {σ:St} {H:Hp} {s:Shared} {a C dx T:Addr} {fl:Value}
theorem Vt {A:Around} {E:Value->Shared->Prop} {Q:Unit->Shared->Prop} (hst:X.stack=X.env::X.outer) (hfr:X.env.frame=some X.env.locals) (hA:A.frames=some X.stack) (I:Inv X pins σ H s) (x:XAt s.heap a C dx T fl) (ha:H a=none) (hT:H T=none) (oa:Off X pins a) (oT:Off X pins T)
  (h:∀ s' T',Lies X pins σ H s' a C dx T'->Q () s') :
  wpAny (model X.prog X.w) A (noteFrame (.ref a) X.env) (fun _ s2=>wpAny (model X.prog X.w) A (setFlight (.ref a) none) Q E s2) E s:=by
 by_cases hf:fl=rawInt X.env.locals
 ·subst hf;refine O4 hfr x (vh x fun h2 k2 x2=>h _ T ⟨I.noted (h':=h2) (k2.mono (fun _ z=>nomatch z) (fun _ z=>z)) (fun b hb=>by rw [List.mem_singleton.mp hb]; exact hT) (fun b hb=>by rw [List.mem_singleton.mp hb]; exact oT),x2,ha,hT,oa,oT⟩)
 ·obtain ⟨ne,⟨vs,ga,v1⟩,o,ts,gT,dT,t3⟩:=id x;have n1:=I.wk ga rfl;have n2:=I.wk gT dT;have fr:=I.stack;rw [hst] at hA n1 n2 fr;refine N6 (L:=X.env.locals) (base:=X.base) hA fr hfr x hf n1.2.2 n2.2.2 fun h' T' bL k x=>?_;rw [<- hst] at k
  have I1:=I.noted k (fun b hb=>by
   rcases List.mem_cons.mp hb with rfl | hb -- here
   ·exact ha
   ·rw [List.mem_singleton.mp hb]; exact hT) (fun b hb=>by
   rcases List.mem_cons.mp hb with rfl | hb -- here
   ·exact oa
   ·rw [List.mem_singleton.mp hb]; exact oT)
  refine vh (s:={ s with heap:=h' }) x fun h2 k2 x2=>h _ T' ⟨I1.noted (h':=h2) (k2.mono (fun _ z=>nomatch z) (fun _ z=>z)) (fun b hb=>by rw [List.mem_singleton.mp hb]; exact I.hok.fresh bL) (fun b hb=>by rw [List.mem_singleton.mp hb]; exact I.off bL),x2,ha,I.hok.fresh bL,oa,I.off bL⟩
end
structure XA (X:Cx) (E:XK):Prop where
 hst:X.stack=X.env::X.outer
 hfr:X.env.frame=some X.env.locals
 go:∀ (σ:St) (H:Hp) (s:Shared) (a C dx T:Addr) (fl:Value),Inv X [] σ H s->XAt s.heap a C dx T fl->H a=none->H T=none->Off X [] a->Off X [] T->E (.ref C) (some dx) H->X.xe (.ref a) s
theorem Xk {P:Program} {w:World} {K:PySem.W.Frag} {mg:Str->Option Value} {base:Heap} {N:List Str} {qual:Str} {scope:Scope} {f:Addr} {cd:Value} {A:Around} {outer:List Env} {s₀:Shared} {H₀:Hp} {E:XK} :
  XA (Hl (CXx P w) P w K mg base N qual scope f cd A outer s₀ H₀ E) E:=⟨rfl,rfl,fun σ H s a C dx T fl I x ha hT oa oT hE=>by
 show wpAny _ _ (leaving _ _) _ _ _;unfold leaving;refine wpAny_bind (Vt rfl rfl I.ok.frames I x ha hT oa oT fun s2 T' L2=>?_);have za:s₀.heap.objs.size<=a:=L2.oa.1.elim (fun z=>nomatch z) id;have zT:s₀.heap.objs.size<=T':=L2.oT.1.elim (fun z=>nomatch z) id;exact ⟨a,C,dx,T',H,rfl,za,zT,L2.at_,L2.ha,L2.hT,L2.inv.os,L2.inv.bare,L2.inv.base,L2.inv.hok,hE⟩⟩
def xeX (X:Cx) (E:XK):Value->Shared->Prop:=fun e s'=>∃ a C dx T H' pins σ,e=.ref a/\Lies X pins σ H' s' a C dx T/\X.s₀.heap.objs.size<=a/\X.s₀.heap.objs.size<=T/\E (.ref C) (some dx) H'
theorem Cm {X:Cx} {E:XK}:Passes (CXx X.prog X.w) (X.wish (xeX X E)) E:=fun pins σ H s e s' I h=>by
 obtain ⟨a,C,dx,T,H',rfl,za,zT,x,na,nT,os,ba,un,hok,hE⟩:=h;have I0:Inv X pins σ H s:=I.w6;exact ⟨a,C,dx,T,H',pins,σ,rfl,⟨I0.call' (ch:=[]) os un hok ba (fun b z=>nomatch z),x,na,nT,I0.off za,I0.off zT⟩,Nat.le_trans I0.sz za,Nat.le_trans I0.sz zT,hE⟩
section
variable {pr:Program} {wd:World} {Ar:Around} {Rs:Result->Shared->Prop} {s:Shared}
end
def Ga (X:Cx) (scope:Scope) (N:List Str) (g:TG) (te:TE) (σ:St) (J:It) (H1:Hp) (Q:VK):Prop:=∀ D,H1 D=none->∃ aV:St,aV.length=N.length /\
 (∀ (i:Nat) (v:V) (x:Str),aV[i]? = some (some v)->N[i]? = some x->Vis (relabel scope X.env) x->∃ k:Nat,X.N[k]? = some x/\σ[k]? = some (some v)/\Wj X scope x) /\
 ∃ W:Nat->Nat->St->Hp->Prop,(∃ m,W 0 m aV (upd H1 D (.lst [])))/\∀ i m af H',W i m af H' ->
  (J.stop i H'/\Q (.ref D) H')\/(J.go i H'/\∀ x H2,J.yld i H' x H2->g x af H2 fun bt H4=>te bt H4 fun y H5=>∃ l,H5 D=some (.lst l)/\l.length<sizeLine/\∃ m',m'<m/\W (i+1) m' bt (upd H5 D (.lst (l++[y]))))
noncomputable def a2a (X:Cx) (scope:Scope) (N:List Str) (wi:TI) (g:TG) (te:TE):TE:=fun σ H Q=>wi σ H fun J H1=>Ga X scope N g te σ J H1 Q
section
variable {X:Cx} {scope:Scope} {N:List Str}
variable {tg iter elt:Expr} {pos:Pos} {g:TG} {te:TE}
theorem Kg {Ex:XK} (sc:wj X scope N) (calm:X.calm=true) (hst:X.stack=X.env::X.outer) (hfr:X.env.frame=some X.env.locals)
  (hg:∀ C s₀ H₀ ex pn,PG (j6 X scope N C s₀ H₀ ex pn) tg g) (he:∀ C s₀ H₀ ex pn,PE ((j6 X scope N C s₀ H₀ ex pn).wish (xeX (j6 X scope N C s₀ H₀ ex pn) Ex)) elt te)
  {pins:List (Addr × Obj)} {σ:St} {H1:Hp} {ax:Shared} {it:Addr} {fp:List Addr} {tn:Nat->Heap->Prop} {J:It} {Q:VK} {E:Value->Shared->Prop} {RR:Value->Addr->Result->Shared->Prop}
  (I:Inv X pins σ H1 ax) (T:Turn X.prog X.w X.K tg J fp it tn) (bc:tn 0 ax.heap) (f2:∀ b∈fp,Dj X pins H1 b) (q:Ga X scope N g te σ J H1 Q)
  (cY:∀ D ah H3 af H' s',Inv X pins σ H3 ah->(∀ b∈fp,Dj X pins H3 b)->Inv (j6 X scope N ah.heap.objs.size ah H3 fp (X.pn++pins)) [] af H' s'->Q (.ref D) H'->RR (.ref D) ah.heap.objs.size (.ok .next) s')
  (dO:∀ D ah H3 af H' s' a C dx T fl,Inv X pins σ H3 ah->(∀ b∈fp,Dj X pins H3 b)->Inv (j6 X scope N ah.heap.objs.size ah H3 fp (X.pn++pins)) [] af H' s'->XAt s'.heap a C dx T fl->H' a=none->H' T=none->ah.heap.objs.size<=a->ah.heap.objs.size<=T->Ex (.ref C) (some dx) H'->RR (.ref D) ah.heap.objs.size (.error (.ref a)) s') :
  wpAny (model X.prog X.w) X.A (newList []) (fun acc ah=>wpAny (model X.prog X.w) X.A (newFunctionEnv scope X.env.globals (Jm X.env scope.names []) [] X.env.qual none .none (some X.env)) (fun a5 aZ =>
   codeAny (model X.prog X.w) X.A (.compStart (.ListComp elt [⟨tg,iter,[],0⟩] scope pos) 0 (.ref it) acc { a5 with scope:=relabel scope X.env }) (RR acc a5.locals) aZ) E ah) E ax:=by
 refine Dk (Ex:=fun Y=>xeX Y Ex) (ifs:=[]) (tc:=fun _ H Q=>Q true H) sc calm hg (fun _ _ _ _ _=>Qx) he I T bc f2 q cY ?_;rintro D ah H3 e eT I3 f3 ⟨a,C,dx,Tb,H',pins',af,rfl,Ls,za,zT,hE⟩;obtain ⟨ne,⟨vs,ga,v1⟩,o,ts,gT,dT,t3⟩:=id Ls.at_;have n1:=Ls.inv.wk ga rfl;have n2:=Ls.inv.wk gT dT;have fr:=Ls.inv.stack;have eB:=Ls.inv.ok.frames;rw [show (j6 X scope N ah.heap.objs.size ah H3 fp (X.pn++pins)).stack=X.env::X.outer from hst] at eB n1 n2 fr;unfold notedBy;rw [Q0 (env:=X.env) (show (j6 X scope N ah.heap.objs.size ah H3 fp (X.pn++pins)).env.frame=X.env.frame from rfl)];refine Hj (L:=X.env.locals) (base:=(j6 X scope N ah.heap.objs.size ah H3 fp (X.pn++pins)).base) eB fr hfr Ls.at_ n1.2.2 n2.2.2 fun h' T' bL k x=>?_;rw [<- hst] at k
 have I1:=(Ls.inv.noted k (fun b hb=>by
  rcases List.mem_cons.mp hb with rfl | hb -- here
  ·exact Ls.ha
  ·rw [List.mem_singleton.mp hb]; exact Ls.hT) (fun b hb=>by
  rcases List.mem_cons.mp hb with rfl | hb -- here
  ·exact Ls.oa
  ·rw [List.mem_singleton.mp hb]; exact Ls.oT)).xq (pins':=[]) (fun p hp=>nomatch hp)
 exact dO _ ah _ af H' _ a C dx T' _ I3 f3 I1 x Ls.ha (Ls.inv.hok.fresh bL) za (Nat.le_trans zT (Nat.le_trans (Nat.le_of_lt (Heap.lt_size gT)) bL)) hE
end
end L2
end
section
namespace C
open PySem
noncomputable def Aw (g:G) (e:MX):List T->Sta->List T->Option ((List T ⊕ T) × Sta)
 | [],s,acc=>some (.inl acc,s)
 | t::r,s,acc=>match g t s with
  | some s1=>match e s1 with
   | some (.inl u,s2)=>if acc.length<lim then Aw g e r (jg s2) (acc++[u]) else none
   | some (.inr x,s2)=>some (.inr x,s2)
   | none=>none
  | none=>none
noncomputable def Pk (nv:Nat) (az:List Nat) (g:G) (it:M (List T)) (e:MX):MX:=fun s=>match it s with
 | some (ts,s1)=>match Aw g e ts ⟨List.replicate nv none++az.map (fun i=>((j9 az s1.env)[i]?).getD none),s1.sto⟩ [] with
  | some (.inl us,s2)=>some (.inl (.lst us),⟨j9 az s1.env,s2.sto⟩)
  | some (.inr x,s2)=>some (.inr x,⟨j9 az s1.env,s2.sto⟩)
  | none=>none
 | none=>none
end C
end
section
namespace C
open PySem PySem.Spec PyProof.Rows L2
def a6g (K:PySem.W.Frag) (B:Bas) (Cl:Addr) (f:Str) (E:XK) (σ:L2.St) (pp:List (V × T)) (env:List Slot) (Q:VK):List T ⊕ T->Sta->Prop
 | .inl us,s2=>∀ D H' S' ai,Rel K B ⟨env,s2.sto⟩ σ H' pp S' ai->Np K B S' ai H' D (.lst us)->Bs ⟨env,s2.sto⟩ σ D->Q (.ref D) H'
 | .inr t,s2=>∀ v dx H' S' ai,Rel K B ⟨env,s2.sto⟩ σ H' ((v,t)::pp) S' ai->S' dx=some (xg dx f v)->E (.ref Cl) (some dx) H'
noncomputable def eX (K:PySem.W.Frag) (Cl:Addr) (f:Str) (E:XK) (e:MX):TE:=fun σ H Q=>∃ B,Dm K B Cl f E e σ H Q
theorem peX {X:Cx} {e:Expr} {m:MX} {Cl:Addr} {f:Str} {E:XK} (h:∀ B,PE X e (Dm X.K B Cl f E m)):PE X e (eX X.K Cl f E m):=fun pins s σ H Q I ⟨B,q⟩=>h B pins s σ H Q I q
theorem Nu {g:G} {e:MX} {t:T} {ts acc:List T} {s s':Sta} {r:List T ⊕ T} (h:Aw g e (t::ts) s acc=some (r,s')):∃ s1 w s2,g t s=some s1/\e s1=some (w,s2) /\
  (match w with | .inl u=>acc.length<lim/\Aw g e ts (jg s2) (acc++[u])=some (r,s') | .inr x=>r=.inr x/\s'=s2):=by
 rw [Aw] at h;split at h
 ·rename_i s1 e1;split at h
  ·rename_i u s2 e2;split at h
   ·rename_i hl; exact ⟨s1,.inl u,s2,e1,e2,hl,h⟩
   ·cases h
  ·rename_i x s2 e2; cases h; exact ⟨s1,.inr x,_,e1,e2,rfl,rfl⟩
  ·cases h
 ·cases h
section
variable {X:Cx} {scope:Scope} {N:List Str}
inductive CIX (K:PySem.W.Frag) (B:Bas) (g:G) (e:MX) (ts:List T) (r:List T ⊕ T) (env:List Slot) (s2:Sta) (σ:L2.St) (pp:List (V × T)) (D:Addr) (i m:Nat) (af:L2.St) (H':Hp):Prop where
 | mk (aF:Sta) (Si:Hp) (aE:List Addr) (acc:List T) (aG:List V) (hm:m=ts.length - i) (hi:i<=ts.length) (Ri:Rel K ⟨Si,aE,H'⟩ aF af H' [] Si aE) (no:Kh aF) (Ro:Rel K B ⟨env,aF.sto⟩ σ H' pp Si aE) (hD:H' D=some (.lst aG)) (sD:Si D=none) (nD:D∉aE) (rA:jz K Si aE aG acc) (ei:Aw g e (ts.drop i) aF acc=some (r,s2)):CIX K B g e ts r env s2 σ pp D i m af H'
theorem Oj {Cl:Addr} {f:Str} {E:XK} {B:Bas} {nv:Nat} {az:List Nat} {g:G} {e:MX} {ts:List T} {r:List T ⊕ T} {env:List Slot} {aU:List SO} {s2:Sta} {σ:L2.St} {H1 S1:Hp} {ae:List Addr} {ps aX:List (V × T)} {J:It} {Q:VK}
  (hN:N.length=nv+az.length) (hv:∀ i x,i<nv->N[i]? = some x->True)
  (bO:∀ (j k:Nat),az[j]? = some k->∃ x,N[nv+j]? = some x/\X.N[k]? = some x/\Wj X scope x)
  (R1:Rel X.K B ⟨env,aU⟩ σ H1 (aX++ps) S1 ae) (b4:∀ k∈az,∀ t,env[k]?≠some (some (t,true)))
  (facts:∀ S as H,Same B.S S->(∃ l,as=B.as++l)->(∀ p∈aX,Rep X.K S as p.1 p.2)->Same S H->Af X.K S as H J ts)
  (hc:Aw g e ts ⟨List.replicate nv none++az.map (fun i=>(env[i]?).getD none),aU⟩ []=some (r,s2))
  (fin:a6g X.K B Cl f E σ (aX++ps) env Q r s2) :
  Ga X scope N (gE X.K g) (eX X.K Cl f E e) σ J H1 Q:=by
 intro D hD;obtain ⟨bD,sD1,nD1,noD⟩:=R1.fresh hD;obtain ⟨aV,z1,z2,z3,z4,z5⟩:=Gz hN bO R1 b4 hD;refine ⟨aV,z1,z2,fun i m af H'=>CIX X.K B g e ts r env s2 σ (aX++ps) D i m af H',⟨ts.length,.mk _ S1 ae [] [] (by simp) (Nat.zero_le _) z3 z4 z5 bw sD1 nD1 .nil hc⟩,?_⟩;rintro i m af H' ⟨aF,Si,aE,acc,aG,rfl,hi,Ri,no,Ro,hD',sD,nD,rA,ei⟩;have F:=facts Si aE H' Ro.grow.same Ro.grow.more (fun p hp=>Ro.pend p (List.mem_append_left _ hp)) Ri.sub
 by_cases aP:i<ts.length
 ·rw [List.drop_eq_getElem_cons aP] at ei;obtain ⟨s3,w,s5,eg,ee,er⟩:=Nu ei;have ht:ts[i]? = some ts[i]:=List.getElem?_eq_getElem aP;refine .inr ⟨(F.go i _ ht).1,fun x H2 y=>?_⟩;obtain ⟨S2,ex,rx⟩:=(F.go i _ ht).2 x H2 y;refine ⟨⟨Si,aE,H'⟩,aF,[],S2,aE,_,(Ri.ext ex).push rx,s3,eg,fun bI H3 S3 aJ R3=>⟨⟨Si,aE,H'⟩,s3,[],S3,aJ,R3,w,s5,ee,?_⟩⟩;cases w with
  | inr t =>
   obtain ⟨rfl,rfl⟩:=er;exact fun v dx H5 S5 cO R5 hd=>fin v dx H5 S5 cO ((Ro.call R5.grow R5.sub R5.sto).push R5.top) hd
  | inl w =>
   obtain ⟨hlen,erest⟩:=er;intro y H5 S5 cO R5;obtain ⟨S6,R6⟩:=R5.jg;obtain ⟨k1,k2,k3⟩:=R6.grow.keep D _ hD' sD nD;have cL:=Ro.call R6.grow R6.sub R6.sto;refine ⟨aG,k1,?_,ts.length - (i+1),by omega,.mk (jg s5) S6 cO (acc++[w]) (aG++[y]) rfl aP (R6.drop.Yx (mq _) k2 k3) (mq _) (cL.a2e bD k2 k3 noD) bw k2 k3 ((rA.mono R6.grow.same R6.grow.more).append (.cons R6.top .nil)) erest⟩;rw [rA.length]; exact Nat.lt_of_lt_of_le hlen j7
 ·have cG:i=ts.length:=by omega
  subst cG;rw [List.drop_length] at ei;cases ei;exact .inl ⟨F.stop _ (Nat.le_refl _),fin D H' Si aE Ro ⟨⟨aG,hD',rA⟩,sD,nD,bD⟩ noD⟩
variable {B:Bas} {nv:Nat} {az:List Nat} {g:G} {it:M (List T)} {e:MX} {tg iter elt:Expr} {pos:Pos} {Cl:Addr} {f:Str} {E:XK}
theorem N5 {s s':Sta} {v:T ⊕ T} (h:Pk nv az g it e s=some (v,s')):∃ ts s1 r s2,it s=some (ts,s1) /\
  Aw g e ts ⟨List.replicate nv none++az.map (fun i=>((j9 az s1.env)[i]?).getD none),s1.sto⟩ []=some (r,s2)/\(match r with | .inl us=>v=.inl (.lst us) | .inr x=>v=.inr x)/\s'=⟨j9 az s1.env,s2.sto⟩:=by
 unfold Pk at h;split at h
 ·rename_i ts s1 e1;split at h
  ·rename_i us s2 e2; cases h; exact ⟨ts,s1,.inl us,s2,e1,e2,rfl,rfl⟩
  ·rename_i x s2 e2; cases h; exact ⟨ts,s1,.inr x,s2,e1,e2,rfl,rfl⟩
  ·cases h
 ·cases h
end
end C
end
section
namespace C
open PySem
end C
end
section
namespace C
open PySem PySem.Spec PyProof.Rows L2
section
variable {X:Cx} {B:Bas} {tg iter:Expr} {mo:M T} {g:G} {u:SX} {body:List Stmt} {pos:Pos} {Cl:Addr} {f:Str} {E:XK}
end
theorem o7:∀ st ts aa,V3 st=some (.inl ts,aa)->ts.length=0:=fun st ts aa e=>by cases e; rfl
theorem m6 {m:MX} {r:MXs} {n:Nat} (h:∀ st ts aa,r st=some (.inl ts,aa)->ts.length=n):∀ st ts aa,Ei m r st=some (.inl ts,aa)->ts.length=n+1:=fun st ts aa e=>by
 unfold Ei at e;split at e
 ·rename_i t s1 e1;split at e
  ·rename_i us s2 e2; cases e; exact congrArg (· + 1) (h _ _ _ e2)
  ·cases e
  ·cases e
 ·cases e
 ·cases e
theorem m5 {ms:MXs} {n:Nat} (h:∀ st ts aa,ms st=some (.inl ts,aa)->ts.length=n):∀ st ts aa,ms st=some (.inl ts,aa)->ts.length+1=n+1:=fun st ts aa e=>congrArg (· + 1) (h st ts aa e)
theorem qj.zero {P:Program} {w:World} {K:PySem.W.Frag} {mg:Str->Option Value} {base:Heap} {x qual:Str} {st:Stmt} {f:Addr} {fd:FuncData} {ps:List Str} {k:Nat} {Cl:Addr} {fl:Str} (F:Fun K x qual st f fd) (h:mg x=some (.ref f)) (b:Binds K fd ps []):qj P w K mg base x k ps Cl fl (fun _ _=>none):=by
 have no:∀ vs H Q E,¬ spX K ps.length Cl fl (fun _ _=>none) vs H Q E:=fun vs H Q E z=>by
  obtain ⟨S,as,sto,ts,t,aD,_,_,_,_,e,_⟩:=z;cases e
 exact ⟨f,fd,⟨fun vs H Q E z=>absurd z (no vs H Q E),fun A outer s H args us vs Q E _ _ _ _ z=>absurd z (no vs H Q E)⟩,b,F.kp,h⟩
section
variable {X:Cx} {B:Bas} {e a b c:Expr} {m m1 m2 m3:M T} {pos p1 p2 p3 p4:Pos}
theorem Gv:∀ {l:List Str} {its:List Value},Vals (l.map V.str) its->∃ l':List (Str × Tok),its=strValues l'/\l'.map (·.1)=l
 | [],_,.nil=>⟨[],rfl,rfl⟩
 | x::l,_,.cons h r=>by
  obtain ⟨t,rfl⟩:=h;obtain ⟨l',rfl,e⟩:=Gv r;exact ⟨(x,t)::l',rfl,by simp [e]⟩
theorem Xm:MtR X "str.join" (fun x xs H Q=>∃ sep p l,x=.str sep/\xs=[.ref p]/\SqL X.K H p (l.map V.str)/\(l.map (·.length)).sum+l.length * sep.length<lim/\(Str.join sep l).length<lim/\Q (.str (Str.join sep l)) H):=by
 intro pins s σ H x xs v us Q I rx rv h;obtain ⟨sep,p,l,rfl,rfl,hq,hz,hj,q⟩:=h;obtain ⟨t,rfl⟩:=rx;obtain ⟨u,rfl,ru⟩:=rv.one;cases ru;obtain ⟨its,r,pl,_⟩:=I.list hq;obtain ⟨l',rfl,e⟩:=Gv r
 have tl:Builtin.Str.tooLong ((l'.map (·.1)).toArray.foldl (· + ·.length+sep.length) 0)=false:=by
  rw [StrLaws.joinTotal,e];have:=j7;unfold Builtin.Str.tooLong;exact decide_eq_false (by omega)
 refine call_meets F.slot_str_join (typeIs_str _ _ _) F.entry_str_join (F.args_str_join_2 _ _) (meets_str_join_list sep t p l' tl) ⟨pl.isList,?_⟩
 have big:(Made.str (Builtin.Str.glued sep (l'.map (·.1)))).post (fun v s'=>EP X pins σ Q v s') s:=by
  rw [StrLaws.glued_eq_join,e];exact ⟨Nat.le_trans (Nat.le_of_lt hj) j7,.str _,H,I.tok _,⟨_,rfl⟩,q⟩
 match l',e,big with
 | [],_,b=>exact b
 | [w],e,_ =>
  refine ⟨.str w.1,H,I,⟨_,rfl⟩,?_⟩;have:l=[w.1]:=by rw [<- e]; rfl
  subst this;exact q
 | _::_::_,_,b=>exact b
theorem El:∀ {ts:List T} {l:List Str},Ti ts=some l->ts=l.map T.str
 | [],_,h=>by simp only [Ti] at h; cases h; rfl
 | t::ts,l,h=>by
  cases t <;> simp only [Ti,reduceCtorEq] at h
  rename_i x;obtain ⟨l',e,rfl⟩:=Option.map_eq_some_iff.mp h;rw [List.map_cons,<- El e]
theorem Gw {K:PySem.W.Frag} {S:Hp} {as:List Addr}:∀ {l:List Str} {vs:List V},jz K S as vs (l.map T.str)->vs=l.map V.str
 | [],_,.nil=>rfl
 | x::l,_,.cons h r=>by
  cases h;rw [List.map_cons,Gw r]
theorem Lw (sep:Str):∀ l:List Str,(Str.join sep l).length<=(l.map (·.length)).sum+l.length * sep.length
 | []=>by simp [Str.join,Str.empty,Str.length]
 | [x]=>by simp [Str.join]
 | x::y::l=>by
  have ih:=Lw sep (y::l);show (x++sep++Str.join sep (y::l)).length<=_;rw [Str.length_append,Str.length_append];simp only [List.map_cons,List.sum_cons,List.length_cons,Nat.add_mul,Nat.one_mul] at ih ⊢;omega
theorem v7 {apos aw:Pos} (h1:PE X a (tOf X.K B m1)) (h2:PE X b (tOf X.K B m2))
  (aN:attributeBase a "join" X.env (eval a X.env)=eval a X.env:=by rfl)
  (bM:((backTo aw (starEach [b] X.env)).all (fun x=>!x.1)&&(backToKw aw (keywordEach [] X.env)).all (fun x=>x.1.isSome)
   && decide (([b]:List Expr).length+([]:List Keyword).length+(if ([]:List Keyword).isEmpty then 0 else 1)<30))=true:=by rfl)
  (aR:(apos.endLine==aw.line)=true:=by rfl) (hs:starEach [b] X.env=(false,eval b X.env)::starEach [] X.env:=by rfl) (aS:(backTo aw (starEach [] X.env)).any (·.1)=false:=by rfl) :
  PE X (.Call (.Attribute a "join" apos) [b] [] aw) (tOf X.K B (mOp a02 m1 m2)) :=
 (Aj PySem.F.plainAttrs_str PySem.F.slot_str_join PySem.F.type_str_join Xm h1 (jc h2 lg hs) aN bM aR hs aS).imp fun σ H Q z9=>by
  obtain ⟨st,ps,S,as,R,t,aa,ev,q⟩:=z9;obtain ⟨t1,s1,t2,e1,e2,e3⟩:=Dh ev;unfold a02 at e3;split at e3
  ·rename_i sep ts;split at e3
   ·rename_i l hl;split at e3
    ·rename_i hz;cases e3;obtain rfl:=El hl;refine ⟨st,ps,S,as,R,_,s1,e1,fun v H1 S1 ae R1=>?_⟩;have tp:=R1.top;cases tp;refine ⟨rfl,s1,_,S1,ae,R1,_,aa,e2,fun v2 H2 S2 aA R2=>?_⟩;have dW:=R2.top;cases dW with
     | @lst p vs _ g1 g2 =>
      obtain rfl:=Gw g2;exact ⟨sep,p,l,rfl,rfl,iz R2.sub g1,hz,Nat.lt_of_le_of_lt (Lw sep l) hz,q _ _ _ _ (R2.drop.drop.push (.str _))⟩
    ·cases e3
   ·cases e3
  ·cases e3
end
structure a6v (P:Program) (w:World) (K:PySem.W.Frag) (mg:Str->Option Value) (base:Heap) (x:Str) (Co:Addr) (k:Nat) (ps:List Str) (Cl:Addr) (f:Str) (F:FnX):Prop where
 ex:∃ g fd,Mk K Co g/\ur P w K mg base (CXx P w) k g fd ps (spX K ps.length Cl f F)/\Binds K fd ps []
 m:mg x=some (.ref Co)
section
variable {X:Cx} {B:Bas} {e:Expr} {es:List Expr} {ms:M (List T)} {pos p:Pos} {k:Nat} {Co Cl:Addr} {f x:Str} {pn:List Str} {F:FnX} {E:XK}
variable {o:Expr} {mo:M T} {mn:Str} {apos:Pos}
theorem Mj {pl:Sem Bool} (h:Lq X.prog X.w X.K X.mg X.base Co mn k pn Cl f F) (hx:Passes (CXx X.prog X.w) X E) (hr:uf k X.A) (ho:PE X o (tOf X.K B mo)) (hl:pn.length=1)
  (ht:eval (.Call (.Attribute o mn apos) [] [] pos) X.env=(do
   let ov <- eval o X.env
   standAt apos.atName
   let (f,first) <- holding [ov] (getMethod ov mn pl)
   callWith pos f first (backTo pos (starEach [] X.env)) (backToKw pos (keywordEach [] X.env))):=by rfl) :
  PE X (.Call (.Attribute o mn apos) [] [] pos) (Dm X.K B Cl f E (Kz Co mn F mo V3)):=by
 obtain ⟨⟨g,fd,hm,G,hb⟩,c⟩:=h;refine (Uv (pl:=pl) ho c hm G hr hb .nil hx ht).imp fun σ H Q z0=>?_;obtain ⟨st,ps,S,as,R,r,aa,ev,q⟩:=z0;obtain ⟨n,s1,fs,ra,s2,e1,e2,hn,e3,e4⟩:=Ef ev;cases e3;obtain ⟨sto,e5,rfl⟩:=e4;refine ⟨st,ps,S,as,R,_,s1,e1,fun v H1 S1 ae R1=>?_⟩;have t1:=R1.top;cases t1 with
 | @obj _ a ha =>
  obtain ⟨a',h1,_,dx,vs,h3,h4⟩:=R1.sto.at' n _ e2;rw [ha] at h1; cases h1;refine ⟨a,dx,vs,rfl,h3,(h4.get (f:=mn)).2 hn,?_⟩;show spX X.K pn.length Cl f F [.ref a] H1 Q E;refine ⟨S1,ae,s1.sto,[.obj n],r,sto,R1.sub,R1.sto,.cons R1.top .nil,hl.symm,e5,?_⟩;cases r with
  | inl t=>exact fun v H3 S3 aJ g sub so r=>q v H3 S3 aJ ((R1.drop.call g sub so).push r)
  | inr t=>exact fun v dx H3 S3 aJ g sub so r hd=>q v dx H3 S3 aJ ((R1.drop.call g sub so).push r) hd
end
noncomputable def Vv (g:List T->Option T) (a:MXs):MX:=fun s=>match a s with
 | some (.inl ts,s1)=>(match g ts with
  | some t=>some (.inl t,s1)
  | none=>none)
 | some (.inr x,s1)=>some (.inr x,s1)
 | none=>none
noncomputable def a3j (g:T->T->Option T) (a b:MX):MX:=fun s=>match a s with
 | some (.inl x,s1)=>(match b s1 with
  | some (.inl y,s2)=>(match g x y with
   | some w=>some (.inl w,s2)
   | none=>none)
  | some (.inr x,s2)=>some (.inr x,s2)
  | none=>none)
 | some (.inr x,s1)=>some (.inr x,s1)
 | none=>none
theorem Gx {g:List T->Option T} {a:MXs} {s s':Sta} {r:T ⊕ T} (h:Vv g a s=some (r,s')):∃ ra,a s=some (ra,s')/\((∃ ts t,ra=.inl ts/\g ts=some t/\r=.inl t)\/∃ x,ra=.inr x/\r=.inr x):=by
 unfold Vv at h;split at h
 ·rename_i ts s1 e1;split at h
  ·rename_i t e2; cases h; exact ⟨_,e1,.inl ⟨ts,t,rfl,e2,rfl⟩⟩
  ·cases h
 ·rename_i x s1 e1; cases h; exact ⟨_,e1,.inr ⟨x,rfl,rfl⟩⟩
 ·cases h
section
variable {X:Cx} {B:Bas} {e:Expr} {es:List Expr} {bK:MXs} {m1 m2:MX} {pos:Pos} {Cl:Addr} {f:Str} {E:XK} {g:T->T->Option T}
theorem yu {k:Nat} (h:PA X es (Zt X.K B Cl f E bK)) (hm:∀ st ts aa,bK st=some (.inl ts,aa)->ts.length<=1000):PE X (.Tuple es k pos) (Dm X.K B Cl f E (Vv (fun l=>some (.tup l)) bK)) :=
 (Wm h).imp fun σ H Q z9=>by
  obtain ⟨st,ps,S,as,R,r,aa,e,q⟩:=z9;obtain ⟨ra,e1,e2⟩:=Gx e;rcases e2 with ⟨ts,t,rfl,e3,rfl⟩ | ⟨x,rfl,rfl⟩
  ·cases e3;refine ⟨st,ps,S,as,R,_,aa,e1,fun vs H1 S1 ae R1 rs=>⟨?_,fun p hp=>?_⟩⟩
   ·rw [rs.length]; exact Nat.le_of_lt (v8 (hm _ _ _ e1))
   ·have x:=Ext.laid R1.sub hp (.tup vs);exact q _ _ _ _ ((R1.ext x).push (.tup (SqT.of bw) (rs.mono x.s nol)))
  ·exact ⟨st,ps,S,as,R,_,aa,e1,q⟩
theorem Uz {e:Expr} (h:PE X e (tOp (r2 X.K g) (Dm X.K B Cl f E m1) (Dm X.K B Cl f E m2))):PE X e (Dm X.K B Cl f E (a3j g m1 m2)) :=
 h.imp fun σ H Q z9=>by
  obtain ⟨st,ps,S,as,R,r,aa,e,q⟩:=z9;unfold a3j at e;split at e
  ·rename_i x s1 e1;split at e
   ·rename_i y s2 e2;split at e
    ·rename_i w e3;cases e;refine ⟨st,ps,S,as,R,_,s1,e1,fun v H1 S1 ae R1=>⟨s1,_,S1,ae,R1,_,_,e2,fun u H2 S2 aA R2=>?_⟩⟩;exact ⟨S2,aA,x,y,w,R2.sub,R2.top2,R2.top,e3,fun w H3 S3 x r=>q w H3 S3 aA ((R2.drop.drop.ext x).push r)⟩
    ·cases e
   ·rename_i y s2 e2;cases e;exact ⟨st,ps,S,as,R,_,s1,e1,fun v H1 S1 ae R1=>⟨s1,_,S1,ae,R1,_,_,e2,fun w dx H2 S2 aA R2 hd=>q w dx H2 S2 aA (R2.drop.drop.push R2.top) hd⟩⟩
   ·cases e
  ·rename_i y s1 e1;cases e;exact ⟨st,ps,S,as,R,_,_,e1,q⟩
  ·cases e
theorem a3z {op:Operator} {a b:Expr} (ho:OpT X (binaryOp op) g) (ha:PE X a (Dm X.K B Cl f E m1)) (hb:PE X b (Dm X.K B Cl f E m2)):PE X (.BinOp a op b pos) (Dm X.K B Cl f E (a3j g m1 m2)):=Uz (Xb ho ha hb)
end
section
variable {X:Cx} {B:Bas} {o v:Expr} {mo:M T} {mv:MX} {pos pos':Pos} {Co Cl:Addr} {f g:Str} {E:XK}
end
section
variable {X:Cx} {B:Bas} {mv:MX} {Cl:Addr} {f:Str} {E:XK}
variable {es:List Expr} {bK:MXs} {i:Nat} {y:Str} {pos pos' p2:Pos}
end
noncomputable def inS:T->T->Option T
 | .str x,.str y=>some (.bl (!(Builtin.Str.occurrences y x 0 y.length 1).isEmpty))
 | _,_=>none
section
variable {X:Cx}
theorem Jp:OpT X (compareOp .In) inS:=by
 intro pins s σ H x y v u Q I rx ry z8;obtain ⟨S,as,t,t2,w,sub,ht,hu2,hf,q⟩:=z8;cases ht <;> first | (cases hf; done) | skip
 all_goals (cases hu2 <;> first | (cases hf; done) | skip)
 cases hf;obtain ⟨t1,rfl⟩:=rx;obtain ⟨t2,rfl⟩:=ry;exact PySem.P.in_str ⟨.bl _,H,I,rfl,q _ H S (Ext.refl sub) (.bl _)⟩
end
noncomputable def Zn (x:Str) (lo hi:Option Int):Str:=⟨((x.cps.toList.drop (HT.sIx x.length 0 lo)).take (HT.sIx x.length x.length hi - HT.sIx x.length 0 lo)).toArray⟩
theorem Ea (lo hi:Option Int) (n:Nat):Builtin.Str.strSliceIndices lo hi 1 n=(List.range (HT.sIx n n hi - HT.sIx n 0 lo)).map (HT.sIx n 0 lo + ·):=by
 have e:∀ (o:Option Int) (d:Nat),(match o with | none=>(d:Int) | some i=>let i:=if i<0 then i+(n:Int) else i; if (1:Int) > 0 then max 0 (min i n) else max (-1) (min i (n - 1)))=((HT.sIx n d o:Nat):Int):=fun o d=>by
  cases o with
  | none=>rfl
  | some i =>
   simp only [HT.sIx,show (1:Int) > 0 by decide,if_true]
   by_cases h:i<0
   ·simp only [h,if_true]; omega
   ·simp only [h,if_false]; omega
 rw [<- sliceRange_one,<- e lo 0,<- e hi n];rfl
theorem V1 (x:Str) (lo hi:Option Int):(Zn x lo hi).length<=x.length:=by
 show (((x.cps.toList.drop _).take _).toArray).size<=x.cps.size;rw [List.size_toArray,List.length_take,List.length_drop,Array.length_toList];omega
theorem W2 (x:Str) (lo hi:Option Int):(⟨((Builtin.Str.strSliceIndices lo hi 1 x.length).filterMap (x.cps[·]?)).toArray⟩:Str)=Zn x lo hi:=by
 rw [Ea,pick_run]; rfl
theorem Rr (x:Str) (lo hi:Option Int) (h:(Builtin.Str.strSliceIndices lo hi 1 x.length).length=x.length):Zn x lo hi=x:=by
 rw [Ea,List.length_map,List.length_range] at h
 have a0:HT.sIx x.length x.length hi<=x.length:=by
  cases hi with
  | none=>exact Nat.le_refl _
  | some i=>simp only [HT.sIx]; split <;> omega
 have a1:HT.sIx x.length 0 lo=0\/x.length=0:=by omega
 have hx:x.cps.toList.length=x.length:=Array.length_toList;unfold Zn;rcases a1 with a1 | a1
 ·rw [a1,List.drop_zero,Nat.sub_zero,List.take_of_length_le (by rw [hx]; omega)]
 ·have:x.cps.toList=[]:=List.eq_nil_of_length_eq_zero (by rw [hx,a1]);rw [this];cases x with
  | mk cps=>simp at this; subst this; simp
def a6k:V->Option Int->Option Int->Hp->VK->Prop:=fun x lo hi H Q=>∃ y:Str,x=.str y/\y.length<=sizeLine/\Q (.str (Zn y lo hi)) H
section
variable {X:Cx}
theorem part_of {v:Value} {o:Option Int} (h:IsPart v o):∃ l:Option (Int × Tok),v=partValue l/\l.map (·.1)=o:=by
 cases h with
 | none=>exact ⟨none,rfl,rfl⟩
 | int i t=>exact ⟨some (i,t),rfl,rfl⟩
theorem Zx:SlR X a6k:=by
 intro pins s σ H x v vl vu lo hi sl Q I rx hs pl pu h;obtain ⟨y,rfl,hy,q⟩:=h;obtain ⟨t,rfl⟩:=rx;obtain ⟨l,rfl,rfl⟩:=part_of pl;obtain ⟨u,rfl,rfl⟩:=part_of pu;refine ⟨"str",_,F.slot_str_getitem.lookup,typeIs_str _ _ _,wpAny_getItem_str_slice (l:=l) (u:=u) (st:=none) hs rfl ?_⟩;unfold sliceMade slicePicked;split
 ·rename_i hw;have fN:(Builtin.Str.strSliceIndices (l.map (·.1)) (u.map (·.1)) 1 y.length).length=y.length:=by simpa using hw
  rw [Rr y _ _ fN] at q;exact ⟨.str y,H,I,⟨t,rfl⟩,q⟩
 ·rw [show ((Option.map (fun x:Int × Tok=>x.1) (none:Option (Int × Tok))).getD 1)=1 from rfl,W2];refine ⟨Nat.le_trans (V1 _ _ _) hy,?_⟩;exact ⟨.str _,H,I.tok _,⟨_,rfl⟩,q⟩
end
noncomputable def Xh (lo hi:Option Int):T->Option T
 | .str x=>if x.length<lim then some (.str (Zn x lo hi)) else none
 | _=>none
noncomputable def K8 (m:M T) (lo hi:M (Option Int)):M T:=fun s=>match m s with
 | some (t,s1)=>match lo s1 with
  | some (l,s2)=>match hi s2 with
   | some (u,s3)=>match Xh l u t with
    | some v=>some (v,s3)
    | none=>none
   | none=>none
  | none=>none
 | none=>none
theorem Jx {m:M T} {ml mh:M (Option Int)} {s s':Sta} {v:T} (h:K8 m ml mh s=some (v,s')):∃ t s1 l s2 u,m s=some (t,s1)/\ml s1=some (l,s2)/\mh s2=some (u,s')/\Xh l u t=some v:=by
 unfold K8 at h;split at h
 ·rename_i t s1 e1;split at h
  ·rename_i l s2 e2;split at h
   ·rename_i u s3 e3;split at h
    ·rename_i w e4; cases h; exact ⟨t,s1,l,s2,u,e1,e2,e3,e4⟩
    ·cases h
   ·cases h
  ·cases h
 ·cases h
section
variable {X:Cx} {B:Bas} {a:Expr} {m:M T} {ml mh:M (Option Int)} {lo hi:Option Expr} {pos p2:Pos}
theorem yr (ha:PE X a (tOf X.K B m)) (hl:PO X lo (oOf X.K B ml)) (hh:PO X hi (oOf X.K B mh)):PE X (.Subscript a (.Slice lo hi none p2) pos) (tOf X.K B (K8 m ml mh)) :=
 (Bl Zx ha hl hh).imp fun σ H Q z9=>by
  obtain ⟨st,ps,S,as,R,t,aa,e,q⟩:=z9;obtain ⟨t1,s1,l,s2,u,e1,e2,e3,e4⟩:=Jx e;refine ⟨st,ps,S,as,R,t1,s1,e1,fun v H1 S1 ae R1=>⟨s1,_,S1,ae,R1,l,s2,e2,fun H2 S2 aA R2=>⟨s2,_,S2,aA,R2,u,aa,e3,fun H3 S3 aJ R3=>?_⟩⟩⟩;have top:=R3.top;cases top with
  | str =>
   simp only [Xh] at e4;split at e4
   ·rename_i ft;cases e4;exact ⟨_,rfl,Nat.le_trans (Nat.le_of_lt ft) j7,q _ _ _ _ (R3.drop.push (.str _))⟩
   ·cases e4
  | _=>exact gj e4
end
noncomputable def a5e (x:Str):It where
 go:=fun i _=>i<x.cps.size
 yld:=fun i H v H'=>H'=H/\∃ c,x.cps[i]? = some c/\v=.str ⟨#[c]⟩
 stop:=fun i _=>x.cps.size<=i
theorem Uo {P:Program} {w:World} {K:PySem.W.Frag} {tg:Expr} (x:Str) (t:Tok) (it:Addr):Turn P w K tg (a5e x) [it] it (fun i h=>h.IsStrIter it "str_ascii_iterator" x t i) where
 mem:=by simp
 obj:=fun i h st b hb=>by
  have e:b=it:=by simpa using hb
  subst e;obtain ⟨o,e,c,d⟩:=st;exact ⟨o,e,fun v z=>by rw [d] at z; cases z⟩
 keep:=fun i h h' st k=>by
  obtain ⟨o,e,c,d⟩:=st;exact ⟨o,k it (by simp) o e,c,d⟩
 item:=by
  intro X hP hw hK hc i pins s σ H E I hf st hg;subst hP hw hK;have hg:i<x.cps.size:=hg;obtain ⟨f0,f1,f2,f3,f4,f5⟩:=hf it (by simp);refine wpAny_pyNext_ascii_item st (c:=x.cps[i]) (by simp [hg]) fun h' aa sb=>?_;have I1:Inv X pins σ H { s with heap:=h',toks:=s.toks+1 }:=I.turned (t':=s.toks+1) (fun b o hb e=>(sb.2 b hb).trans e) f0 f1 f3 f4 f5;obtain ⟨o,e,c,d⟩:=id aa;exact ⟨_,rfl,Pr (s:={ s with heap:=h',toks:=s.toks+1 }) e c d (by decide) ⟨.str ⟨#[x.cps[i]]⟩,H,I1,⟨_,rfl⟩,⟨rfl,_,by simp [hg],rfl⟩,aa,fun b hb=>(hf b hb).1⟩⟩
 done:=by
  intro X hP hw hK hc i pins s σ H E I hf st hg;subst hP hw hK;have hg:x.cps.size<=i:=hg;obtain ⟨f0,f1,f2,f3,f4,f5⟩:=hf it (by simp);exact wpAny_pyNext_ascii_end (I.ok.hd hc) st (by simp [hg]) fun h' eb=>⟨rfl,I.turned (t':=s.toks) (fun b o hb e=>eb b o hb e) f0 f1 f3 f4 f5⟩
 self:=fun _ _ _ _ _ st h=>wpAny_pyIter_striter_ascii st h
def signs (x:Str):List T:=x.cps.toList.map fun c=>.str ⟨#[c]⟩
noncomputable def Lg (a:M T):M (List T):=fun s=>match a s with
 | some (.str x,s1)=>if x.length<lim/\x.cps.all (· < 128)=true then some (signs x,s1) else none
 | _=>none
section
variable {X:Cx} {B:Bas} {tg iter:Expr} {m:M T}
theorem a69 {K:PySem.W.Frag} {S:Hp} {as:List Addr} {H:Hp} {x:Str} (sub:Same S H):Af K S as H (a5e x) (signs x) where
 go:=fun i t e=>by
  unfold signs at e;rw [List.getElem?_map] at e
  have hi:i<x.cps.size:=by
   rcases Nat.lt_or_ge i x.cps.size with h | h
   ·exact h
   ·rw [List.getElem?_eq_none (by rw [Array.length_toList]; exact h)] at e; cases e
  refine ⟨hi,fun v H' y=>⟨S,by rw [y.1]; exact Ext.refl sub,?_⟩⟩;obtain ⟨_,c,hc,rfl⟩:=y;rw [Array.getElem?_toList,hc] at e;cases e;exact .str _
 stop:=fun i hi=>by
  unfold signs at hi;rw [List.length_map,Array.length_toList] at hi;exact hi
theorem Lp (h:PE X iter (tOf X.K B m)):PI X tg iter (iOf X.K B (Lg m)):=by
 intro pins s σ H R I hw;obtain ⟨st,ps,S,as,Rl,ts,aa,e,hz,q⟩:=hw;unfold Lg at e;split at e
 ·rename_i x s1 e1;split at e
  ·rename_i hl;cases e;refine thn (h pins s σ H _ I ⟨st,ps,S,as,Rl,_,_,e1,fun v H1 S1 ae R1=>(⟨S1,ae,R1⟩:∃ S1 ae,Rel X.K B aa σ H1 ((v,.str x)::ps) S1 ae)⟩) fun v s1 z0=>?_;obtain ⟨y,H1,I1,r1,S1,ae,R1⟩:=z0;have top:=R1.top;cases top;obtain ⟨t,rfl⟩:=r1;refine wpAny_pyIter_ascii hl.2 ?_;refine ⟨s1.heap.objs.size,[s1.heap.objs.size],_,_,H1,rfl,I1.kept (t':=s1.toks) fun b o e=>Heap.get?_push_of_some _ e,Uo x t _,⟨_,Heap.get?_push_size _ rfl,rfl,rfl⟩,fun b hb=>?_,q _ H1 S1 ae [(.str x,.str x)] R1 fun S2 aA H2 hp hh=>a69 hh⟩;have e:b=s1.heap.objs.size:=by simpa using hb
   subst e;exact I1.Xw (Nat.le_refl _) (I1.hok.fresh (Nat.le_refl _))
  ·cases e
 ·cases e
theorem Ko {m:M T}:∀ st ts aa,Lg m st=some (ts,aa)->ts.length<=sizeLine:=fun st ts aa e=>by
 unfold Lg at e;split at e
 ·split at e
  ·rename_i hl;cases e;unfold signs;rw [List.length_map,Array.length_toList];exact Nat.le_trans (Nat.le_of_lt hl.1) j7
  ·cases e
 ·cases e
end
noncomputable def a6z:List T->Option T
 | [.str x]=>if x.length<=640 then (intText? x).map .int else none
 | _=>none
section
variable {X:Cx}
theorem Nt:Il X (.type "int") a6z:=by
 intro pins s σ H xs us Q I rs z8;obtain ⟨S,as,ts,w,sub,hr,hf,q⟩:=z8;cases hr with
 | nil=>exact gj hf
 | @cons x t cf ts' h1 h2 =>
  cases h2 with
  | cons h3 h4=>cases h1 <;> exact gj hf
  | nil =>
   cases h1 <;> first | exact gj hf | skip
   obtain ⟨u,rfl,ru⟩:=rs.one;obtain ⟨t,rfl⟩:=ru;rename_i x;have dN:(if x.length<=640 then (intText? x).map T.int else none)=some w:=hf;split at dN
   ·rename_i hl;obtain ⟨n,hn,rfl⟩:=Option.map_eq_some_iff.mp dN;exact PySem.W.KIN.call_text hn hl ⟨.int n,H,I.tok _,⟨_,rfl⟩,q _ H S (Ext.refl sub) (.int _)⟩
   ·cases dN
end
noncomputable def Mr (f g:T->T->Option T) (a b c:M T):M T:=fun s=>match a s with
 | some (x,s1)=>match b s1 with
  | some (y,s2)=>match f x y with
   | some (.bl true)=>(match c s2 with
    | some (z,s3)=>(match g y z with
     | some w=>some (w,s3)
     | none=>none)
    | none=>none)
   | some (.bl false)=>some (.bl false,s2)
   | _=>none
  | none=>none
 | none=>none
theorem Nj {f g:T->T->Option T} {a b c:M T} {s s':Sta} {w:T} (h:Mr f g a b c s=some (w,s')):∃ x s1 y s2,a s=some (x,s1)/\b s1=some (y,s2) /\
  ((f x y=some (.bl true)/\∃ z,c s2=some (z,s')/\g y z=some w)\/(f x y=some (.bl false)/\w=.bl false/\s'=s2)):=by
 unfold Mr at h;split at h
 ·rename_i x s1 e1;split at h
  ·rename_i y s2 e2;split at h
   ·rename_i e3;split at h
    ·rename_i z s3 e4;split at h
     ·rename_i w' e5;cases h;exact ⟨x,s1,y,s2,e1,e2,.inl ⟨e3,z,e4,e5⟩⟩
     ·cases h
    ·cases h
   ·rename_i e3;cases h;exact ⟨x,s1,y,_,e1,e2,.inr ⟨e3,rfl,rfl⟩⟩
   ·cases h
  ·cases h
 ·cases h
section
variable {X:Cx} {B:Bas} {a b c:Expr} {m1 m2 m3:M T} {pos:Pos} {op cz:CmpOp} {f g:T->T->Option T}
theorem V5 {σ:L2.St} {H:Hp} {Q:VK} (h:tOf X.K B (Mr f g m1 m2 m3) σ H Q):Wn (r2 X.K f) (r2 X.K g) (tOf X.K B m1) (tOf X.K B m2) (tOf X.K B m3) σ H Q:=by
 obtain ⟨st,ps,S,as,R,t,aa,e,q⟩:=h;obtain ⟨x,s1,y,s2,e1,e2,e3⟩:=Nj e;refine ⟨st,ps,S,as,R,x,s1,e1,fun v H1 S1 ae R1=>⟨s1,_,S1,ae,R1,y,s2,e2,fun u H2 S2 aA R2=>?_⟩⟩;rcases e3 with ⟨f1,z,f2,f3⟩ | ⟨f1,rfl,rfl⟩
 ·refine ⟨S2,aA,x,y,_,R2.sub,R2.top2,R2.top,f1,fun w H3 S3 xt r=>⟨true,by cases r; rfl,S7 ?_⟩⟩;have R3:=R2.ext xt;refine ⟨s2,_,S3,aA,R3,z,aa,f2,fun w4 H4 S4 cZ R4=>?_⟩;exact ⟨S4,cZ,y,z,t,R4.sub,R4.top2,R4.top,f3,fun w5 H5 S5 x5 r5=>q w5 H5 S5 cZ ((R4.drop.drop.drop.ext x5).push r5)⟩
 ·exact ⟨S2,aA,x,y,_,R2.sub,R2.top2,R2.top,f1,fun w H3 S3 xt r=>⟨false,by cases r; rfl,Qg (q _ H3 S3 aA ((R2.drop.drop.ext xt).push (.bl _)))⟩⟩
theorem Wd (ho:OpT X (compareOp op) f) (aY:OpT X (compareOp cz) g) (ha:PE X a (tOf X.K B m1)) (hb:PE X b (tOf X.K B m2)) (hc:PE X c (tOf X.K B m3)) (hm:lastMarks [op,cz] [b,c]=false:=by with_unfolding_all rfl) :
  PE X (.Compare a [op,cz] [b,c] pos) (tOf X.K B (Mr f g m1 m2 m3)):=(Vo ho aY ha hb hc hm).imp fun σ H Q h=>V5 h
end
section
variable {X:Cx}
end
end C
end
section
namespace L2
open PySem PySem.Spec
open Sem (wp)
open Builtin
end L2
namespace C
open PySem PySem.Spec PyProof.Rows L2
section
variable {X:Cx} {B:Bas} {a b:Expr} {m1 m2:M T} {pos:Pos}
end
end C
end
section
namespace C
open PySem PySem.Spec PyProof.Rows L2 Builtin Builtin.Str
noncomputable def cutAt (c:Nat):List Nat->List (List Nat)
 | []=>[[]]
 | a::r=>if a=c then []::cutAt c r else match cutAt c r with
  | []=>[[a]]
  | p::q=>(a::p)::q
def Mt (l:List Nat):Str:=⟨l.toArray⟩
noncomputable def Wq:T->T->Option T
 | .str x,.str y=>if y.cps.size=1/\x.length<lim then some (.lst ((cutAt (y.cps.toList.headD 0) x.cps.toList).map fun p=>.str (Mt p))) else none
 | _,_=>none
theorem a2i (c:Nat) (l:List Nat):cutAt c l≠[]:=by
 cases l with
 | nil=>exact List.cons_ne_nil _ _
 | cons a r =>
  unfold cutAt;split
  ·exact List.cons_ne_nil _ _
  ·split <;> exact List.cons_ne_nil _ _
theorem Ep {c:Nat}:∀ {p:List Nat},c∉p->cutAt c p=[p]
 | [],_=>rfl
 | a::r,h=>by
  have h1:¬ a=c:=fun z=>h (z ▸ List.mem_cons_self);unfold cutAt;rw [if_neg h1,Ep (fun z=>h (List.mem_cons_of_mem _ z))]
theorem K3 {c:Nat} {r:List Nat}:∀ {p:List Nat},c∉p->cutAt c (p++c::r)=p::cutAt c r
 | [],_=>by
  show cutAt c (c::r)=_
  conv=>lhs; unfold cutAt
  rw [if_pos rfl]
 | a::p,h=>by
  have h1:¬ a=c:=fun z=>h (z ▸ List.mem_cons_self);show cutAt c (a::(p++c::r))=_
  conv=>lhs; unfold cutAt
  rw [if_neg h1,K3 (fun z=>h (List.mem_cons_of_mem _ z))]
theorem Qn (c:Nat):∀ l:List Nat,(cutAt c l).length<=l.length+1
 | []=>Nat.le_refl _
 | a::r=>by
  have ih:=Qn c r;unfold cutAt;split
  ·simp only [List.length_cons]; omega
  ·split
   ·simp
   ·rename_i p q e;rw [e] at ih;simp only [List.length_cons] at ih ⊢;omega
theorem J4 (a b:Str):(a++b).cps.toList=a.cps.toList++b.cps.toList:=by
 show (a.cps++b.cps).toList=_;rw [Array.toList_append]
theorem Fy {c:Nat}:∀ {l:List Str},l≠[]->(∀ p∈l,c∉p.cps.toList)->(cutAt c (Str.join ⟨#[c]⟩ l).cps.toList).map Mt=l
 | [],h,_=>absurd rfl h
 | [x],_,h=>by
  rw [Str.join,Ep (h x List.mem_cons_self)];simp only [List.map_cons,List.map_nil,Mt,Array.toArray_toList]
 | x::y::r,_,h=>by
  have ih:=Fy (c:=c) (l:=y::r) (List.cons_ne_nil _ _) (fun p hp=>h p (List.mem_cons_of_mem _ hp));rw [Str.join]
  ·rw [J4,J4];show (cutAt c ((x.cps.toList++[c])++_)).map Mt=_;rw [List.append_assoc,List.singleton_append,K3 (h x List.mem_cons_self),List.map_cons,ih];simp only [Mt,Array.toArray_toList]
  all_goals simp
theorem Uh (x y:Str):Txt.split x y≠[]:=by
 unfold Txt.split;split
 ·exact List.cons_ne_nil _ _
 ·split
  ·exact List.cons_ne_nil _ _
  ·rw [StrLaws.partsBetween_eq];cases occurrences x y 0 x.length (x.length+1) <;> exact List.cons_ne_nil _ _
theorem Hs (x:Str) (c:Nat):Txt.split x ⟨#[c]⟩=(cutAt c x.cps.toList).map Mt:=by
 have h:=Fy (c:=c) (Uh x ⟨#[c]⟩) (StrLaws.split_free x c);rw [StrLaws.join_split] at h;exact h.symm
theorem Hf {K:PySem.W.Frag} {S:Hp} {as:List Addr}:∀ L:List (List Nat),jz K S as (L.map fun l=>V.str (Mt l)) (L.map fun p=>T.str (Mt p))
 | []=>.nil
 | _::L=>.cons (.str _) (Hf L)
section
variable {X:Cx} {B:Bas} {a b:Expr} {m1 m2:M T} {pos:Pos}
theorem W9:MtR X "str.split" (fun x xs H Q=>∃ s c,x=.str s/\xs=[.str ⟨#[c]⟩]/\s.length<lim/\∀ p,H p=none->Q (.ref p) (upd H p (.lst ((cutAt c s.cps.toList).map fun l=>.str (Mt l))))):=by
 intro pins s σ H x xs v us Q I rx rv h;obtain ⟨sx,c,rfl,rfl,hl,q⟩:=h;obtain ⟨t,rfl⟩:=rx;obtain ⟨u,rfl,ru⟩:=rv.one;obtain ⟨tu,rfl⟩:=ru;have hy:((⟨#[c]⟩:Str).length==0)=false:=rfl;have hx:sx.length<=sizeLine:=Nat.le_trans (Nat.le_of_lt hl) j7
 have hz:((Txt.split sx ⟨#[c]⟩).map V.str).length<=sizeLine:=by
  rw [Hs,List.length_map,List.length_map];refine Nat.le_trans (Qn c _) ?_;rw [Array.length_toList];exact Nat.le_trans (show sx.length+1<=lim from hl) j7
 have e:((cutAt c sx.cps.toList).map fun l=>V.str (Mt l))=(Txt.split sx ⟨#[c]⟩).map V.str:=by
  rw [Hs,List.map_map]; rfl
 rw [e] at q
 have goal:∀ (l:List (Str × Tok)) (tk:Nat),l.map (·.1)=Txt.split sx ⟨#[c]⟩->EP X pins σ Q (.ref s.heap.objs.size) { s with toks:=tk,heap:=s.heap.push { cls:=.type "list",data:=.seq (strValues l).toArray } }:=by
  intro l tk hl
  have hv:Vals ((Txt.split sx ⟨#[c]⟩).map V.str) (strValues l):=by
   rw [<- hl];clear hl
   induction l with
   | nil=>exact .nil
   | cons p l ih=>exact .cons ⟨_,rfl⟩ ih
  exact ⟨.ref s.heap.objs.size,_,I.laid (t':=tk) (fun _ _ q=>Heap.get?_push_of_some _ q) (Nat.le_refl _) (show mz X.prog X.w _ _ _ (.lst ((Txt.split sx ⟨#[c]⟩).map V.str)) from ⟨hz,_,0,hv,Heap.get?_push_size _ rfl⟩),rfl,q _ (I.hok.fresh (Nat.le_refl _))⟩
 cases h1:(decide (sx.length<(⟨#[c]⟩:Str).length)||decide (strKind sx<strKind ⟨#[c]⟩))
 ·cases hf:(occurrences sx ⟨#[c]⟩ 0 sx.length (sx.length+1)).isEmpty
  ·refine call_meets F.slot_str_split (typeIs_str _ _ _) F.entry_str_split (F.args_str_split_2 _ _) (meets_str_split_sep sx ⟨#[c]⟩ t tu h1 hy hf hx ?_) ?_
   ·have e2:Txt.split sx ⟨#[c]⟩=partsBetween sx (occurrences sx ⟨#[c]⟩ 0 sx.length (sx.length+1)) (⟨#[c]⟩:Str).length:=(if_neg (ne_true_of_eq_false h1)).trans (if_neg (ne_true_of_eq_false hf));rw [<- e2];rw [List.length_map] at hz;exact hz
   ·rw [strsFrom_eq];exact goal _ _ ((numbered_texts _ _).trans ((if_neg (ne_true_of_eq_false h1)).trans (if_neg (ne_true_of_eq_false hf))).symm)
  ·exact call_meets F.slot_str_split (typeIs_str _ _ _) F.entry_str_split (F.args_str_split_2 _ _) (meets_str_split_not_found sx ⟨#[c]⟩ t tu h1 hy hf) (goal [(sx,t)] s.toks ((if_neg (ne_true_of_eq_false h1)).trans (if_pos hf)).symm)
 ·exact call_meets F.slot_str_split (typeIs_str _ _ _) F.entry_str_split (F.args_str_split_2 _ _) (meets_str_split_cannot_occur sx ⟨#[c]⟩ t tu h1) (goal [(sx,t)] s.toks (if_pos h1).symm)
theorem zc {apos aw:Pos} (h1:PE X a (tOf X.K B m1)) (h2:PE X b (tOf X.K B m2))
  (aN:attributeBase a "split" X.env (eval a X.env)=eval a X.env:=by rfl)
  (bM:((backTo aw (starEach [b] X.env)).all (fun x=>!x.1)&&(backToKw aw (keywordEach [] X.env)).all (fun x=>x.1.isSome)
   && decide (([b]:List Expr).length+([]:List Keyword).length+(if ([]:List Keyword).isEmpty then 0 else 1)<30))=true:=by rfl)
  (aR:(apos.endLine==aw.line)=true:=by rfl) (hs:starEach [b] X.env=(false,eval b X.env)::starEach [] X.env:=by rfl) (aS:(backTo aw (starEach [] X.env)).any (·.1)=false:=by rfl) :
  PE X (.Call (.Attribute a "split" apos) [b] [] aw) (tOf X.K B (mOp Wq m1 m2)) :=
 (Aj PySem.F.plainAttrs_str PySem.F.slot_str_split PySem.F.type_str_split W9 h1 (jc h2 lg hs) aN bM aR hs aS).imp fun σ H Q z9=>by
  obtain ⟨st,ps,S,as,R,t,aa,ev,q⟩:=z9;obtain ⟨t1,s1,t2,e1,e2,e3⟩:=Dh ev;unfold Wq at e3;split at e3
  ·rename_i x y;split at e3
   ·rename_i hc;cases e3;obtain ⟨hy,hl⟩:=hc
    obtain ⟨c,rfl⟩:∃ c,y=⟨#[c]⟩:=by
     obtain ⟨⟨l⟩⟩:=y
     match l,hy with
     | [c],_=>exact ⟨c,rfl⟩
    refine ⟨st,ps,S,as,R,_,s1,e1,fun v H1 S1 ae R1=>?_⟩;have tp:=R1.top;cases tp;refine ⟨rfl,s1,_,S1,ae,R1,_,aa,e2,fun v2 H2 S2 aA R2=>?_⟩;have dW:=R2.top;cases dW;refine ⟨x,c,rfl,rfl,hl,fun p hp=>?_⟩;have y:=Ext.laid R2.sub hp (.lst ((cutAt c x.cps.toList).map fun l=>V.str (Mt l)));refine q _ _ _ _ ((R2.drop.drop.ext y).push (.lst (SqL.of bw) ?_));exact Hf _
   ·cases e3
  ·cases e3
end
end C
end
section
namespace L2
open PySem PySem.Spec PyProof.Rows
section
variable {X:Cx} {scope:Scope} {N:List Str}
variable {tg iter elt:Expr} {pos:Pos} {g:TG} {te:TE}
theorem Vq {Ex:XK} {wi:TI} (xa:XA X Ex) (sc:wj X scope N) (calm:X.calm=true) (hi:PI X tg iter wi)
  (hg:∀ C s₀ H₀ ex pn,PG (j6 X scope N C s₀ H₀ ex pn) tg g) (he:∀ C s₀ H₀ ex pn,PE ((j6 X scope N C s₀ H₀ ex pn).wish (xeX (j6 X scope N C s₀ H₀ ex pn) Ex)) elt te)
  (hs:∀ x,foldedSetIterable iter X.env x=pure x:=by intro _; rfl):PE X (.ListComp elt [⟨tg,iter,[],0⟩] scope pos) (a2a X scope N wi g te):=by
 intro pins s σ H Q I h;rw [eval_ListComp];refine wpAny_comprehension_free (use:=none) rfl hs (ug sc.has) sc.kind sc.names ?_;refine wpAny_mono (hi pins s σ H _ I h) (fun x av a6=>wpAny_mono a6 (fun bY ax bN=>?_) fun _ _ e=>e) fun _ _ e=>e;obtain ⟨it,fp,tn,J,H1,rfl,I2,T,bc,f2,q⟩:=bN;refine Kg (Ex:=Ex) (RR:=fun acc C=>compPost (model X.prog X.w) X.A X.xe none (EP X pins σ Q) acc C) sc calm xa.hst xa.hfr hg he I2 T bc f2 q ?_ ?_
 ·intro D ah H3 af H' s' I3 f3 I' qn;obtain ⟨m,hn,_⟩:=I'.loc;exact ⟨m,hn,fun h' bC=>⟨.ref D,H',Bh I3 f3 I' bC,rfl,qn⟩⟩
 ·intro D' ah H3 af H' s' a C dx Tb fl I3 f3 I' x ha hT za zT hE;obtain ⟨m,hn,_⟩:=I'.loc;obtain ⟨ne,⟨vs,ga,v1⟩,o,ts,gT,dT,t3⟩:=id x;have n1:a≠ah.heap.objs.size:=(I'.wk ga rfl).1;have n2:Tb≠ah.heap.objs.size:=(I'.wk gT dT).1;refine ⟨m,hn,fun h' bC a5 _=>?_⟩;have IX:Inv X pins σ H' { s' with heap:=h' }:=Bh I3 f3 I' bC;have oa:∀ b,ah.heap.objs.size<=b->Off X pins b:=fun b hb=>I3.off hb;have x':XAt h' a C dx Tb fl:=⟨ne,⟨vs,bC.extBut _ _ n1 ga,v1⟩,o,ts,bC.extBut _ _ n2 gT,dT,t3⟩;unfold PySem.passOn;refine wpAny_bind (wpAny_field (s:={ s' with heap:=h' }) (bC.extBut _ _ n1 ga) rfl v1 ?_);rw [if_neg (show ¬ ((Value.ref Tb==Value.none)=true) from by simp)];refine wpAny_bind (Nk (s:={ s' with heap:=h' }) _ x' fun h2 cy k2 x2=>?_);refine wpAny_throw ?_;have e7:=(IX.noted (h':=h2) (k2.mono (fun _ z=>nomatch z) (fun _ z=>z)) (fun b hb=>by rw [List.mem_singleton.mp hb]; exact hT) (fun b hb=>by rw [List.mem_singleton.mp hb]; exact oa _ zT)).xq (pins':=[]) (fun p hp=>nomatch hp);have o0:∀ b,ah.heap.objs.size<=b->Off X [] b:=fun b hb=>(I3.xq (pins':=[]) (fun p hp=>nomatch hp)).off hb;exact xa.go σ H' _ a C dx Tb cy e7 x2 ha hT (o0 _ za) (o0 _ zT) hE
end
end L2
namespace C
open PySem PySem.Spec PyProof.Rows L2
section
variable {X:Cx} {scope:Scope} {N:List Str}
variable {B:Bas} {nv:Nat} {az:List Nat} {g:G} {it:M (List T)} {e:MX} {tg iter elt:Expr} {pos:Pos} {Cl:Addr} {f:Str} {E:XK}
theorem Jc (xa:XA X E) (co:Yt X scope N nv az) (sc:wj X scope N) (calm:X.calm=true) (hi:PI X tg iter (iOf X.K B it)) (bz:∀ st ts aa,it st=some (ts,aa)->ts.length<=sizeLine)
  (hg:∀ C s₀ H₀ ex pn,PG (j6 X scope N C s₀ H₀ ex pn) tg (gE X.K g))
  (he:∀ C s₀ H₀ ex pn,PE ((j6 X scope N C s₀ H₀ ex pn).wish (xeX (j6 X scope N C s₀ H₀ ex pn) E)) elt (eX X.K Cl f E e))
  (hs:∀ x,foldedSetIterable iter X.env x=pure x:=by intro _; rfl):PE X (.ListComp elt [⟨tg,iter,[],0⟩] scope pos) (Dm X.K B Cl f E (Pk nv az g it e)) :=
 (Vq xa sc calm hi hg he hs).imp fun σ H Q z9=>by
  obtain ⟨st,ps,S,as,R,v,aa,ev,q⟩:=z9;obtain ⟨ts,s1,r,s2,e1,e2,zr,rfl⟩:=N5 ev;refine ⟨st,ps,S,as,R,ts,s1,e1,bz _ _ _ e1,fun J H1 S1 ae aX R1 facts=>?_⟩;obtain ⟨S2,R2⟩:=R1.j9 az;refine Oj co.len (fun _ _ _ _=>trivial) co.at' R2 (fun k hk=>xu az s1.env k hk) (fun S as H _ _=>facts S as H) e2 ?_;cases r with
  | inl us =>
   subst zr;intro Dd H' S' ai R' o n;obtain ⟨S3,R3⟩:=(R'.pick fun p hp=>List.mem_append_right _ hp).give o n;exact q _ H' S3 ai R3
  | inr x =>
   subst zr;exact fun v dx H' S' ai R' hd=>q v dx H' S' ai (((R'.pick (ps2:=ps) fun p hp=>List.mem_cons_of_mem _ (List.mem_append_right _ hp))).push R'.top) hd
end
noncomputable def Tg (o:M T):M T:=fun s=>match o s with
 | some (.obj n,s1)=>(match s1.sto[n]? with
  | some (.lst xs)=>some (.tup xs,s1)
  | _=>none)
 | _=>none
noncomputable def Li (o v:M T):S:=fun s=>match o s with
 | some (.obj n,s0)=>(match s0.sto[n]? with
  | some (.lst _)=>(match v s0 with
   | some (t,s1)=>(match s1.sto[n]? with
    | some (.lst xs)=>if xs.length<lim then some (.next,{ s1 with sto:=s1.sto.set n (.lst (xs++[t])) }) else none
    | _=>none)
   | none=>none)
  | _=>none)
 | _=>none
noncomputable def a1n (j:Nat):M T:=fun s=>match s.env[j]? with
 | some (some (.lst xs,true))=>(match xs[xs.length - 1]? with
  | some t=>some (t,jj j (.lst xs.dropLast) true s)
  | none=>none)
 | _=>none
def a2t:List T->Option T
 | [.int i,.int j]=>some (.int (if j<i then j else i))
 | _=>none
noncomputable def a5h (g:T->Option T) (a:MX):MX:=fun s=>match a s with
 | some (.inl x,s1)=>(match g x with
  | some w=>some (.inl w,s1)
  | none=>none)
 | some (.inr x,s1)=>some (.inr x,s1)
 | none=>none
section
variable {X:Cx}
end
section
variable {X:Cx} {B:Bas} {a b c e o k:Expr} {m mo mk mv m1 m2:M T} {pos p:Pos}
theorem Ib (hg:Gl X "tuple") (hm:X.mg "tuple" = none) (ho:PE X o (tOf X.K B mo)) (he:starEach [o] X.env=(false,eval o X.env)::starEach [] X.env:=by rfl) (aL:(backTo pos (starEach [] X.env)).any (·.1)=false:=by rfl) :
  PE X (.Call (.Name "tuple" p) [o] [] pos) (tOf X.K B (Tg mo)):=(gn uh hg hm (by rfl) (jc ho lg he) (by decide) (by decide) he aL).imp fun σ H Q z9=>by
 obtain ⟨st,ps,S,as,R,t,aa,ev,q⟩:=z9;unfold Tg at ev;split at ev
 ·rename_i n s1 e1;split at ev
  ·rename_i xs e2;cases ev;refine ⟨st,ps,S,as,R,_,_,e1,fun v H1 S1 ae R1=>?_⟩;have t1:=R1.top;cases t1 with
   | @obj _ a ha =>
    obtain ⟨a',h1,h2,vs,h3,h4⟩:=R1.sto.at' n _ e2;rw [ha] at h1; cases h1;refine ⟨a,vs,rfl,.inl ⟨SqL.of h3,fun l hl=>?_⟩⟩;have y:=Ext.laid R1.sub hl (.tup vs);exact q _ _ _ _ ((R1.drop.ext y).push (.tup (SqT.of bw) (h4.mono y.s nol)))
  ·cases ev
 ·cases ev
theorem Nf {st:Stmt} (h:PS X st (Nz (tBM X.K "list" Cu (tOf X.K B mo) (Bf (tOf X.K B mv) U7)))):PS X st (sOf X.K B (Li mo mv)):=h.imp fun D σ H z9=>by
 obtain ⟨st,ps,S,as,R,fl,aa,e,q⟩:=z9;unfold Li at e;split at e
 ·rename_i n s0 e0;split at e
  ·rename_i ys ey;split at e
   ·rename_i t s1 e1;split at e
    ·rename_i xs e2;obtain ⟨hl,e⟩:=qz e;cases e;refine ⟨st,ps,S,as,R,_,s0,e0,fun v0 H0 S0 fe R0=>?_⟩;have tp:=R0.top;cases tp with
     | @obj _ a0 ha0 =>
      obtain ⟨a0',l0,_,vs0,l1,_⟩:=R0.sto.at' n _ ey;rw [ha0] at l0; cases l0;refine ⟨.inl ⟨rfl,_,SqL.of l1⟩,s0,_,S0,fe,R0,_,s1,e1,fun v H1 S1 ae R1=>?_⟩;have t2:=R1.top2;cases t2 with
      | @obj _ a2 ha2 =>
       obtain ⟨a',k1,k2,vs,k3,k4⟩:=R1.sto.at' n _ e2;rw [ha2] at k1; cases k1;exact ⟨_,vs,v,rfl,rfl,k3,by rw [k4.length]; exact Nat.lt_of_lt_of_le hl j7,q _ _ S1 ae (R1.drop.drop.Gk e2 ha2 ⟨_,bw,k4.append (.cons R1.top .nil)⟩)⟩
    ·cases e
   ·cases e
  ·cases e
 ·cases e
theorem Xq (j:Nat) (h:PE X e (a4n X.K "list" a4f (Ol j))):PE X e (tOf X.K B (a1n j)):=h.imp fun σ H Q z9=>by
 obtain ⟨st,ps,S,as,R,t,aa,ev,q⟩:=z9;unfold a1n at ev;split at ev
 ·rename_i xs e2;split at ev
  ·rename_i t e3;cases ev;obtain ⟨w,h1,_,h3⟩:=R.slots j _ true e2;obtain ⟨p0,rfl,ow⟩:=h3 rfl;obtain ⟨vs,hH,h4⟩:=ow.own;obtain ⟨y,hy,ry⟩:=h4.get e3;have cT:vs[vs.length - 1]? = some y:=by rw [h4.length]; exact hy
   have R2:=R.turn (ob:=.lst vs.dropLast) (t':=.lst xs.dropLast) e2 h1 ⟨_,bw,h4.dropLast⟩;exact ⟨_,h1,.inl ⟨rfl,_,SqL.of hH⟩,p0,vs,y,rfl,rfl,hH,cT,q _ _ S as (R2.push ry)⟩
  ·cases ev
 ·cases ev
theorem Ah (hc:X.calm=true):Il X (.builtin "min") a2t:=by
 intro pins s σ H xs us Q I rs z8;obtain ⟨S,as,ts,w,sub,hr,hf,q⟩:=z8;cases hr with
 | nil=>exact gj hf
 | @cons x t cf ts' h1 h2 =>
  cases h2 with
  | nil=>cases h1 <;> exact gj hf
  | @cons y u xs2 ts2 h3 h4 =>
   cases h4 with
   | cons h5 h6=>cases h1 <;> cases h3 <;> exact gj hf
   | nil =>
    cases h1 with
    | int i =>
     cases h3 with
     | int j =>
      cases hf;exact Pq hc pins s σ H _ us Q I rs ⟨i,j,rfl,q _ H S (Ext.refl sub) (.int _)⟩
     | _=>exact gj hf
    | _=>exact gj hf
end
section
variable {X:Cx} {B:Bas} {a:Expr} {mx:MX} {pos:Pos} {Cl:Addr} {f:Str} {E:XK} {g:T->Option T}
theorem a4v {op:UnaryOp} (ho:UnT X (unaryOp op) g) (ha:PE X a (Dm X.K B Cl f E mx)):PE X (.UnaryOp op a pos) (Dm X.K B Cl f E (a5h g mx)):=(Yv ho ha).imp fun σ H Q z9=>by
 obtain ⟨st,ps,S,as,R,r,aa,e,q⟩:=z9;unfold a5h at e;split at e
 ·rename_i x s1 e1;split at e
  ·rename_i w e2;cases e;exact ⟨st,ps,S,as,R,_,_,e1,fun v H1 S1 ae R1=>⟨S1,ae,x,w,R1.sub,R1.top,e2,fun w H3 S3 x r=>q w H3 S3 ae ((R1.drop.ext x).push r)⟩⟩
  ·cases e
 ·rename_i x s1 e1;cases e;exact ⟨st,ps,S,as,R,_,_,e1,q⟩
 ·cases e
theorem Fd {ms:MXs} {h:List T->Option T} {e:Expr} (hp:PE X e (tCB (rL X.K h) (Zt X.K B Cl f E ms))):PE X e (Dm X.K B Cl f E (Vv h ms)) :=
 hp.imp fun σ H Q z9=>by
  obtain ⟨st,ps,S,as,R,r,aa,e,q⟩:=z9;obtain ⟨ra,e1,e2⟩:=Gx e;rcases e2 with ⟨ts,t,rfl,e3,rfl⟩ | ⟨x,rfl,rfl⟩
  ·exact ⟨st,ps,S,as,R,_,aa,e1,fun vs H1 S1 ae R1 rs=>⟨S1,ae,ts,t,R1.sub,rs,e3,fun v H2 S2 x r=>q v H2 S2 ae ((R1.ext x).push r)⟩⟩
  ·exact ⟨st,ps,S,as,R,_,aa,e1,q⟩
end
section
variable {K:PySem.W.Frag} {B:Bas} {f:Str} {i:Nat} {mb:S} {Cl:Addr}
end
section
variable {X:Cx} {B:Bas} {e:Expr} {es:List Expr} {ms:M (List T)} {pos p q1 q2 aM:Pos} {k:Nat} {a Cl:Addr} {f x:Str} {fd:FuncData} {pn:List Str} {F:FnX} {h₀:ExceptHandler} {hs:List ExceptHandler} {th:Addr->TS} {i:Nat} {mb:S}
end
def Al (lo:Int) (n:Nat):List T:=(List.range n).map fun (k:Nat)=>.int (lo+(k:Int) * 6)
noncomputable def Es (a b c:M T):M (List T):=fun s=>match a s with
 | some (.int lo,s1)=>match b s1 with
  | some (.int hi,s2)=>match c s2 with
   | some (.int d,s3)=>if d=6/\lo.natAbs<lim/\hi.natAbs<lim then some (Al lo ((hi - lo+5) / 6).toNat,s3) else none
   | _=>none
  | _=>none
 | _=>none
theorem Bv {a b c:M T} {ts:List T} {s s':Sta} (h:Es a b c s=some (ts,s')):∃ (lo hi:Int) (s1 s2:Sta),a s=some (.int lo,s1)/\b s1=some (.int hi,s2)/\c s2=some (.int 6,s')/\(-1000000<lo/\lo<1000000/\-1000000<hi/\hi<1000000)/\ts=Al lo ((hi - lo+5) / 6).toNat:=by
 unfold Es at h;split at h
 ·rename_i lo s1 e1;split at h
  ·rename_i hi s2 e2;split at h
   ·rename_i d s3 e3;split at h
    ·rename_i hl; cases h;obtain ⟨hd,h1,h2⟩:=hl;subst hd;exact ⟨lo,hi,s1,s2,e1,e2,e3,by have h1:lo.natAbs<1000000:=h1; have h2:hi.natAbs<1000000:=h2; omega,rfl⟩
    ·cases h
   ·cases h
  ·cases h
 ·cases h
theorem K9 {lo:Int} {n i:Nat} {t:T} (h:(Al lo n)[i]? = some t):i<n/\t=.int (lo+(i:Int) * 6):=by
 unfold Al at h;rw [List.getElem?_map] at h;cases z:(List.range n)[i]? with
 | none=>rw [z] at h; cases h
 | some k =>
  rw [z] at h; cases h;obtain ⟨hi,e⟩:=List.getElem?_eq_some_iff.mp z;rw [List.getElem_range] at e; subst e;rw [List.length_range] at hi;exact ⟨hi,rfl⟩
theorem Qv {m1 m2 m3:M T}:∀ st ts aa,Es m1 m2 m3 st=some (ts,aa)->ts.length<=sizeLine:=fun st ts aa e=>by
 obtain ⟨lo,hi,s1,s2,_,_,_,hl,rfl⟩:=Bv e;unfold Al;rw [List.length_map,List.length_range,sizeLine_eq];omega
def It6 (lo:Int) (n:Nat):It:=⟨fun i _=>i<n,fun i H x H'=>H'=H/\x=.int (lo+i * 6),fun i _=>n<=i⟩
theorem Ud {P:Program} {w:World} {K:PySem.W.Frag} {tg:Expr} (it:Addr) (lo:Int) (n:Nat):Turn P w K tg (It6 lo n) [it] it (fun i h=>IsRangeIter h it (lo+(i:Nat) * 6) ((n:Int) - (i:Nat)) 6) where
 mem:=List.mem_singleton.mpr rfl
 obj:=fun i h st b hb=>by
  have e:b=it:=List.mem_singleton.mp hb;subst e
  exact ⟨_,st,fun v z=>by
   have z2:Data.fields _=Data.cell v:=z;cases z2⟩
 keep:=fun i h h' st k=>k it (List.mem_singleton.mpr rfl) _ st
 item:=by
  intro X hP hw hK hc i pins s σ H E I hf st hg;subst hP hw hK;obtain ⟨f0,f1,f2,f3,f4,f5⟩:=hf it (List.mem_singleton.mpr rfl);have W:=Walks.range (prog:=X.prog) (w:=X.w) (I.ok.hd hc) it lo 6 n;refine W.item i s _ _ hg st fun v h2 tk hv bc kk=>?_;obtain ⟨t,rfl⟩:=hv;have I1:Inv X pins σ H { s with heap:=h2,toks:=tk }:=I.turned (fun b o hb e=>kk b o (by simpa using hb) e) f0 f1 f3 f4 f5;refine ⟨_,rfl,Pr (s:={ s with heap:=h2,toks:=tk }) (n := "range_iterator") bc rfl rfl (by decide) ⟨.int (lo+i * 6),H,I1,⟨t,?_⟩,⟨rfl,rfl⟩,bc,fun b hb=>(hf b hb).1⟩⟩;rfl
 done:=by
  intro X hP hw hK hc i pins s σ H E I hf st hg;subst hP hw hK;obtain ⟨f0,f1,f2,f3,f4,f5⟩:=hf it (List.mem_singleton.mpr rfl);exact wpAny_pyNext_range_end (I.ok.hd hc) st (by have:n<=i:=hg; omega) fun h2 eb=>⟨rfl,I.turned (t':=s.toks) (fun b o hb e=>eb b o hb e) f0 f1 f3 f4 f5⟩
 self:=fun _ _ _ _ _ st h=>wpAny_pyIter_rangeiter st h
theorem zj (a b:Int):Builtin.Range.rangeSize a b 6=if a<b then (b - a - 1) / 6+1 else 0:=by
 unfold Builtin.Range.rangeSize;rw [if_pos (by decide)]
theorem Td {a b:Int} (h1:-1000000<a) (h2:a<1000000) (h3:-1000000<b) (h4:b<1000000):Builtin.Range.small a b 6=true:=by
 unfold Builtin.Range.small;rw [zj];unfold Builtin.Range.rangeFitsLong;split <;> simp <;> omega
section
variable {X:Cx} {tg:Expr}
theorem a1i {pins:List (Addr × Obj)} {σ:L2.St} {H:Hp} {s:Shared} {R:It->Hp->Prop} {E:Value->Shared->Prop} {lo hi:Int} {t u v:Tok} {tk:Nat} (I:Inv X pins σ H s) (hb:-1000000<lo/\lo<1000000/\-1000000<hi/\hi<1000000)
  (q:R (It6 lo ((hi - lo+5) / 6).toNat) H):wpAny (model X.prog X.w) X.A (pyIter (.ref s.heap.objs.size)) (PIE X pins σ tg R) E { s with heap:=s.heap.push { cls:=.type "range",data:=.fields #[.int lo t,.int hi u,.int 6 v] },toks:=tk }:=by
 refine wpAny_pyIter_range (IsRange.new ..) (Td hb.1 hb.2.1 hb.2.2.1 hb.2.2.2) ?_;have I1:Inv X pins σ H { s with heap:=s.heap.push { cls:=.type "range",data:=.fields #[.int lo t,.int hi u,.int 6 v] },toks:=tk }:=I.kept fun b o e=>Heap.get?_push_of_some _ e
 refine ⟨_,[_],_,_,H,rfl,
  I1.kept (t':=tk) fun b o e=>Heap.get?_push_of_some _ e,Ud _ lo ((hi - lo+5) / 6).toNat,?_,fun b hb=>?_,q⟩
 ·have e1:lo+((0:Nat):Int) * 6=lo:=by omega
  have e2:((((hi - lo+5) / 6).toNat:Nat):Int) - ((0:Nat):Int)=Builtin.Range.rangeSize lo hi 6:=by rw [zj]; split <;> omega
  show IsRangeIter _ _ (lo+((0:Nat):Int) * 6) (((((hi - lo+5) / 6).toNat:Nat):Int) - ((0:Nat):Int)) 6;rw [e1,e2];exact Heap.get?_push_size _ rfl
 ·have e:=List.mem_singleton.mp hb;subst e;exact I1.Xw (Nat.le_refl _) (I1.hok.fresh (Nat.le_refl _))
noncomputable def a3o (ta:TA):TI:=fun σ H R=>ta σ H fun vs H1=>∃ i j:Int,vs=[.int i,.int j,.int 6]/\(-1000000<i/\i<1000000/\-1000000<j/\j<1000000)/\R (It6 i ((j - i+5) / 6).toNat) H1
theorem Nx (x:Int):Builtin.divisionGoesByPylong x 6=false:=by
 unfold Builtin.divisionGoesByPylong;exact Bool.and_eq_false_imp.mpr fun h=>absurd (of_decide_eq_true h) (by decide)
theorem Rc {a b c:Expr} {ta:TA} {p pos:Pos} (hg:Gl X "range") (hm:X.mg "range" = none) (ha:PA X [a,b,c] ta) (hs:starEach [a,b,c] X.env=(false,eval a X.env)::starEach [b,c] X.env:=by rfl) (aO:(backTo pos (starEach [b,c] X.env)).any (·.1)=false:=by rfl) :
  PI X tg (.Call (.Name "range" p) [a,b,c] [] pos) (a3o ta):=by
 intro pins s σ H R I h;refine Call_ (Ek I hg hm boot_range (PyProof.Rows.callWith_type1 (thn (ha pos pins s σ H _ I h) fun us s1 z0=>?_) hs aO));obtain ⟨vs,H1,I1,r1,q1⟩:=z0;obtain ⟨i,j,e,hb,q⟩:=q1;subst e;cases r1 with
 | cons r rr =>
  cases rr with
  | cons r2 rr =>
   cases rr with
   | cons r3 rr =>
    cases rr;obtain ⟨t,rfl⟩:=r;obtain ⟨t2,rfl⟩:=r2;obtain ⟨t3,rfl⟩:=r3;exact call_range_3 (by decide) (a1i (tk:=s1.toks) I1 hb q) (.inl (Nx _))
end
section
variable {X:Cx} {B:Bas} {a b c tg:Expr} {m1 m2 m3:M T} {pos p:Pos}
theorem Tt (hg:Gl X "range") (hm:X.mg "range" = none) (h1:PE X a (tOf X.K B m1)) (h2:PE X b (tOf X.K B m2)) (h3:PE X c (tOf X.K B m3)) (hs:starEach [a,b,c] X.env=(false,eval a X.env)::starEach [b,c] X.env:=by rfl) (aO:starEach [b,c] X.env=(false,eval b X.env)::starEach [c] X.env:=by rfl) (da:starEach [c] X.env=(false,eval c X.env)::starEach [] X.env:=by rfl) (hp:(backTo pos (starEach [b,c] X.env)).any (·.1)=false:=by rfl) :
  PI X tg (.Call (.Name "range" p) [a,b,c] [] pos) (iOf X.K B (Es m1 m2 m3)):=by
 intro pins s σ H R I hw;refine Rc (ta:=Bf (tOf X.K B m1) (Bf (tOf X.K B m2) (Bf (tOf X.K B m3) U7))) hg hm (jc h1 (jc h2 (jc h3 lg da) aO) hs) hs hp pins s σ H R I ?_;obtain ⟨st,ps,S,as,Rl,ts,aa,e,hz,q⟩:=hw;obtain ⟨lo,hi,s1,s2,e1,e2,e3,hl,rfl⟩:=Bv e;refine ⟨st,ps,S,as,Rl,_,_,e1,fun v H1 S1 ae R1=>⟨s1,_,S1,ae,R1,_,_,e2,fun u H2 S2 aA R2=>⟨s2,_,S2,aA,R2,_,_,e3,fun x H3 S3 aJ R3=>?_⟩⟩⟩;have t3:=R3.top;have t2:=R3.top2;have t1:=R3.drop.top2;cases t3;cases t2;cases t1;refine ⟨lo,hi,rfl,by omega,q _ H3 S3 aJ [] R3.drop.drop.drop fun S3 aJ H3 _ hh=>⟨fun i t e=>?_,fun i hj=>?_⟩⟩
 ·obtain ⟨hi,rfl⟩:=K9 e;refine ⟨hi,fun x H' y=>⟨S3,by rw [y.1]; exact Ext.refl hh,?_⟩⟩;have:=y.2; subst this;exact .int _
 ·show ((hi - lo+5) / 6).toNat<=i;unfold Al at hj
  rwa [List.length_map,List.length_range] at hj
end
end
section
namespace L2
open PySem PySem.Spec PyProof.Rows
end L2
namespace C
open PySem PySem.Spec PyProof.Rows L2
noncomputable def a5a:List T->Option T
 | [.int i]=>if i.natAbs.log2<1920 then some (.str (toString i)) else none
 | [.str x]=>some (.str x)
 | _=>none
noncomputable def a67:T->T->Option T
 | .int i,.int j=>if 0<=j/\(Builtin.Int.intBits i:Int) * j<=2 ^ 27 then some (.int (i ^ j.toNat)) else none
 | _,_=>none
noncomputable def a1j (a b:T):Option Bool:=match dat a with
 | some x=>(match dat b with
  | some y=>if x.depth<=150 then some (PyData.eqv x y) else none
  | none=>none)
 | none=>none
def eqZ (a b:T):Option T:=(a1j a b).map .bl
def neZ (a b:T):Option T:=(a1j a b).map fun e=>.bl (!e)
theorem Um {t u:T} {b:Bool} (h:a1j t u=some b):∃ x y,dat t=some x/\dat u=some y/\x.depth<=150/\b=PyData.eqv x y:=by
 unfold a1j at h;split at h
 ·rename_i x ex;split at h
  ·rename_i y ey;split at h
   ·rename_i hd; cases h; exact ⟨x,y,ex,ey,hd,rfl⟩
   ·cases h
  ·cases h
 ·cases h
noncomputable def a2j (f:T->T->Option T) (o e:M T):M T:=fun s=>match o s with
 | some (.obj n,s1)=>(match e s1 with
  | some (u,s2)=>(match s2.sto[n]? with
   | some (.lst xs)=>(match f (.lst xs) u with
    | some (.bl b)=>some (.bl b,s2)
    | _=>none)
   | _=>none)
  | none=>none)
 | _=>none
noncomputable def Ry (o:M T):M T:=fun s=>match o s with
 | some (.obj n,s1)=>(match s1.sto[n]? with
  | some (.lst _)=>some (.bl true,s1)
  | _=>none)
 | _=>none
noncomputable def R9 (i:Nat) (e:MX):SX:=fun s=>match s.env[i]? with
 | some (some (.obj n,false))=>(match s.sto[n]? with
  | some (.lst _)=>(match e s with
   | some (.inl t,s1)=>(match s1.sto[n]? with
    | some (.lst xs)=>if xs.length<lim then some (.inl .next,{ s1 with sto:=s1.sto.set n (.lst (xs++[t])) }) else none
    | _=>none)
   | some (.inr x,s1)=>some (.inr x,s1)
   | none=>none)
  | _=>none)
 | _=>none
section
variable {X:Cx}
theorem jm:Il X (.type "str") a5a:=by
 intro pins s σ H xs us Q I rs z8;obtain ⟨S,as,ts,w,sub,hr,hf,q⟩:=z8;cases hr with
 | nil=>exact gj hf
 | @cons x t cf ts' h1 h2 =>
  cases h2 with
  | cons h3 h4=>cases h1 <;> exact gj hf
  | nil =>
   obtain ⟨u,rfl,ru⟩:=rs.one;cases h1 with
   | int i =>
    obtain ⟨t,rfl⟩:=ru;obtain ⟨hz,hf⟩:=qz hf;cases hf;exact PySem.P.str_of_int hz ⟨.str _,H,I.tok _,⟨_,rfl⟩,q _ H S (Ext.refl sub) (.str _)⟩
   | str x =>
    obtain ⟨t,rfl⟩:=ru;cases hf;exact PySem.P.str_of_str ⟨.str _,H,I,⟨_,rfl⟩,q _ H S (Ext.refl sub) (.str _)⟩
   | _=>exact gj hf
theorem Lz:OpT X (binaryOp .Pow) a67:=by
 intro pins s σ H x y v u Q I rx ry z8;obtain ⟨S,as,t,t2,w,sub,ht,hu,hf,q⟩:=z8;cases ht <;> first | exact gj hf | skip
 cases hu <;> first | exact gj hf | skip
 rename_i i j;obtain ⟨tx,rfl⟩:=rx;obtain ⟨ty,rfl⟩:=ry;obtain ⟨hc,hf⟩:=qz hf;cases hf;exact pow_int hc.1 hc.2 ⟨.int _,H,I.tok _,⟨_,rfl⟩,q _ H S (Ext.refl sub) (.int _)⟩
theorem Ku {op:CmpOp} {neg:Bool} (bZ:(op=.Eq/\neg=false)\/(op=.NotEq/\neg=true)) {g:T->T->Option T} (hg:∀ t u w,g t u=some w->∃ b,a1j t u=some b/\w=.bl (xor neg b)) (hu:X.A.units+160<cLine):OpT X (compareOp op) g:=by
 intro pins s σ H x y v u Q I rx ry z8;obtain ⟨S,as,t,t2,w,sub,ht,hu2,hf,q⟩:=z8;obtain ⟨b,e,rfl⟩:=hg _ _ _ hf;have fin:EP X pins σ Q (.bool (xor neg b)) s:=⟨.bl (xor neg b),H,I,rfl,q _ H S (Ext.refl sub) (.bl _)⟩;obtain ⟨dx,dy,e1,e2,hd,rfl⟩:=Um e;obtain ⟨b1,x1⟩:=ht.reads I sub e1 rx;obtain ⟨b2,x2⟩:=hu2.reads I sub e2 ry;have hm:X.A.units+min dx.depth dy.depth<cLine:=by have:=Nat.min_le_left dx.depth dy.depth; omega
 rcases bZ with ⟨rfl,rfl⟩ | ⟨rfl,rfl⟩
 ·exact SeqAt.compareEq_reads x1 x2 (qd _ e1) (qd _ e2) hm (by simpa using fin)
 ·exact SeqAt.compareNe_reads x1 x2 (qd _ e1) (qd _ e2) hm (by simpa using fin)
theorem Ym (hu:X.A.units+160<cLine):OpT X (compareOp .Eq) eqZ:=Ku (.inl ⟨rfl,rfl⟩) (fun t u w h=>by
 obtain ⟨b,e1,e2⟩:=Option.map_eq_some_iff.mp h;exact ⟨b,e1,by rw [<- e2]; simp⟩) hu
theorem Rp (hu:X.A.units+160<cLine):OpT X (compareOp .NotEq) neZ:=Ku (.inr ⟨rfl,rfl⟩) (fun t u w h=>by
 obtain ⟨b,e1,e2⟩:=Option.map_eq_some_iff.mp h;exact ⟨b,e1,by rw [<- e2]; simp⟩) hu
end
section
variable {X:Cx} {B:Bas} {a b c e o:Expr} {m mo m1 m2:M T} {pos p:Pos}
theorem Lh {f:T->T->Option T} {σ:L2.St} {H:Hp} {Q:VK} (h:tOf X.K B (a2j f m1 m2) σ H Q):tOp (r2 X.K f) (tOf X.K B m1) (tOf X.K B m2) σ H Q:=by
  obtain ⟨st,ps,S,as,R,t,aa,ev,q⟩:=h;unfold a2j at ev;split at ev
  ·rename_i n s1 e1;split at ev
   ·rename_i u s2 e2;split at ev
    ·rename_i xs e3;split at ev
     ·rename_i k e4;cases ev;refine ⟨st,ps,S,as,R,_,s1,e1,fun v H1 S1 ae R1=>⟨s1,_,S1,ae,R1,_,_,e2,fun u2 H2 S2 aA R2=>?_⟩⟩;have t1:=R2.top2;cases t1 with
      | @obj _ a0 ha =>
       obtain ⟨a',h1,h2,vs,h3,h4⟩:=R2.sto.at' n _ e3;rw [ha] at h1; cases h1;have sm:Same S2 (upd S2 a0 (.lst vs)):=Same.upd h2 _
       have sub:Same (upd S2 a0 (.lst vs)) H2:=fun b o q=>by
        by_cases z:b=a0
        ·subst z; rw [bw] at q; cases q; exact h3
        ·rw [dj z] at q; exact R2.sub _ _ q
       refine ⟨upd S2 a0 (.lst vs),aA,.lst xs,u,.bl k,sub,.lst (SqL.of bw) (h4.mono sm nol),R2.top.mono sm nol,e4,fun w H3 S3 x r=>?_⟩;cases r;exact q _ H3 S2 aA ((R2.drop.drop.ext ⟨Same.refl _,x.h,R2.sub.trans x.h,fun _ z=>.inl z⟩).push (.bl _))
     ·cases ev
    ·cases ev
   ·cases ev
  ·cases ev
theorem Z4 {op:CmpOp} {f:T->T->Option T} (ho:OpT X (compareOp op) f) (ha:PE X a (tOf X.K B m1)) (hb:PE X b (tOf X.K B m2)) (hm:behindInMarks op b=false):PE X (.Compare a [op] [b] pos) (tOf X.K B (a2j f m1 m2)) :=
 (T8 ho ha hb hm).imp fun σ H Q h=>Lh h
theorem Xo {op:CmpOp} {f:T->T->Option T} (ho:OpT X (compareOp op) f) (ha:PE X a (tOf X.K B m1)) (hb:PE X b (tOf X.K B m2)) (hm:behindInMarks op b=false):PT X (.Compare a [op] [b] pos) (cOf X.K B (Bc (a2j f m1 m2))) :=
 Ai ((Qs ho ha hb hm).imp fun σ H Q h=>Lh h)
theorem Tq {pc:Pos} (hg:Gl X "isinstance") (hm:X.mg "isinstance" = none) (bU:Gl X "list") (bT:X.mg "list" = none) (ha:PE X a (tOf X.K B mo))
  (he:starEach [a,.Name "list" pc] X.env=(false,eval a X.env)::starEach [.Name "list" pc] X.env:=by rfl) (dB:starEach [.Name "list" pc] X.env=(false,eval (.Name "list" pc) X.env)::starEach [] X.env:=by rfl) (aL:(backTo pos (starEach [.Name "list" pc] X.env)).any (·.1)=false:=by rfl) :
  PE X (.Call (.Name "isinstance" p) [a,.Name "list" pc] [] pos) (tOf X.K B (Ry mo)):=by
 have hc:Bp X (.builtin "isinstance") (fun xs H Q=>∃ p ys,xs=[.ref p,.ty "list"]/\SqL X.K H p ys/\Q (.bl true) H):=by
  intro pins s σ H xs us Q I rs z8;obtain ⟨p,ys,ex,hq,q⟩:=z8;subst ex;obtain ⟨u,w,rfl,r1,r2⟩:=rs.two;cases r2;cases r1;obtain ⟨its,_,⟨o,n,h1,h2,_⟩,_⟩:=I.list hq;exact PySem.W.kia_one PySem.W.kitx_list I.kIn ⟨o,h1,h2⟩ (by rfl) (fun z=>nomatch z) fun tk=>⟨.bl true,H,I.tok _,rfl,q⟩
 have dG:PE X (.Name "list" pc) (tC (.ty "list")):=Rb bU bT boot_list rfl (by decide) (by decide);refine (gk hc hg hm PyProof.Rows.boot_isinstance (jc ha (jc dG lg dB) he) (by decide) (by decide) he aL).imp fun σ H Q z0=>?_;obtain ⟨st,ps,S,as,R,t,aa,ev,q⟩:=z0;unfold Ry at ev;split at ev
 ·rename_i n s1 e1;split at ev
  ·rename_i xs e2;cases ev;refine ⟨st,ps,S,as,R,_,_,e1,fun v H1 S1 ae R1=>?_⟩;have t1:=R1.top;cases t1 with
   | @obj _ a0 ha0 =>
    obtain ⟨a',h1,h2,vs,h3,h4⟩:=R1.sto.at' n _ e2;rw [ha0] at h1; cases h1;exact ⟨_,vs,rfl,SqL.of h3,q _ H1 S1 ae (R1.drop.push (.bl _))⟩
  ·cases ev
 ·cases ev
variable {mv:MX} {Cl:Addr} {f:Str} {E:XK}
theorem Qz (i:Nat) {st:Stmt} (h:PS X st (Nz (tBM X.K "list" Cu (Ol i) (Bf (Dm X.K B Cl f E mv) U7)))):PS X st (Dr X.K B Cl f E (R9 i mv)):=h.imp fun D σ H z9=>by
 obtain ⟨st,ps,S,as,R,fl,aa,e,q⟩:=z9;unfold R9 at e;split at e
 ·rename_i n e0;split at e
  ·rename_i ys ey;obtain ⟨w,h1,h2,_⟩:=R.slots i _ false e0;have r0:=h2 rfl;cases r0 with
   | @obj _ a ha =>
    obtain ⟨a0,l0,_,vs0,l1,_⟩:=R.sto.at' n _ ey;rw [ha] at l0; cases l0;split at e
    ·rename_i t s1 e1;split at e
     ·rename_i xs e2;obtain ⟨hl,e⟩:=qz e;cases e;refine ⟨_,h1,.inl ⟨rfl,_,SqL.of l1⟩,st,(.ref a,.obj n)::ps,S,as,R.push (h2 rfl),_,s1,e1,fun v H1 S1 ae R1=>?_⟩;have t2:=R1.top2;cases t2 with
      | @obj _ a2 ha2 =>
       obtain ⟨a',k1,k2,vs,k3,k4⟩:=R1.sto.at' n _ e2;rw [ha2] at k1; cases k1;exact ⟨a,vs,v,rfl,rfl,k3,by rw [k4.length]; exact Nat.lt_of_lt_of_le hl j7,q _ _ S1 ae (R1.drop.drop.Gk e2 ha2 ⟨_,bw,k4.append (.cons R1.top .nil)⟩)⟩
     ·cases e
    ·rename_i t s1 e1;cases e;exact ⟨_,h1,.inl ⟨rfl,_,SqL.of l1⟩,st,ps,S,as,R,_,_,e1,fun v dx H1 S1 ae R1 hd=>q v dx σ H1 S1 ae R1 hd⟩
    ·cases e
  ·cases e
 ·cases e
end
end C
end
section
namespace L2
open PySem PySem.Spec PyProof.Rows
section
variable {prog:Program} {w:World} {A:Around} {E:Value->Shared->Prop} {s:Shared} {a kS:Addr} {vs:List Value} {kz:List Int} {P:PySem.Fin->Shared->Prop} {keys:Array Value} {e e1:Nat}
end
section
variable {X:Cx} {pins:List (Addr × Obj)} {σ:St} {H:Hp} {s:Shared} {E:Value->Shared->Prop} {l:Addr} {Q:VK} {vs:List Value} {kz:List Int} {f:Value} {kw:List (Str × Value)}
end
end L2
end
section
namespace C
open PySem PySem.Spec PyProof.Rows L2
section
variable {X:Cx} {B:Bas} {e:Expr} {m:M T} {pos p q dJ:Pos} {x y pn:Str} {F:Fn} {k:Nat}
end
section
variable {X:Cx} {B:Bas} {k o e:Expr} {mk mo mx:M T} {pos:Pos}
end
end C
end
section
namespace K
open C PySem
end K
end
section
namespace D
open PySem PySem.Spec PyProof.Rows L2 C
noncomputable def top (i:Nat):Stmt:=PySem.Challenge.pw_calm_k77_papers_written_and_read.main.body.getD i (.Pass ⟨0,0,0,0⟩)
noncomputable def Eh (i:Nat):Stmt->Stmt
 | .ClassDef _ _ _ b _ _ _ _ _ _ _=>b.getD i (.Pass ⟨0,0,0,0⟩)
 | s=>s
section
variable {P:Program} {w:World} {K:PySem.W.Frag} {mg:Str->Option Value} {base:Heap} {x q:Str} {st:Stmt} {N ps:List Str} {k:Nat}
def FA (K:PySem.W.Frag) (mg:Str->Option Value) (x:Str) (st:Stmt):Prop:=∃ f fd,Fun K x x st f fd/\mg x=some (.ref f)
def Bd (x q:Str) (st:Stmt) (ps:List Str):Prop:=∀ (kV doc pm:Value) (an:Option Addr) (aB ct:Value) (us:List Value),us.length=ps.length->bindArgs (PySem.W.fnOf x q (xr st) (nj st) (fj st) .none kV doc pm an aB ct) ⟨us,[]⟩=pure (ps.zip us)
abbrev GoB (P:Program) (w:World) (K:PySem.W.Frag) (mg:Str->Option Value) (base:Heap) (q:Str) (st:Stmt) (N:List Str) (k:Nat) (b:S):Prop:=∀ (aB:Value) (A:Around) (outer:List Env) (s:Shared) (H:Hp) (E:XK) (B:Bas) (f:Addr),uf k (A.deeper (envOfC q (fj st) s.heap.objs.size f aB))->(A.deeper (envOfC q (fj st) s.heap.objs.size f aB)).units+1<cLine->(A.deeper (envOfC q (fj st) s.heap.objs.size f aB)).units+64<cLine->N.Nodup ->
   PSs (Hl CX0 P w K mg base N q (fj st) f aB A outer s H E).nox (nj st) (sOf K B b)
theorem go0 {b:S} {f:Addr} {fd:FuncData} (F:Fun K x q st f fd) (hb:GoB P w K mg base q st N k b)
  (Sc:rm N ps (fj st):=by exact ⟨rfl,rfl,rfl,by decide +kernel,rfl,by decide +kernel,by decide +kernel⟩) (hN:ps.length<=N.length:=by decide):ur P w K mg base CX0 (k+1) f fd ps (spF K ps.length (Ql N.length b)) :=
 Xd F Sc hN fun aB A outer s H E B hr=>hb aB A outer s H E B f hr (Y9 hr) hr.units Sc.nd
theorem go {b:S} (h:FA K mg x st) (hb:GoB P w K mg base x st N k b)
  (Sc:rm N ps (fj st):=by exact ⟨rfl,rfl,rfl,by decide +kernel,rfl,by decide +kernel,by decide +kernel⟩) (hN:ps.length<=N.length:=by decide)
  (bd:Bd x x st ps:=by first | (exact fun _ _ _ _ _ _ us hl=>bd1 (fun _=>rfl) us hl) | (exact fun _ _ _ _ _ _ us hl=>bd2 (fun _ _=>rfl) us hl) | (exact fun _ _ _ _ _ _ us hl=>bd3 (fun _ _ _=>rfl) us hl) | (exact fun _ _ _ _ _ _ us hl=>bd4 (fun _ _ _ _=>rfl) us hl) | (exact fun _ _ _ _ _ _ us hl=>bd5 (fun _ _ _ _ _=>rfl) us hl)):jw P w K mg base x (k+1) ps (Ql N.length b):=by
 obtain ⟨f,fd,F,m⟩:=h;exact ⟨f,fd,go0 F hb Sc hN,F.binds bd,F.kp,m⟩
theorem goX {b:SX} {Cl:Addr} {fl:Str} (h:FA K mg x st)
  (hb:∀ (aB:Value) (A:Around) (outer:List Env) (s:Shared) (H:Hp) (E:XK) (B:Bas) (f:Addr),uf k (A.deeper (envOfC x (fj st) s.heap.objs.size f aB))->(A.deeper (envOfC x (fj st) s.heap.objs.size f aB)).units+1<cLine->(A.deeper (envOfC x (fj st) s.heap.objs.size f aB)).units+64<cLine->N.Nodup ->
   PSs (Hl (CXx P w) P w K mg base N x (fj st) f aB A outer s H E) (nj st) (Dr K B Cl fl E b))
  (Sc:rm N ps (fj st):=by exact ⟨rfl,rfl,rfl,by decide +kernel,rfl,by decide +kernel,by decide +kernel⟩) (hN:ps.length<=N.length:=by decide)
  (bd:Bd x x st ps:=by first | (exact fun _ _ _ _ _ _ us hl=>bd1 (fun _=>rfl) us hl) | (exact fun _ _ _ _ _ _ us hl=>bd2 (fun _ _=>rfl) us hl) | (exact fun _ _ _ _ _ _ us hl=>bd3 (fun _ _ _=>rfl) us hl) | (exact fun _ _ _ _ _ _ us hl=>bd4 (fun _ _ _ _=>rfl) us hl) | (exact fun _ _ _ _ _ _ us hl=>bd5 (fun _ _ _ _ _=>rfl) us hl)):qj P w K mg base x (k+1) ps Cl fl (Kw N.length b):=by
 obtain ⟨f,fd,F,m⟩:=h;exact ⟨f,fd,M6 F Sc hN fun aB A outer s H E B hr=>hb aB A outer s H E B f hr (Y9 hr) hr.units Sc.nd,F.binds bd,F.kp,m⟩
theorem zero (h:FA K mg x st)
  (bd:Bd x x st ps:=by first | (exact fun _ _ _ _ _ _ us hl=>bd1 (fun _=>rfl) us hl) | (exact fun _ _ _ _ _ _ us hl=>bd2 (fun _ _=>rfl) us hl)):jw P w K mg base x k ps (fun _ _=>none):=by
 obtain ⟨f,fd,F,m⟩:=h;exact jw.zero F m (F.binds bd)
theorem lu {X:Cx} {B:Bas} {i:Nat} {y:Str} {e:Expr} {m:M T} {pos pos':Pos} (hN:X.N.Nodup) (he:PE X e (tOf X.K B m)) (hi:X.N[i]? = some y:=by rfl) (hx:Loc X.env.scope y:=by exact Or.inl rfl) (hs:swapsWith e (some (.Name y pos')) pos.line X.env=pure false:=by rfl) (hf:X.fn y=true\/X.env.scope.names.lookup y=some .local:=by first | exact .inl rfl | exact .inr rfl | assumption) :
  PS X (.Assign [.Name y pos'] e pos) (sOf X.K B (Yu i m)):=Cw i (ud hN hi hx he hs hf) fun _ _ _ h=>h
theorem a5l {b:SX} {f Cl:Addr} {fl:Str} {fd:FuncData} (F:Fun K x q st f fd)
  (hb:∀ (aB:Value) (A:Around) (outer:List Env) (s:Shared) (H:Hp) (E:XK) (B:Bas) (f:Addr),uf k (A.deeper (envOfC q (fj st) s.heap.objs.size f aB))->(A.deeper (envOfC q (fj st) s.heap.objs.size f aB)).units+1<cLine->(A.deeper (envOfC q (fj st) s.heap.objs.size f aB)).units+64<cLine->N.Nodup ->
   PSs (Hl (CXx P w) P w K mg base N q (fj st) f aB A outer s H E) (nj st) (Dr K B Cl fl E b))
  (Sc:rm N ps (fj st):=by exact ⟨rfl,rfl,rfl,by decide +kernel,rfl,by decide +kernel,by decide +kernel⟩) (hN:ps.length<=N.length:=by decide):ur P w K mg base (CXx P w) (k+1) f fd ps (spX K ps.length Cl fl (Kw N.length b)) :=
 M6 F Sc hN fun aB A outer s H E B hr=>hb aB A outer s H E B f hr (Y9 hr) hr.units Sc.nd
theorem ql:∀ st ts aa,V3 st=some (.inl ts,aa)->ts.length=0:=fun st ts aa e=>by cases e; rfl
theorem gw {m:MX} {l:MXs} {n:Nat} (h:∀ st ts aa,l st=some (.inl ts,aa)->ts.length=n):∀ st ts aa,Ei m l st=some (.inl ts,aa)->ts.length=n+1:=fun st ts aa e=>by
 unfold Ei at e;split at e
 ·split at e
  ·rename_i ts s2 e2; cases e; exact congrArg (· + 1) (h _ _ _ e2)
  ·cases e
  ·cases e
 ·cases e
 ·cases e
theorem um {l:MXs} {n:Nat} (h:∀ st ts aa,l st=some (.inl ts,aa)->ts.length=n) (hn:n<=1000):∀ st ts aa,l st=some (.inl ts,aa)->ts.length<=1000:=fun st ts aa e=>by rw [h _ _ _ e]; exact hn
abbrev XE (K:PySem.W.Frag) (mg:Str->Option Value) (x f q:Str) (i:Nat) (Cl Ca:Addr):Prop:=∃ D I fd,XC K Cl D I f/\XCl K Cl (.ref D::My.vB)/\Fun K "__init__" q (Eh 0 (top i)) I fd/\(Value.ref Cl :: .ref D::My.vB).contains (.ref Ca)=true/\mg x=some (.ref Cl)
end
end D
end
section
namespace D
open PySem L2 C
abbrev MA (K:PySem.W.Frag) (cR:Addr) (x q:Str) (i:Nat):Prop:=∃ f fd,Meth K cR x f/\Fun K x q (Eh i (top 22)) f fd
structure Zk (K:PySem.W.Frag) (mg:Str->Option Value) (cR cN Ca:Addr) (bm:List Value):Prop where
 cls:Cls K cR
 na_number:wz K cR "number"
 na_rows:wz K cR "rows"
 e:XE K mg "NoText" "row" "NoText.__init__" 3 cN Ca
 kc:a6f K mg "CalmError" Ca bm
 hR:mg "Reading" = some (.ref cR)
 h0:FA K mg "is_name" (top 10)
 h1:FA K mg "is_number" (top 11)
 h2:FA K mg "show_duty" (top 16)
 h3:FA K mg "show_times" (top 20)
 h4:FA K mg "show_row" (top 19)
 h5:FA K mg "papers_straight_within" (top 18)
 h6:FA K mg "paper_rows" (top 17)
 h7:FA K mg "show_papers" (top 15)
 h8:∃ f fd,Mk K cR f/\Fun K "__init__" "Reading.__init__" (Eh 0 (top 22)) f fd
 h9:MA K cR "next_words" "Reading.next_words" 1
 h10:MA K cR "need_that" "Reading.need_that" 2
 h11:FA K mg "number_of" (top 26)
 h12:FA K mg "name_of" (top 24)
 h13:FA K mg "duty_of" (top 23)
 h14:FA K mg "box_of" (top 25)
 h15:FA K mg "signed_of" (top 27)
 h16:FA K mg "rest_row" (top 32)
 h17:FA K mg "sum_row" (top 31)
 h18:FA K mg "head_of" (top 30)
 h19:FA K mg "with_papers" (top 29)
 h20:FA K mg "next_paper" (top 28)
 h21:FA K mg "read_papers" (top 21)
 h22:FA K mg "_law_rich" (top 34)
 h23:FA K mg "_law_rest" (top 35)
 h24:FA K mg "_law_take" (top 36)
 h25:FA K mg "_law_number" (top 37)
 h26:FA K mg "_law_times" (top 38)
 h27:FA K mg "_law_paper" (top 39)
 h28:FA K mg "_law_duty" (top 40)
 h29:FA K mg "_law_rows" (top 41)
 h30:FA K mg "_law_lines" (top 42)
 h31:FA K mg "_law_text" (top 43)
 h32:FA K mg "_law_alike" (top 44)
 h33:FA K mg "_law_right" (top 45)
 h34:FA K mg "law" (top 46)
 b_all:mg "all" = none
 b_bool:mg "bool" = none
 b_int:mg "int" = none
 b_isinstance:mg "isinstance" = none
 b_len:mg "len" = none
 b_list:mg "list" = none
 b_min:mg "min" = none
 b_range:mg "range" = none
 b_str:mg "str" = none
 b_sum:mg "sum" = none
 b_tuple:mg "tuple" = none
 b_zip:mg "zip" = none
 c_FIGURES:∃ u,mg "FIGURES" = some u/\Held K u (.str "0123456789")
 c_KEY_WORDS:∃ u,mg "KEY_WORDS" = some u/\Held K u (.tup [(.str "box"),(.str "lock"),(.str "hand"),(.str "own"),(.str "end"),(.str "set"),(.str "wait"),(.str "if"),(.str "else"),(.str "while"),(.str "rounds"),(.str "either"),(.str "or"),(.str "and"),(.str "not"),(.str "take"),(.str "give"),(.str "label"),(.str "say"),(.str "at"),(.str "divides"),(.str "true"),(.str "false")])
 c_LETTERS:∃ u,mg "LETTERS" = some u/\Held K u (.str "abcdefghijklmnopqrstuvwxyz")
 c_LONGEST_NAME:∃ tk,mg "LONGEST_NAME" = some (.int 8 tk)
 c_MOST_DEEP:∃ tk,mg "MOST_DEEP" = some (.int 90 tk)
 c_MOST_FIGURES:∃ tk,mg "MOST_FIGURES" = some (.int 400 tk)
 c_MOST_ROWS:∃ tk,mg "MOST_ROWS" = some (.int 5000 tk)
 c_WORD_SIGNS:∃ u,mg "WORD_SIGNS" = some u/\Held K u (.str "abcdefghijklmnopqrstuvwxyz0123456789")
section
variable {P:Program} {w:World} {K:PySem.W.Frag} {mg:Str->Option Value} {base:Heap} {cR cN Ca:Addr} {bm:List Value} (Z:Zk K mg cR cN Ca bm)
include Z
theorem Zk.r:XR P w K mg base "NoText" cN "row" "row" :=
 let ⟨_,_,_,c,_,F,_,m⟩:=Z.e; ⟨⟨_,_,_,c,Z9 c F ⟨rfl,rfl,rfl,by decide +kernel,rfl,by decide +kernel,by decide +kernel⟩ rfl rfl rfl (by decide) (by decide) (by decide) (fun _=>rfl),F.binds (ps:=["self","row"]) fun _ _ _ _ _ _ us hl=>bd2 (fun _ _=>rfl) us hl⟩,m⟩
theorem Zk.k:∃ D:Addr,XCl K cN (.ref D::My.vB)/\(Value.ref cN :: .ref D::My.vB).contains (.ref Ca)=true:=let ⟨D,_,_,_,k,_,c,_⟩:=Z.e; ⟨D,k,c⟩
theorem N7:jw P w K mg base "is_name" 1 ["word"] (_root_.K.m_is_name):=by
 refine go (N:=["word"]) Z.h0 fun _ _ _ _ _ _ _ _ hr hu hq nd=>?_;exact dw (gq (uz (Wd Ks Ks ao (dh (gk j8 (by rfl) Z.b_len PySem.boot_len (aj (ak 0 (pv 0)) au))) (Bj (by rfl) Z.c_LONGEST_NAME)) (uz (lq Jp (ig hu (ak 0 (pv 0)) ao (fun _ _=>rfl)) (Bo (by rfl) Z.c_LETTERS) rfl) (uz (dh (gk (Cg (by rfl)) (by rfl) Z.b_all PyProof.Rows.boot_all (aj (ni (qp (N:=["sign"]) ⟨rfl,fun j k h=>match j,h with | _+0,h=>(by cases h)⟩ ⟨rfl,rfl,by decide +kernel,by decide +kernel⟩ rfl (Lp (ak 0 (pv 0))) Ko (fun C s₀ H₀ ex pn=>pgE fun B=>(jr 0 (iy (show (["sign"]:List Str).Nodup by decide +kernel) rfl (Or.inl rfl)))) (fun C s₀ H₀ ex pn=>kj) (fun C s₀ H₀ ex pn=>peE fun B=>(lq Jp (ak 0 (pv 0)) (Bo (by rfl) Z.c_WORD_SIGNS) rfl)))) au))) (Aa (lq (Qq hq) (ak 0 (pv 0)) (Bo (by rfl) Z.c_KEY_WORDS) rfl))))))
theorem Ho:jw P w K mg base "is_number" 1 ["word"] (_root_.K.m_is_number):=by
 refine go (N:=["word"]) Z.h1 fun _ _ _ _ _ _ _ _ hr hu hq nd=>?_;exact c7 (nq (PW.pt (Tc (j4 (iu hq) (ak 0 (pv 0)) cj (dz _)) (Hh (Ej (uo (dh (gk (Cg (by rfl)) (by rfl) Z.b_all PyProof.Rows.boot_all (aj (ni (qp (N:=["sign"]) ⟨rfl,fun j k h=>match j,h with | _+0,h=>(by cases h)⟩ ⟨rfl,rfl,by decide +kernel,by decide +kernel⟩ rfl (Lp (ak 0 (pv 0))) Ko (fun C s₀ H₀ ex pn=>pgE fun B=>(jr 0 (iy (show (["sign"]:List Str).Nodup by decide +kernel) rfl (Or.inl rfl)))) (fun C s₀ H₀ ex pn=>kj) (fun C s₀ H₀ ex pn=>peE fun B=>(lq Jp (ak 0 (pv 0)) (Bo (by rfl) Z.c_FIGURES) rfl)))) au))))))))   (dw (gq vp))   jo)   (dw (gq (a3k (lq (iu hq) (ak 0 (pv 0)) cj (dz _)) (Aa (lq (Gj hq) (ig hu (ak 0 (pv 0)) ao (fun _ _=>rfl)) cj (dz _))))))
theorem Gg:jw P w K mg base "show_duty" 1 ["duty"] (_root_.K.m_show_duty):=by
 refine go (N:=["duty"]) Z.h2 fun _ _ _ _ _ _ _ _ hr hu hq nd=>?_;exact dw (gq (v7 cj (ni (qp (N:=["part"]) ⟨rfl,fun j k h=>match j,h with | _+0,h=>(by cases h)⟩ ⟨rfl,rfl,by decide +kernel,by decide +kernel⟩ rfl (qg (ak 0 (pv 0))) qe (fun C s₀ H₀ ex pn=>pgE fun B=>(jr 0 (iy (show (["part"]:List Str).Nodup by decide +kernel) rfl (Or.inl rfl)))) (fun C s₀ H₀ ex pn=>kj) (fun C s₀ H₀ ex pn=>peE fun B=>(dh (gn jm (by rfl) Z.b_str (by rfl) (aj (ak 0 (pv 0)) au))))))))
theorem yp:jw P w K mg base "show_times" 1 ["row"] (_root_.K.m_show_times):=by
 refine go (N:=["row"]) Z.h3 fun _ _ _ _ _ _ _ _ hr hu hq nd=>?_;exact dw (gq (je iw (je iw (v7 cj (ni (qp (N:=["place"]) ⟨rfl,fun j k h=>match j,h with | _+0,h=>(by cases h)⟩ ⟨rfl,rfl,by decide +kernel,by decide +kernel⟩ rfl (qg (Br (ak 0 (pv 0)) qb (ou (G8 sy ao)))) qe (fun C s₀ H₀ ex pn=>pgE fun B=>(jr 0 (iy (show (["place"]:List Str).Nodup by decide +kernel) rfl (Or.inl rfl)))) (fun C s₀ H₀ ex pn=>kj) (fun C s₀ H₀ ex pn=>peE fun B=>(dh (gn jm (by rfl) Z.b_str (by rfl) (aj (ak 0 (pv 0)) au))))))) cj) (dh (gn jm (by rfl) Z.b_str (by rfl) (aj (ig hu (ak 0 (pv 0)) (G8 sy ao) (fun _ _=>rfl)) au)))))
theorem Jr:jw P w K mg base "show_row" 2 ["paper"] (_root_.K.m_show_row):=by
 refine go (N:=["paper","words"]) Z.h4 fun _ _ _ _ _ _ _ _ hr hu hq nd=>?_;exact c7 (nq (j4 (iu hq) (ig hu (ak 0 (pv 0)) ao (fun _ _=>rfl)) cj (dz _))   (dw (lu (i:=1) nd (o9 (aj cj (aj (dh (gn jm (by rfl) Z.b_str (by rfl) (aj (ig hu (ak 0 (pv 0)) ao (fun _ _=>rfl)) au))) (aj (dh (gn jm (by rfl) Z.b_str (by rfl) (aj (dh (gk j8 (by rfl) Z.b_len PySem.boot_len (aj (ig hu (ak 0 (pv 0)) ao (fun _ _=>rfl)) au))) au))) au))) (f9 (bf (bf (bf dg))) (by decide)))))   (dw (nq (j4 (iu hq) (ig hu (ak 0 (pv 0)) ao (fun _ _=>rfl)) cj (dz _))   (dw (lu (i:=1) nd (o9 (aj cj (aj (ig hu (ak 0 (pv 0)) ao (fun _ _=>rfl)) (aj (dh (gn jm (by rfl) Z.b_str (by rfl) (aj (ig hu (ak 0 (pv 0)) ao (fun _ _=>rfl)) au))) au))) (f9 (bf (bf (bf dg))) (by decide)))))   (dw (nq (j4 (iu hq) (ig hu (ak 0 (pv 0)) ao (fun _ _=>rfl)) cj (dz _))   (dw (lu (i:=1) nd (je iw (o9 (aj cj au) (f9 (bf dg) (by decide))) (ni (qp (N:=["row"]) ⟨rfl,fun j k h=>match j,h with | _+0,h=>(by cases h)⟩ ⟨rfl,rfl,by decide +kernel,by decide +kernel⟩ rfl (qg (ig hu (ak 0 (pv 0)) ao (fun _ _=>rfl))) qe (fun C s₀ H₀ ex pn=>pgE fun B=>(jr 0 (iy (show (["row"]:List Str).Nodup by decide +kernel) rfl (Or.inl rfl)))) (fun C s₀ H₀ ex pn=>kj) (fun C s₀ H₀ ex pn=>peE fun B=>(bh (yp Z) (hr.mono (by decide)) (by rfl) (aj (ak 0 (pv 0)) au) (aq eq_nil))))))))   (dw (lu (i:=1) nd (je iw (o9 (aj cj (aj (dh (gn jm (by rfl) Z.b_str (by rfl) (aj (ig hu (ak 0 (pv 0)) ao (fun _ _=>rfl)) au))) au)) (f9 (bf (bf dg)) (by decide))) (ni (qp (N:=["row"]) ⟨rfl,fun j k h=>match j,h with | _+0,h=>(by cases h)⟩ ⟨rfl,rfl,by decide +kernel,by decide +kernel⟩ rfl (qg (ig hu (ak 0 (pv 0)) ao (fun _ _=>rfl))) qe (fun C s₀ H₀ ex pn=>pgE fun B=>(jr 0 (iy (show (["row"]:List Str).Nodup by decide +kernel) rfl (Or.inl rfl)))) (fun C s₀ H₀ ex pn=>kj) (fun C s₀ H₀ ex pn=>peE fun B=>(bh (yp Z) (hr.mono (by decide)) (by rfl) (aj (ak 0 (pv 0)) au) (aq eq_nil)))))))))))))   (dw (gq (v7 cj (ak 1 (pv 1)))))
theorem su:jw P w K mg base "papers_straight_within" 1 ["paper"] (_root_.K.m_papers_straight_within):=by
 refine go (N:=["paper"]) Z.h5 fun _ _ _ _ _ _ _ _ hr hu hq nd=>?_;exact c7 (nq (j4 (iu hq) (ig hu (ak 0 (pv 0)) ao (fun _ _=>rfl)) cj (dz _))   (dw (gq (ig hu (ak 0 (pv 0)) ao (fun _ _=>rfl))))   jo)   (dw (gq (yw (j4 (iu hq) (ig hu (ak 0 (pv 0)) ao (fun _ _=>rfl)) cj (dz _)) (Br (ak 0 (pv 0)) (ou ao) qb) (jq au (f9 dg (by decide))))))
theorem G6:jw P w K mg base "paper_rows" 3 ["paper"] (_root_.K.m_paper_rows):=by
 refine go (N:=["paper","rows","waiting","one"]) Z.h6 fun _ _ _ _ _ _ _ _ hr hu hq nd=>?_;exact c7 (Ay 1 (ud nd rfl (Or.inl rfl) (Dg au (f9 dg (by decide)))) (fun _ _ _ h=>h))   (c7 (Ay 2 (ud nd rfl (Or.inl rfl) (Dg (aj (ak 0 (pv 0)) au) (f9 (bf dg) (by decide)))) (fun _ _ _ h=>h))   (c7 (Mi 6000 PassesOwn.never (j4 Xa (Cr 2 Z.b_len rfl (pv 2)) ao (dz _))   (c7 (a1d 2 3 (Rf (Wr PySem.F.plainAttrs_list PySem.F.slot_list_pop PySem.F.type_list_pop Wy (pv 2)) (iy nd rfl (Or.inl rfl))))   (c7 (u6 1 (pq (Aj PySem.F.plainAttrs_list PySem.F.slot_list_append PySem.F.type_list_append m9 (pv 1) (jc (bh (Jr Z) (hr.mono (by decide)) (by rfl) (aj (ak 3 (pv 3)) au) (aq eq_nil)) lg))))   (dw (Hx 2 (pq (Aj PySem.F.plainAttrs_list PySem.F.slot_list_extend PySem.F.type_list_extend Ed (pv 2) (jc (Y5 (bh (su Z) (hr.mono (by decide)) (by rfl) (aj (ak 3 (pv 3)) au) (aq eq_nil))) lg))))))))   (dw (gq (ak 1 (pv 1))))))
theorem Dq:jw P w K mg base "show_papers" 4 ["papers"] (_root_.K.m_show_papers):=by
 refine go (N:=["papers","rows","duty","paper"]) Z.h7 fun _ _ _ _ _ _ _ _ hr hu hq nd=>?_;exact c7 (Ay 1 (ud nd rfl (Or.inl rfl) (Dg au (f9 dg (by decide)))) (fun _ _ _ h=>h))   (c7 (Av PassesOwn.never rfl (qg (ak 0 (pv 0))) (Qm (is:=[2,3]) (T4 rfl (vm (iy nd rfl (Or.inl rfl)) (vm (iy nd rfl (Or.inl rfl)) Jz))))   (c7 (u6 1 (pq (Aj PySem.F.plainAttrs_list PySem.F.slot_list_append PySem.F.type_list_append m9 (pv 1) (jc (bh (Gg Z) (hr.mono (by decide)) (by rfl) (aj (ak 2 (pv 2)) au) (aq eq_nil)) lg))))   (dw (Hx 1 (pq (Aj PySem.F.plainAttrs_list PySem.F.slot_list_extend PySem.F.type_list_extend Ed (pv 1) (jc (bh (G6 Z) (hr.mono (by decide)) (by rfl) (aj (ak 3 (pv 3)) au) (aq eq_nil)) lg)))))) qe)   (dw (gq (v7 cj (ak 1 (pv 1))))))
theorem Cz:a1w P w K mg base "Reading" cR 1 ["self","text"] (_root_.K.m_Reading_init cR cN):=by
 obtain ⟨f,fd,M,F⟩:=Z.h8;refine ⟨⟨f,fd,M,go0 (N:=["self","text"]) F fun _ _ _ _ _ _ _ _ hr hu hq nd=>?_,F.binds fun _ _ _ _ _ _ us hl=>bd2 (fun _ _=>rfl) us hl⟩,Z.hR⟩;exact c7 (Di Z.cls Z.na_rows (ak 0 (pv 0)) (yw (j4 (iu hq) (ak 1 (pv 1)) cj (dz _)) (o9 au (f9 dg (by decide))) (zc (ak 1 (pv 1)) cj)))   (dw (Di Z.cls Z.na_number (ak 0 (pv 0)) ao))
theorem oh:Lq P w K mg base cR "next_words" 3 ["self"] cN "row" (_root_.K.x_Reading_next_words cR cN):=by
 obtain ⟨f,fd,M,F⟩:=Z.h9;refine ⟨⟨f,fd,M,a5l (N:=["self"]) F fun _ _ _ _ _ _ _ _ hr hu hq nd=>?_,F.binds fun _ _ _ _ _ _ us hl=>bd1 (fun _=>rfl) us hl⟩,Z.cls⟩;exact gb (m8 (Di Z.cls Z.na_number (ak 0 (pv 0)) (je iw (zm Z.cls Z.na_number (ak 0 (pv 0))) ao)))   (gb (Hi (j4 Xa (zm Z.cls Z.na_number (ak 0 (pv 0))) (dh (gk (Ah (by rfl)) (by rfl) Z.b_min PyProof.Rows.boot_min (aj (dh (gk j8 (by rfl) Z.b_len PySem.boot_len (aj (zm Z.cls Z.na_rows (ak 0 (pv 0))) au))) (aj (Bj (by rfl) Z.c_MOST_ROWS) au)))) (dz _))   (m7 (Gi Z.r a1b (hr.mono (by decide)) (by rfl) (zm Z.cls Z.na_number (ak 0 (pv 0)))))   (qx jo))   (m7 (m8 (gq (zc (ig hu (zm Z.cls Z.na_rows (ak 0 (pv 0))) (je Fg (zm Z.cls Z.na_number (ak 0 (pv 0))) ao) (fun _ _=>rfl)) cj)))))
theorem cu:Lq P w K mg base cR "need_that" 3 ["self","is_right"] cN "row" (_root_.K.x_Reading_need_that cR cN):=by
 obtain ⟨f,fd,M,F⟩:=Z.h10;refine ⟨⟨f,fd,M,a5l (N:=["self","is_right"]) F fun _ _ _ _ _ _ _ _ hr hu hq nd=>?_,F.binds fun _ _ _ _ _ _ us hl=>bd2 (fun _ _=>rfl) us hl⟩,Z.cls⟩;exact m7 (Hi (Ej (uo (ak 1 (pv 1))))   (m7 (Gi Z.r a1b (hr.mono (by decide)) (by rfl) (zm Z.cls Z.na_number (ak 0 (pv 0)))))   (qx jo))
theorem ji:qj P w K mg base "number_of" 4 ["reading","word","least"] cN "row" (_root_.K.x_number_of cR cN):=by
 refine goX (N:=["reading","word","least","number"]) Z.h11 fun _ _ _ _ _ _ _ _ hr hu hq nd=>?_;exact gb (n8 (nu (cu Z) jk (hr.mono (by decide)) (ak 0 (pv 0)) (fu (qm (uz (bh (Ho Z) (hr.mono (by decide)) (by rfl) (aj (ak 1 (pv 1)) au) (aq eq_nil)) (Aa (lq Ks (dh (gk j8 (by rfl) Z.b_len PySem.boot_len (aj (ak 1 (pv 1)) au))) (Bj (by rfl) Z.c_MOST_FIGURES) (dz _))))) kh) (m5 (m6 o7))))   (gb (m8 (lu (i:=3) nd (dh (gn Nt (by rfl) Z.b_int PyProof.Rows.boot_int (aj (ak 1 (pv 1)) au)))))   (gb (n8 (nu (cu Z) jk (hr.mono (by decide)) (ak 0 (pv 0)) (fu (qm (lq Wt (ak 3 (pv 3)) (ak 2 (pv 2)) (dz _))) kh) (m5 (m6 o7))))   (m7 (m8 (gq (ak 3 (pv 3)))))))
theorem Ak:qj P w K mg base "name_of" 4 ["reading","word"] cN "row" (_root_.K.x_name_of cR cN):=by
 refine goX (N:=["reading","word"]) Z.h12 fun _ _ _ _ _ _ _ _ hr hu hq nd=>?_;exact gb (n8 (nu (cu Z) jk (hr.mono (by decide)) (ak 0 (pv 0)) (fu (qm (bh (N7 Z) (hr.mono (by decide)) (by rfl) (aj (ak 1 (pv 1)) au) (aq eq_nil))) kh) (m5 (m6 o7))))   (m7 (m8 (gq (ak 1 (pv 1)))))
theorem O8:qj P w K mg base "duty_of" 5 ["reading"] cN "row" (_root_.K.x_duty_of cR cN):=by
 refine goX (N:=["reading","words","number"]) Z.h13 fun _ _ _ _ _ _ _ _ hr hu hq nd=>?_;exact gb (Ce (i:=1) nd rfl (Or.inl rfl) (Mj (oh Z) jk (hr.mono (by decide)) (ak 0 (pv 0)) rfl rfl))   (gb (Hi (j4 (iu hq) (ig hu (ak 1 (pv 1)) ao (fun _ _=>rfl)) cj (dz _))   (gb (n8 (nu (cu Z) jk (hr.mono (by decide)) (ak 0 (pv 0)) (fu (qm (lq (iu hq) (dh (gk j8 (by rfl) Z.b_len PySem.boot_len (aj (ak 1 (pv 1)) au))) ao (dz _))) kh) (m5 (m6 o7))))   (m7 (vd (yu (fu (qm cj) (fu (jt jk (Ak Z) (hr.mono (by decide)) (by rfl) (aj (ak 0 (pv 0)) (aj (ig hu (ak 1 (pv 1)) ao (fun _ _=>rfl)) au)) (aq (aq eq_nil))) kh)) (um (gw (gw ql)) (by decide))))))   (qx jo))   (gb (Hi (j4 (iu hq) (ig hu (ak 1 (pv 1)) ao (fun _ _=>rfl)) cj (dz _))   (gb (n8 (nu (cu Z) jk (hr.mono (by decide)) (ak 0 (pv 0)) (fu (qm (lq (iu hq) (dh (gk j8 (by rfl) Z.b_len PySem.boot_len (aj (ak 1 (pv 1)) au))) ao (dz _))) kh) (m5 (m6 o7))))   (m7 (vd (yu (fu (qm cj) (fu (jt jk (ji Z) (hr.mono (by decide)) (by rfl) (aj (ak 0 (pv 0)) (aj (ig hu (ak 1 (pv 1)) ao (fun _ _=>rfl)) (aj ao au))) (aq (aq (aq eq_nil)))) kh)) (um (gw (gw ql)) (by decide))))))   (qx jo))   (gb (n8 (nu (cu Z) jk (hr.mono (by decide)) (ak 0 (pv 0)) (fu (qm (uz (lq (iu hq) (ig hu (ak 1 (pv 1)) ao (fun _ _=>rfl)) cj (dz _)) (Aa (lq (iu hq) (dh (gk j8 (by rfl) Z.b_len PySem.boot_len (aj (ak 1 (pv 1)) au))) ao (dz _))))) kh) (m5 (m6 o7))))   (gb (Ce (i:=2) nd rfl (Or.inl rfl) (jt jk (ji Z) (hr.mono (by decide)) (by rfl) (aj (ak 0 (pv 0)) (aj (ig hu (ak 1 (pv 1)) ao (fun _ _=>rfl)) (aj ao au))) (aq (aq (aq eq_nil)))))   (m7 (vd (yu (fu (qm cj) (fu (qm (ak 2 (pv 2))) (fu (jt jk (Ak Z) (hr.mono (by decide)) (by rfl) (aj (ak 0 (pv 0)) (aj (ig hu (ak 1 (pv 1)) ao (fun _ _=>rfl)) au)) (aq (aq eq_nil))) (fu (jt jk (ji Z) (hr.mono (by decide)) (by rfl) (aj (ak 0 (pv 0)) (aj (ig hu (ak 1 (pv 1)) ao (fun _ _=>rfl)) (aj ao au))) (aq (aq (aq eq_nil)))) kh)))) (um (gw (gw (gw (gw ql)))) (by decide)))))))))
theorem Pu:qj P w K mg base "box_of" 5 ["reading","word"] cN "row" (_root_.K.x_box_of cR cN):=by
 refine goX (N:=["reading","word"]) Z.h14 fun _ _ _ _ _ _ _ _ hr hu hq nd=>?_;exact gb (n8 (jt jk (Ak Z) (hr.mono (by decide)) (by rfl) (aj (ak 0 (pv 0)) (aj (yw (j4 (iu hq) (yr (ak 1 (pv 1)) qb (ou ao)) cj (dz _)) (yr (ak 1 (pv 1)) (ou ao) qb) (ak 1 (pv 1))) au)) (aq (aq eq_nil))))   (m7 (m8 (gq (ak 1 (pv 1)))))
theorem Az:qj P w K mg base "signed_of" 5 ["reading","word"] cN "row" (_root_.K.x_signed_of cR cN):=by
 refine goX (N:=["reading","word"]) Z.h15 fun _ _ _ _ _ _ _ _ hr hu hq nd=>?_;exact gb (Hi (j4 (Gj hq) (yr (ak 1 (pv 1)) qb (ou ao)) cj (dz _))   (m7 (vd (jt jk (ji Z) (hr.mono (by decide)) (by rfl) (aj (ak 0 (pv 0)) (aj (ak 1 (pv 1)) (aj ao au))) (aq (aq (aq eq_nil))))))   (qx jo))   (m7 (vd (a4v sy (jt jk (ji Z) (hr.mono (by decide)) (by rfl) (aj (ak 0 (pv 0)) (aj (yr (ak 1 (pv 1)) (ou ao) qb) (aj ao au))) (aq (aq (aq eq_nil)))))))
theorem K7:qj P w K mg base "rest_row" 6 ["reading","word"] cN "row" (_root_.K.x_rest_row cR cN):=by
 refine goX (N:=["reading","word","parts","places","times"]) Z.h16 fun _ _ _ _ _ _ _ _ hr hu hq nd=>?_;exact gb (m8 (lu (i:=2) nd (zc (ak 1 (pv 1)) cj)))   (gb (n8 (nu (cu Z) jk (hr.mono (by decide)) (ak 0 (pv 0)) (fu (qm (lq (iu hq) (dh (gk j8 (by rfl) Z.b_len PySem.boot_len (aj (ak 2 (pv 2)) au))) ao (dz _))) kh) (m5 (m6 o7))))   (gb (m8 (lu (i:=3) nd (zc (ig hu (ak 2 (pv 2)) ao (fun _ _=>rfl)) cj)))   (gb (Ce (i:=4) nd rfl (Or.inl rfl) (jt jk (Az Z) (hr.mono (by decide)) (by rfl) (aj (ak 0 (pv 0)) (aj (ig hu (ak 2 (pv 2)) ao (fun _ _=>rfl)) au)) (aq (aq eq_nil))))   (gb (n8 (nu (cu Z) jk (hr.mono (by decide)) (ak 0 (pv 0)) (fu (qm (uz (lq Ks (dh (gk j8 (by rfl) Z.b_len PySem.boot_len (aj (ak 3 (pv 3)) au))) ao (dz _)) (Aa (lq (Gj hq) (ak 4 (pv 4)) ao (dz _))))) kh) (m5 (m6 o7))))   (m7 (vd (a3z iw (Fd (gn mj (by rfl) Z.b_tuple PyProof.Rows.boot_tuple (fu (Jc (N:=["place","reading"]) Xk ⟨rfl,fun j k h=>match j,h with | 0,h=>(by cases h; exact ⟨_,rfl,rfl,⟨.inl rfl,.inr (.inl rfl),.inl rfl⟩⟩) | _+1,h=>(by cases h)⟩ ⟨rfl,rfl,by decide +kernel,by decide +kernel⟩ rfl (qg (ak 3 (pv 3))) qe (fun C s₀ H₀ ex pn=>pgE fun B=>(jr 0 (iy (show (["place","reading"]:List Str).Nodup by decide +kernel) rfl (Or.inl rfl)))) (fun C s₀ H₀ ex pn=>peX fun B=>(jt Cm (ji Z) (hr.mono (by decide)) (by rfl) (aj (ak 1 (pv 1)) (aj (ak 0 (pv 0)) (aj ao au))) (aq (aq (aq eq_nil)))))) kh))) (qm (jq (aj (ak 4 (pv 4)) au) (f9 (bf dg) (by decide)))))))))))
theorem Oc:qj P w K mg base "sum_row" 5 ["reading","word"] cN "row" (_root_.K.x_sum_row cR cN):=by
 refine goX (N:=["reading","word","parts"]) Z.h17 fun _ _ _ _ _ _ _ _ hr hu hq nd=>?_;exact gb (m8 (lu (i:=2) nd (zc (ak 1 (pv 1)) cj)))   (gb (n8 (nu (cu Z) jk (hr.mono (by decide)) (ak 0 (pv 0)) (fu (qm (lq (iu hq) (dh (gk j8 (by rfl) Z.b_len PySem.boot_len (aj (ak 2 (pv 2)) au))) ao (dz _))) kh) (m5 (m6 o7))))   (m7 (vd (yu (fu (jt jk (ji Z) (hr.mono (by decide)) (by rfl) (aj (ak 0 (pv 0)) (aj (ig hu (ak 2 (pv 2)) ao (fun _ _=>rfl)) (aj ao au))) (aq (aq (aq eq_nil)))) (fu (jt jk (ji Z) (hr.mono (by decide)) (by rfl) (aj (ak 0 (pv 0)) (aj (ig hu (ak 2 (pv 2)) ao (fun _ _=>rfl)) (aj ao au))) (aq (aq (aq eq_nil)))) kh)) (um (gw (gw ql)) (by decide))))))
theorem Og:qj P w K mg base "head_of" 7 ["reading"] cN "row" (_root_.K.x_head_of cR cN):=by
 refine goX (N:=["reading","words","divisor"]) Z.h18 fun _ _ _ _ _ _ _ _ hr hu hq nd=>?_;exact gb (Ce (i:=1) nd rfl (Or.inl rfl) (Mj (oh Z) jk (hr.mono (by decide)) (ak 0 (pv 0)) rfl rfl))   (gb (Hi (j4 (iu hq) (ig hu (ak 1 (pv 1)) ao (fun _ _=>rfl)) cj (dz _))   (gb (n8 (nu (cu Z) jk (hr.mono (by decide)) (ak 0 (pv 0)) (fu (qm (lq (iu hq) (dh (gk j8 (by rfl) Z.b_len PySem.boot_len (aj (ak 1 (pv 1)) au))) ao (dz _))) kh) (m5 (m6 o7))))   (m7 (vd (yu (fu (qm cj) (fu (jt jk (ji Z) (hr.mono (by decide)) (by rfl) (aj (ak 0 (pv 0)) (aj (ig hu (ak 1 (pv 1)) ao (fun _ _=>rfl)) (aj ao au))) (aq (aq (aq eq_nil)))) (fu (jt jk (ji Z) (hr.mono (by decide)) (by rfl) (aj (ak 0 (pv 0)) (aj (ig hu (ak 1 (pv 1)) ao (fun _ _=>rfl)) (aj ao au))) (aq (aq (aq eq_nil)))) kh))) (um (gw (gw (gw ql))) (by decide))))))   (qx jo))   (gb (Hi (j4 (iu hq) (ig hu (ak 1 (pv 1)) ao (fun _ _=>rfl)) cj (dz _))   (gb (n8 (nu (cu Z) jk (hr.mono (by decide)) (ak 0 (pv 0)) (fu (qm (lq (iu hq) (dh (gk j8 (by rfl) Z.b_len PySem.boot_len (aj (ak 1 (pv 1)) au))) ao (dz _))) kh) (m5 (m6 o7))))   (m7 (vd (yu (fu (qm cj) (fu (jt jk (Pu Z) (hr.mono (by decide)) (by rfl) (aj (ak 0 (pv 0)) (aj (ig hu (ak 1 (pv 1)) ao (fun _ _=>rfl)) au)) (aq (aq eq_nil))) (fu (jt jk (Az Z) (hr.mono (by decide)) (by rfl) (aj (ak 0 (pv 0)) (aj (ig hu (ak 1 (pv 1)) ao (fun _ _=>rfl)) au)) (aq (aq eq_nil))) kh))) (um (gw (gw (gw ql))) (by decide))))))   (qx jo))   (gb (Hi (j4 (iu hq) (ig hu (ak 1 (pv 1)) ao (fun _ _=>rfl)) cj (dz _))   (m7 (vd (yu (fu (qm cj) (fu (Fd (gn mj (by rfl) Z.b_tuple PyProof.Rows.boot_tuple (fu (Jc (N:=["word","reading"]) Xk ⟨rfl,fun j k h=>match j,h with | 0,h=>(by cases h; exact ⟨_,rfl,rfl,⟨.inl rfl,.inr (.inl rfl),.inl rfl⟩⟩) | _+1,h=>(by cases h)⟩ ⟨rfl,rfl,by decide +kernel,by decide +kernel⟩ rfl (qg (Bk (ak 1 (pv 1)) (ou ao) qb)) qe (fun C s₀ H₀ ex pn=>pgE fun B=>(jr 0 (iy (show (["word","reading"]:List Str).Nodup by decide +kernel) rfl (Or.inl rfl)))) (fun C s₀ H₀ ex pn=>peX fun B=>(jt Cm (Oc Z) (hr.mono (by decide)) (by rfl) (aj (ak 1 (pv 1)) (aj (ak 0 (pv 0)) au)) (aq (aq eq_nil))))) kh))) kh)) (um (gw (gw ql)) (by decide)))))   (qx jo))   (gb (n8 (nu (cu Z) jk (hr.mono (by decide)) (ak 0 (pv 0)) (fu (qm (uz (lq (iu hq) (ig hu (ak 1 (pv 1)) ao (fun _ _=>rfl)) cj (dz _)) (Aa (lq Wt (dh (gk j8 (by rfl) Z.b_len PySem.boot_len (aj (ak 1 (pv 1)) au))) ao (dz _))))) kh) (m5 (m6 o7))))   (gb (Ce (i:=2) nd rfl (Or.inl rfl) (jt jk (ji Z) (hr.mono (by decide)) (by rfl) (aj (ak 0 (pv 0)) (aj (ig hu (ak 1 (pv 1)) ao (fun _ _=>rfl)) (aj ao au))) (aq (aq (aq eq_nil)))))   (m7 (vd (yu (fu (qm cj) (fu (qm (ak 2 (pv 2))) (fu (Fd (gn mj (by rfl) Z.b_tuple PyProof.Rows.boot_tuple (fu (Jc (N:=["word","reading"]) Xk ⟨rfl,fun j k h=>match j,h with | 0,h=>(by cases h; exact ⟨_,rfl,rfl,⟨.inl rfl,.inr (.inl rfl),.inl rfl⟩⟩) | _+1,h=>(by cases h)⟩ ⟨rfl,rfl,by decide +kernel,by decide +kernel⟩ rfl (qg (Bk (ak 1 (pv 1)) (ou ao) qb)) qe (fun C s₀ H₀ ex pn=>pgE fun B=>(jr 0 (iy (show (["word","reading"]:List Str).Nodup by decide +kernel) rfl (Or.inl rfl)))) (fun C s₀ H₀ ex pn=>peX fun B=>(jt Cm (K7 Z) (hr.mono (by decide)) (by rfl) (aj (ak 1 (pv 1)) (aj (ak 0 (pv 0)) au)) (aq (aq eq_nil))))) kh))) kh))) (um (gw (gw (gw ql))) (by decide))))))))))
theorem Ds:jw P w K mg base "with_papers" 1 ["head","papers"] (_root_.K.m_with_papers):=by
 refine go (N:=["head","papers"]) Z.h19 fun _ _ _ _ _ _ _ _ hr hu hq nd=>?_;exact c7 (nq (j4 (iu hq) (ig hu (ak 0 (pv 0)) ao (fun _ _=>rfl)) cj (dz _))   (dw (gq (jq (aj cj (aj (ig hu (ak 0 (pv 0)) ao (fun _ _=>rfl)) (aj (ak 1 (pv 1)) au))) (f9 (bf (bf (bf dg))) (by decide)))))   jo)   (dw (gq (je iw (ak 0 (pv 0)) (ak 1 (pv 1)))))
theorem G3:qj P w K mg base "next_paper" 8 ["reading"] cN "row" (_root_.K.x_next_paper cR cN):=by
 refine goX (N:=["reading","open_ones","head","many","paper"]) Z.h20 fun _ _ _ _ _ _ _ _ hr hu hq nd=>?_;exact gb (m8 (Ay 1 (ud nd rfl (Or.inl rfl) (Dg au (f9 dg (by decide)))) (fun _ _ _ h=>h)))   (m7 (Mv 6000 PassesOwn.leaving (uo vp)   (gb (Ce (i:=2) nd rfl (Or.inl rfl) (jt jk (Og Z) (hr.mono (by decide)) (by rfl) (aj (ak 0 (pv 0)) au) (aq eq_nil)))   (gb (n8 (nu (cu Z) jk (hr.mono (by decide)) (ak 0 (pv 0)) (fu (qm (lq M4 (Cr 1 Z.b_len rfl (pv 1)) (Bj (by rfl) Z.c_MOST_DEEP) (dz _))) kh) (m5 (m6 o7))))   (gb (m8 (lu (i:=3) nd (yw (j4 (iu hq) (ig hu (ak 2 (pv 2)) ao (fun _ _=>rfl)) cj (dz _)) (ig hu (ak 2 (pv 2)) ao (fun _ _=>rfl)) (yw (j4 (iu hq) (ig hu (ak 2 (pv 2)) ao (fun _ _=>rfl)) cj (dz _)) ao ao))))   (gb (m8 (u6 1 (pq (Aj PySem.F.plainAttrs_list PySem.F.slot_list_append PySem.F.type_list_append m9 (pv 1) (jc (jq (aj (ak 2 (pv 2)) (aj (ak 3 (pv 3)) (aj (Cj au (f9 dg (by decide))) au))) (f9 (bf (bf (bf dg))) (by decide))) lg)))))   (m7 (m8 (Mi 6000 PassesOwn.leaving (j4 (iu hq) (S8 (by rfl) Z.b_len (ig hu (Bm 1 (pv 1) (G8 sy ao) (fun _ _=>rfl)) ao (fun _ _=>rfl))) (ig hu (Bm 1 (pv 1) (G8 sy ao) (fun _ _=>rfl)) ao (fun _ _=>rfl)) (dz _))   (c7 (lu (i:=4) nd (bh (Ds Z) (hr.mono (by decide)) (by rfl) (aj (ig hu (Bm 1 (pv 1) (G8 sy ao) (fun _ _=>rfl)) ao (fun _ _=>rfl)) (aj (Ib (by rfl) Z.b_tuple (ig hu (Xq 1 (Wr PySem.F.plainAttrs_list PySem.F.slot_list_pop PySem.F.type_list_pop Wy (pv 1))) ao (fun _ _=>rfl))) au)) (aq (aq eq_nil))))   (c7 (nq (j4 (iu hq) (Cr 1 Z.b_len rfl (pv 1)) ao (dz _))   (dw (gq (ak 4 (pv 4))))   jo)   (dw (Nf (pq (Aj PySem.F.plainAttrs_list PySem.F.slot_list_append PySem.F.type_list_append m9 (ig hu (Bm 1 (pv 1) (G8 sy ao) (fun _ _=>rfl)) ao (fun _ _=>rfl)) (jc (ak 4 (pv 4)) lg))))))))))))))))
theorem qy:qj P w K mg base "read_papers" 9 ["text"] cN "row" (_root_.K.x_read_papers cR cN):=by
 refine goX (N:=["text","reading","papers","duty"]) Z.h21 fun _ _ _ _ _ _ _ _ hr hu hq nd=>?_;exact gb (m8 (lu (i:=1) nd (Zh (Cz Z) (hr.mono (by decide)) (by rfl) (aj (ak 0 (pv 0)) au) (Yn (aq eq_nil)))))   (gb (m8 (Cw 2 (ud nd rfl (Or.inl rfl) (Cj au (f9 dg (by decide)))) (fun _ _ _ h=>h)))   (gb (Mv 6000 PassesOwn.leaving (j4 M4 (zm Z.cls Z.na_number (ak 1 (pv 1))) (dh (gk j8 (by rfl) Z.b_len PySem.boot_len (aj (zm Z.cls Z.na_rows (ak 1 (pv 1))) au))) (dz _))   (gb (Ce (i:=3) nd rfl (Or.inl rfl) (jt jk (O8 Z) (hr.mono (by decide)) (by rfl) (aj (ak 1 (pv 1)) au) (aq eq_nil)))   (m7 (Qz 2 (pq (Aj PySem.F.plainAttrs_list PySem.F.slot_list_append PySem.F.type_list_append m9 (pv 2) (jc (yu (fu (qm (ak 3 (pv 3))) (fu (jt jk (G3 Z) (hr.mono (by decide)) (by rfl) (aj (ak 1 (pv 1)) au) (aq eq_nil)) kh)) (um (gw (gw ql)) (by decide))) lg)))))))   (m7 (m8 (gq (ak 2 (pv 2)))))))
theorem Jg:jw P w K mg base "_law_rich" 1 ["_law_cell"] (_root_.K.m_law_rich):=by
 refine go (N:=["_law_cell","_law_total","_law_prime"]) Z.h22 fun _ _ _ _ _ _ _ _ hr hu hq nd=>?_;exact c7 (lu (i:=1) nd ao)   (c7 (Av PassesOwn.never rfl (qg (o9 (aj ao (aj ao (aj ao (aj ao (aj ao (aj ao (aj ao (aj ao au)))))))) (f9 (bf (bf (bf (bf (bf (bf (bf (bf dg)))))))) (by decide)))) (jr 2 (iy nd rfl (Or.inl rfl)))   (c7 (lu (i:=0) nd (je uy (je iw (je Fb (ak 0 (pv 0)) (ak 2 (pv 2))) ao) ao))   (dw (lu (i:=1) nd (je iw (je Fb (ak 1 (pv 1)) ao) (ak 0 (pv 0)))))) qe)   (dw (gq (ak 1 (pv 1)))))
theorem Kf:jw P w K mg base "_law_rest" 1 ["_law_cell"] (_root_.K.m_law_rest):=by
 refine go (N:=["_law_cell"]) Z.h23 fun _ _ _ _ _ _ _ _ hr hu hq nd=>?_;exact dw (gq (Cj (aj (ak 0 (pv 0)) (aj (je iw ao (je uy (ak 0 (pv 0)) ao)) au)) (f9 (bf (bf dg)) (by decide))))
theorem j5:jw P w K mg base "_law_take" 1 ["_law_rest_here","_law_many"] (_root_.K.m_law_take):=by
 refine go (N:=["_law_rest_here","_law_many","_law_found"]) Z.h24 fun _ _ _ _ _ _ _ _ hr hu hq nd=>?_;exact c7 (nq (PW.pt (Tc (j4 (iu hq) (vf (ak 0 (pv 0)) ao (fun _ _=>rfl)) ao (dz _)) (Hh (j4 (iu hq) (vf (ak 0 (pv 0)) ao (fun _ _=>rfl)) (G8 sy ao) (dz _)))))   (c7 (La (Rf (je uy (je iw (je Fb (vf (ak 0 (pv 0)) ao (fun _ _=>rfl)) ao) ao) ao) (Wg (ak 0 (pv 0)) ao set_list)))   (dw (gq (je uy (je Mh (je uy (je Fb (vf (ak 0 (pv 0)) ao (fun _ _=>rfl)) ao) ao) ao) (ak 1 (pv 1))))))   jo)   (c7 (lu (i:=2) nd (je uy (vf (ak 0 (pv 0)) ao (fun _ _=>rfl)) (ak 1 (pv 1))))   (c7 (La (Rf (je Mh (vf (ak 0 (pv 0)) ao (fun _ _=>rfl)) (ak 1 (pv 1))) (Wg (ak 0 (pv 0)) ao set_list)))   (dw (gq (ak 2 (pv 2))))))
theorem jx:jw P w K mg base "_law_number" 2 ["_law_rest_here","_law_below"] (_root_.K.m_law_number):=by
 refine go (N:=["_law_rest_here","_law_below","_law_number_here"]) Z.h25 fun _ _ _ _ _ _ _ _ hr hu hq nd=>?_;exact c7 (lu (i:=2) nd (bh (j5 Z) (hr.mono (by decide)) (by rfl) (aj (ak 0 (pv 0)) (aj (ig hu (o9 (aj ao (aj (je Cp ao ao) (aj (je Cp ao ao) au))) (f9 (bf (bf (bf dg))) (by decide))) (bh (j5 Z) (hr.mono (by decide)) (by rfl) (aj (ak 0 (pv 0)) (aj ao au)) (aq (aq eq_nil))) (fun _ _=>rfl)) au)) (aq (aq eq_nil))))   (c7 (nq (j4 (iu hq) (bh (j5 Z) (hr.mono (by decide)) (by rfl) (aj (ak 0 (pv 0)) (aj ao au)) (aq (aq eq_nil))) ao (dz _))   (dw (lu (i:=2) nd (je iw (je Cp ao ao) (ak 2 (pv 2)))))   jo)   (c7 (nq (PW.pt (Iw (uo (ak 1 (pv 1))) (Bw (j4 (iu hq) (bh (j5 Z) (hr.mono (by decide)) (by rfl) (aj (ak 0 (pv 0)) (aj ao au)) (aq (aq eq_nil))) ao (dz _)))))   (dw (gq (je Fg ao (ak 2 (pv 2)))))   jo)   (dw (gq (ak 2 (pv 2))))))
theorem Am:jw P w K mg base "_law_times" 3 ["_law_rest_here","_law_rests"] (_root_.K.m_law_times):=by
 refine go (N:=["_law_rest_here","_law_rests","_law_times_here"]) Z.h26 fun _ _ _ _ _ _ _ _ hr hu hq nd=>?_;exact c7 (lu (i:=2) nd (je iw ao (bh (jx Z) (hr.mono (by decide)) (by rfl) (aj (ak 0 (pv 0)) (aj vp au)) (aq (aq eq_nil)))))   (c7 (nq (PW.pt (Iw (uo (ak 1 (pv 1))) (Bw (j4 (iu hq) (bh (j5 Z) (hr.mono (by decide)) (by rfl) (aj (ak 0 (pv 0)) (aj ao au)) (aq (aq eq_nil))) ao (dz _)))))   (dw (lu (i:=2) nd (je Fg ao (ak 2 (pv 2)))))   jo)   (c7 (nq (PW.pt (Iw (uo (ak 1 (pv 1))) (Bw (j4 (iu hq) (bh (j5 Z) (hr.mono (by decide)) (by rfl) (aj (ak 0 (pv 0)) (aj ao au)) (aq (aq eq_nil))) ao (dz _)))))   (dw (gq (jq (aj (bh (jx Z) (hr.mono (by decide)) (by rfl) (aj (ak 0 (pv 0)) (aj vp au)) (aq (aq eq_nil))) (aj (bh (jx Z) (hr.mono (by decide)) (by rfl) (aj (ak 0 (pv 0)) (aj vp au)) (aq (aq eq_nil))) (aj (ak 2 (pv 2)) au))) (f9 (bf (bf (bf dg))) (by decide)))))   jo)   (dw (gq (jq (aj (bh (jx Z) (hr.mono (by decide)) (by rfl) (aj (ak 0 (pv 0)) (aj vp au)) (aq (aq eq_nil))) (aj (ak 2 (pv 2)) au)) (f9 (bf (bf dg)) (by decide)))))))
theorem Fx {nn:Nat} (aH:jw P w K mg base "_law_paper" (3+nn) ["_law_rest_here","_law_deep"] (_root_.K.m_law_paper nn)):jw P w K mg base "_law_paper" (3+nn+1) ["_law_rest_here","_law_deep"] (_root_.K.m_law_paper (nn+1)):=by
 refine go (N:=["_law_rest_here","_law_deep","_law_way","_law_number_here","_law_box","_law_many"]) Z.h27 fun _ _ _ _ _ _ _ _ hr hu hq nd=>?_;exact c7 (lu (i:=2) nd (bh (j5 Z) (hr.mono (by omega)) (by rfl) (aj (ak 0 (pv 0)) (aj ao au)) (aq (aq eq_nil))))   (c7 (nq (PW.pt (Iw (j4 (iu hq) (ak 2 (pv 2)) ao (dz _)) (Bw (j4 M4 (ak 1 (pv 1)) ao (dz _)))))   (c7 (lu (i:=3) nd (bh (jx Z) (hr.mono (by omega)) (by rfl) (aj (ak 0 (pv 0)) (aj vp au)) (aq (aq eq_nil))))   (dw (gq (jq (aj cj (aj (ak 3 (pv 3)) (aj (dh (gn mj (by rfl) Z.b_tuple PyProof.Rows.boot_tuple (aj (ni (qp (N:=["_law_k","_law_rest_here","_law_deep"]) ⟨rfl,fun j k h=>match j,h with | 0,h=>(by cases h; exact ⟨_,rfl,rfl,⟨.inl rfl,.inr (.inl rfl),.inl rfl⟩⟩) | 1,h=>(by cases h; exact ⟨_,rfl,rfl,⟨.inl rfl,.inr (.inl rfl),.inl rfl⟩⟩) | _+2,h=>(by cases h)⟩ ⟨rfl,rfl,by decide +kernel,by decide +kernel⟩ rfl (zp (by rfl) Z.b_range (bh (j5 Z) (hr.mono (by omega)) (by rfl) (aj (ak 0 (pv 0)) (aj ao au)) (aq (aq eq_nil)))) yd (fun C s₀ H₀ ex pn=>pgE fun B=>(jr 0 (iy (show (["_law_k","_law_rest_here","_law_deep"]:List Str).Nodup by decide +kernel) rfl (Or.inl rfl)))) (fun C s₀ H₀ ex pn=>kj) (fun C s₀ H₀ ex pn=>peE fun B=>(bh aH (hr.mono (by omega)) (by rfl) (aj (ak 1 (pv 1)) (aj (je iw (ak 2 (pv 2)) ao) au)) (aq (aq eq_nil)))))) au))) au))) (f9 (bf (bf (bf dg))) (by decide))))))   jo)   (c7 (nq (PW.pt (Iw (j4 (iu hq) (ak 2 (pv 2)) ao (dz _)) (Bw (j4 M4 (ak 1 (pv 1)) ao (dz _)))))   (c7 (lu (i:=4) nd (ig hu (o9 (Js (.cons (.cons (.cons (.cons .nil))))) (f9 (len_strs _) (by decide))) (bh (j5 Z) (hr.mono (by omega)) (by rfl) (aj (ak 0 (pv 0)) (aj ao au)) (aq (aq eq_nil))) (fun _ _=>rfl)))   (c7 (lu (i:=3) nd (bh (jx Z) (hr.mono (by omega)) (by rfl) (aj (ak 0 (pv 0)) (aj vp au)) (aq (aq eq_nil))))   (dw (gq (jq (aj cj (aj (ak 4 (pv 4)) (aj (ak 3 (pv 3)) (aj (bh aH (hr.mono (by omega)) (by rfl) (aj (ak 0 (pv 0)) (aj (je iw (ak 1 (pv 1)) ao) au)) (aq (aq eq_nil))) (aj (bh aH (hr.mono (by omega)) (by rfl) (aj (ak 0 (pv 0)) (aj (je iw (ak 1 (pv 1)) ao) au)) (aq (aq eq_nil))) au))))) (f9 (bf (bf (bf (bf (bf dg))))) (by decide)))))))   jo)   (c7 (lu (i:=5) nd (bh (j5 Z) (hr.mono (by omega)) (by rfl) (aj (ak 0 (pv 0)) (aj ao au)) (aq (aq eq_nil))))   (c7 (nq (j4 (iu hq) (ak 2 (pv 2)) ao (dz _))   (dw (gq (jq (aj cj (aj (je iw ao (bh (jx Z) (hr.mono (by omega)) (by rfl) (aj (ak 0 (pv 0)) (aj vp au)) (aq (aq eq_nil)))) (aj (dh (gn mj (by rfl) Z.b_tuple PyProof.Rows.boot_tuple (aj (ni (qp (N:=["_law_k","_law_rest_here"]) ⟨rfl,fun j k h=>match j,h with | 0,h=>(by cases h; exact ⟨_,rfl,rfl,⟨.inl rfl,.inr (.inl rfl),.inl rfl⟩⟩) | _+1,h=>(by cases h)⟩ ⟨rfl,rfl,by decide +kernel,by decide +kernel⟩ rfl (zp (by rfl) Z.b_range (ak 5 (pv 5))) yd (fun C s₀ H₀ ex pn=>pgE fun B=>(jr 0 (iy (show (["_law_k","_law_rest_here"]:List Str).Nodup by decide +kernel) rfl (Or.inl rfl)))) (fun C s₀ H₀ ex pn=>kj) (fun C s₀ H₀ ex pn=>peE fun B=>(bh (Am Z) (hr.mono (by omega)) (by rfl) (aj (ak 1 (pv 1)) (aj vp au)) (aq (aq eq_nil)))))) au))) au))) (f9 (bf (bf (bf dg))) (by decide)))))   jo)   (dw (gq (jq (aj cj (aj (dh (gn mj (by rfl) Z.b_tuple PyProof.Rows.boot_tuple (aj (ni (qp (N:=["_law_k","_law_rest_here"]) ⟨rfl,fun j k h=>match j,h with | 0,h=>(by cases h; exact ⟨_,rfl,rfl,⟨.inl rfl,.inr (.inl rfl),.inl rfl⟩⟩) | _+1,h=>(by cases h)⟩ ⟨rfl,rfl,by decide +kernel,by decide +kernel⟩ rfl (zp (by rfl) Z.b_range (ak 5 (pv 5))) yd (fun C s₀ H₀ ex pn=>pgE fun B=>(jr 0 (iy (show (["_law_k","_law_rest_here"]:List Str).Nodup by decide +kernel) rfl (Or.inl rfl)))) (fun C s₀ H₀ ex pn=>kj) (fun C s₀ H₀ ex pn=>peE fun B=>(bh (Am Z) (hr.mono (by omega)) (by rfl) (aj (ak 1 (pv 1)) (aj vp au)) (aq (aq eq_nil)))))) au))) au)) (f9 (bf (bf dg)) (by decide)))))))))
theorem zf:∀ nn:Nat,jw P w K mg base "_law_paper" (3+nn) ["_law_rest_here","_law_deep"] (_root_.K.m_law_paper nn)
 | 0=>zero Z.h27
 | nn+1=>by
  have ih:=zf nn;have bg:=ih;exact Fx Z bg
theorem Ip:jw P w K mg base "_law_paper" 11 ["_law_rest_here","_law_deep"] (_root_.K.m_law_paper 8):=(zf Z 8)
theorem J3:jw P w K mg base "_law_duty" 2 ["_law_rest_here"] (_root_.K.m_law_duty):=by
 refine go (N:=["_law_rest_here","_law_way","_law_hand"]) Z.h28 fun _ _ _ _ _ _ _ _ hr hu hq nd=>?_;exact c7 (lu (i:=1) nd (bh (j5 Z) (hr.mono (by decide)) (by rfl) (aj (ak 0 (pv 0)) (aj ao au)) (aq (aq eq_nil))))   (c7 (lu (i:=2) nd (ig hu (o9 (Js (.cons (.cons (.cons (.cons .nil))))) (f9 (len_strs _) (by decide))) (bh (j5 Z) (hr.mono (by decide)) (by rfl) (aj (ak 0 (pv 0)) (aj ao au)) (aq (aq eq_nil))) (fun _ _=>rfl)))   (c7 (nq (j4 (iu hq) (ak 1 (pv 1)) ao (dz _))   (dw (gq (jq (aj cj (aj (ak 2 (pv 2)) au)) (f9 (bf (bf dg)) (by decide)))))   jo)   (c7 (nq (j4 (iu hq) (ak 1 (pv 1)) ao (dz _))   (dw (gq (jq (aj cj (aj (bh (j5 Z) (hr.mono (by decide)) (by rfl) (aj (ak 0 (pv 0)) (aj ao au)) (aq (aq eq_nil))) au)) (f9 (bf (bf dg)) (by decide)))))   jo)   (dw (gq (jq (aj cj (aj (bh (j5 Z) (hr.mono (by decide)) (by rfl) (aj (ak 0 (pv 0)) (aj ao au)) (aq (aq eq_nil))) (aj (ak 2 (pv 2)) (aj (bh (j5 Z) (hr.mono (by decide)) (by rfl) (aj (ak 0 (pv 0)) (aj ao au)) (aq (aq eq_nil))) au)))) (f9 (bf (bf (bf (bf dg)))) (by decide))))))))
theorem Ck:jw P w K mg base "_law_rows" 1 ["_law_rows_here"] (_root_.K.m_law_rows):=by
 refine go (N:=["_law_rows_here","_law_words","_law_row","_law_places"]) Z.h29 fun _ _ _ _ _ _ _ _ hr hu hq nd=>?_;exact c7 (Ay 1 (ud nd rfl (Or.inl rfl) (Dg au (f9 dg (by decide)))) (fun _ _ _ h=>h))   (c7 (Av PassesOwn.never rfl (qg (ak 0 (pv 0))) (jr 2 (iy nd rfl (Or.inl rfl)))   (c7 (Cw 3 (Jb (N:=["_law_place"]) ⟨rfl,rfl,by decide +kernel,by decide +kernel⟩ rfl (qg (Br (ak 2 (pv 2)) qb (ou (G8 sy ao)))) (fun C s₀ H₀ ex pn=>pgE fun B=>(jr 0 (iy (show (["_law_place"]:List Str).Nodup by decide +kernel) rfl (Or.inl rfl)))) (fun C s₀ H₀ ex pn=>kj) (fun C s₀ H₀ ex pn=>peE fun B=>(dh (gn jm (by rfl) Z.b_str (by rfl) (aj (ak 0 (pv 0)) au)))) (iy nd rfl (Or.inl rfl)) rfl) (fun σ H Q h=>Lj ⟨rfl,fun j k h=>match j,h with | _+0,h=>(by cases h)⟩ qe (Ly h)))   (dw (u6 1 (pq (Aj PySem.F.plainAttrs_list PySem.F.slot_list_append PySem.F.type_list_append m9 (pv 1) (jc (je iw (je iw (je iw cj (v7 cj (ak 3 (pv 3)))) cj) (dh (gn jm (by rfl) Z.b_str (by rfl) (aj (ig hu (ak 2 (pv 2)) (G8 sy ao) (fun _ _=>rfl)) au)))) lg)))))) qe)   (dw (gq (v7 cj (ak 1 (pv 1))))))
theorem Ey {nn:Nat} (aI:jw P w K mg base "_law_lines" (2+nn) ["_law_paper_here"] (_root_.K.m_law_lines nn)):jw P w K mg base "_law_lines" (2+nn+1) ["_law_paper_here"] (_root_.K.m_law_lines (nn+1)):=by
 refine go (N:=["_law_paper_here","_law_head","_law_lines_here","_law_one"]) Z.h30 fun _ _ _ _ _ _ _ _ hr hu hq nd=>?_;exact c7 (nq (j4 (iu hq) (ig hu (ak 0 (pv 0)) ao (fun _ _=>rfl)) cj (dz _))   (dw (gq (o9 (aj (je iw cj (bh (Ck Z) (hr.mono (by omega)) (by rfl) (aj (ig hu (ak 0 (pv 0)) ao (fun _ _=>rfl)) au) (aq eq_nil))) au) (f9 (bf dg) (by decide)))))   jo)   (c7 (nq (j4 (iu hq) (ig hu (ak 0 (pv 0)) ao (fun _ _=>rfl)) cj (dz _))   (dw (gq (o9 (aj (je iw (je iw cj (dh (gn jm (by rfl) Z.b_str (by rfl) (aj (ig hu (ak 0 (pv 0)) ao (fun _ _=>rfl)) au)))) (bh (Ck Z) (hr.mono (by omega)) (by rfl) (aj (ig hu (ak 0 (pv 0)) ao (fun _ _=>rfl)) au) (aq eq_nil))) au) (f9 (bf dg) (by decide)))))   jo)   (c7 (nq (j4 (iu hq) (ig hu (ak 0 (pv 0)) ao (fun _ _=>rfl)) cj (dz _))   (c7 (lu (i:=1) nd (o9 (aj (je iw (je iw (je iw cj (ig hu (ak 0 (pv 0)) ao (fun _ _=>rfl))) cj) (dh (gn jm (by rfl) Z.b_str (by rfl) (aj (ig hu (ak 0 (pv 0)) ao (fun _ _=>rfl)) au)))) au) (f9 (bf dg) (by decide))))   (dw (gq (je iw (je iw (ak 1 (pv 1)) (bh aI (hr.mono (by omega)) (by rfl) (aj (ig hu (ak 0 (pv 0)) ao (fun _ _=>rfl)) au) (aq eq_nil))) (bh aI (hr.mono (by omega)) (by rfl) (aj (ig hu (ak 0 (pv 0)) ao (fun _ _=>rfl)) au) (aq eq_nil))))))   jo)   (c7 (lu (i:=2) nd (o9 (aj (je iw (je iw (je iw cj (dh (gn jm (by rfl) Z.b_str (by rfl) (aj (ig hu (ak 0 (pv 0)) ao (fun _ _=>rfl)) au)))) cj) (dh (gn jm (by rfl) Z.b_str (by rfl) (aj (dh (gk j8 (by rfl) Z.b_len PySem.boot_len (aj (ig hu (ak 0 (pv 0)) ao (fun _ _=>rfl)) au))) au)))) au) (f9 (bf dg) (by decide))))   (c7 (Av PassesOwn.never rfl (qg (ig hu (ak 0 (pv 0)) ao (fun _ _=>rfl))) (jr 3 (iy nd rfl (Or.inl rfl)))   (dw (lu (i:=2) nd (je iw (ak 2 (pv 2)) (bh aI (hr.mono (by omega)) (by rfl) (aj (ak 3 (pv 3)) au) (aq eq_nil))))) qe)   (dw (gq (ak 2 (pv 2))))))))
theorem Ab:∀ nn:Nat,jw P w K mg base "_law_lines" (2+nn) ["_law_paper_here"] (_root_.K.m_law_lines nn)
 | 0=>zero Z.h30
 | nn+1=>by
  have ih:=Ab nn;have bb:=ih;exact Ey Z bb
theorem Ih:jw P w K mg base "_law_lines" 112 ["_law_paper_here"] (_root_.K.m_law_lines 110):=(Ab Z 110)
theorem Cy:jw P w K mg base "_law_text" 113 ["_law_papers"] (_root_.K.m_law_text):=by
 refine go (N:=["_law_papers","_law_lines_here","_law_duty_here","_law_paper_here"]) Z.h31 fun _ _ _ _ _ _ _ _ hr hu hq nd=>?_;exact c7 (Ay 1 (ud nd rfl (Or.inl rfl) (Dg au (f9 dg (by decide)))) (fun _ _ _ h=>h))   (c7 (Av PassesOwn.never rfl (qg (ak 0 (pv 0))) (Qm (is:=[2,3]) (T4 rfl (vm (iy nd rfl (Or.inl rfl)) (vm (iy nd rfl (Or.inl rfl)) Jz))))   (c7 (u6 1 (pq (Aj PySem.F.plainAttrs_list PySem.F.slot_list_append PySem.F.type_list_append m9 (pv 1) (jc (v7 cj (ni (qp (N:=["_law_word"]) ⟨rfl,fun j k h=>match j,h with | _+0,h=>(by cases h)⟩ ⟨rfl,rfl,by decide +kernel,by decide +kernel⟩ rfl (qg (ak 2 (pv 2))) qe (fun C s₀ H₀ ex pn=>pgE fun B=>(jr 0 (iy (show (["_law_word"]:List Str).Nodup by decide +kernel) rfl (Or.inl rfl)))) (fun C s₀ H₀ ex pn=>kj) (fun C s₀ H₀ ex pn=>peE fun B=>(dh (gn jm (by rfl) Z.b_str (by rfl) (aj (ak 0 (pv 0)) au))))))) lg))))   (dw (Ay 1 (ud nd rfl (Or.inl rfl) (Qd 1 (pv 1) (bh (Ih Z) (hr.mono (by decide)) (by rfl) (aj (ak 3 (pv 3)) au) (aq eq_nil)))) (fun _ _ _ h=>h)))) qe)   (dw (gq (v7 cj (ak 1 (pv 1))))))
theorem G5 {nn:Nat} (a8:jw P w K mg base "_law_alike" (2+nn) ["_law_found","_law_due"] (_root_.K.m_law_alike nn)):jw P w K mg base "_law_alike" (2+nn+1) ["_law_found","_law_due"] (_root_.K.m_law_alike (nn+1)):=by
 refine go (N:=["_law_found","_law_due"]) Z.h32 fun _ _ _ _ _ _ _ _ hr hu hq nd=>?_;exact c7 (nq (uo (Aq (by rfl) Z.b_isinstance (by rfl) Z.b_tuple (ak 1 (pv 1))))   (c7 (nq (PW.pt (Tc (Ej (uo (Aq (by rfl) Z.b_isinstance (by rfl) Z.b_tuple (ak 0 (pv 0))))) (Hh (j4 (Gj hq) (dh (gk j8 (by rfl) Z.b_len PySem.boot_len (aj (ak 0 (pv 0)) au))) (dh (gk j8 (by rfl) Z.b_len PySem.boot_len (aj (ak 1 (pv 1)) au))) (dz _)))))   (dw (gq vp))   jo)   (dw (gq (dh (gk (Cg (by rfl)) (by rfl) Z.b_all PyProof.Rows.boot_all (aj (ni (qp (N:=["_law_one","_law_other"]) ⟨rfl,fun j k h=>match j,h with | _+0,h=>(by cases h)⟩ ⟨rfl,rfl,by decide +kernel,by decide +kernel⟩ rfl (a2g (by rfl) Z.b_zip (ak 0 (pv 0)) (ak 1 (pv 1))) Zy (fun C s₀ H₀ ex pn=>pgE fun B=>(Qm (is:=[0,1]) (T4 rfl (vm (iy (show (["_law_one","_law_other"]:List Str).Nodup by decide +kernel) rfl (Or.inl rfl)) (vm (iy (show (["_law_one","_law_other"]:List Str).Nodup by decide +kernel) rfl (Or.inl rfl)) Jz))))) (fun C s₀ H₀ ex pn=>kj) (fun C s₀ H₀ ex pn=>peE fun B=>(bh a8 (hr.mono (by omega)) (by rfl) (aj (ak 0 (pv 0)) (aj (ak 1 (pv 1)) au)) (aq (aq eq_nil)))))) au))))))   jo)   (c7 (nq (uo (En (by rfl) Z.b_isinstance (by rfl) Z.b_str (ak 1 (pv 1))))   (dw (gq (uz (En (by rfl) Z.b_isinstance (by rfl) Z.b_str (ak 0 (pv 0))) (Aa (lq (iu hq) (ak 0 (pv 0)) (ak 1 (pv 1)) (dz _))))))   jo)   (dw (gq (uz (Mw (by rfl) Z.b_isinstance (by rfl) Z.b_int (ak 0 (pv 0))) (uz (a04 (K1 (by rfl) Z.b_isinstance (by rfl) Z.b_bool (ak 0 (pv 0)))) (Aa (lq (iu hq) (ak 0 (pv 0)) (ak 1 (pv 1)) (dz _))))))))
theorem yg:∀ nn:Nat,jw P w K mg base "_law_alike" (2+nn) ["_law_found","_law_due"] (_root_.K.m_law_alike nn)
 | 0=>zero Z.h32
 | nn+1=>by
  have ih:=yg nn;have a9:=ih;exact G5 Z a9
theorem Hy:jw P w K mg base "_law_alike" 112 ["_law_found","_law_due"] (_root_.K.m_law_alike 110):=(yg Z 110)
theorem ux:jw P w K mg base "_law_right" 114 ["_law_papers"] (_root_.K.m_law_right cR cN):=by
 refine go (N:=["_law_papers","_law_handed","_law_text_here","_law_found"]) Z.h33 fun _ _ _ _ _ _ _ _ hr hu hq nd=>?_;exact c7 (lu (i:=1) nd (dh (gn Nm (by rfl) Z.b_list PyProof.Rows.boot_list (aj (ak 0 (pv 0)) au))))   (c7 (lu (i:=2) nd (bh (Cy Z) (hr.mono (by decide)) (by rfl) (aj (ak 0 (pv 0)) au) (aq eq_nil)))   (c7 (nq (PW.pt (Tc (j4 (Gj hq) (bh (Dq Z) (hr.mono (by decide)) (by rfl) (aj (ak 1 (pv 1)) au) (aq eq_nil)) (ak 2 (pv 2)) (dz _)) (Hh (j4 (Rp hr.u160) (ak 1 (pv 1)) (ak 0 (pv 0)) (dz _)))))   (dw (gq vp))   jo)   (c7 (Cw 3 (ud nd rfl (Or.inl rfl) (bh (qy Z).norm (hr.mono (by decide)) (by rfl) (aj (ak 2 (pv 2)) au) (aq eq_nil))) (fun _ _ _ h=>h))   (c7 (nq (PW.pt (Tc (Ej (uo (Tq (by rfl) Z.b_isinstance (by rfl) Z.b_list (ak 3 (pv 3))))) (Hh (Ej (uo (bh (Hy Z) (hr.mono (by decide)) (by rfl) (aj (Ib (by rfl) Z.b_tuple (ak 3 (pv 3))) (aj (dh (gn mj (by rfl) Z.b_tuple PyProof.Rows.boot_tuple (aj (ak 0 (pv 0)) au))) au)) (aq (aq eq_nil))))))))   (dw (gq vp))   jo)   (c7 (U3 3 (pq (Aj PySem.F.plainAttrs_list PySem.F.slot_list_append PySem.F.type_list_append m9 (pv 3) (jc ao lg))))   (dw (gq (Z4 (Ym hr.u160) (bh (qy Z).norm (hr.mono (by decide)) (by rfl) (aj (ak 2 (pv 2)) au) (aq eq_nil)) (ak 0 (pv 0)) (dz _)))))))))
theorem a0m {f:Addr} {fd:FuncData} (F:Fun K "law" "law" (top 46) f fd):ur P w K mg base CX0 115 f fd ["_law_script"] (spF K (["_law_script"]:List Str).length (_root_.K.m_law cR cN)):=by
 refine go0 (N:=["_law_script","_law_deep","_law_k","_law_cells","_law_papers","_law_cell","_law_rest_here","_law_far"]) F fun _ _ _ _ _ _ _ _ hr hu hq nd=>?_;refine c7 ?_ ?_
 ·exact lu (i:=1) nd (jq (aj cj (aj (jq (aj (jq (aj ao (aj ao au)) (f9 (bf (bf dg)) (by decide))) au) (f9 (bf dg) (by decide))) au)) (f9 (bf (bf dg)) (by decide)))
 ·refine c7 ?_ ?_
  ·exact Av PassesOwn.never rfl (zp (by rfl) Z.b_range ao) (jr 2 (iy nd rfl (Or.inl rfl)))   (dw (lu (i:=1) nd (jq (aj cj (aj cj (aj (ak 2 (pv 2)) (aj (jq (aj cj (aj (jq au (f9 dg (by decide))) au)) (f9 (bf (bf dg)) (by decide))) (aj (ak 1 (pv 1)) au))))) (f9 (bf (bf (bf (bf (bf dg))))) (by decide))))) yd
  ·refine c7 ?_ ?_
   ·refine Av ?_ ?_ ?_ ?_ ?_ ?_
    ·exact PassesOwn.never
    ·exact rfl
    ·exact zp (by rfl) Z.b_range (dh (gk (Ah (by rfl)) (by rfl) Z.b_min PyProof.Rows.boot_min (aj ao (aj (dh (gk j8 (by rfl) Z.b_len PySem.boot_len (aj (ak 0 (pv 0)) au))) au))))
    ·exact jr 2 (iy nd rfl (Or.inl rfl))
    ·refine c7 ?_ ?_
     ·exact Cw 3 (Jb (N:=["_law_j","_law_script"]) ⟨rfl,rfl,by decide +kernel,by decide +kernel⟩ rfl (Tt (by rfl) Z.b_range (ak 2 (pv 2)) (dh (gk (Ah (by rfl)) (by rfl) Z.b_min PyProof.Rows.boot_min (aj (dh (gk j8 (by rfl) Z.b_len PySem.boot_len (aj (ak 0 (pv 0)) au))) (aj ao au)))) ao) (fun C s₀ H₀ ex pn=>pgE fun B=>(jr 0 (iy (show (["_law_j","_law_script"]:List Str).Nodup by decide +kernel) rfl (Or.inl rfl)))) (fun C s₀ H₀ ex pn=>kj) (fun C s₀ H₀ ex pn=>peE fun B=>(ig hu (ak 1 (pv 1)) (ak 0 (pv 0)) (fun _ _=>rfl))) (iy nd rfl (Or.inl rfl)) rfl) (fun σ H Q h=>Lj ⟨rfl,fun j k h=>match j,h with | 0,h=>(by cases h; exact ⟨_,rfl,rfl,⟨.inl rfl,.inr (.inl rfl),.inl rfl⟩⟩) | _+1,h=>(by cases h)⟩ Qv (Ly h))
     ·refine c7 ?_ ?_
      ·refine nq ?_ ?_ ?_
       ·exact j4 (iu hq) (je uy (ig hu (ak 0 (pv 0)) ao (fun _ _=>rfl)) ao) ao (dz _)
       ·refine dw ?_
        ·exact Cw 3 (Jb (N:=["_law_cell"]) ⟨rfl,rfl,by decide +kernel,by decide +kernel⟩ rfl (qg (ak 3 (pv 3))) (fun C s₀ H₀ ex pn=>pgE fun B=>(jr 0 (iy (show (["_law_cell"]:List Str).Nodup by decide +kernel) rfl (Or.inl rfl)))) (fun C s₀ H₀ ex pn=>kj) (fun C s₀ H₀ ex pn=>peE fun B=>(bh (Jg Z) (hr.mono (by decide)) (by rfl) (aj (ak 0 (pv 0)) au) (aq eq_nil))) (iy nd rfl (Or.inl rfl)) rfl) (fun σ H Q h=>Lj ⟨rfl,fun j k h=>match j,h with | _+0,h=>(by cases h)⟩ qe (Ly h))
       ·exact jo
      ·refine c7 ?_ ?_
       ·exact Ay 4 (ud nd rfl (Or.inl rfl) (Dg au (f9 dg (by decide)))) (fun _ _ _ h=>h)
       ·refine c7 ?_ ?_
        ·refine Av ?_ ?_ ?_ ?_ ?_ ?_
         ·exact PassesOwn.never
         ·exact rfl
         ·exact qg (Bk (ak 3 (pv 3)) qb (ou ao))
         ·exact jr 5 (iy nd rfl (Or.inl rfl))
         ·refine c7 ?_ ?_
          ·exact Cw 6 (ud nd rfl (Or.inl rfl) (bh (Kf Z) (hr.mono (by decide)) (by rfl) (aj (je iw (ak 5 (pv 5)) (dh (gk (Pb (by rfl)) (by rfl) Z.b_sum PyProof.Rows.boot_sum (aj (Bk (ak 3 (pv 3)) (ou ao) qb) au)))) au) (aq eq_nil))) (fun _ _ _ h=>h)
          ·exact dw (u6 4 (pq (Aj PySem.F.plainAttrs_list PySem.F.slot_list_append PySem.F.type_list_append m9 (pv 4) (jc (jq (aj (bh (J3 Z) (hr.mono (by decide)) (by rfl) (aj (ak 6 (pv 6)) au) (aq eq_nil)) (aj (bh (Ip Z) (hr.mono (by decide)) (by rfl) (aj (ak 6 (pv 6)) (aj ao au)) (aq (aq eq_nil))) au)) (f9 (bf (bf dg)) (by decide))) lg))))
         ·exact qe
        ·exact dw (nq (Ej (uo (bh (ux Z) (hr.mono (by decide)) (by rfl) (aj (Ur 4 (pv 4) (ou (je uy (ig hu (ak 3 (pv 3)) ao (fun _ _=>rfl)) ao)) qb) au) (aq eq_nil))))   (dw (gq vp))   jo)
    ·exact yd
   ·refine c7 ?_ ?_
    ·refine lu (i:=7) ?_ ?_
     ·exact nd
     ·refine jq ?_ ?_
      ·refine aj ?_ ?_
       ·exact cj
       ·refine aj ?_ ?_
        ·exact cj
        ·refine aj ?_ ?_
         ·exact je Fg ao (je Lz (je Cp ao ao) ao)
         ·exact aj (jq (aj cj (aj (jq (aj (jq (aj (je Lz (je Cp ao ao) ao) (aj ao au)) (f9 (bf (bf dg)) (by decide))) au) (f9 (bf dg) (by decide))) au)) (f9 (bf (bf dg)) (by decide))) (aj (jq (aj cj (aj (jq au (f9 dg (by decide))) au)) (f9 (bf (bf dg)) (by decide))) au)
      ·exact f9 (bf (bf (bf (bf (bf dg))))) (by decide)
    ·refine c7 ?_ ?_
     ·refine nq ?_ ?_ ?_
      ·refine Xo (Rp hr.u160) ?_ ?_ ?_
       ·exact bh (qy Z).norm (hr.mono (by decide)) (by rfl) (aj (bh (Cy Z) (hr.mono (by decide)) (by rfl) (aj (o9 (aj (jq (aj (jq (aj cj (aj cj au)) (f9 (bf (bf dg)) (by decide))) (aj (ak 7 (pv 7)) au)) (f9 (bf (bf dg)) (by decide))) au) (f9 (bf dg) (by decide))) au) (aq eq_nil)) au) (aq eq_nil)
       ·exact o9 (aj (jq (aj (jq (aj cj (aj cj au)) (f9 (bf (bf dg)) (by decide))) (aj (ak 7 (pv 7)) au)) (f9 (bf (bf dg)) (by decide))) au) (f9 (bf dg) (by decide))
       ·exact dz _
      ·exact dw (gq vp)
      ·exact jo
     ·refine dw ?_
      ·refine gq ?_
       ·refine uz ?_ ?_
        ·exact bh (ux Z) (hr.mono (by decide)) (by rfl) (aj (o9 au (f9 dg (by decide))) au) (aq eq_nil)
        ·exact Aa (bh (ux Z) (hr.mono (by decide)) (by rfl) (aj (o9 (aj (jq (aj (jq (aj cj (aj ao au)) (f9 (bf (bf dg)) (by decide))) (aj (ak 1 (pv 1)) au)) (f9 (bf (bf dg)) (by decide))) au) (f9 (bf dg) (by decide))) au) (aq eq_nil))
end
end D
end
section
namespace C
open PySem
def okS (x:Str):Prop:=PyData.canLay0 (.str x)=true
def Pl (n:Nat) (t:T):Prop:=∃ d,dat t=some d/\d.depth<=n
end C
namespace C
open PySem
end C
namespace C
open PySem
end C
end
open C
local macro_rules | `(tactic| simp! [$ls,*])=>`(tactic| simp [Ql,a2n,sIf,Yu,sNew,a2m,a5r,sGo,a2o,G4,Fw,vo,Bc,a1s,a2f,mOr,O1,mIf,mOp,mUn,a2p,Ow,Bb,U9,Hr,Wf,Tp,jj,hName,a5m,Im,a00,ltT,leT,V9,a4a,a3x,a4q,Yi,a3n,Ci,a0x,j9,Zi,$ls,*])
section
namespace C
open PySem
end C
end
section
namespace K
open C PySem
section
variable {a b:M T} {l r:M (List T)} {s s1 s2:Sta} {t u v:T} {ts:List T} {i:Nat} {F:Fn} {z:List SO} {x y:S}
theorem zs (h:a s=some (t,s1)):Yu i a s=some (.next,jj i t false s1):=by unfold Yu; rw [h]
end
section
variable {a b:SX} {u:S} {s s1 s2:Sta} {q:Option ((C.Flow ⊕ T) × Sta)} {t x:T} {fl:C.Flow} {c:M Bool} {ms:M (List T)} {F:FnX} {ts:List T} {z z0:List SO} {m:M T} {n i:Nat} {A:List T} {r:T ⊕ T} {mx:MX} {l:MXs}
end
abbrev cs (x:Str):List Nat:=x.cps.toList
def a5c (c:Nat):Bool:=decide (97<=c)&&decide (c<=122)
def Yl (c:Nat):Bool:=decide (48<=c)&&decide (c<=57)
def a6d (c:Nat):Bool:=a5c c||Yl c
def st (l:List Nat):Str:=⟨l.toArray⟩
theorem Qe (x:Str):st (cs x)=x:=by cases x; simp [st,cs]
theorem X4 (x:Str):x.length=(cs x).length:=by show x.cps.size=_; simp [cs]
def Pn (x:Str):Prop:=(∀ c∈cs x,c<128)/\(cs x).length<1000
theorem Pn.okS {x:Str} (h:Pn x):okS x:=by
 unfold C.okS PyData.canLay0 PyData.strOk;rw [<- Array.all_toList,List.all_eq_true];intro c hc;have:=h.1 c hc;simp only [decide_eq_true_eq];omega
theorem Pn.lt {x:Str} (h:Pn x):x.length<lim:=by have:=h.2; rw [X4]; show _<1000000; omega
theorem Pn.all {x:Str} (h:Pn x):x.cps.all (· < 128)=true:=by
 rw [<- Array.all_toList,List.all_eq_true];intro c hc;exact decide_eq_true (h.1 c hc)
variable {sto:List SO}
noncomputable def a6b:List Str:=["box","lock","hand","own","end","set","wait","if","else","while","rounds","either","or","and","not","take","give","label","say","at","divides","true","false"]
noncomputable def nameB (x:Str):Bool:=decide (1<=(cs x).length)&&(decide ((cs x).length<=8)&&((cs x).headD 0 |> a5c)&&(cs x).all a6d && !(a6b.contains x))
noncomputable def a4m (x:Str):Bool:=!(cs x).isEmpty&&(cs x).all Yl&&(decide (cs x=[48])||decide ((cs x).headD 48≠48))
end K
end
section
namespace K
open C PySem
variable {cR cN k:Nat} {sto:List SO} {rs:List Str} {n:Nat}
abbrev f2 (a b:T):List (Str × T):=[("rows",a),("number",b)]
abbrev rdF (rs:List Str) (n:Nat):List (Str × T):=f2 (.lst (rs.map .str)) (.int (n:Int))
abbrev a6q (cR k:Nat) (rs:List Str) (n:Nat) (sto:List SO):Prop:=sto[k]? = some (.ins cR (rdF rs n))
section
variable {s s1 s2:Sta} {o v:M T} {fs:List (Str × T)} {t:T} {f:Str}
end
def Ox (c:Nat) (x:Str):List Str:=(cutAt c (cs x)).map Mt
theorem Z0:cs "*" = [42]:=by decide +kernel
theorem a1g:cs "," = [44]:=by decide +kernel
def ws (x:Str):List Str:=Ox 32 x
abbrev tws (l:List Str):T:=.lst (l.map .str)
section
variable {e:List C.Slot} {c:M T}
end
end K
end
section
namespace K
open C PySem PySem.W PySem.NumText
variable {cR cN k:Nat} {sto:List SO} {rs:List Str} {n:Nat}
def val (x:Str):Nat:=digitsVal (cs x)
noncomputable def pNum (w:Str) (l:Int):Option Int:=if a4m w&&decide ((cs w).length<=400)&&decide (l<=(val w:Int)) then some (val w:Int) else none
def a5i (w:Str):Bool:=if (cs w).head? = some 64 then nameB (st ((cs w).drop 1)) else nameB w
noncomputable def Yd (w:Str):Option Int:=if (cs w).head? = some 45 then (pNum (st ((cs w).drop 1)) 1).map (fun v=>-v) else pNum w 0
end K
end
section
namespace K
open C PySem PySem.W PySem.NumText
variable {cR cN k:Nat} {sto:List SO} {rs:List Str} {n:Nat}
noncomputable def Yq (p:Str->Option T):List Str->Option (List T)
 | []=>some []
 | w::r=>match p w with
  | none=>none
  | some t=>(Yq p r).map (t :: ·)
noncomputable def Fl (w:Str):Option T:=match Ox 42 w with
 | [a,b]=>match pNum a 0 with
  | none=>none
  | some x=>match pNum b 1 with
   | none=>none
   | some y=>some (.tup [.int x,.int y])
 | _=>none
def a5d:Option Int->Option T
 | some v=>some (.int v)
 | none=>none
noncomputable def Bg (w:Str):Option T:=match Ox 42 w with
 | [a,b]=>match Yd b with
  | none=>none
  | some v=>if decide ((Ox 44 a).length<=2)&&decide (v≠0) then (Yq (fun x=>a5d (pNum x 0)) (Ox 44 a)).map fun ts=>.tup (ts++[.int v]) else none
 | _=>none
end K
end
section
namespace K
open C PySem PySem.W PySem.NumText
variable {cR cN k:Nat} {sto:List SO} {rs:List Str} {n:Nat}
inductive Hd where
 | orr (i m:Int)
 | cut (b:Str) (v:Int)
 | sum (l:List T)
 | rest (d:Int) (l:List T)
def wd (l:List Str) (i:Nat):Str:=l.getD i ""
noncomputable def a2w (l:List Str):Option Hd :=
 if wd l 0 == "or" then
  (if l.length=3 then (match pNum (wd l 1) 0,pNum (wd l 2) 0 with
   | some i,some m=>some (.orr i m)
   | _,_=>none) else none)
 else if wd l 0 == "cut" then
  (if l.length=3 then (if a5i (wd l 1) then (Yd (wd l 2)).map (.cut (wd l 1)) else none) else none)
 else if wd l 0 == "sum" then (Yq Fl (l.drop 1)).map .sum
 else if wd l 0 == "rest" && decide (2<=l.length) then (match pNum (wd l 1) 2 with
   | some d=>(Yq Bg (l.drop 2)).map (.rest d)
   | none=>none)
 else none
noncomputable def a1u (l:List Str):Option T :=
 if wd l 0 == "start" then
  (if l.length=2 then (if nameB (wd l 1) then some (.tup [.str "start",.str (wd l 1)]) else none) else none)
 else if wd l 0 == "own" then
  (if l.length=2 then (pNum (wd l 1) 0).map (fun v=>.tup [.str "own",.int v]) else none)
 else if wd l 0 == "other" && decide (l.length=4) then (match pNum (wd l 1) 0 with
   | some v=>if nameB (wd l 2) then (pNum (wd l 3) 0).map (fun u=>.tup [.str "other",.int v,.str (wd l 2),.int u]) else none
   | none=>none)
 else none
structure Pws (l:List Str):Prop where
 ne:l≠[]
 lt:l.length<lim
 pn:∀ w∈l,Pn w
section
variable {l:List Str}
end
theorem a4w:okS ("or" : Str):=by unfold okS; decide +kernel
theorem a2d:okS ("cut" : Str):=by unfold okS; decide +kernel
theorem a1q:okS ("sum" : Str):=by unfold okS; decide +kernel
theorem Zd:okS ("rest" : Str):=by unfold okS; decide +kernel
abbrev hS (k:Nat) (l:List Str) (o:C.Slot) (sto:List SO):Sta:=⟨[some (.obj k,false),some (tws l,false),o],sto⟩
section
variable {l:List Str} {o:C.Slot}
end
section
variable {l:List Str}
end
end K
end
section
namespace K
open C PySem PySem.W PySem.NumText
variable {cR cN k:Nat} {sto:List SO} {rs:List Str} {n:Nat}
end K
end
section
namespace K
open C PySem
variable {cR cN k:Nat} {rs:List Str}
abbrev Fr:=Hd × List T
def many:Hd->Int
 | .orr _ m=>m
 | .cut _ _=>2
 | _=>0
noncomputable def a1h (h:Hd) (ps:List T):T:=match h with
 | .orr i _=>.tup [.str "or",.int i,.tup ps]
 | .cut b v=>.tup ([.str "cut",.str b,.int v]++ps)
 | .sum l=>.tup ([.str "sum",.tup l]++ps)
 | .rest d l=>.tup ([.str "rest",.int d,.tup l]++ps)
noncomputable def close (f:Fr):List Fr->T ⊕ List Fr
 | []=>if (f.2.length:Int)=many f.1 then .inl (a1h f.1 f.2) else .inr [f]
 | g::r=>if (f.2.length:Int)=many f.1 then close (g.1,g.2++[a1h f.1 f.2]) r else .inr (f::g::r)
abbrev Fi:=Hd × Nat
structure Lk (k:Nat) (sto:List SO) (st:List (Fi × List T)):Prop where
 at':∀ f∈st,sto[f.1.2]? = some (.lst f.2)
 nd:(st.map fun f=>f.1.2).Nodup
theorem Lk.app {sto:List SO} {g:Fi × List T} {st:List (Fi × List T)} {p:T} (h:Lk k sto (g::st)):Lk k (sto.set g.1.2 (.lst (g.2++[p]))) ((g.1,g.2++[p])::st):=by
 have o:=h.at' g List.mem_cons_self;have aP:g.1.2<sto.length:=(List.getElem?_eq_some_iff.mp o).1;refine ⟨fun f hf=>?_,h.nd⟩;rcases List.mem_cons.mp hf with rfl | hf
 ·exact List.getElem?_set_self aP
 ·have ne:g.1.2≠f.1.2:=fun z=>(List.nodup_cons.mp h.nd).1 (List.mem_map.mpr ⟨f,hf,z.symm⟩);show (sto.set g.1.2 _)[f.1.2]? = _;rw [List.getElem?_set_ne ne];exact h.at' f (List.mem_cons_of_mem _ hf)
end K
end
section
namespace K
open C PySem
variable {cR cN k:Nat} {rs:List Str}
theorem Lk.ne {sto:List SO} {st:List (Fi × List T)} {n:Nat} (h:Lk k sto st) (hk:a6q cR k rs n sto):∀ g∈st,g.1.2≠k:=fun g hg z=>by
 have a:=h.at' g hg;rw [z,hk] at a;cases a
theorem Lk.lt {sto:List SO} {st:List (Fi × List T)} (h:Lk k sto st):∀ g∈st,g.1.2<sto.length:=fun g hg=>(List.getElem?_eq_some_iff.mp (h.at' g hg)).1
structure Pz (k:Nat) (P:Nat->Prop) (sto aD:List SO):Prop where
 len:sto.length<=aD.length
 eq:∀ i,i<sto.length->i≠k->P i->aD[i]? = sto[i]?
end K
end
section
namespace K
open C PySem
variable {cR cN k:Nat} {rs:List Str}
structure Ptx (x:Str):Prop where
 pl:∀ c∈cs x,c<128
 lt:(cs x).length<lim
theorem Ptx.okS {x:Str} (h:Ptx x):okS x:=by
 unfold C.okS PyData.canLay0 PyData.strOk;rw [<- Array.all_toList,List.all_eq_true];intro c hc;have:=h.pl c hc;simp only [decide_eq_true_eq];omega
theorem Ptx.len {x:Str} (h:Ptx x):x.length<lim:=by rw [X4]; exact h.lt
end K
end
section
namespace K
open C PySem
inductive Ms where
 | idle (acc:List T)
 | on (acc:List T) (d:T) (st:List Fr)
noncomputable def stepM:Ms->Str->Option Ms
 | .idle acc,r=>(a1u (ws r)).map fun d=>.on acc d []
 | .on acc d st,r=>match a2w (ws r) with
  | none=>none
  | some h=>if st.length<90 then (match close (h,[]) st with
    | .inl p=>some (.idle (acc++[.tup [d,p]]))
    | .inr aa=>some (.on acc d aa))
   else none
noncomputable def runM:Ms->List Str->Ms ⊕ Nat
 | s,[]=>.inl s
 | s,r::l=>match stepM s r with
  | none=>.inr 0
  | some s'=>match runM s' l with
   | .inl z=>.inl z
   | .inr i=>.inr (i+1)
end K
end
section
namespace K
open C PySem PySem.W PySem.NumText
def num (i:Int):Str:=Str.ofString (toString i)
theorem Hu {m:Nat} (h:10<=m):Nat.toDigits 10 m=Nat.toDigits 10 (m / 10)++[Nat.digitChar (m%10)]:=by
 have hm:m%10<10:=Nat.mod_lt m (by decide);have t:Nat.toDigits 10 (m / 10)++Nat.toDigits 10 (m%10)=Nat.toDigits 10 (10 * (m / 10)+m%10):=Nat.toDigits_append_toDigits (by decide) (by omega) hm;rw [Nat.div_add_mod,Nat.toDigits_of_lt_base hm] at t;exact t.symm
theorem Ue (m:Nat):0<m->∃ c r,Nat.toDigits 10 m=c::r/\c.toNat≠48:=by
 induction m using Nat.strongRecOn with -- here
 | _ m ih =>
  intro h
  by_cases z:m<10
  ·refine ⟨_,_,Nat.toDigits_of_lt_base z,?_⟩
   have:∀ d:Nat,0<d->d<10->(Nat.digitChar d).toNat≠48:=by
    intro d h1 h2;have:d=1\/d=2\/d=3\/d=4\/d=5\/d=6\/d=7\/d=8\/d=9:=by omega
    rcases this with rfl | rfl | rfl | rfl | rfl | rfl | rfl | rfl | rfl <;> decide
   exact this m h z
  ·obtain ⟨c,r,e,hc⟩:=ih (m / 10) (by omega) (by omega);exact ⟨c,_,by rw [Hu (by omega),e]; rfl,hc⟩
theorem Le (m:Nat):cs (num (m:Int))=(Nat.toDigits 10 m).map Char.toNat:=KIN.signs_num m
theorem Ez (m:Nat):∀ c∈cs (num (m:Int)),Yl c=true:=by
 intro c hc;rw [Le] at hc;obtain ⟨ch,aQ,e⟩:=List.mem_map.mp hc;have r:=PyProof.Rows.digit_range (Nat.isDigit_of_mem_toDigits (by decide) (by decide) aQ);subst e;simp only [Yl,Bool.and_eq_true,decide_eq_true_eq];exact r
theorem a09 (m:Nat):cs (num (m:Int))≠[]:=by
 rw [Le];intro e;have:=List.map_eq_nil_iff.mp e
 by_cases z:m<10
 ·rw [Nat.toDigits_of_lt_base z] at this; cases this
 ·rw [Hu (by omega)] at this;simp at this
theorem Wc (m:Nat):val (num (m:Int))=m:=by
 unfold val;rw [Le];exact KIN.val_back m
theorem a3y (m:Nat):a4m (num (m:Int))=true:=by
 unfold a4m
 have h1:(cs (num (m:Int))).isEmpty=false:=by
  cases h:cs (num (m:Int)) with
  | nil=>exact absurd h (a09 m)
  | cons a l=>rfl
 have h2:(cs (num (m:Int))).all Yl=true:=List.all_eq_true.mpr (Ez m);rw [h1,h2,Bool.not_false,Bool.true_and,Bool.true_and,Bool.or_eq_true]
 by_cases z:m=0
 ·subst z
  left
  decide +kernel
 ·right
  obtain ⟨c,r,e,hc⟩:=Ue m (by omega);rw [Le,e];exact decide_eq_true hc
theorem J1 {m:Nat} (h:0<m):cs (num (-(m:Int)))=45::cs (num (m:Int)):=by
 obtain ⟨n,rfl⟩:∃ n,m=n+1:=⟨m - 1,by omega⟩;have e:(-(((n+1:Nat)):Int))=Int.negSucc n:=rfl;rw [e];show (Str.ofString ("-" ++ toString (n+1))).cps.toList=45::(Str.ofString (toString (n+1))).cps.toList;rw [Str.ofString_eq_toList,Str.ofString_eq_toList];show (("-" ++ toString (n+1)).toList.map Char.toNat)=45::((toString (n+1)).toList.map Char.toNat);rw [String.toList_append,List.map_append];rfl
theorem Qu {c:Nat} (h:Yl c=true):48<=c/\c<=57:=by
 unfold Yl at h;rw [Bool.and_eq_true,decide_eq_true_eq,decide_eq_true_eq] at h;exact h
theorem Vu (m:Nat):(cs (num (m:Int))).head?≠some 45:=by
 intro h;have hm:45∈cs (num (m:Int)):=List.mem_of_mem_head? h;have:=Qu (Ez m 45 hm);omega
def okN (m:Nat):Prop:=(cs (num (m:Int))).length<=400
theorem zy {m:Nat} {l:Int} (h:okN m) (hl:l<=(m:Int)):pNum (num (m:Int)) l=some (m:Int):=by
 unfold pNum;rw [a3y,Wc,decide_eq_true hl,decide_eq_true (show (cs (num (m:Int))).length<=400 from h)];rfl
theorem Vz {m:Nat} (h:okN m):Yd (num (m:Int))=some (m:Int):=by
 unfold Yd;rw [if_neg (Vu m),zy h (by omega)]
theorem Vf {m:Nat} (h0:0<m) (h:okN m):Yd (num (-(m:Int)))=some (-(m:Int)):=by
 have e:=J1 h0;unfold Yd;rw [e];rw [if_pos (show (45::cs (num (m:Int))).head? = some 45 from rfl)];have e2:st (List.drop 1 (45::cs (num (m:Int))))=num (m:Int):=Qe _;rw [e2,zy h (by omega)];rfl
theorem Uk {i:Int} (h:okN i.natAbs):Yd (num i)=some i:=by
 rcases Int.lt_or_le i 0 with z | z
 ·obtain ⟨m,rfl⟩:∃ m:Nat,i = -(m:Int):=⟨i.natAbs,by omega⟩;rw [Int.natAbs_neg,Int.natAbs_natCast] at h;exact Vf (by omega) h
 ·obtain ⟨m,rfl⟩:∃ m:Nat,i=(m:Int):=⟨i.natAbs,by omega⟩;rw [Int.natAbs_natCast] at h;exact Vz h
theorem Hq {i:Int}:∀ c∈cs (num i),c=45\/(48<=c/\c<=57):=by
 intro c hc;rcases Int.lt_or_le i 0 with z | z
 ·obtain ⟨m,hm,rfl⟩:∃ m:Nat,0<m/\i = -(m:Int):=⟨i.natAbs,by omega,by omega⟩;rw [J1 hm] at hc;rcases List.mem_cons.mp hc with rfl | hc
  ·exact .inl rfl
  ·exact .inr (Qu (Ez m c hc))
 ·obtain ⟨m,rfl⟩:∃ m:Nat,i=(m:Int):=⟨i.natAbs,by omega⟩;exact .inr (Qu (Ez m c hc))
end K
end
section
namespace K
open C PySem
noncomputable def fd (acc:List T) (d p:T):List Fr->Ms
 | []=>.idle (acc++[T.tup [d,p]])
 | g::r=>match close (g.1,g.2++[p]) r with
  | .inl q=>.idle (acc++[T.tup [d,q]])
  | .inr st=>.on acc d st
def Pap (e:Nat) (l:List Str) (p:T):Prop:=∀ acc d st,st.length+e<=90->runM (.on acc d st) l=.inl (fd acc d p st)
theorem Pap.mono {e e':Nat} {l:List Str} {p:T} (h:Pap e l p) (he:e<=e'):Pap e' l p:=fun acc d st q=>h acc d st (by omega)
theorem Yb {a b:Str} (h:cs a=cs b):a=b:=by rw [<- Qe a,<- Qe b,h]
theorem Dz (a b:Str):cs (a++b)=cs a++cs b:=J4 a b
theorem a3g:("," : Str)=⟨#[44]⟩:=Yb a1g
theorem Xn {l:List Str} (h:l≠[]) (hs:∀ w∈l,44∉cs w):Ox 44 (Str.join "," l)=l:=by
 unfold Ox;rw [a3g];exact Fy h hs
theorem Wi {a b:Str} (ha:42∉cs a) (hb:42∉cs b):Ox 42 (a ++ "*" ++ b)=[a,b]:=by
 unfold Ox;have sa:Mt (cs a)=a:=Qe a;have sb:Mt (cs b)=b:=Qe b;rw [Dz,Dz,Z0,List.append_assoc,List.singleton_append,K3 ha,Ep hb,List.map_cons,List.map_cons,List.map_nil,sa,sb]
theorem Hw {i:Int} {c:Nat} (hc:c=32\/c=42\/c=44\/c=10):c∉cs (num i):=fun h=>by
 rcases Hq c h with e | ⟨e1,e2⟩ <;> omega
theorem mem_join {sep:Str} {c:Nat}:∀ {l:List Str},c∈cs (Str.join sep l)->c∈cs sep\/∃ w∈l,c∈cs w
 | [],h=>by rw [Str.join] at h; cases h
 | [x],h=>by rw [Str.join] at h; exact .inr ⟨x,List.mem_cons_self,h⟩
 | x::y::r,h=>by
  rw [Str.join] at h
  ·rw [Dz,Dz,List.mem_append,List.mem_append] at h;rcases h with (h | h) | h
   ·exact .inr ⟨x,List.mem_cons_self,h⟩
   ·exact .inl h
   ·rcases mem_join h with h | ⟨w,hw,h⟩
    ·exact .inl h
    ·exact .inr ⟨w,List.mem_cons_of_mem _ hw,h⟩
  all_goals simp
def plS (ps:List Nat):Str:=Str.join "," (ps.map fun p:Nat=>num (p:Int))
def wdS (ps:List Nat) (t:Int):Str:=plS ps ++ "*" ++ num t
theorem a3q {ps:List Nat} {c:Nat} (hc:c=32\/c=42\/c=10):c∉cs (plS ps):=fun h=>by
 rcases mem_join h with h | ⟨w,hw,h⟩
 ·rw [a1g,List.mem_singleton] at h; omega
 ·obtain ⟨p,_,rfl⟩:=List.mem_map.mp hw;exact Hw (by omega) h
theorem Ky {α:Type} {p:Str->Option T} {f:α->Str} {g:α->T}:∀ {l:List α},(∀ x∈l,p (f x)=some (g x))->Yq p (l.map f)=some (l.map g)
 | [],_=>rfl
 | x::l,h=>by
  rw [List.map_cons,Yq,h x List.mem_cons_self];dsimp only;rw [Ky fun y hy=>h y (List.mem_cons_of_mem _ hy)];rfl
theorem a0a {p t:Nat} (hp:okN p) (ht:okN t) (h1:1<=t):Fl (wdS [p] (t:Int))=some (.tup [.int (p:Int),.int (t:Int)]):=by
 have e0:wdS [p] (t:Int)=num (p:Int) ++ "*" ++ num (t:Int):=by unfold wdS plS; rw [List.map_cons,List.map_nil,Str.join]
 have e:Ox 42 (wdS [p] (t:Int))=[num (p:Int),num (t:Int)]:=by rw [e0]; exact Wi (Hw (by omega)) (Hw (by omega))
 unfold Fl;rw [e];dsimp only;rw [zy hp (by omega),zy ht (by omega)]
theorem Yw {ps:List Nat} {t:Int} (hp:∀ p∈ps,okN p) (dC:ps≠[]) (h2:ps.length<=2) (ht:okN t.natAbs) (h0:t≠0):Bg (wdS ps t)=some (.tup (ps.map (fun p:Nat=>T.int (p:Int))++[.int t])):=by
 have e:Ox 42 (wdS ps t)=[plS ps,num t]:=Wi (a3q (by omega)) (Hw (by omega))
 have e2:Ox 44 (plS ps)=ps.map fun p:Nat=>num (p:Int):=Xn (fun z=>dC (List.map_eq_nil_iff.mp z)) (fun w hw=>by
  obtain ⟨p,_,rfl⟩:=List.mem_map.mp hw;exact Hw (by omega))
 have e3:Yq (fun x=>a5d (pNum x 0)) (ps.map fun p:Nat=>num (p:Int))=some (ps.map fun p:Nat=>T.int (p:Int)):=Ky fun p h=>by
  rw [zy (hp p h) (by omega)]; rfl
 unfold Bg;rw [e];dsimp only;rw [Uk ht,e2];dsimp only;rw [e3,List.length_map,decide_eq_true h2,decide_eq_true h0];rfl
structure Ln (r:Str) (n:Nat):Prop where
 pl:∀ c∈cs r,32<=c/\c<128
 le:(cs r).length<=n
theorem Ln.app {a b:Str} {m n:Nat} (ha:Ln a m) (hb:Ln b n):Ln (a++b) (m+n):=⟨fun c hc=>by
  rw [Dz,List.mem_append] at hc;rcases hc with h | h
  ·exact ha.pl c h
  ·exact hb.pl c h,by rw [Dz,List.length_append]; exact Nat.add_le_add ha.le hb.le⟩
theorem Ln.mono {a:Str} {m n:Nat} (h:Ln a m) (l:m<=n):Ln a n:=⟨h.pl,Nat.le_trans h.le l⟩
noncomputable def lnB (l:List Nat) (n:Nat):Bool:=l.all (fun c=>decide (32<=c)&&decide (c<128))&&decide (l.length<=n)
theorem a3c {a:Str} {n:Nat} (h:lnB (cs a) n=true):Ln a n:=by
 unfold lnB at h;rw [Bool.and_eq_true,List.all_eq_true,decide_eq_true_eq] at h;refine ⟨fun c hc=>?_,h.2⟩;have:=h.1 c hc;rw [Bool.and_eq_true,decide_eq_true_eq,decide_eq_true_eq] at this;exact this
theorem Qh {sep:Str} {s n:Nat} (hs:Ln sep s):∀ {l:List Str},(∀ w∈l,Ln w n)->Ln (Str.join sep l) (l.length * (n+s))
 | [],_=>by rw [Str.join]; exact ⟨fun c hc=>(nomatch hc),Nat.zero_le _⟩
 | [x],h=>by rw [Str.join]; exact (h x List.mem_cons_self).mono (by simp)
 | x::y::r,h=>by
  have ih:=Qh hs (l:=y::r) fun w hw=>h w (List.mem_cons_of_mem _ hw);rw [Str.join]
  ·refine (((h x List.mem_cons_self).app hs).app ih).mono ?_;simp only [List.length_cons,Nat.add_mul,Nat.one_mul];omega
  all_goals simp
abbrev cl2 (a b:Int):SO:=.lst [.int a,.int b]
def RL (j:Nat) (sto:List SO):Prop:=∃ a b:Int,sto[j]? = some (cl2 a b)
structure Kp (j:Nat) (sto aD:List SO):Prop where
 rl:RL j aD
 len:aD.length=sto.length
 eq:∀ i,i≠j->aD[i]? = sto[i]?
theorem a5n (a:Str) (n:Nat) (h:lnB (cs a) n=true:=by decide +kernel):Ln a n:=a3c h
variable {cR cN:Nat} {sto:List SO}
end K
end
section
namespace K
open C PySem
abbrev It:=List Nat × Int
abbrev wdI (q:It):Str:=wdS q.1 q.2
abbrev a07 (q:It):T:=.tup (q.1.map (fun p:Nat=>T.int (p:Int))++[.int q.2])
structure Ww (kind:Bool) (q:It):Prop where
 ne:q.1≠[]
 le:q.1.length<=(if kind=true then 2 else 1)
 ok:∀ p∈q.1,okN p
 ot:okN q.2.natAbs
 t0:q.2≠0
 ts:kind=false->1<=q.2
theorem Ww.sum {q:It} (h:Ww false q):Fl (wdI q)=some (a07 q):=by
 obtain ⟨ps,t⟩:=q
 obtain ⟨p,rfl⟩:∃ p,ps=[p]:=by
  match ps,h.ne,h.le with
  | [p],_,_=>exact ⟨p,rfl⟩
  | [],n,_=>exact absurd rfl n
  | _::_::_,_,l=>exact absurd l (by simp)
 have t1:1<=t:=h.ts rfl;obtain ⟨m,rfl⟩:∃ m:Nat,t=(m:Int):=⟨t.natAbs,by omega⟩;have ot:okN ((m:Int)).natAbs:=h.ot;rw [Int.natAbs_natCast] at ot;exact a0a (h.ok p List.mem_cons_self) ot (by omega)
theorem Ww.rest {q:It} (h:Ww true q):Bg (wdI q)=some (a07 q):=Yw h.ok h.ne h.le2 h.ot h.t0
def a5p (its:List It):Str:=Str.join " " (("sum" : Str)::its.map wdI)
def a0b (d:Nat) (its:List It):Str:=Str.join " " (("rest" : Str)::num (d:Int)::its.map wdI)
def a5f (b:Str) (v:Int):Str:=Str.join " " [("cut" : Str),b,num v]
def orR (i m:Nat):Str:=Str.join " " [("or" : Str),num (i:Int),num (m:Int)]
inductive GP:Nat->Nat->T->List Str->Prop where
 | sum {e n:Nat} (its:List It) (h:∀ q∈its,Ww false q) (hl:its.length<=10) (ln:Ln (a5p its) 900):GP (e+1) (n+3) (.tup [.str "sum",.tup (its.map a07)]) [a5p its]
 | rest {e n:Nat} (d:Nat) (its:List It) (hd:okN d) (h2:2<=d) (h:∀ q∈its,Ww true q) (hl:its.length<=10) (ln:Ln (a0b d its) 900):GP (e+1) (n+3) (.tup [.str "rest",.int (d:Int),.tup (its.map a07)]) [a0b d its]
 | cut {e n:Nat} {t1 t2:T} {l1 l2:List Str} (b:Str) (v:Int) (hb:a5i b=true) (hs:32∉cs b) (bl:(cs b).length<=10) (hp:Pn b) (hv:okN v.natAbs) (ln:Ln (a5f b v) 900) (h1:GP e n t1 l1) (h2:GP e n t2 l2):GP (e+1) (n+1) (.tup [.str "cut",.str b,.int v,t1,t2]) (a5f b v::(l1++l2))
 | orr {e n:Nat} (i:Nat) (cs:List (List Str × T)) (hi:okN i) (hm:cs.length<100) (ln:Ln (orR i cs.length) 900) (h:∀ y∈cs,GP e n y.2 y.1):GP (e+1) (n+2) (.tup [.str "or",.int (i:Int),.tup (cs.map (·.2))]) (orR i cs.length::cs.flatMap (·.1))
theorem GP.ln {e n:Nat} {t:T} {l:List Str} (h:GP e n t l):∀ r∈l,Ln r 900:=by
 induction h with
 | sum its h hl ln=>intro r hr; rw [List.mem_singleton.mp hr]; exact ln
 | rest d its hd h2 h hl ln=>intro r hr; rw [List.mem_singleton.mp hr]; exact ln
 | cut b v hb hs bl hp hv ln h1 h2 i1 i2 =>
  intro r hr;rcases List.mem_cons.mp hr with rfl | hr
  ·exact ln
  ·rcases List.mem_append.mp hr with hr | hr
   ·exact i1 r hr
   ·exact i2 r hr
 | orr i cs hi hm ln h ih =>
  intro r hr;rcases List.mem_cons.mp hr with rfl | hr
  ·exact ln
  ·obtain ⟨y,hy,hr⟩:=List.mem_flatMap.mp hr;exact ih y hy r hr
inductive Pl:Nat->T->Prop where
 | int {n:Nat} (i:Int):Pl n (.int i)
 | str {n:Nat} (x:Str) (h:okS x):Pl n (.str x)
 | tup {n:Nat} (l:List T) (hl:l.length<1000) (h:∀ t∈l,Pl n t):Pl (n+1) (.tup l)
theorem Wx {kind:Bool} {q:It} (hq:Ww kind q):Pl 1 (a07 q):=.tup _ (by rw [List.length_append,List.length_map,List.length_singleton]; have:=hq.le2; omega) fun t ht=>by
 rcases List.mem_append.mp ht with h | h
 ·obtain ⟨p,_,rfl⟩:=List.mem_map.mp h; exact .int _
 ·rw [List.mem_singleton.mp h]; exact .int _
theorem Pl.mono {n m:Nat} {t:T} (h:Pl n t) (hm:n<=m):Pl m t:=by
 induction h generalizing m with
 | int i=>exact .int i
 | str x h=>exact .str x h
 | tup l hl h ih =>
  obtain ⟨k,rfl⟩:∃ k,m=k+1:=⟨m - 1,by omega⟩;exact .tup l hl fun t ht=>ih t ht (by omega)
theorem GP.pl {e n:Nat} {t:T} {l:List Str} (h:GP e n t l):Pl n t:=by
 induction h with
 | @sum e n its h hl ln =>
  refine .tup _ (by simp) fun t ht=>?_;simp only [List.mem_cons,List.not_mem_nil,or_false] at ht;rcases ht with rfl | rfl
  ·exact .str _ a1q
  ·exact .tup _ (by rw [List.length_map]; omega) fun t ht=>by
    obtain ⟨q,hq,rfl⟩:=List.mem_map.mp ht;exact (Wx (h q hq)).mono (by omega)
 | @rest e n d its hd h2 h hl ln =>
  refine .tup _ (by simp) fun t ht=>?_;simp only [List.mem_cons,List.not_mem_nil,or_false] at ht;rcases ht with rfl | rfl | rfl
  ·exact .str _ Zd
  ·exact .int _
  ·exact .tup _ (by rw [List.length_map]; omega) fun t ht=>by
    obtain ⟨q,hq,rfl⟩:=List.mem_map.mp ht;exact (Wx (h q hq)).mono (by omega)
 | @cut e n t1 t2 l1 l2 b v hb hs bl hp hv ln h1 h2 i1 i2 =>
  refine .tup _ (by simp) fun t ht=>?_;simp only [List.mem_cons,List.not_mem_nil,or_false] at ht;rcases ht with rfl | rfl | rfl | rfl | rfl
  ·exact .str _ a2d
  ·exact .str _ hp.okS
  ·exact .int _
  ·exact i1
  ·exact i2
 | @orr e n i cs hi hm ln h ih =>
  refine .tup _ (by simp) fun t ht=>?_;simp only [List.mem_cons,List.not_mem_nil,or_false] at ht;rcases ht with rfl | rfl | rfl
  ·exact .str _ a4w
  ·exact .int _
  ·exact .tup _ (by rw [List.length_map]; omega) fun t ht=>by
    obtain ⟨y,hy,rfl⟩:=List.mem_map.mp ht;exact ih y hy
variable {sto:List SO}
theorem a0f {i:Int} (h:okN i.natAbs):Ln (num i) 401:=⟨fun c hc=>by
  rcases Hq c hc with rfl | ⟨h1,h2⟩
  ·decide
  ·omega,by
  rcases Int.lt_or_le i 0 with z | z
  ·obtain ⟨m,hm,rfl⟩:∃ m:Nat,0<m/\i = -(m:Int):=⟨i.natAbs,by omega,by omega⟩;rw [Int.natAbs_neg,Int.natAbs_natCast] at h;rw [J1 hm,List.length_cons];exact Nat.succ_le_succ h
  ·obtain ⟨m,rfl⟩:∃ m:Nat,i=(m:Int):=⟨i.natAbs,by omega⟩;rw [Int.natAbs_natCast] at h;exact Nat.le_succ_of_le h⟩
theorem a0p {m:Nat} (h:okN m):Ln (num (m:Int)) 401:=a0f (by rw [Int.natAbs_natCast]; exact h)
theorem a3d {ps:List Nat} (h:∀ p∈ps,okN p) (hl:ps.length<=2):Ln (plS ps) 804:=by
 have:=Qh (sep := ",") (s:=1) (n:=401) (a5n "," 1) (l:=ps.map fun p:Nat=>num (p:Int)) (fun w hw=>by
  obtain ⟨p,hp,rfl⟩:=List.mem_map.mp hw;exact a0p (h p hp))
 rw [List.length_map] at this;exact this.mono (by omega)
theorem Ww.ln {kind:Bool} {q:It} (h:Ww kind q):Ln (wdI q) 1206:=((a3d h.ok h.le2).app (a5n "*" 1)).app (a0f h.ot)
end K
end
section
namespace K
open C PySem
variable {sto:List SO}
section
variable {t:T} {k:Str} {r:List T} {s:Sta}
end
end K
end
section
namespace K
open C PySem
variable {sto:List SO}
end K
end
section
namespace K
open C PySem
variable {sto:List SO}
end K
end
section
namespace K
open C PySem
variable {sto:List SO}
end K
end
section
namespace K
open C PySem
variable {sto:List SO}
structure Gd (t:T) (r:Str):Prop where
 ex:∃ zs:List (T × Str),t=.tup (zs.map (·.1))/\r=Str.join " " (zs.map (·.2))/\zs.length<=4/\∀ z∈zs,a5a [z.1]=some (.str z.2)/\Ln z.2 200
 du:a1u (ws r)=some t
 ln:Ln r 900
 pl:Pl 1 t
abbrev Et:=(T × Str) × (T × List Str)
structure GE (y:Et):Prop where
 d:Gd y.1.1 y.1.2
 p:∃ e n,GP e n y.2.1 y.2.2/\e<=90/\n<=100
 l:y.2.2.length<=200
end K
end
section
namespace K
open C PySem
variable {cR cN:Nat} {sto:List SO}
end K
end
section
namespace K
open C PySem
variable {j:Nat} {sto:List SO}
structure Wl (kind:Bool) (q:It):Prop where
 ww:Ww kind q
 ln:Ln (wdI q) 190
end K
end
section
namespace K
open C PySem
variable {j:Nat} {sto:List SO}
end K
end
section
namespace K
open C PySem
variable {j:Nat} {sto:List SO}
end K
end
section
namespace K
open C PySem
variable {cR cN:Nat} {sto:List SO}
end K
end
section
namespace K
open C PySem
variable {cR cN:Nat} {sto:List SO} {xs:List Int}
end K
end
section
namespace D
open PySem L2 C
section
variable {K:PySem.W.Frag} {hp:Heap} {mg:Str->Option Value} (X:K.In hp) (G:hp.Ns mainGlobals mg)
include X G
theorem a4c {x:Str} {st:Stmt} {f:Addr} {oc:Value} {od an:Option Addr} {bF:Array (Option Value)} {kV doc pm aB ct:Value} (a:PySem.W.nsIn K mainGlobals x=some (some (.ref f)))
  (l:K.lookup f=some ⟨oc,od,.func (PySem.W.fnOf x x (xr st) (nj st) (fj st) .none kV doc pm an aB ct),bF⟩) (c:PySem.W.codeIn K aB x=true) (k:PySem.W.keepIn K (.ref f)=true):FA K mg x st:=⟨_,_,Mg l c k,PySem.W.mg_of X G a⟩
theorem a4j {Cl D fI:Addr} {f nm q:Str} {Na:Addr} {bs:List Value} {sn:List Str} {sub:List Value} {ab:Bool} {col:Option Bool} {dd:Option Addr} {k0 k1 k2 k3 k5:Option Value} {x q0:Str} {j:Nat} {Ca:Addr} {oc:Value} {od an:Option Addr} {bF:Array (Option Value)} {kV doc pm aB ct:Value} (a:PySem.W.nsIn K mainGlobals x=some (some (.ref Cl))) (lk:K.lookup Cl=some (excClassObj nm q Cl Na bs (.ref D::My.vB) true sn sub ab col dd k0 k1 k2 k3 k5 "ValueError.__new__")) (b:PySem.W.excIn K D My.vB "ValueError.__new__" = true) (i:PySem.W.findIn K (.ref Cl) "__init__" = some (some (.ref fI))) (fn:PySem.W.isFn K (.ref fI)=true)
  (sa:PySem.W.findIn K (.ref Cl) "__setattr__" = some (some (.builtin "object.__setattr__"))) (ob:PySem.W.mroIn K Cl (.type "object")=some true) (na:PySem.W.findIn K (.ref Cl) f=some none) (kp:PySem.W.keepIn K (.ref Cl)=true)
  (l:K.lookup fI=some ⟨oc,od,.func (PySem.W.fnOf "__init__" q0 (xr (Eh 0 (top j))) (nj (Eh 0 (top j))) (fj (Eh 0 (top j))) .none kV doc pm an aB ct),bF⟩) (c:PySem.W.codeIn K aB q0=true) (k:PySem.W.keepIn K (.ref fI)=true) (t:(Value.ref Cl :: .ref D::My.vB).contains (.ref Ca)=true):XE K mg x f q0 j Cl Ca :=
 ⟨D,fI,_,⟨⟨nm,q,Na,bs,sn,sub,ab,col,dd,k0,k1,k2,k3,k5,lk⟩,b,i,fn,sa,ob,na,kp⟩,⟨by simp,nm,q,Na,bs,true,sn,sub,ab,col,dd,k0,k1,k2,k3,k5,lk⟩,Mg l c k,t,PySem.W.mg_of X G a⟩
theorem a2z {x:Str} {n:Int} {t:Tok} (a:PySem.W.nsIn K mainGlobals x=some (some (.int n t))):∃ tk,mg x=some (.int n tk):=⟨_,PySem.W.mg_of X G a⟩
theorem Gp {q:Addr} {t0 t1 t2 t3 t4 t5 t6 t7 t8 t9 fD fR fm eV fy fM fh fV eY fO eZ fE fH:Tok} {n:Nat} {s:Array (Option Value)} (a:PySem.W.nsIn K mainGlobals "KEY_WORDS" = some (some (.ref q))) (l:K.lookup q=some ⟨.type "tuple",none,.seq [.str "box" t0,.str "lock" t1,.str "hand" t2,.str "own" t3,.str "end" t4,.str "set" t5,.str "wait" t6,.str "if" t7,.str "else" t8,.str "while" t9,.str "rounds" fD,.str "either" fR,.str "or" fm,.str "and" eV,.str "not" fy,.str "take" fM,.str "give" fh,.str "label" fV,.str "say" eY,.str "at" fO,.str "divides" eZ,.str "true" fE,.str "false" fH].toArray n,s⟩):∃ u,mg "KEY_WORDS" = some u/\Held K u (.tup [(.str "box"),(.str "lock"),(.str "hand"),(.str "own"),(.str "end"),(.str "set"),(.str "wait"),(.str "if"),(.str "else"),(.str "while"),(.str "rounds"),(.str "either"),(.str "or"),(.str "and"),(.str "not"),(.str "take"),(.str "give"),(.str "label"),(.str "say"),(.str "at"),(.str "divides"),(.str "true"),(.str "false")]):=⟨_,PySem.W.mg_of X G a,(Held.tup l (by simp) (n6.cons Held.str (n6.cons Held.str (n6.cons Held.str (n6.cons Held.str (n6.cons Held.str (n6.cons Held.str (n6.cons Held.str (n6.cons Held.str (n6.cons Held.str (n6.cons Held.str (n6.cons Held.str (n6.cons Held.str (n6.cons Held.str (n6.cons Held.str (n6.cons Held.str (n6.cons Held.str (n6.cons Held.str (n6.cons Held.str (n6.cons Held.str (n6.cons Held.str (n6.cons Held.str (n6.cons Held.str (n6.cons Held.str n6.nil))))))))))))))))))))))))⟩
theorem a3l {x v:Str} {t:Tok} (a:PySem.W.nsIn K mainGlobals x=some (some (.str v t))):∃ u,mg x=some u/\Held K u (.str v):=⟨_,PySem.W.mg_of X G a,Held.str⟩
end
theorem a0d {K:PySem.W.Frag} {Cl:Addr} {bm:List Value} {nm q:Str} {Na:Addr} {bs:List Value} {hd:Bool} {sn:List Str} {sub:List Value} {ab:Bool} {col:Option Bool} {dd:Option Addr} {k0 k1 k2 k3 k5:Option Value}
  (lk:K.lookup Cl=some (excClassObj nm q Cl Na bs bm hd sn sub ab col dd k0 k1 k2 k3 k5 "ValueError.__new__")) (b:bm.contains (.type "BaseException")=true):XCl K Cl bm:=⟨b,nm,q,Na,bs,hd,sn,sub,ab,col,dd,k0,k1,k2,k3,k5,lk⟩
def spL (K:PySem.W.Frag):Sp:=fun vs H Q E=>∀ cR cN,spF K 1 (_root_.K.m_law cR cN) vs H Q E
theorem fin {l:PySem.W.OpenLaw} {w:World} {K:PySem.W.Frag} {mg:Str->Option Value} {fa cR cN Ca:Addr} {bm:List Value} (cx:mg "law" = some (.ref fa)) (Z:Zk K mg cR cN Ca bm) :
  ∃ fd:FuncData,(∀ (s:Shared) (v:Value),BindsTo s fd ⟨[v],[]⟩ [("_law_script",v)])/\∀ base:Heap,K.In base->base.Ns mainGlobals mg->ur l.prog w K mg base CX0 115 fa fd ["_law_script"] (spL K):=by
 obtain ⟨f,fd,F,m⟩:=Z.h34;cases cx.symm.trans m;refine ⟨fd,?_,fun base _ _=>(a0m Z F).imp fun _ _ _ _ h=>h _ _⟩;obtain ⟨oc,od,kV,doc,pm,an,aB,ct,bF,rfl,lk,bq⟩:=F.ex;exact fun s v=>.of_eq rfl
theorem walk {l:PySem.W.OpenLaw} {q:Program} {loose:List Str} {XP:(Str->Option Value)->Heap->Prop} {YP:World->Heap->Prop} {d:DefRec} {K:Params->PySem.W.Frag} (hn:l.most=some 63) (c0:d.params.defaults=[])
  (hY:∀ (w:World) (h:Heap),YP w h->(K w.params).In h)
  (F:∀ (w:World) (mg:Str->Option Value) (fa:Addr) (h:Heap),(K w.params).In h->h.Ns mainGlobals mg->mg d.name=some (.ref fa) ->
   ∃ fd:FuncData,(∀ (s:Shared) (u:Value),BindsTo s fd ⟨[u],[]⟩ [("_law_script",u)])/\∀ base:Heap,(K w.params).In base->base.Ns mainGlobals mg->ur l.prog w (K w.params) mg base CX0 115 fa fd ["_law_script"] (spL (K w.params))) :
  PySem.W.WalkO q loose XP YP l.row.toRowW d [] (fun f vs=>PySem.call f vs) :=
 L2.Z7 (n:=63) (k:=115) (x := "_law_script") (CX:=fun _=>CX0) (sp:=fun w=>spL (K w.params)) hn (by decide) c0 ⟨rfl,by decide,by decide⟩ hY F (fun w H a ns hl _ hS=>fun cR cN=>Z6 hS (_root_.K.law_true (xs:=ns) hl)) fun _ _ _ _ _ z=>z
end D
theorem PySem.W.Fast.tw5946772417320567555:True:=⟨⟩
theorem PySem.W.Fast.tw10934182217484997860:True:=⟨⟩
theorem PySem.W.Fast.tw3856910306392171077:True:=⟨⟩
theorem PySem.W.Fast.tw14644859862733944554:True:=⟨⟩
theorem PySem.W.Fast.tw13360216221297585355:True:=⟨⟩
theorem PySem.W.Fast.tw9011107225986355179:True:=⟨⟩
theorem PySem.W.Fast.tw4372330142463311436:True:=⟨⟩
theorem PySem.W.Fast.tw7345641458406951440:True:=⟨⟩
theorem PySem.W.Fast.tw11174942184091601840:True:=⟨⟩
theorem PySem.W.Fast.tw5399865842788010674:True:=⟨⟩
theorem PySem.W.Fast.tw14493630889066890710:True:=⟨⟩
theorem PySem.W.Fast.tw5264634262303084054:True:=⟨⟩
theorem PySem.W.Fast.tw6882632726966623258:True:=⟨⟩
theorem PySem.W.Fast.tw7848027133145620954:True:=⟨⟩
theorem PySem.W.Fast.tw4634221291484541851:True:=⟨⟩
theorem PySem.W.Fast.tw17560621055278016540:True:=⟨⟩
theorem PySem.W.Fast.tw4069601546487317468:True:=⟨⟩
theorem PySem.W.Fast.tw8930338811665973951:True:=⟨⟩
theorem PySem.W.Fast.tw196951233049119548:True:=⟨⟩
theorem PySem.W.Fast.tw12609607127066724156:True:=⟨⟩
open PySem PySem.W PyProof.Rows
set_option maxRecDepth 100000 in
set_option maxHeartbeats 0 in
theorem PySem.Challenge.cw_calm_k77_papers_written_and_read_holds : PySem.Challenge.rw_calm_k77_papers_written_and_read.Holds := by
 w_on; o_law; k_head; (case hw=>w_witness2)
 k_fill
 refine D.walk (l:=PySem.Challenge.rw_calm_k77_papers_written_and_read) rfl rfl (fun w h Y=>PySem.W.kIn_of Y) ?F
 case F =>
  intro w mg fa h KX G cx;refine' D.fin cx ?Z
  case Z =>
   constructor
   case hR=>refine' PySem.W.mg_of KX G ?a; (case a=>k_is)
   case kc=>refine' ⟨D.a0d ?lj ?bj,PySem.W.mg_of KX G ?a⟩; (case a=>k_is); (case lj=>k_is); (case bj=>rfl)
   case e=>refine' D.a4j KX G ?a ?lk ?b ?i ?fn ?sa ?ob ?na ?kp ?l ?c ?k ?tt; (case a=>k_is); (case lk=>k_is); (case b=>k_exc); (case i=>k_is); (case fn=>k_is); (case sa=>k_is); (case ob=>k_is); (case na=>k_is); (case kp=>k_is); (case l=>k_is); (case c=>k_is); (case k=>k_is); (case tt=>rfl)
   case cls=>refine' L2.Cls.mk ?_ ?_ ?_ ?_ <;> k_is
   case na_number | na_rows=>refine' (show PySem.W.findIn _ _ _=some none from ?a); (case a=>k_is)
   case h8=>refine' ⟨_,_,L2.Mk.mk ?ma ?mi ?mf ?mk,L2.Mg ?l ?c ?k⟩; (case ma=>k_is); (case mi=>k_is); (case mf=>k_is); (case mk=>k_is); (case l=>k_is); (case c=>k_is); (case k=>k_is)
   case h9 | h10=>refine' ⟨_,_,L2.Meth.mk ?ma ?mf ?mk,L2.Mg ?l ?c ?k⟩; (case ma=>k_is); (case mf=>k_is); (case mk=>k_is); (case l=>k_is); (case c=>k_is); (case k=>k_is)
   case c_KEY_WORDS=>refine' D.Gp KX G ?a ?l; (case a=>k_is); (case l=>k_is)
   case c_FIGURES | c_LETTERS | c_WORD_SIGNS=>refine' D.a3l KX G ?a; (case a=>k_is)
   case c_LONGEST_NAME | c_MOST_DEEP | c_MOST_FIGURES | c_MOST_ROWS=>refine' D.a2z KX G ?a; (case a=>k_is)
   case b_all | b_bool | b_int | b_isinstance | b_len | b_list | b_min | b_range | b_str | b_sum | b_tuple | b_zip=>refine' PySem.W.mg_none_of KX G ?a; (case a=>k_is)
   case h0 | h1 | h2 | h3 | h4 | h5 | h6 | h7 | h11 | h12 | h13 | h14 | h15 | h16 | h17 | h18 | h19 | h20 | h21 | h22 | h23 | h24 | h25 | h26 | h27 | h28 | h29 | h30 | h31 | h32 | h33 | h34=>refine' D.a4c KX G ?a ?l ?c ?k; (case a=>k_is); (case l=>k_is); (case c=>k_is); (case k=>k_is)
#print axioms PySem.Challenge.cw_calm_k77_papers_written_and_read_holds
end
