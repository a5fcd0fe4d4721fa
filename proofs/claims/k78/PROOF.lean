import PyProof.Rows.All
import Wide.All
import OpenK.AllK
import Wide.FinOn
import PyProof.P3Statements
import PyProof.Lay0
import Lean
import PyProof.EqAt
import PyProof.EqKinds
import PyProof.TupleCall
import PyProof.P3Eq
import PyProof.NeData
import KE.KEqDict
import PyProof.ListRange
import KE.KDictSum
import PyProof.AttrMissHeap
import PyProof.WalksS
import KE.KDictOf
import KE.KRevSl
import PyProof.ZipIter
import PyProof.Rows.FactsT2
import PyProof.Rows.SetFrom
import PyProof.Rows.SortStr
import KE.KDictList
import PyProof.FactsAll.set
import PyProof.CollectWalk
import KE.KSortTup
import PyProof.DictWalks
import PyProof.DictItems
import KE.KDictLaws
import PyProof.WalkInts
import PyProof.SeqI3
import KE.KRevIter
import PyProof.TupleOfGen
import PyProof.CollectIter
import PyProof.EnumMake
import PyProof.Rows.EnumRows
import PyProof.FString
import PyProof.MeetsStr
import PyProof.StrLaws
import PyProof.StrLawsJoin
import PyProof.StrOps
import PyProof.SliceStr2
import PyProof.StrLoop
import KE.KIntText
import PyProof.StrLawsTight
import PyProof.StrLawsChain
import KE.KSortKey
import PyProof.StrLawsIn
import PySem.Challenge.RW_calm_k78_papers_refused
set_option Elab.async false
set_option linter.all false
set_option maxRecDepth 100000
set_option maxHeartbeats 8000000
noncomputable section
section
namespace C
open PySem
theorem jm {α:Type} {w:α} {P:Prop} (h:none=some w):P:=nomatch h
theorem Du {α:Type} {c:Prop} [Decidable c] {o:Option α} {w:α} (h:(if c then o else none)=some w):c/\o=some w:=by
 by_cases z:c
 ·rw [if_pos z] at h; exact ⟨z,h⟩
 ·rw [if_neg z] at h; exact jm h
abbrev Key:=Sum Int Str
inductive T where
 | non | bl (b:Bool) | int (i:Int) | str (x:Str)
 | tup (xs:List T) | lst (xs:List T) | dic (aw:List (Key × T)) | obj (n:Nat)
 | adr (n:Nat)
instance:Inhabited T:=⟨.non⟩
inductive SO where
 | dic (aw:List (Key × T)) | lst (xs:List T) | dit (aw:List (List Key × T))
 | exc (C:Nat) (f:Str) (t:T)
 | ins (C:Nat) (fs:List (Str × T))
 | fdc (aw:List (Key × T))
abbrev Slot:=Option (T × Bool)
structure Sta where
 env:List Slot
 sto:List SO
abbrev M (α:Type):=Sta->Option (α × Sta)
def Y6 (k:Key):List (Key × T)->Option T
 | []=>none
 | (q,t)::r=>if q=k then some t else Y6 k r
def keyOf:T->Option Key
 | .int i=>some (.inl i)
 | .str x=>some (.inr x)
 | _=>none
mutual
def dat:T->Option PyData
 | .non=>some .none
 | .bl b=>some (.bool b)
 | .int i=>some (.int i)
 | .str x=>if PyData.canLay0 (.str x) then some (.str x) else none
 | .tup xs=>(Ku xs).map .tuple
 | .lst xs=>(Ku xs).map .list
 | .dic _=>none
 | .obj _=>none
 | .adr _=>none
def Ku:List T->Option (List PyData)
 | []=>some []
 | x::r=>match dat x with
  | some a=>(Ku r).map (a :: ·)
  | none=>none
end
noncomputable def eqD (a b:T):Option Bool:=match dat a with
 | some x=>match dat b with
  | some y=>if x.depth<=40 then some (PyData.eqv x y) else none
  | none=>none
 | none=>none
noncomputable def a5q:List (Key × T)->List (Key × T)->Option Bool
 | [],_=>some true
 | (k,x)::r,ys=>match Y6 k ys with
  | none=>some false
  | some y=>match eqD x y with
   | some e=>(a5q r ys).map (e && ·)
   | none=>none
noncomputable def eqT:T->T->Option Bool
 | .dic a,.dic b=>if a.length=b.length then a5q a b else some false
 | x,y=>eqD x y
def ak (t:T):M T:=fun s=>some (t,s)
noncomputable def bf (i:Nat):M T:=fun s=>match s.env[i]? with
 | some (some (t,false))=>some (t,s)
 | some (some (t,true))=>some (t,{ s with env:=s.env.set i (some (t,false)) })
 | _=>none
def cu:M (List T):=fun s=>some ([],s)
noncomputable def ao (a:M T) (r:M (List T)):M (List T):=fun s=>match a s with
 | some (t,s1)=>match r s1 with
  | some (ts,s2)=>some (t::ts,s2)
  | none=>none
 | none=>none
def Bv:List Str->M (List T)
 | []=>cu
 | x::r=>ao (ak (.str x)) (Bv r)
noncomputable def j5 (f:List T->Option T) (a:M (List T)):M T:=fun s=>match a s with
 | some (ts,s1)=>match f ts with
  | some t=>some (t,s1)
  | none=>none
 | none=>none
noncomputable def mUn (f:T->Option T) (a:M T):M T:=fun s=>match a s with
 | some (t,s1)=>match f t with
  | some u=>some (u,s1)
  | none=>none
 | none=>none
noncomputable def mOp (f:T->T->Option T) (a b:M T):M T:=fun s=>match a s with
 | some (t,s1)=>match b s1 with
  | some (u,s2)=>match f t u with
   | some v=>some (v,s2)
   | none=>none
  | none=>none
 | none=>none
abbrev Fn:=List T->List SO->Option (T × List SO)
noncomputable def fj (F:Fn) (a:M (List T)):M T:=fun s=>match a s with
 | some (ts,s1)=>match F ts s1.sto with
  | some (t,sto)=>some (t,{ s1 with sto:=sto })
  | none=>none
 | none=>none
def dg (a:M T):M Bool:=fun s=>match a s with
 | some (.bl b,s1)=>some (b,s1)
 | _=>none
def Xe (a:M Bool):M Bool:=fun s=>match a s with
 | some (b,s1)=>some (!b,s1)
 | none=>none
noncomputable def Dj (a b:M Bool):M Bool:=fun s=>match a s with
 | some (true,s1)=>b s1
 | some (false,s1)=>some (false,s1)
 | none=>none
noncomputable def mOr (a b:M Bool):M Bool:=fun s=>match a s with
 | some (true,s1)=>some (true,s1)
 | some (false,s1)=>b s1
 | none=>none
def xu (a:M Bool):M T:=fun s=>match a s with
 | some (b,s1)=>some (.bl b,s1)
 | none=>none
noncomputable def mIf (c:M Bool) (a b:M T):M T:=fun s=>match c s with
 | some (true,s1)=>a s1
 | some (false,s1)=>b s1
 | none=>none
abbrev lim:Nat:=1000000
def Jw (i:Int):Bool:=decide (-(2 ^ 64)<i/\i<2 ^ 64)
noncomputable def jt:T->T->Option T
 | .int i,.int j=>some (.int (i+j))
 | .str x,.str y=>if x.length+y.length<lim then some (.str (x++y)) else none
 | .tup x,.tup y=>if x.length+y.length<lim then some (.tup (x++y)) else none
 | .lst x,.lst y=>if x.length+y.length<lim then some (.lst (x++y)) else none
 | _,_=>none
def Zq:T->T->Option T
 | .int i,.int j=>some (.int (i - j))
 | _,_=>none
noncomputable def a0v:T->T->Option T
 | .int i,.int j=>if Jw i||Jw j then some (.int (i * j)) else none
 | .str x,.int j=>if 0<=j/\j<=1000/\x.length<=100 then some (.str ⟨((List.replicate j.toNat x.cps.toList).flatten).toArray⟩) else none
 | _,_=>none
def Mr:T->T->Option T
 | .int i,.int j=>if 0<j then some (.int (i%j)) else none
 | _,_=>none
def fdl:Nat:=2 ^ 200
noncomputable def Kc:T->T->Option T
 | .int i,.int j=>if 0<j/\(j<1073741824\/j.natAbs<fdl) then some (.int (i / j)) else none
 | _,_=>none
def Gg:T->Option T
 | .int i=>some (.int (-i))
 | _=>none
def ltT:T->T->Option T
 | .int i,.int j=>some (.bl (decide (i<j)))
 | _,_=>none
def leT:T->T->Option T
 | .int i,.int j=>some (.bl (decide (i<=j)))
 | _,_=>none
def gtT:T->T->Option T
 | .int i,.int j=>some (.bl (decide (j<i)))
 | _,_=>none
def geT:T->T->Option T
 | .int i,.int j=>some (.bl (decide (j<=i)))
 | _,_=>none
def eqO (x y:T):Option T:=match eqT x y with
 | some b=>some (.bl b)
 | none=>none
def neO (x y:T):Option T:=match eqT x y with
 | some b=>some (.bl (!b))
 | none=>none
noncomputable def ixI (n:Nat) (i:Int):Option Nat:=if 0<=i then (if i<n then some i.toNat else none) else if -(n:Int)<=i then some (i+n).toNat else none
noncomputable def gb:T->T->Option T
 | .tup xs,.int i=>(ixI xs.length i).bind (xs[·]?)
 | .lst xs,.int i=>(ixI xs.length i).bind (xs[·]?)
 | .str x,.int i=>if x.length<lim then (ixI x.cps.toList.length i).bind fun j=>(x.cps.toList[j]?).map fun c=>.str ⟨#[c]⟩ else none
 | .dic aw,k=>(keyOf k).bind (Y6 · aw)
 | _,_=>none
noncomputable def vf:List T->Option T
 | [.tup xs]=>some (.int xs.length)
 | [.lst xs]=>some (.int xs.length)
 | [.str x]=>if x.length<lim then some (.int x.length) else none
 | [.dic aw]=>some (.int aw.length)
 | _=>none
noncomputable def inL (x:T):List T->Option Bool
 | []=>some false
 | y::r=>match eqD y x with
  | some e=>(inL x r).map (e || ·)
  | none=>none
noncomputable def inT (x y:T):Option T:=match y with
 | .dic aw=>(keyOf x).map fun q=>.bl (Y6 q aw).isSome
 | _=>if (dat x).isSome then (match y with
  | .tup ys=>(inL x ys).map .bl
  | .lst ys=>(inL x ys).map .bl
  | _=>none) else none
def Ky (x y:T):Option T:=match inT x y with
 | some (.bl b)=>some (.bl (!b))
 | _=>none
def Dl:List T->Option T
 | [.lst xs]=>some (.tup xs)
 | [.tup xs]=>some (.tup xs)
 | _=>none
def G9:List T->Option (List Bool)
 | []=>some []
 | .bl b::r=>(G9 r).map (b :: ·)
 | _=>none
def a71:List T->Option T
 | [.lst xs]=>(G9 xs).map fun l=>.bl (l.all id)
 | _=>none
def abe:List T->Option T
 | [.lst xs]=>(G9 xs).map fun l=>.bl (l.any id)
 | _=>none
def Pa:List T->Option (List Str)
 | []=>some []
 | .str x::r=>(Pa r).map (x :: ·)
 | _=>none
noncomputable def yp (i:Nat):M T:=fun s=>match s.env[i]? with
 | some (some (.lst xs,_))=>some (.int xs.length,s)
 | some (some (.dic xs,_))=>some (.int xs.length,s)
 | _=>none
def Aj (i:Nat) (s:Sta):Bool:=match s.env[i]? with
 | some (some (.lst _,_))=>true
 | _=>false
noncomputable def nj (o k:M T):M T:=fun s=>match o s with
 | some (.obj n,s1)=>match k s1 with
  | some (.int i,s2)=>match s2.sto[n]? with
   | some (.lst xs)=>match (ixI xs.length i).bind (xs[·]?) with
    | some t=>some (t,s2)
    | none=>none
   | _=>none
  | _=>none
 | _=>none
noncomputable def Dw (o:M T):M T:=fun s=>match o s with
 | some (.obj n,s1)=>match s1.sto[n]? with
  | some (.lst xs)=>some (.int xs.length,s1)
  | _=>none
 | _=>none
noncomputable def uh (a:M (List T)):M T:=fun s=>match a s with
 | some (ts,s1)=>some (.obj s1.sto.length,{ s1 with sto:=s1.sto++[.lst ts] })
 | none=>none
inductive Flow where
 | next | ret (t:T) | brk | cont
abbrev S:=Sta->Option (Flow × Sta)
def Ec:S:=fun s=>some (.next,s)
def qe (a b:S):S:=fun s=>match a s with
 | some (.next,s1)=>b s1
 | r=>r
def Az (e:M T):S:=fun s=>match e s with
 | some (t,s1)=>some (.ret t,s1)
 | none=>none
noncomputable def sIf (c:M Bool) (a b:S):S:=fun s=>match c s with
 | some (true,s1)=>a s1
 | some (false,s1)=>b s1
 | none=>none
def jr (i:Nat) (t:T) (own:Bool) (s:Sta):Sta:={ s with env:=s.env.set i (some (t,own)) }
noncomputable def ou (i:Nat) (e:M T):S:=fun s=>match e s with
 | some (t,s1)=>some (.next,jr i t false s1)
 | none=>none
noncomputable def sNew (i:Nat) (e:M T):S:=fun s=>match e s with
 | some (t,s1)=>some (.next,jr i t true s1)
 | none=>none
noncomputable def v7 (i:Nat) (e:M T):S:=fun s=>if Aj i s then (match e s with
 | some (t,s1)=>match s1.env[i]? with
  | some (some (.lst xs,true))=>if xs.length<lim then some (.next,jr i (.lst (xs++[t])) true s1) else none
  | _=>none
 | none=>none) else none
def a96:T->Option (List T)
 | .lst xs=>some xs
 | .tup xs=>some xs
 | _=>none
noncomputable def Hg (o k v:M T):S:=fun s=>match v s with
 | some (t,s1)=>match o s1 with
  | some (.obj n,s2)=>match k s2 with
   | some (.int i,s3)=>match s3.sto[n]? with
    | some (.lst xs)=>match ixI xs.length i with
     | some j=>some (.next,{ s3 with sto:=s3.sto.set n (.lst (xs.set j t)) })
     | none=>none
    | _=>none
   | _=>none
  | _=>none
 | none=>none
noncomputable def Dv (i:Nat) (v:M T):S:=fun s=>match s.env[i]? with
 | some (some (.obj n,false))=>match s.sto[n]? with
  | some (.lst _)=>match v s with
   | some (t,s1)=>match s1.sto[n]? with
    | some (.lst xs)=>if xs.length<lim then some (.next,{ s1 with sto:=s1.sto.set n (.lst (xs++[t])) }) else none
    | _=>none
   | none=>none
  | _=>none
 | _=>none
abbrev G:=T->Sta->Option Sta
def hName (i:Nat):G:=fun t s=>some (jr i t false s)
noncomputable def ab4 (is:List Nat):G:=fun t s=>match t with
 | .tup xs=>if xs.length=is.length then some ((is.zip xs).foldl (fun s p=>jr p.1 p.2 false s) s) else none
 | _=>none
noncomputable def sGo (g:G) (m:M T):S:=fun s=>match m s with
 | some (t,s1)=>match g t s1 with
  | some s2=>some (.next,s2)
  | none=>none
 | none=>none
noncomputable def forL (g:G) (b:S):List T->S
 | []=>fun s=>some (.next,s)
 | t::r=>fun s=>match g t s with
  | some s1=>match b s1 with
   | some (.next,s2)=>forL g b r s2
   | some (.cont,s2)=>forL g b r s2
   | some (.brk,s2)=>some (.next,s2)
   | some (.ret v,s2)=>some (.ret v,s2)
   | none=>none
  | none=>none
noncomputable def Tz (g:G) (it:M (List T)) (b:S):S:=fun s=>match it s with
 | some (ts,s1)=>forL g b ts s1
 | none=>none
def rangeT (n:Nat):List T:=(List.range n).map fun (k:Nat)=>.int (k:Int)
noncomputable def Ay (a:M T):M (List T):=fun s=>match a s with
 | some (.int n,s1)=>if n.natAbs<lim then some (rangeT n.toNat,s1) else none
 | _=>none
noncomputable def Nf (a:M T):M (List T):=fun s=>match a s with
 | some (.lst xs,s1)=>if xs.length<lim then some (xs,s1) else none
 | some (.tup xs,s1)=>if xs.length<lim then some (xs,s1) else none
 | _=>none
def Yw (s:Slot):Slot:=match s with
 | some (t,_)=>some (t,false)
 | none=>none
def je (s:Sta):Sta:={ s with env:=s.env.map Yw }
noncomputable def G8 (g:G) (c:M Bool) (e:M T):List T->Sta->List T->Option (List T × Sta)
 | [],s,acc=>some (acc,s)
 | t::r,s,acc=>match g t s with
  | some s1=>match c s1 with
   | some (true,s2)=>match e s2 with
    | some (u,s3)=>if acc.length<lim then G8 g c e r (je s3) (acc++[u]) else none
    | none=>none
   | some (false,s2)=>G8 g c e r (je s2) acc
   | none=>none
  | none=>none
def Te:M Bool:=fun s=>some (true,s)
noncomputable def j8 (is:List Nat) (env:List Slot):List Slot:=is.foldl (fun e i=>match e[i]? with
 | some (some (t,_))=>e.set i (some (t,false))
 | _=>e) env
noncomputable def J1 (nv:Nat) (aA:List Nat) (g:G) (it:M (List T)) (c:M Bool) (e:M T):M T:=fun s=>match it s with
 | some (ts,s1) =>
  let env:=j8 aA s1.env
  match G8 g c e ts ⟨List.replicate nv none++aA.map (fun i=>(env[i]?).getD none),s1.sto⟩ [] with
  | some (us,s2)=>some (.lst us,⟨env,s2.sto⟩)
  | none=>none
 | none=>none
noncomputable def zp (n:Nat) (b:S):Fn:=fun ts sto=>match b ⟨ts.map (fun t=>some (t,false))++List.replicate (n - ts.length) none,sto⟩ with
 | some (.ret t,s)=>some (t,s.sto)
 | some (.next,s)=>some (.non,s.sto)
 | _=>none
section
variable {s s':Sta} {t v:T} {a b:M T}
theorem Ii {f:T->T->Option T} (h:mOp f a b s=some (v,s')):∃ t s1 u,a s=some (t,s1)/\b s1=some (u,s')/\f t u=some v:=by
 unfold mOp at h;cases ha:a s with
 | none=>rw [ha] at h; cases h
 | some p =>
  obtain ⟨t,s1⟩:=p; rw [ha] at h; dsimp only at h;cases hb:b s1 with
  | none=>rw [hb] at h; cases h
  | some p =>
   obtain ⟨u,s2⟩:=p; rw [hb] at h; dsimp only at h;cases hf:f t u with
   | none=>rw [hf] at h; cases h
   | some w=>rw [hf] at h; cases h; exact ⟨t,s1,u,rfl,hb,hf⟩
theorem a3q {f:T->Option T} (h:mUn f a s=some (v,s')):∃ t,a s=some (t,s')/\f t=some v:=by
 unfold mUn at h;cases ha:a s with
 | none=>rw [ha] at h; cases h
 | some p =>
  obtain ⟨t,s1⟩:=p; rw [ha] at h; dsimp only at h;cases hf:f t with
  | none=>rw [hf] at h; cases h
  | some w=>rw [hf] at h; cases h; exact ⟨t,rfl,hf⟩
theorem Ei {f:List T->Option T} {a:M (List T)} (h:j5 f a s=some (v,s')):∃ ts,a s=some (ts,s')/\f ts=some v:=by
 unfold j5 at h;cases ha:a s with
 | none=>rw [ha] at h; cases h
 | some p =>
  obtain ⟨t,s1⟩:=p; rw [ha] at h; dsimp only at h;cases hf:f t with
  | none=>rw [hf] at h; cases h
  | some w=>rw [hf] at h; cases h; exact ⟨t,rfl,hf⟩
theorem Fd {r:M (List T)} {ts:List T} (h:ao a r s=some (ts,s')):∃ t s1 us,a s=some (t,s1)/\r s1=some (us,s')/\ts=t::us:=by
 unfold ao at h;cases ha:a s with
 | none=>rw [ha] at h; cases h
 | some p =>
  obtain ⟨t,s1⟩:=p; rw [ha] at h; dsimp only at h;cases hb:r s1 with
  | none=>rw [hb] at h; cases h
  | some p=>obtain ⟨u,s2⟩:=p; rw [hb] at h; cases h; exact ⟨t,s1,u,rfl,hb,rfl⟩
theorem Wx {F:Fn} {a:M (List T)} (h:fj F a s=some (v,s')):∃ ts s1 sto,a s=some (ts,s1)/\F ts s1.sto=some (v,sto)/\s' = { s1 with sto:=sto }:=by
 unfold fj at h;cases ha:a s with
 | none=>rw [ha] at h; cases h
 | some p =>
  obtain ⟨t,s1⟩:=p; rw [ha] at h; dsimp only at h;cases hf:F t s1.sto with
  | none=>rw [hf] at h; cases h
  | some w=>obtain ⟨w,sto⟩:=w; rw [hf] at h; cases h; exact ⟨t,s1,sto,rfl,hf,rfl⟩
theorem yr {b:Bool} (h:dg a s=some (b,s')):a s=some (.bl b,s'):=by
 unfold dg at h;cases ha:a s with
 | none=>rw [ha] at h; cases h
 | some p =>
  obtain ⟨t,s1⟩:=p; rw [ha] at h;cases t <;> first | (cases h; rfl) | (cases h)
theorem Kz {c:M Bool} (h:xu c s=some (v,s')):∃ b,c s=some (b,s')/\v=.bl b:=by
 unfold xu at h;cases ha:c s with
 | none=>rw [ha] at h; cases h
 | some p=>obtain ⟨t,s1⟩:=p; rw [ha] at h; cases h; exact ⟨t,rfl,rfl⟩
theorem Y9 {c:M Bool} {b:Bool} (h:Xe c s=some (b,s')):∃ k,c s=some (k,s')/\b=!k:=by
 unfold Xe at h;cases ha:c s with
 | none=>rw [ha] at h; cases h
 | some p=>obtain ⟨t,s1⟩:=p; rw [ha] at h; cases h; exact ⟨t,rfl,rfl⟩
theorem R7 {c d:M Bool} {b:Bool} (h:Dj c d s=some (b,s')):(∃ s1,c s=some (true,s1)/\d s1=some (b,s'))\/(c s=some (false,s')/\b=false):=by
 unfold Dj at h;cases ha:c s with
 | none=>rw [ha] at h; cases h
 | some p =>
  obtain ⟨k,s1⟩:=p; rw [ha] at h;cases k with
  | true=>exact .inl ⟨s1,rfl,h⟩
  | false=>cases h; exact .inr ⟨rfl,rfl⟩
theorem Vw {c d:M Bool} {b:Bool} (h:mOr c d s=some (b,s')):(∃ s1,c s=some (false,s1)/\d s1=some (b,s'))\/(c s=some (true,s')/\b=true):=by
 unfold mOr at h;cases ha:c s with
 | none=>rw [ha] at h; cases h
 | some p =>
  obtain ⟨k,s1⟩:=p; rw [ha] at h;cases k with
  | false=>exact .inl ⟨s1,rfl,h⟩
  | true=>cases h; exact .inr ⟨rfl,rfl⟩
theorem a4x {c:M Bool} (h:mIf c a b s=some (v,s')):(∃ s1,c s=some (true,s1)/\a s1=some (v,s'))\/(∃ s1,c s=some (false,s1)/\b s1=some (v,s')):=by
 unfold mIf at h;cases ha:c s with
 | none=>rw [ha] at h; cases h
 | some p =>
  obtain ⟨k,s1⟩:=p; rw [ha] at h;cases k with
  | true=>exact .inl ⟨s1,rfl,h⟩
  | false=>exact .inr ⟨s1,rfl,h⟩
theorem Yo {i:Nat} (h:bf i s=some (v,s')):(s.env[i]? = some (some (v,false))/\s'=s)\/(s.env[i]? = some (some (v,true))/\s' = { s with env:=s.env.set i (some (v,false)) }):=by
 unfold bf at h;split at h
 ·rename_i t e; cases h; exact .inl ⟨e,rfl⟩
 ·rename_i t e; cases h; exact .inr ⟨e,rfl⟩
 ·cases h
end
mutual
theorem Cq:∀ (t:T) {d:PyData},dat t=some d->d.canLay0=true
 | .non,_,h=>by simp only [dat] at h; cases h; simp only [PyData.canLay0]
 | .bl b,_,h=>by simp only [dat] at h; cases h; simp only [PyData.canLay0]
 | .int i,_,h=>by simp only [dat] at h; cases h; simp only [PyData.canLay0]
 | .str x,_,h=>by
  simp only [dat] at h;split at h
  ·rename_i hx; cases h; exact hx
  ·cases h
 | .tup xs,_,h=>by
  simp only [dat] at h;obtain ⟨l,e1,e2⟩:=Option.map_eq_some_iff.mp h;subst e2;simp only [PyData.canLay0];exact Jr xs e1
 | .lst xs,_,h=>by
  simp only [dat] at h;obtain ⟨l,e1,e2⟩:=Option.map_eq_some_iff.mp h;subst e2;simp only [PyData.canLay0];exact Jr xs e1
 | .dic _,_,h=>by simp only [dat] at h; cases h
 | .obj _,_,h=>by simp only [dat] at h; cases h
theorem Jr:∀ (ts:List T) {l:List PyData},Ku ts=some l->PyData.canLayAll0 l=true
 | [],_,h=>by simp only [Ku] at h; cases h; simp only [PyData.canLayAll0]
 | x::r,_,h=>by
  simp only [Ku] at h;split at h
  ·rename_i a ea;obtain ⟨l,e1,e2⟩:=Option.map_eq_some_iff.mp h;subst e2;simp only [PyData.canLayAll0];rw [Cq x ea,Jr r e1]; rfl
  ·cases h
end
theorem Y0 {x:T} {r:List T} {l:List PyData} (h:Ku (x::r)=some l):∃ a l',dat x=some a/\Ku r=some l'/\l=a::l':=by
 simp only [Ku] at h;split at h
 ·rename_i a ea;obtain ⟨l,e1,e2⟩:=Option.map_eq_some_iff.mp h;exact ⟨a,l,ea,e1,e2.symm⟩
 ·cases h
theorem Nm {t u:T} {b:Bool} (h:eqD t u=some b):∃ x y,dat t=some x/\dat u=some y/\x.depth<=40/\b=PyData.eqv x y:=by
 unfold eqD at h;split at h
 ·rename_i x ex;split at h
  ·rename_i y ey;split at h
   ·rename_i hd; cases h; exact ⟨x,y,ex,ey,hd,rfl⟩
   ·cases h
  ·cases h
 ·cases h
theorem a4j {t u:T} {b:Bool} (h:eqT t u=some b):(∃ x y,t=.dic x/\u=.dic y/\((x.length=y.length/\a5q x y=some b)\/(x.length≠y.length/\b=false)))\/eqD t u=some b:=by
 unfold eqT at h;split at h
 ·split at h
  ·rename_i hl; exact .inl ⟨_,_,rfl,rfl,.inl ⟨hl,h⟩⟩
  ·rename_i hl; cases h; exact .inl ⟨_,_,rfl,rfl,.inr ⟨hl,rfl⟩⟩
 ·exact .inr h
end C
end
section
namespace L2
open PySem PySem.Spec PyProof.Rows
abbrev Key:=Sum Int Str
def Tf:Key->Value->Bool
 | .inl k,v=>Value.isInt k v
 | .inr x,v=>Value.isStrOf x v
def abn (w:World):Key->Int
 | .inl k=>hashInt k
 | .inr x=>hashStr w x
theorem o9:∀ {k:Key} {v:Value},Tf k v=true->(∃ i t,k=Sum.inl i/\v=Value.int i t)\/(∃ x t,k=Sum.inr x/\v=Value.str x t)
 | .inl i,v,h=>by
  obtain ⟨t,e⟩:=Value.isInt_shape (k:=i) (v:=v) h;exact .inl ⟨i,t,rfl,e⟩
 | .inr x,v,h=>by
  obtain ⟨t,e⟩:=Value.isStrOf_shape (x:=x) (v:=v) h;exact .inr ⟨x,t,rfl,e⟩
theorem Uz (i:Int) (t:Tok):Tf (.inl i) (.int i t)=true:=by simp [Tf,Value.isInt]
theorem Ws (x:Str) (t:Tok):Tf (.inr x) (.str x t)=true:=by simp [Tf,Value.isStrOf]
theorem a81 (a b:Int):decide ((Sum.inl a:Key)=Sum.inl b)=(a==b):=by
 by_cases e:a=b
 ·subst e; simp
 ·have h:¬ (Sum.inl a:Key)=Sum.inl b:=fun q=>e (Sum.inl.inj q);rw [decide_eq_false h];exact (beq_eq_false_iff_ne.mpr e).symm
theorem a86 (a b:Str):decide ((Sum.inr a:Key)=Sum.inr b)=decide (a=b):=by
 by_cases e:a=b
 ·subst e; simp
 ·have h:¬ (Sum.inr a:Key)=Sum.inr b:=fun q=>e (Sum.inr.inj q);rw [decide_eq_false h,decide_eq_false e]
theorem a6k (a:Int) (b:Str):decide ((Sum.inl a:Key)=Sum.inr b)=false:=decide_eq_false (fun q=>nomatch q)
theorem a6o (a:Str) (b:Int):decide ((Sum.inr a:Key)=Sum.inl b)=false:=decide_eq_false (fun q=>nomatch q)
noncomputable def yq (prog:Program) (w:World):PySem.KeyKind prog w Key where
 is:=Tf
 hash:=abn w
 inj:=fun v a b ha hb=>by
  rcases o9 ha with ⟨i,t,rfl,rfl⟩ | ⟨x,t,rfl,rfl⟩
  ·rcases o9 hb with ⟨j,u,rfl,e⟩ | ⟨y,u,rfl,e⟩
   ·injection e with e1 _; rw [e1]
   ·exact nomatch e
  ·rcases o9 hb with ⟨j,u,rfl,e⟩ | ⟨y,u,rfl,e⟩
   ·exact nomatch e
   ·injection e with e1 _; rw [e1]
 byValue:=fun k v h=>by
  rcases o9 h with ⟨i,t,rfl,rfl⟩ | ⟨x,t,rfl,rfl⟩ <;> rfl
 pyHash:=fun hv h=>by
  rcases o9 hv with ⟨i,t,rfl,rfl⟩ | ⟨x,t,rfl,rfl⟩
  ·exact wpAny_pyHash_int h
  ·exact wpAny_pyHash_str h
 eqBool:=fun hu hv h=>by
  rcases o9 hu with ⟨i,t,rfl,rfl⟩ | ⟨x,t,rfl,rfl⟩
  ·rcases o9 hv with ⟨j,u,rfl,rfl⟩ | ⟨y,u,rfl,rfl⟩
   ·rw [a81] at h; exact wpAny_eqBool_int h
   ·rw [a6k] at h; exact SeqAt.EqAt.int_str i t y u _ _ _ _ h
  ·rcases o9 hv with ⟨j,u,rfl,rfl⟩ | ⟨y,u,rfl,rfl⟩
   ·rw [a6o] at h; exact SeqAt.EqAt.str_int x t j u _ _ _ _ h
   ·rw [a86] at h; exact wpAny_eqBool_str h
 «strs»:=fun k x t v h=>by
  rcases o9 h with ⟨i,u,rfl,e⟩ | ⟨y,u,rfl,e⟩
  ·exact nomatch e
  ·injection e with e1 _;subst e1;cases v <;> rfl
theorem Nj (prog:Program) (w:World) (i:Int) (t:Tok):(yq prog w).is (.inl i) (.int i t)=true:=Uz i t
theorem O4 (prog:Program) (w:World) (x:Str) (t:Tok):(yq prog w).is (.inr x) (.str x t)=true:=Ws x t
end L2
namespace L2
open PySem PySem.Spec PyProof.Rows
inductive V where
 | non | bl (b:Bool) | int (i:Int) | str (x:Str) | byt (b:Array UInt8) | flt (b:UInt64) | ref (a:Addr) | ty (n:String)
 deriving DecidableEq
def RelV:V->Value->Prop
 | .non,u=>u=Value.none
 | .bl b,u=>u=Value.bool b
 | .int i,u=>∃ t,u=Value.int i t
 | .str x,u=>∃ t,u=Value.str x t
 | .byt b,u=>∃ t,u=Value.bytes b t
 | .flt b,u=>∃ t,u=Value.float b t
 | .ref a,u=>u=Value.ref a
 | .ty n,u=>u=Value.type n
abbrev Vals:List V->List Value->Prop:=Paired RelV
theorem Vals.length {xs:List V} {us:List Value} (r:Vals xs us):xs.length=us.length:=Paired.length r
theorem Vals.get:∀ {xs:List V} {us:List Value} {i:Nat} {x:V},Vals xs us->xs[i]? = some x->∃ u,us[i]? = some u/\RelV x u
 | _,_,_,_,.nil,e=>by simp at e
 | _,_,0,_,.cons r _,e=>by simp at e; subst e; exact ⟨_,rfl,r⟩
 | _,_,i+1,x,.cons _ t,e=>by
  obtain ⟨u,h1,h2⟩:=Vals.get (i:=i) (x:=x) t (by simpa using e);exact ⟨u,by simpa using h1,h2⟩
theorem Vals.set {x:V} {u:Value} (r:RelV x u):∀ {xs:List V} {us:List Value} (i:Nat),Vals xs us->Vals (xs.set i x) (us.set i u)
 | _,_,_,.nil=>.nil
 | _,_,0,.cons _ t=>.cons r t
 | _,_,i+1,.cons q t=>.cons q (Vals.set r i t)
theorem Vals.append {xs ys:List V} {us ws:List Value} (r:Vals xs us) (s:Vals ys ws):Vals (xs++ys) (us++ws):=by
 induction r with
 | nil=>exact s
 | cons r _ ih=>exact .cons r ih
theorem Vals.take:∀ {xs:List V} {us:List Value} (n:Nat),Vals xs us->Vals (xs.take n) (us.take n)
 | _,_,0,_=>.nil
 | _,_,_+1,.nil=>.nil
 | _,_,n+1,.cons r t=>.cons r (Vals.take n t)
theorem Vals.drop:∀ {xs:List V} {us:List Value} (n:Nat),Vals xs us->Vals (xs.drop n) (us.drop n)
 | _,_,0,r=>r
 | _,_,_+1,.nil=>.nil
 | _,_,n+1,.cons _ t=>Vals.drop n t
def Kw:Option V->Option Value->Prop
 | some v,some u=>RelV v u
 | none,none=>True
 | _,_=>False
def KV {κ:Type}:List (κ × V)->List (κ × Value)->Prop:=Paired fun (p:κ × V) (q:κ × Value)=>p.1=q.1/\RelV p.2 q.2
def kV:Key->V
 | .inl i=>.int i
 | .inr x=>.str x
inductive HO where
 | lst (xs:List V)
 | tup (xs:List V)
 | dK (aw:List (Key × V)) | dT (aw:List (List Key × V))
 | set (S:Int->Bool) (n:Nat)
 | ins (C dx:Addr) (fs:List (Str × V))
 | own (x:Addr)
 | xd (fs:List (Str × V))
 | met (f x:Addr)
 | rng (lo hi:Int)
 | frz (o:Obj) (u:HO)
 | tbl (ps:Array Value)
 | ext (φ:Heap->Prop)
abbrev Hp:=Addr->Option HO
def upd (H:Hp) (a:Addr) (o:HO):Hp:=fun b=>if b=a then some o else H b
theorem dj {H:Hp} {a:Addr} {o:HO}:upd H a o a=some o:=by unfold upd; rw [if_pos rfl]
theorem g8 {H:Hp} {a b:Addr} {o:HO} (h:b≠a):upd H a o b=H b:=by unfold upd; rw [if_neg h]
theorem um {H:Hp} {a b:Addr} {o:HO} (h:H a=some o) (h':H b=none):a≠b:=by
 intro e; subst e; rw [h] at h'; cases h'
def a2c (h:Heap) (a:Addr) (items:Array Value):Prop:=∃ o,h.get? a=some o/\o.cls=.type "tuple" /\ o.dict=none/\∃ n,o.data=.seq items n
theorem a2c.is {h:Heap} {a:Addr} {items:Array Value} (x:a2c h a items):IsTup h a items:=let ⟨o,e,c,_,d⟩:=x; ⟨o,e,c,d⟩
theorem a2c.new (h:Heap) (items:Array Value):a2c (h.push { cls:=.type "tuple",data:=.seq items }) h.objs.size items:=⟨_,Heap.get?_push_size _ rfl,rfl,rfl,0,rfl⟩
section
variable (P:Program) (w:World)
def yg (H:Hp) (h:Heap) (a:Addr):HO->Prop
 | .lst xs=>xs.length<=sizeLine/\∃ (af:List Value) (n:Nat),Vals xs af/\h.get? a=some { cls:=.type "list",data:=.seq af.toArray n }
 | .tup xs=>xs.length<=sizeLine/\∃ af:List Value,Vals xs af/\a2c h a af.toArray
 | .dK aw=>aw.length<=sizeLine/\(a==sysModules)=false/\∃ vs,KV aw vs/\h.DictOf (yq P w) a vs
 | .dT aw=>aw.length<=sizeLine/\(a==sysModules)=false/\∃ xs:List (List Key × Addr × Value),
   Paired (fun (p:List Key × V) (q:List Key × Addr × Value)=>p.1=q.1/\H q.2.1=some (.tup (p.1.map kV))/\RelV p.2 q.2.2) aw xs /\
   ∃ o es ep,h.get? a=some o/\o.ExactDict/\o.data=.dict es ep/\es.toList=xs.map (entryOfKey (tupleKind (yq P w)))/\(xs.map (·.1)).Nodup
 | .set S n=>h.SetOf (intKind P w) a S n
 | .ins C dx fs=>H dx=some (.own a)/\fs.length<=1000/\dx≠a/\h.get? a=some (PySem.W.instObj C dx) /\
   ∃ mA,h.Ns1 dx mA/\(∀ f,Kw (fs.lookup f) (mA f))/\PySem.Within mA (fs.map (·.1))
 | .own _=>∃ o,h.get? a=some o
 | .xd fs=>∃ mA,h.Ns1 a mA/\∀ f,Kw (fs.lookup f) (mA f)
 | .rng lo hi=>∃ t u v,h.get? a=some { cls:=.type "range",data:=.fields #[.int lo t,.int hi u,.int 1 v] }
 | .frz o u=>h.get? a=some o/\yg H h a u
 | .tbl ps=>h.get? a=some { cls:=.none,data:=.fields ps }
 | .met f x=>h.get? a=some (PySem.W.methodObj (.ref f) (.ref x))
 | .ext φ=>φ h/\(∃ o,h.get? a=some o)/\∀ h1 h2:Heap,φ h1->(∀ o,h1.get? a=some o->h2.get? a=some o)->φ h2
def HOk (H:Hp) (h:Heap):Prop:=∀ a o,H a=some o->yg P w H h a o
end
section
variable {P:Program} {w:World} {H H':Hp} {h h':Heap} {a:Addr} {o:HO}
theorem yg.lt (x:yg P w H h a o):a<h.objs.size:=by
 cases o with
 | lst xs=>obtain ⟨_,_,_,_,e⟩:=x; exact Heap.lt_size e
 | tup xs=>obtain ⟨_,_,_,p⟩:=x; exact p.is.lt
 | dK aw=>obtain ⟨_,_,_,_,o,_,_,e,_⟩:=x; exact Heap.lt_size e
 | dT aw=>obtain ⟨_,_,_,_,o,_,_,e,_⟩:=x; exact Heap.lt_size e
 | set S n=>obtain ⟨o,_,_,_,e,_⟩:=x; exact Heap.lt_size e
 | ins C dx fs=>obtain ⟨_,_,_,e,_⟩:=x; exact Heap.lt_size e
 | own y=>obtain ⟨_,e⟩:=x; exact Heap.lt_size e
 | xd fs=>obtain ⟨_,⟨_,_,_,e,_⟩,_⟩:=x; exact Heap.lt_size e
 | rng lo hi=>obtain ⟨_,_,_,e⟩:=x; exact Heap.lt_size e
 | frz ob u=>obtain ⟨e,_⟩:=x; exact Heap.lt_size e
 | tbl ps=>exact Heap.lt_size (show h.get? a=some _ from x)
 | met f y=>exact Heap.lt_size (show h.get? a=some _ from x)
 | ext φ=>obtain ⟨_,⟨_,e⟩,_⟩:=x; exact Heap.lt_size e
theorem Paired.aav {α β:Type} {F G:α->β->Prop} {cZ:List α} {cL:List β} (r:Paired F cZ cL) (f:∀ a b,F a b->G a b):Paired G cZ cL:=by
 induction r with
 | nil=>exact .nil
 | cons r _ ih=>exact .cons (f _ _ r) ih
theorem yg.stay (x:yg P w H h a o) (k:∀ b u,(b=a\/H b=some (.own a))->h.get? b=some u->h'.get? b=some u)
  (ho:∀ b,H b=some (.own a)->H' b=some (.own a)) (ht:∀ b xs,H b=some (.tup xs)->H' b=some (.tup xs)):yg P w H' h' a o:=by
 induction o with
 | lst xs=>obtain ⟨z,af,n,r,e⟩:=x; exact ⟨z,af,n,r,k _ _ (.inl rfl) e⟩
 | tup xs=>obtain ⟨z,af,r,ob,e,c⟩:=x; exact ⟨z,af,r,ob,k _ _ (.inl rfl) e,c⟩
 | dK aw=>obtain ⟨z,y,vs,r,ob,es,ep,e,c⟩:=x; exact ⟨z,y,vs,r,ob,es,ep,k _ _ (.inl rfl) e,c⟩
 | dT aw =>
  obtain ⟨z,y,xs,r,ob,es,ep,e,c⟩:=x;exact ⟨z,y,xs,Paired.aav r fun p q z=>⟨z.1,ht _ _ z.2.1,z.2.2⟩,ob,es,ep,k _ _ (.inl rfl) e,c⟩
 | set S n=>obtain ⟨ob,es,ep,t,e,c⟩:=x; exact ⟨ob,es,ep,t,k _ _ (.inl rfl) e,c⟩
 | ins C dx fs =>
  obtain ⟨d,z,ne,e,mA,⟨od,es,ep,e2,c⟩,r⟩:=x;exact ⟨ho _ d,z,ne,k _ _ (.inl rfl) e,mA,⟨od,es,ep,k _ _ (.inr d) e2,c⟩,r⟩
 | own y=>obtain ⟨ob,e⟩:=x; exact ⟨ob,k _ _ (.inl rfl) e⟩
 | xd fs=>obtain ⟨mA,⟨od,es,ep,e,c⟩,r⟩:=x; exact ⟨mA,⟨od,es,ep,k _ _ (.inl rfl) e,c⟩,r⟩
 | rng lo hi=>obtain ⟨t,u,v,e⟩:=x; exact ⟨t,u,v,k _ _ (.inl rfl) e⟩
 | frz ob u ih=>obtain ⟨e,q⟩:=x; exact ⟨k _ _ (.inl rfl) e,ih q⟩
 | tbl ps =>
  have e:h.get? a=some { cls:=.none,data:=.fields ps }:=x;show h'.get? a=some { cls:=.none,data:=.fields ps };exact k a _ (.inl rfl) e
 | met f y =>
  have e:h.get? a=some (PySem.W.methodObj (.ref f) (.ref y)):=x;show h'.get? a=some (PySem.W.methodObj (.ref f) (.ref y));exact k a _ (.inl rfl) e
 | ext φ=>obtain ⟨p,⟨o,e⟩,st⟩:=x; exact ⟨st _ _ p fun o q=>k _ _ (.inl rfl) q,⟨o,k _ _ (.inl rfl) e⟩,st⟩
theorem HOk.lt (x:HOk P w H h) (e:H a=some o):a<h.objs.size:=(x a o e).lt
theorem HOk.fresh (x:HOk P w H h) (e:h.objs.size<=a):H a=none:=by
 cases q:H a with
 | none=>rfl
 | some u=>exact absurd (Nat.lt_of_lt_of_le (x.lt q) e) (Nat.lt_irrefl _)
theorem HOk.kept (x:HOk P w H h) (k:∀ b u,h.get? b=some u->h'.get? b=some u):HOk P w H h':=fun a o e =>
 (x a o e).stay (fun b u _ q=>k b u q) (fun _ q=>q) fun _ _ q=>q
theorem HOk.laid (x:HOk P w H h) (k:∀ b u,h.get? b=some u->h'.get? b=some u) (hp:h.objs.size<=a) (new:yg P w (upd H a o) h' a o):HOk P w (upd H a o) h':=fun b u e=>by
 have hn:=x.fresh hp
 by_cases hb:b=a
 ·subst hb; rw [dj] at e; cases e; exact new
 ·rw [g8 hb] at e;exact (x b u e).stay (fun c v _ q=>k c v q) (fun c q=>by rw [g8 (um q hn)]; exact q) fun c xs q=>by rw [g8 (um q hn)]; exact q
end
def Rd (H:Hp) (a:Addr) (u:HO):Prop:=H a=some u\/∃ o,H a=some (.frz o u)
theorem Rd.ok {P:Program} {w:World} {H:Hp} {h:Heap} {a:Addr} {u:HO} (r:Rd H a u) (x:HOk P w H h):yg P w H h a u:=by
 rcases r with r | ⟨o,r⟩
 ·exact x a u r
 ·obtain ⟨_,q⟩:=x a _ r;exact q
def Mut:Option HO->Prop
 | some (.lst _)=>True
 | some (.dK _)=>True
 | some (.dT _)=>True
 | some (.set _ _)=>True
 | some (.ins _ _ _)=>True
 | some (.ext _)=>True
 | _=>False
section
variable {P:Program} {w:World} {H:Hp} {h h':Heap} {x e:Addr} {o':HO}
theorem HOk.write (ok:HOk P w H h) (mu:Mut (H x)) (he:e=x\/H e=some (.own x)) (k:∀ b u,b≠e->h.get? b=some u->h'.get? b=some u) (cD:∃ u,h'.get? e=some u)
  (new:yg P w (upd H x o') h' x o'):HOk P w (upd H x o') h':=fun b u q=>by
 have cV:∀ c y,H c=some (.own y)->c≠x:=fun c y r z=>by subst z; rw [r] at mu; exact mu
 have d6:∀ c xs,H c=some (.tup xs)->c≠x:=fun c xs r z=>by subst z; rw [r] at mu; exact mu
 by_cases hb:b=x
 ·subst hb; rw [dj] at q; cases q; exact new
 ·rw [g8 hb] at q
  by_cases hbe:b=e
  ·have q':H b=some (.own x):=by
    rcases he with z | z
    ·exact absurd (hbe.trans z) hb
    ·rw [hbe]; exact z
   rw [q] at q'; cases q';obtain ⟨v,hv⟩:=cD;exact ⟨v,by rw [hbe]; exact hv⟩
  ·refine (ok b u q).stay (fun c v hc r=>k c v ?_ r) (fun c r=>by rw [g8 (cV c b r)]; exact r) fun c xs r=>by rw [g8 (d6 c xs r)]; exact r
   rcases hc with rfl | hc
   ·exact hbe
   ·rintro rfl;rcases he with z | z
    ·exact cV c b hc z
    ·rw [hc] at z; cases z; exact hb rfl
end
structure Un (fs ex:List Addr) (H H':Hp) (h h':Heap):Prop where
 keep:∀ b o,h.get? b=some o->H b=none->b∉fs->b∉ex->h'.get? b=some o
 slot:∀ b o,h.get? b=some o->H b=none->b∈fs->b∉ex->∃ sl,h'.get? b=some { o with slots:=sl }
 free:∀ b o,h.get? b=some o->H b=none->b∉ex->H' b=none
 there:∀ b o,h.get? b=some o->b∉ex->∃ o',h'.get? b=some o'
 tups:∀ b xs,H b=some (.tup xs)->H' b=some (.tup xs)
 frzs:∀ b o u,H b=some (.frz o u)->H' b=some (.frz o u)
 tbls:∀ b ps,H b=some (.tbl ps)->∃ more,H' b=some (.tbl (ps++more))
section
variable {fs cP ex gB:List Addr} {H H1 H2:Hp} {h h1 h2 h':Heap} {a x e:Addr} {o:HO}
theorem Un.any (u:Un fs ex H H1 h h1) {b:Addr} {ob:Obj} (q:h.get? b=some ob) (n:H b=none) (hx:b∉ex):∃ sl,h1.get? b=some { ob with slots:=sl }:=by
 by_cases hb:b∈fs
 ·exact u.slot b ob q n hb hx
 ·exact ⟨ob.slots,u.keep b ob q n hb hx⟩
theorem Un.kept (k:∀ b u,h.get? b=some u->h'.get? b=some u):Un fs ex H H h h' :=
 ⟨fun b ob q _ _ _=>k b ob q,fun b ob q _ _ _=>⟨ob.slots,k b ob q⟩,fun _ _ _ n _=>n,fun b ob q _=>⟨ob,k b ob q⟩,fun _ _ q=>q,fun _ _ _ q=>q,fun _ ps q=>⟨#[],by rw [q]; simp⟩⟩
theorem Un.refl:Un fs ex H H h h:=Un.kept fun _ _ q=>q
theorem Un.laid (k:∀ b u,h.get? b=some u->h'.get? b=some u) (hp:h.objs.size<=a) (hn:H a=none):Un fs ex H (upd H a o) h h' where
 keep:=fun b u q _ _ _=>k b u q
 slot:=fun b u q _ _ _=>⟨u.slots,k b u q⟩
 free:=fun b u q n _=>by rw [g8 (Nat.ne_of_lt (Nat.lt_of_lt_of_le (Heap.lt_size q) hp))]; exact n
 there:=fun b u q _=>⟨u,k b u q⟩
 tups:=fun b xs q=>by rw [g8 (um q hn)]; exact q
 frzs:=fun b u xs q=>by rw [g8 (um q hn)]; exact q
 tbls:=fun b ps q=>⟨#[],by rw [g8 (um q hn),q]; simp⟩
theorem Un.write (mu:Mut (H x)) (he:e=x\/H e=some (.own x)) (k:∀ b u,b≠e->h.get? b=some u->h'.get? b=some u) (cD:∃ u,h'.get? e=some u):Un fs ex H (upd H x o) h h':=by
 have hx:∀ b,H b=none->b≠x:=fun b n z=>by subst z; rw [n] at mu; exact mu
 have hb:∀ b,H b=none->b≠e:=fun b n z=>by
  subst z;rcases he with r | r
  ·exact hx b n r
  ·rw [n] at r; cases r
 have hm:∀ b u,H b=some u->¬ Mut (some u)->b≠x:=fun b u q nm z=>by subst z; rw [q] at mu; exact nm mu
 refine ⟨fun b u q n _ _=>k b u (hb b n) q,fun b u q n _ _=>⟨u.slots,k b u (hb b n) q⟩,fun b u q n _=>by rw [g8 (hx b n)]; exact n,fun b u q _=>?_,
  fun b xs q=>by rw [g8 (hm b _ q fun z=>z)]; exact q,fun b u xs q=>by rw [g8 (hm b _ q fun z=>z)]; exact q,fun b ps q=>⟨#[],by rw [g8 (hm b _ q fun z=>z),q]; simp⟩⟩
 by_cases hbe:b=e
 ·subst hbe; exact cD
 ·exact ⟨u,k b u hbe q⟩
end
def trk (h:Heap) (H:Hp):List Addr:=(List.range h.objs.size).filter fun a=>(H a).isSome
def Zm (h:Heap) (H:Hp):Heap:=PySem.W.hideAll h (trk h H)
theorem Um (h:Heap) (H:Hp):(Zm h H).objs.size=h.objs.size:=PySem.W.hideAll_size _ _
theorem Zj {h:Heap} {H:Hp} {b:Addr} {o:Obj} (e:h.get? b=some o) (n:H b=none):(Zm h H).get? b=some o :=
 PySem.W.hideAll_get _ e fun hm=>by
  have q:(H b).isSome=true:=(List.mem_filter.mp hm).2;rw [n] at q; simp at q
theorem a5l {h:Heap} {H:Hp} {b:Addr} {o:Obj} (e:(Zm h H).get? b=some o):h.get? b=some o/\H b=none:=by
 have e':h.get? b=some o:=PySem.W.of_hideAll (trk h H) e;refine ⟨e',?_⟩;cases q:H b with
 | none=>rfl
 | some x =>
  have hm:b∈trk h H:=List.mem_filter.mpr ⟨List.mem_range.mpr (Heap.lt_size e'),by simp [q]⟩;have z:(Zm h H).get? b=none:=PySem.W.hideAll_none (trk h H) hm;rw [z] at e; cases e
end L2
namespace L2
open PySem PySem.Spec PyProof.Rows
structure Mod (K:PySem.W.Frag) (mg:Str->Option Value) (base:Heap):Prop where
 kin:K.In base
 glob:base.Ns mainGlobals mg
 blt:∃ mb,base.Ns builtinsNs mb/\∀ x:Str,x ≠ "__name__" -> mb x=bootBuiltins x
 nolimit:base.NoLimit
structure Cx where
 prog:Program
 w:World
 K:PySem.W.Frag
 mg:Str->Option Value
 base:Heap
 A:Around
 N:List Str
 s₀:Shared
 H₀:Hp
 env:Env
 outer:List Env
 stack:List Env
 ex:List Addr
 fn:Str->Bool
 calm:Bool
 pn:List (Addr × Obj)
 xe:Value->Shared->Prop
def frs (l:List Env):List Addr:=l.filterMap (·.frame)
abbrev Cx.fs (X:Cx):List Addr:=frs X.outer
def Vis (sc:Scope) (x:Str):Prop:=sc.names.lookup x=some .local\/sc.names.lookup x=some .cell\/sc.names.lookup x=some .free
def Loc (sc:Scope) (x:Str):Prop:=sc.names.lookup x=some .local\/sc.names.lookup x=some .cell
def Look (env:Env) (h:Heap) (m:Str->Option Value) (x:Str) (u:Value):Prop :=
 (env.kindOf x=some .local/\m x=some u)\/((env.kindOf x=some .cell\/env.kindOf x=some .free)/\∃ c,env.cells.lookup x=some c/\h.IsCell c (some u))
structure Cx.Ok (X:Cx):Prop where
 mod:Mod X.K X.mg X.base
 kind:X.env.scope.kind=.function
 glob:X.env.globals=mainGlobals
 blt:X.env.builtins=builtinsNs
 above:X.s₀.heap.objs.size<=X.env.locals
 inj:∀ x y c,X.env.cells.lookup x=some c->X.env.cells.lookup y=some c->x=y
 has:∀ x,(X.env.kindOf x=some .cell\/X.env.kindOf x=some .free)->∃ c,X.env.cells.lookup x=some c
 cab:∀ x c,X.fn x=true->X.env.cells.lookup x=some c->X.s₀.heap.objs.size<=c
 hd:X.calm=true->X.A.handled=none
 frames:X.A.frames=some X.stack
 stk:X.stack=X.outer\/(X.stack=X.env::X.outer/\X.env.frame=some X.env.locals)
 exf:∀ b∈X.ex,b≠X.env.locals/\∀ x c,X.env.cells.lookup x=some c->c≠b
 bs:∀ b o,X.base.get? b=some o->X.s₀.heap.get? b=some o/\X.H₀ b=none
 bsz:X.base.objs.size<=X.s₀.heap.objs.size
 noex:∀ b o,X.base.get? b=some o->b∉X.ex
 exfs:∀ b∈X.ex,b∉X.fs
 Pr:X.s₀.heap.FunFrames X.base X.outer
 frf:∀ b∈X.fs,X.H₀ b=none
structure Inv (X:Cx) (pins:List (Addr × Obj)) (σ:List (Option V)) (H:Hp) (s:Shared):Prop where
 ok:X.Ok
 os:s.os=X.s₀.os
 bare:AllBare s.gens
 base:Un X.fs X.ex X.H₀ H X.s₀.heap s.heap
 loc:∃ m,s.heap.Ns X.env.locals m/\∀ (i:Nat) (x:Str) (v:V),X.N[i]? = some x->σ[i]? = some (some v)->Vis X.env.scope x->∃ u,RelV v u/\Look X.env s.heap m x u
 cell:∀ x c,X.env.cells.lookup x=some c->∃ v,s.heap.IsCell c v
 free:H X.env.locals=none
 freeC:∀ x c,X.env.cells.lookup x=some c->H c=none
 pin:∀ p∈X.pn++pins,s.heap.get? p.1=some p.2/\H p.1=none/\p.1≠X.env.locals/\p.1∉X.fs/\∀ v,p.2.data≠.cell v
 hok:HOk X.prog X.w H s.heap
 len:σ.length=X.N.length
section
variable {X:Cx} {pins:List (Addr × Obj)} {σ:List (Option V)} {H H':Hp} {s:Shared} {h':Heap}
theorem Cx.Ok.ab9 (ok:X.Ok) {b:Addr} {o:Obj} (e:X.base.get? b=some o):b∉X.fs:=fun hb=>by
 have:=(ok.Pr.mem hb).1;rw [e] at this; cases this
theorem Inv.bs (I:Inv X pins σ H s):∀ b o,X.base.get? b=some o->s.heap.get? b=some o/\H b=none:=fun b o e =>
 ⟨I.base.keep b o (I.ok.bs b o e).1 (I.ok.bs b o e).2 (I.ok.ab9 e) (I.ok.noex b o e),I.base.free b o (I.ok.bs b o e).1 (I.ok.bs b o e).2 (I.ok.noex b o e)⟩
theorem Inv.bk (I:Inv X pins σ H s):∀ b o,X.base.get? b=some o->s.heap.get? b=some o:=fun b o e=>(I.bs b o e).1
theorem Inv.mod (I:Inv X pins σ H s):Mod X.K X.mg X.base:=I.ok.mod
theorem Inv.kIn (I:Inv X pins σ H s):X.K.In s.heap:=I.ok.mod.kin.keeps I.bk
theorem Inv.lt (I:Inv X pins σ H s):X.env.locals<s.heap.objs.size:=let ⟨_,hn,_⟩:=I.loc; hn.lt
theorem Inv.sz (I:Inv X pins σ H s):X.s₀.heap.objs.size<=s.heap.objs.size:=Nat.le_trans I.ok.above (Nat.le_of_lt I.lt)
theorem Inv.abk (I:Inv X pins σ H s) {a:Addr} (h:s.heap.objs.size<=a):a∉X.fs:=fun hb=>by
 obtain ⟨_,o,ho,_⟩:=I.ok.Pr.mem hb;exact absurd (Nat.lt_of_lt_of_le (Heap.lt_size ho) (Nat.le_trans I.sz h)) (Nat.lt_irrefl _)
theorem Inv.cne (I:Inv X pins σ H s):∀ x c,X.env.cells.lookup x=some c->c≠X.env.locals:=fun x c e z=>by
 obtain ⟨v,o,ho,hd⟩:=I.cell x c e;obtain ⟨m,⟨o',es,ep,aV,hd',_⟩,_⟩:=I.loc;rw [z,aV] at ho; cases ho; rw [hd'] at hd; cases hd
theorem Inv.Pr (I:Inv X pins σ H s):s.heap.FunFrames X.base X.outer:=by
 have all:∀ (l:List Env),(∀ b∈frs l,b∈X.fs)->X.s₀.heap.FunFrames X.base l->s.heap.FunFrames X.base l:=by
  intro l
  induction l with
  | nil=>intro _ _; trivial
  | cons env r ih =>
   intro hs hl;obtain ⟨hk,⟨L,o,hf,hn,ho,hd⟩,hr⟩:=hl;have hL:L∈X.fs:=hs L (by unfold frs; rw [List.filterMap_cons,hf]; exact List.mem_cons_self);obtain ⟨sl,e⟩:=I.base.slot L o ho (I.ok.frf L hL) hL fun z=>I.ok.exfs L z hL;exact ⟨hk,⟨L,_,hf,hn,e,hd⟩,ih (fun b hb=>hs b (by unfold frs; rw [List.filterMap_cons,hf]; exact List.mem_cons_of_mem _ hb)) hr⟩
 exact all X.outer (fun _ hb=>hb) I.ok.Pr
theorem Inv.stack (I:Inv X pins σ H s):s.heap.FunFrames X.base X.stack:=by
 rcases I.ok.stk with e | ⟨e,hf⟩
 ·rw [e]; exact I.Pr
 ·rw [e];obtain ⟨m,hn,_⟩:=I.loc;refine .cons (by rw [I.ok.kind]; decide) hf hn ?_ I.Pr;exact Heap.get?_none_of_le (Nat.le_trans I.ok.bsz I.ok.above)
theorem Inv.Mx (I:Inv X pins σ H s):∀ b∈frs X.stack,b∈X.env.locals::X.fs:=fun b hb=>by
 rcases I.ok.stk with e | ⟨e,hf⟩
 ·rw [e] at hb; exact List.mem_cons_of_mem _ hb
 ·rw [e] at hb;unfold frs at hb;rw [List.filterMap_cons,hf] at hb;exact hb
theorem Inv.Nh (I:Inv X pins σ H s):∀ b∈frs X.stack,H b=none:=fun b hb=>by
 rcases List.mem_cons.mp (I.Mx b hb) with e | hb
 ·rw [e]; exact I.free
 ·obtain ⟨_,o,ho,_⟩:=I.ok.Pr.mem hb;exact I.base.free b o ho (I.ok.frf b hb) fun z=>I.ok.exfs b z hb
theorem Inv.step {g':Array GenState} {t':Nat} {d':Drawn} {ch:List Addr} (I:Inv X pins σ H s)
  (a9:∀ b∈ch,(b∈X.ex\/X.s₀.heap.objs.size<=b)/\b≠X.env.locals/\(∀ x c,X.env.cells.lookup x=some c->c≠b)/\∀ p∈X.pn++pins,p.1≠b)
  (keep:∀ b o,b≠X.env.locals->b∉X.fs->b∉ch->s.heap.get? b=some o->H b=none->h'.get? b=some o)
  (slot:∀ b o,b≠X.env.locals->b∈X.fs->b∉ch->s.heap.get? b=some o->H b=none->∃ sl,h'.get? b=some { o with slots:=sl }) (free:∀ b o,b∉ch->s.heap.get? b=some o->H b=none->H' b=none)
  (there:∀ b o,b∉ch->s.heap.get? b=some o->∃ o',h'.get? b=some o')
  (tups:∀ b xs,H b=some (.tup xs)->H' b=some (.tup xs)) (frzs:∀ b o u,H b=some (.frz o u)->H' b=some (.frz o u)) (tbls:∀ b ps,H b=some (.tbl ps)->∃ more,H' b=some (.tbl (ps++more)))
  (ns:∀ m,s.heap.Ns X.env.locals m->h'.Ns X.env.locals m) (hok:HOk X.prog X.w H' h') (hg:AllBare g') :
  Inv X pins σ H' { s with heap:=h',gens:=g',drawn:=d',toks:=t' }:=by
 have e8:∀ b o,X.s₀.heap.get? b=some o->b≠X.env.locals:=fun b o e=>Nat.ne_of_lt (Nat.lt_of_lt_of_le (Heap.lt_size e) I.ok.above)
 have dA:∀ b o,X.s₀.heap.get? b=some o->b∉X.ex->b∉ch:=fun b o e hx hb=>by
  rcases (a9 b hb).1 with z | z
  ·exact hx z
  ·exact absurd (Nat.lt_of_lt_of_le (Heap.lt_size e) z) (Nat.lt_irrefl _)
 have cellK:∀ x c,X.env.cells.lookup x=some c->∀ v,s.heap.IsCell c v->h'.IsCell c v:=fun x c e v z9=>by
  obtain ⟨o,ho,hd⟩:=z9;have c8:c∉ch:=fun z=>(a9 c z).2.2.1 x c e rfl
  by_cases hc:c∈X.fs
  ·obtain ⟨sl,q⟩:=slot c o (I.cne x c e) hc c8 ho (I.freeC x c e);exact ⟨_,q,hd⟩
  ·exact ⟨o,keep c o (I.cne x c e) hc c8 ho (I.freeC x c e),hd⟩
 refine ⟨I.ok,I.os,hg,⟨fun b o e n hb hx=>?_,fun b o e n hb hx=>?_,fun b o e n hx=>?_,fun b o e hx=>?_,fun b xs e=>tups b xs (I.base.tups b xs e),fun b o xs e=>frzs b o xs (I.base.frzs b o xs e),fun b ps e=>?_⟩,?_,fun x c e=>?_,?_,fun x c e=>?_,fun p hp=>?_,hok,I.len⟩
 ·exact keep b o (e8 b o e) hb (dA b o e hx) (I.base.keep b o e n hb hx) (I.base.free b o e n hx)
 ·obtain ⟨sl,e1⟩:=I.base.slot b o e n hb hx;obtain ⟨bX,e2⟩:=slot b _ (e8 b o e) hb (dA b o e hx) e1 (I.base.free b o e n hx);exact ⟨bX,e2⟩
 ·obtain ⟨o',e1⟩:=I.base.there b o e hx;exact free b o' (dA b o e hx) e1 (I.base.free b o e n hx)
 ·obtain ⟨o',e1⟩:=I.base.there b o e hx;exact there b o' (dA b o e hx) e1
 ·obtain ⟨m1,e1⟩:=I.base.tbls b ps e;obtain ⟨m2,e2⟩:=tbls b _ e1;exact ⟨m1++m2,by rw [e2,Array.append_assoc]⟩
 ·obtain ⟨m,hn,hl⟩:=I.loc;refine ⟨m,ns m hn,fun i x v e1 e2 e3=>?_⟩;obtain ⟨u,r,l⟩:=hl i x v e1 e2 e3;refine ⟨u,r,?_⟩;rcases l with l | ⟨k,c,e,z⟩
  ·exact .inl l
  ·exact .inr ⟨k,c,e,cellK x c e _ z⟩
 ·obtain ⟨v,z⟩:=I.cell x c e;exact ⟨v,cellK x c e v z⟩
 ·obtain ⟨m,⟨o,_,_,ho,_⟩,_⟩:=I.loc;exact free _ o (fun z=>(a9 _ z).2.1 rfl) ho I.free
 ·obtain ⟨v,o,ho,hd⟩:=I.cell x c e;exact free c o (fun z=>(a9 c z).2.2.1 x c e rfl) ho (I.freeC x c e)
 ·obtain ⟨e,n,ne,nf,d⟩:=I.pin p hp;have c8:p.1∉ch:=fun z=>(a9 p.1 z).2.2.2 p hp rfl;exact ⟨keep p.1 p.2 ne nf c8 e n,free p.1 p.2 c8 e n,ne,nf,d⟩
theorem Inv.un {t':Nat} (I:Inv X pins σ H s) (u:Un X.fs [] H H' s.heap h') (hok:HOk X.prog X.w H' h'):Inv X pins σ H' { s with heap:=h',toks:=t' }:=by
 obtain ⟨m,⟨o,es,ep,ho,r⟩,_⟩:=id I.loc;obtain ⟨sl,hL⟩:=u.any ho I.free (by simp)
 exact I.step (g':=s.gens) (d':=s.drawn) (ch:=[]) (fun _ z=>nomatch z) (fun b o _ hb _ e n=>u.keep b o e n hb (by simp)) (fun b o _ hb _ e n=>u.slot b o e n hb (by simp)) (fun b o _ e n=>u.free b o e n (by simp)) (fun b o _ e=>u.there b o e (by simp)) u.tups u.frzs u.tbls (fun m' hm=>by
  obtain ⟨o',es',ep',aV,r'⟩:=hm;rw [ho] at aV; cases aV;exact ⟨_,es',ep',hL,r'⟩) hok I.bare
theorem Inv.call {g':Array GenState} {t':Nat} {d':Drawn} {ch:List Addr} (I:Inv X pins σ H s) (u:Un (frs X.stack) ch H H' s.heap h') (hok:HOk X.prog X.w H' h') (hg:AllBare g')
  (a9:∀ b∈ch,(b∈X.ex\/X.s₀.heap.objs.size<=b)/\b≠X.env.locals/\(∀ x c,X.env.cells.lookup x=some c->c≠b)/\∀ p∈X.pn++pins,p.1≠b) :
  Inv X pins σ H' { s with heap:=h',gens:=g',drawn:=d',toks:=t' }:=by
 obtain ⟨m,⟨o,es,ep,ho,r⟩,_⟩:=id I.loc;obtain ⟨sl,hL⟩:=u.any ho I.free fun z=>(a9 _ z).2.1 rfl
 exact I.step (ch:=ch) a9 (fun b o hL hb hc e n=>u.keep b o e n (fun z=>(List.mem_cons.mp (I.Mx b z)).elim hL hb) hc) (fun b o _ _ hc e n=>u.any e n hc) (fun b o hc e n=>u.free b o e n hc) (fun b o hc e=>u.there b o e hc) u.tups u.frzs u.tbls (fun m' hm=>by
  obtain ⟨o',es',ep',aV,r'⟩:=hm;rw [ho] at aV; cases aV;exact ⟨_,es',ep',hL,r'⟩) hok hg
theorem Inv.turned {t':Nat} {it:Addr} (I:Inv X pins σ H s) (k:∀ b o,b≠it->s.heap.get? b=some o->h'.get? b=some o) (hn:H it=none) (hL:it≠X.env.locals)
  (h1:it∈X.ex\/X.s₀.heap.objs.size<=it) (h2:∀ x c,X.env.cells.lookup x=some c->c≠it) (h3:∀ p∈X.pn++pins,p.1≠it):Inv X pins σ H { s with heap:=h',toks:=t' }:=by
 have eF:∀ b u,H b=some u->b≠it:=fun b u e z=>by rw [z,hn] at e; cases e
 refine I.step (g':=s.gens) (d':=s.drawn) (ch:=[it]) (fun b hb=>?_) (fun b o _ _ hc e _=>k b o (fun z=>hc (by simp [z])) e) (fun b o _ _ hc e _=>⟨o.slots,k b o (fun z=>hc (by simp [z])) e⟩) (fun _ _ _ _ n=>n)
  (fun b o hc e=>⟨o,k b o (fun z=>hc (by simp [z])) e⟩) (fun _ _ e=>e) (fun _ _ _ e=>e) (fun b ps e=>⟨#[],by rw [e]; simp⟩) (fun m hm=>?_) (fun b u e=>?_) I.bare
 ·have e:b=it:=by simpa using hb
  subst e;exact ⟨h1,hL,h2,h3⟩
 ·obtain ⟨o,es,ep,ho,r⟩:=hm;exact ⟨o,es,ep,k _ o (Ne.symm hL) ho,r⟩
 ·refine (I.hok b u e).stay (fun c v hc q=>k c v ?_ q) (fun _ q=>q) fun _ _ q=>q;rcases hc with z | z
  ·rw [z]; exact eF b u e
  ·exact eF c _ z
theorem Inv.tok (I:Inv X pins σ H s) (t:Nat):Inv X pins σ H { s with toks:=t }:=I.un (h':=s.heap) (t':=t) Un.refl I.hok
theorem Inv.kept {t':Nat} (I:Inv X pins σ H s) (k:∀ b u,s.heap.get? b=some u->h'.get? b=some u):Inv X pins σ H { s with heap:=h',toks:=t' }:=I.un (Un.kept k) (I.hok.kept k)
theorem Inv.laid {a:Addr} {o:HO} {t':Nat} (I:Inv X pins σ H s) (k:∀ b u,s.heap.get? b=some u->h'.get? b=some u) (hp:s.heap.objs.size<=a) (new:yg X.prog X.w (upd H a o) h' a o) :
  Inv X pins σ (upd H a o) { s with heap:=h',toks:=t' }:=I.un (Un.laid k hp (I.hok.fresh hp)) (I.hok.laid k hp new)
theorem Inv.write {x e:Addr} {o:HO} {t':Nat} (I:Inv X pins σ H s) (mu:Mut (H x)) (he:e=x\/H e=some (.own x)) (k:∀ b u,b≠e->s.heap.get? b=some u->h'.get? b=some u) (cD:∃ u,h'.get? e=some u)
  (new:yg X.prog X.w (upd H x o) h' x o):Inv X pins σ (upd H x o) { s with heap:=h',toks:=t' }:=I.un (Un.write mu he k cD) (I.hok.write mu he k cD new)
theorem Inv.Bk {pins':List (Addr × Obj)} (I:Inv X pins σ H s) (h:∀ p∈pins',s.heap.get? p.1=some p.2/\H p.1=none/\p.1≠X.env.locals/\p.1∉X.fs/\∀ v,p.2.data≠.cell v):Inv X pins' σ H s :=
 ⟨I.ok,I.os,I.bare,I.base,I.loc,I.cell,I.free,I.freeC,fun p hp=>(List.mem_append.mp hp).elim (fun z=>I.pin p (List.mem_append_left _ z)) (h p),I.hok,I.len⟩
theorem Jq {N:List Str} (hN:N.Nodup) {i j:Nat} {x:Str} (a:N[i]? = some x) (b:N[j]? = some x):i=j:=by
 obtain ⟨h1,e1⟩:=List.getElem?_eq_some_iff.mp a;obtain ⟨h2,e2⟩:=List.getElem?_eq_some_iff.mp b;exact (List.getElem_inj hN).mp (e1.trans e2.symm)
theorem Wz {M:Model} {A:Around} {E:Value->Shared->Prop} {i:Nat} {x:Str} {v:V} {u:Value} {Q:Unit->Shared->Prop} (I:Inv X pins σ H s) (hN:X.N.Nodup) (hi:X.N[i]? = some x) (hx:Loc X.env.scope x) (r:RelV v u)
  (h:∀ s',Inv X pins (σ.set i (some v)) H s'->(∃ a,Heap.SameBut a s.heap s'.heap/\(a=X.env.locals\/X.env.cells.lookup x=some a))->Q () s') (hf:X.fn x=true\/X.env.scope.names.lookup x=some .local:=by first | exact .inl rfl | exact .inr rfl | assumption):wpAny M A (storeName X.env x u) Q E s:=by
 obtain ⟨m,hn,hl⟩:=id I.loc;have cf:(X.env.scope.kind == .class||(X.env.scope.kind == .module&&X.env.locals != X.env.globals))=false:=by rw [I.ok.kind]; rfl
 have bP:i<σ.length:=by rw [I.len]; exact (List.getElem?_eq_some_iff.mp hi).1
 have cne:=I.cne
 have tracked:∀ {a:Addr} {h':Heap},(∃ o,s.heap.get? a=some o/\H a=none)->Heap.SameBut a s.heap h'->HOk X.prog X.w H h':=fun {a h'} ha hs b ob e=>by
  obtain ⟨_,_,hfree⟩:=ha;refine (I.hok b ob e).stay (fun c w' hc q=>(hs.2 c ?_).trans q) (fun _ q=>q) fun _ _ q=>q;rintro rfl;rcases hc with rfl | hc
  ·rw [hfree] at e; cases e
  ·rw [hfree] at hc; cases hc
 rcases hx with hk | hk
 ·refine wpAny_storeName_local hk hn (fun h' dE hs=>?_) cf;obtain ⟨oL,_,_,hoL,_⟩:=id hn;refine h _ ⟨I.ok,I.os,I.bare,⟨fun b o e n hb hx=>?_,fun b o e n hb hx=>?_,I.base.free,fun b o e hx=>?_,I.base.tups,I.base.frzs,I.base.tbls⟩,⟨_,dE,fun j y v' e1 e2 e3=>?_⟩,fun y c e=>?_,I.free,I.freeC,fun p hp=>?_,tracked ⟨oL,hoL,I.free⟩ hs,by simpa using I.len⟩ ⟨_,hs,.inl rfl⟩
  ·exact (hs.2 b (Nat.ne_of_lt (Nat.lt_of_lt_of_le (Heap.lt_size e) I.ok.above))).trans (I.base.keep b o e n hb hx)
  ·obtain ⟨sl,e1⟩:=I.base.slot b o e n hb hx;exact ⟨sl,(hs.2 b (Nat.ne_of_lt (Nat.lt_of_lt_of_le (Heap.lt_size e) I.ok.above))).trans e1⟩
  ·obtain ⟨o',e1⟩:=I.base.there b o e hx;exact ⟨o',(hs.2 b (Nat.ne_of_lt (Nat.lt_of_lt_of_le (Heap.lt_size e) I.ok.above))).trans e1⟩
  ·by_cases hj:j=i
   ·subst hj;rw [hi] at e1; cases e1;rw [List.getElem?_set_self bP] at e2;cases e2;exact ⟨u,r,.inl ⟨hk,by simp⟩⟩
   ·rw [List.getElem?_set_ne (Ne.symm hj)] at e2;obtain ⟨u',r',q⟩:=hl j y v' e1 e2 e3;refine ⟨u',r',?_⟩;rcases q with ⟨k,e⟩ | ⟨k,c,e,z⟩
    ·refine .inl ⟨k,?_⟩;have:y≠x:=fun e=>hj (Jq hN e1 (e ▸ hi));simp [this,e]
    ·exact .inr ⟨k,c,e,z.sameBut hs (cne y c e)⟩
  ·obtain ⟨w',z⟩:=I.cell y c e;exact ⟨w',z.sameBut hs (cne y c e)⟩
  ·obtain ⟨e,n,ne,nf,d⟩:=I.pin p hp;exact ⟨(hs.2 p.1 ne).trans e,n,ne,nf,d⟩
 ·have dJ:X.fn x=true:=by
   rcases hf with z | z
   ·exact z
   ·rw [z] at hk; cases hk
  obtain ⟨c,hc⟩:=I.ok.has x (.inl hk);obtain ⟨w',z⟩:=I.cell x c hc;refine wpAny_storeName_cell I.ok.kind hk hc z (fun h' bN hs=>?_);obtain ⟨oc,hoc,hocd⟩:=id z;refine h { s with heap:=h' } ⟨I.ok,I.os,I.bare,⟨fun b o e n hb hx=>?_,fun b o e n hb hx=>?_,I.base.free,fun b o e hx=>?_,I.base.tups,I.base.frzs,I.base.tbls⟩,⟨m,hn.sameBut hs (Ne.symm (cne x c hc)),fun j y v' e1 e2 e3=>?_⟩,fun y c' e=>?_,I.free,I.freeC,fun p hp=>?_,tracked ⟨oc,hoc,I.freeC x c hc⟩ hs,by simpa using I.len⟩ ⟨c,hs,.inr hc⟩
  ·exact (hs.2 b (Nat.ne_of_lt (Nat.lt_of_lt_of_le (Heap.lt_size e) (I.ok.cab x c dJ hc)))).trans (I.base.keep b o e n hb hx)
  ·obtain ⟨sl,e1⟩:=I.base.slot b o e n hb hx;exact ⟨sl,(hs.2 b (Nat.ne_of_lt (Nat.lt_of_lt_of_le (Heap.lt_size e) (I.ok.cab x c dJ hc)))).trans e1⟩
  ·obtain ⟨o',e1⟩:=I.base.there b o e hx;exact ⟨o',(hs.2 b (Nat.ne_of_lt (Nat.lt_of_lt_of_le (Heap.lt_size e) (I.ok.cab x c dJ hc)))).trans e1⟩
  ·by_cases hj:j=i
   ·subst hj;rw [hi] at e1; cases e1;rw [List.getElem?_set_self bP] at e2;cases e2;exact ⟨u,r,.inr ⟨.inl hk,c,hc,bN⟩⟩
   ·rw [List.getElem?_set_ne (Ne.symm hj)] at e2;obtain ⟨u',r',q⟩:=hl j y v' e1 e2 e3;refine ⟨u',r',?_⟩;rcases q with q | ⟨k,c',e,z'⟩
    ·exact .inl q
    ·refine .inr ⟨k,c',e,z'.sameBut hs ?_⟩;rintro rfl;exact hj (Jq hN e1 (I.ok.inj _ _ _ e hc ▸ hi))
  ·by_cases hcc:c'=c
   ·subst hcc; exact ⟨_,bN⟩
   ·obtain ⟨w2,z2⟩:=I.cell y c' e;exact ⟨w2,z2.sameBut hs hcc⟩
  ·obtain ⟨e,n,ne,nf,d⟩:=I.pin p hp;refine ⟨(hs.2 p.1 ?_).trans e,n,ne,nf,d⟩;intro q;rw [q,hoc] at e;have q':oc=p.2:=Option.some.inj e;exact d w' (by rw [<- q']; exact hocd)
theorem Ke {M:Model} {A:Around} {E:Value->Shared->Prop} {i:Nat} {x:Str} {v:V} {u:Value} {Q:Unit->Shared->Prop} (I:Inv X pins σ H s) (hN:X.N.Nodup) (hi:X.N[i]? = some x) (hx:Loc X.env.scope x) (r:RelV v u)
  (h:∀ s',Inv X pins (σ.set i (some v)) H s'->Q () s') (hf:X.fn x=true\/X.env.scope.names.lookup x=some .local:=by first | exact .inl rfl | exact .inr rfl | assumption):wpAny M A (storeName X.env x u) Q E s :=
 Wz I hN hi hx r (fun s' I' _=>h s' I') hf
theorem Inv.call' {s':Shared} {ch:List Addr} (I:Inv X pins σ H s) (ho:s'.os=s.os) (u:Un (frs X.stack) ch H H' s.heap s'.heap) (hok:HOk X.prog X.w H' s'.heap) (hg:AllBare s'.gens)
  (a9:∀ b∈ch,(b∈X.ex\/X.s₀.heap.objs.size<=b)/\b≠X.env.locals/\(∀ x c,X.env.cells.lookup x=some c->c≠b)/\∀ p∈X.pn++pins,p.1≠b):Inv X pins σ H' s':=by
 obtain ⟨h',g',d',t',o'⟩:=s';have e:o'=s.os:=ho;subst e;exact I.call (g':=g') (t':=t') (d':=d') u hok hg a9
end
abbrev XK:=Value->Option Addr->Hp->Prop
abbrev St:=List (Option V)
abbrev VK:=V->Hp->Prop
abbrev TE:=St->Hp->VK->Prop
abbrev TT:=St->Hp->(Bool->Hp->Prop)->Prop
abbrev TA:=St->Hp->(List V->Hp->Prop)->Prop
structure Ends where
 nx:St->Hp->Prop
 rt:VK
 bk:St->Hp->Prop:=fun _ _=>False
 ct:St->Hp->Prop:=fun _ _=>False
abbrev TS:=Ends->St->Hp->Prop
inductive EP (X:Cx) (pins:List (Addr × Obj)) (σ:St) (Q:VK) (u:Value) (s':Shared):Prop
 | mk (v:V) (H':Hp) (I:Inv X pins σ H' s') (r:RelV v u) (q:Q v H')
def TP (X:Cx) (pins:List (Addr × Obj)) (σ:St) (Q:Bool->Hp->Prop) (b:Bool) (s':Shared):Prop:=∃ H',Inv X pins σ H' s'/\Q b H'
inductive AP (X:Cx) (pins:List (Addr × Obj)) (σ:St) (Q:List V->Hp->Prop) (us:List Value) (s':Shared):Prop
 | mk (vs:List V) (H':Hp) (I:Inv X pins σ H' s') (r:Vals vs us) (q:Q vs H')
def SP (X:Cx) (pins:List (Addr × Obj)) (D:Ends) (f:Flow) (s':Shared):Prop :=
 match f with
 | .next=>∃ ah H',Inv X pins ah H' s'/\D.nx ah H'
 | .brk=>∃ ah H',Inv X pins ah H' s'/\D.bk ah H'
 | .cont=>∃ ah H',Inv X pins ah H' s'/\D.ct ah H'
 | .ret u=>∃ v ah H',Inv X pins ah H' s'/\RelV v u/\D.rt v H'
def PE (X:Cx) (e:Expr) (t:TE):Prop :=
 ∀ (pins:List (Addr × Obj)) (s:Shared) (σ:St) (H:Hp) (Q:VK),Inv X pins σ H s->t σ H Q->wpAny (model X.prog X.w) X.A (eval e X.env) (EP X pins σ Q) X.xe s
def PT (X:Cx) (e:Expr) (t:TT):Prop :=
 ∀ (pins:List (Addr × Obj)) (s:Shared) (σ:St) (H:Hp) (Q:Bool->Hp->Prop),Inv X pins σ H s->t σ H Q->wpAny (model X.prog X.w) X.A (isTrue e X.env (eval e X.env)) (TP X pins σ Q) X.xe s
def PW (X:Cx) (e:Expr) (t:TT):Prop :=
 ∀ (whole:Sem Value) (pins:List (Addr × Obj)) (s:Shared) (σ:St) (H:Hp) (Q:Bool->Hp->Prop),Inv X pins σ H s->t σ H Q->wpAny (model X.prog X.w) X.A (isTrue e X.env whole) (TP X pins σ Q) X.xe s
theorem PW.pt {X:Cx} {e:Expr} {t:TT} (h:PW X e t):PT X e t:=h _
def PA (X:Cx) (es:List Expr) (t:TA):Prop :=
 ∀ (pos:Pos) (pins:List (Addr × Obj)) (s:Shared) (σ:St) (H:Hp) (Q:List V->Hp->Prop),Inv X pins σ H s->t σ H Q->wpAny (model X.prog X.w) X.A (spliced (backTo pos (starEach es X.env))) (AP X pins σ Q) X.xe s
def PS (X:Cx) (st:Stmt) (t:TS):Prop :=
 ∀ (pins:List (Addr × Obj)) (s:Shared) (σ:St) (H:Hp) (D:Ends),Inv X pins σ H s->t D σ H->wpAny (model X.prog X.w) X.A (exec st X.env) (SP X pins D) X.xe s
def PSs (X:Cx) (st:List Stmt) (t:TS):Prop :=
 ∀ (pins:List (Addr × Obj)) (s:Shared) (σ:St) (H:Hp) (D:Ends),Inv X pins σ H s->t D σ H->wpAny (model X.prog X.w) X.A (execs st X.env) (SP X pins D) X.xe s
theorem thn {α:Type} {t:Sem α} {Q Q':α->Shared->Prop} {M:Model} {A:Around} {E:Value->Shared->Prop} {s:Shared} (h:wpAny M A t Q E s) (hQ:∀ a s,Q a s->Q' a s):wpAny M A t Q' E s:=wpAny_mono h hQ fun _ _ x=>x
end L2
namespace L2
open PySem PySem.Spec PyProof.Rows
section
variable {X:Cx}
def Y7 (i:Nat):TE:=fun σ H Q=>∃ v,σ[i]? = some (some v)/\Q v H
def tC (v:V):TE:=fun _ H Q=>Q v H
theorem Vv {i:Nat} {x:Str} {pos:Pos} (hN:X.N[i]? = some x) (hv:Vis X.env.scope x) (hd:(x==("__debug__" : Str))=false:=by decide) (a7:(x==("__classdict__" : Str))=false:=by decide):PE X (.Name x pos) (Y7 i):=by
 intro pins s σ H Q I h;obtain ⟨v,e,h⟩:=h;obtain ⟨m,hn,hl⟩:=I.loc;obtain ⟨u,r,l⟩:=hl i x v hN e hv;have fin:EP X pins σ Q u s:=⟨v,H,I,r,h⟩;rcases l with ⟨hk,hm⟩ | ⟨hk,c,hc,hcell⟩
 ·exact wpAny_Name (wpAny_loadName_local I.ok.kind hk hn hm fin) hd
 ·rcases hk with hk | hk
  ·exact wpAny_Name (wpAny_loadName_cell I.ok.kind hk hc hcell fin) hd
  ·exact wpAny_Name (wpAny_loadName_free I.ok.kind hk hc hcell fin a7) hd
theorem a88 {i j pos}:PE X (.Constant (.int i) j pos) (tC (.int i)):=fun _ _ _ H _ I h=>wpAny_Constant_int ⟨.int i,H,I.tok _,⟨_,rfl⟩,h⟩
theorem a9j {b j pos}:PE X (.Constant (.bool b) j pos) (tC (.bl b)):=fun _ _ _ H _ I h=>Constant_bool ⟨.bl b,H,I,rfl,h⟩
theorem a7h {j pos}:PE X (.Constant .none j pos) (tC .non):=fun _ _ _ H _ I h=>Constant_none ⟨.non,H,I,rfl,h⟩
theorem a72 {x j pos}:PE X (.Constant (.str x) j pos) (tC (.str x)):=fun _ _ _ H _ I h=>Calls.Constant_str ⟨.str x,H,I.tok _,⟨_,rfl⟩,h⟩
def Gl (X:Cx) (x:Str):Prop:=X.env.kindOf x=some .globalImplicit
theorem Io {E:Value->Shared->Prop} {pins:List (Addr × Obj)} {s:Shared} {σ:St} {H:Hp} {x:Str} {u:Value} {pos:Pos} {Q:Value->Shared->Prop} (I:Inv X pins σ H s) (hg:Gl X x) (hm:X.mg x=some u) (h:Q u s)
  (hd:(x==("__debug__" : Str))=false:=by decide):wpAny (model X.prog X.w) X.A (eval (.Name x pos) X.env) Q E s :=
 Calls.Name_function_global I.ok.kind hg (Calls.loadGlobal_global (by rw [I.ok.glob]; exact I.mod.glob.keeps I.bk) hm h) hd
theorem Rk {E:Value->Shared->Prop} {pins:List (Addr × Obj)} {s:Shared} {σ:St} {H:Hp} {x:Str} {u:Value} {pos:Pos} {Q:Value->Shared->Prop} (I:Inv X pins σ H s) (hg:Gl X x) (hm:X.mg x=none) (hv:bootBuiltins x=some u) (h:Q u s)
  (hn:x ≠ "__name__" := by decide) (hd:(x==("__debug__" : Str))=false:=by decide):wpAny (model X.prog X.w) X.A (eval (.Name x pos) X.env) Q E s:=by
 obtain ⟨mb,h1,h2⟩:=I.mod.blt;exact Calls.Name_function_global I.ok.kind hg (Calls.loadGlobal_builtin (by rw [I.ok.glob]; exact I.mod.glob.keeps I.bk) hm (by rw [I.ok.blt]; exact h1.keeps I.bk) ((h2 x hn).trans hv) h) hd
theorem Bp {x:Str} {v:V} {u:Value} {pos:Pos} (hg:Gl X x) (hm:X.mg x=some u) (r:RelV v u) (hd:(x==("__debug__" : Str))=false:=by decide):PE X (.Name x pos) (tC v) :=
 fun _ _ _ H _ I h=>Io I hg hm ⟨v,H,I,r,h⟩ hd
theorem a3s {x:Str} {v:V} {u:Value} {pos:Pos} (hg:Gl X x) (hm:X.mg x=none) (hv:bootBuiltins x=some u) (r:RelV v u) (hn:x ≠ "__name__" := by decide) (hd:(x==("__debug__" : Str))=false:=by decide):PE X (.Name x pos) (tC v) :=
 fun _ _ _ H _ I h=>Rk I hg hm hv ⟨v,H,I,r,h⟩ hn hd
variable {a b:Expr} {ta tb:TE} {pos:Pos}
def tB (t:TE):TT:=fun σ H Q=>t σ H fun x H1=>∃ c,x=.bl c/\Q c H1
theorem a7t {e:Expr} {t:TE} (h:PE X e t) (he:∀ whole,isTrue e X.env whole=(do let v <- whole; standAt e.pos; holding [v] (truthy v)):=by intro _; rfl):PT X e (tB t):=by
 intro pins s σ H Q I hw;refine isTrue_plain (thn (h pins s σ H _ I hw) fun v s1 z0=>?_) (he _);obtain ⟨x,H1,I1,r1,q1⟩:=z0;obtain ⟨d,rfl,q⟩:=q1;cases r1;exact wpAny_truthy_bool ⟨H1,I1,q⟩
variable {tA du:TT} {rest:List Expr}
def aam (t u:TT):TT:=fun σ H Q=>t σ H fun c H1=>if c=true then u σ H1 Q else Q false H1
def tOr (t u:TT):TT:=fun σ H Q=>t σ H fun c H1=>if c=true then Q true H1 else u σ H1 Q
def abh (t:TT):TT:=fun σ H Q=>t σ H fun c H1=>Q (!c) H1
theorem pw_and1 (ha:PT X a tA):PW X (.BoolOp .And [a] pos) tA:=by
 intro wh pins s σ H Q I h;refine isTrue_and (thn (ha pins s σ H Q I h) fun c s1 e=>?_);cases c with
 | true=>exact isTrue_and_nil e
 | false=>exact e
theorem pw_or1 (ha:PT X a tA):PW X (.BoolOp .Or [a] pos) tA:=by
 intro wh pins s σ H Q I h;refine isTrue_or (thn (ha pins s σ H Q I h) fun c s1 e=>?_);cases c with
 | false=>exact isTrue_or_nil e
 | true=>exact e
theorem pw_and (ha:PT X a tA) (hb:PW X (.BoolOp .And (b::rest) pos) du):PW X (.BoolOp .And (a::b::rest) pos) (aam tA du):=by
 intro wh pins s σ H Q I h;refine isTrue_and (thn (ha pins s σ H _ I h) fun c s1 z0=>?_);obtain ⟨H1,I1,q1⟩:=z0;cases c with
 | true=>exact hb wh pins s1 σ H1 Q I1 q1
 | false=>exact ⟨H1,I1,q1⟩
theorem pw_or (ha:PT X a tA) (hb:PW X (.BoolOp .Or (b::rest) pos) du):PW X (.BoolOp .Or (a::b::rest) pos) (tOr tA du):=by
 intro wh pins s σ H Q I h;refine isTrue_or (thn (ha pins s σ H _ I h) fun c s1 z0=>?_);obtain ⟨H1,I1,q1⟩:=z0;cases c with
 | true=>exact ⟨H1,I1,q1⟩
 | false=>exact hb wh pins s1 σ H1 Q I1 q1
theorem a6e (ha:PT X a tA):PT X (.UnaryOp .Not a pos) (abh tA):=by
 intro pins s σ H Q I h;exact isTrue_not (ha pins s σ H (fun c H1=>Q (!c) H1) I h)
noncomputable def a8x (ta tb:TE):TE:=fun σ H Q=>ta σ H fun x H1=>∃ c,x=.bl c/\if c=true then tb σ H1 Q else Q (.bl false) H1
noncomputable def ab8 (ta tb:TE):TE:=fun σ H Q=>ta σ H fun x H1=>∃ c,x=.bl c/\if c=true then Q (.bl true) H1 else tb σ H1 Q
theorem a6r {op} {t:TE} (h:PE X a t):PE X (.BoolOp op [a] pos) t:=fun pins s σ H Q I hw=>BoolOp_one (h pins s σ H Q I hw)
theorem a5t (ha:PE X a ta) (hb:PE X (.BoolOp .And (b::rest) pos) tb):PE X (.BoolOp .And (a::b::rest) pos) (a8x ta tb):=by
 intro pins s σ H Q I h;refine BoolOp_and (thn (ha pins s σ H _ I h) fun v s1 z0=>?_);obtain ⟨x,H1,I1,r1,q1⟩:=z0;obtain ⟨c,rfl,q1⟩:=q1;cases r1;refine wpAny_truthy_bool ?_;cases c with
 | true=>exact hb pins s1 σ H1 Q I1 q1
 | false=>exact ⟨.bl false,H1,I1,rfl,q1⟩
theorem a9k (ha:PE X a ta) (hb:PE X (.BoolOp .Or (b::rest) pos) tb):PE X (.BoolOp .Or (a::b::rest) pos) (ab8 ta tb):=by
 intro pins s σ H Q I h;refine BoolOp_or (thn (ha pins s σ H _ I h) fun v s1 z0=>?_);obtain ⟨x,H1,I1,r1,q1⟩:=z0;obtain ⟨c,rfl,q1⟩:=q1;cases r1;refine wpAny_truthy_bool ?_;cases c with
 | false=>exact hb pins s1 σ H1 Q I1 q1
 | true=>exact ⟨.bl true,H1,I1,rfl,q1⟩
noncomputable def tIf (t:TT) (ta tb:TE):TE:=fun σ H Q=>t σ H fun c H1=>if c=true then ta σ H1 Q else tb σ H1 Q
theorem Zf {c:Expr} (hc:PT X c tA) (ha:PE X a ta) (hb:PE X b tb):PE X (.IfExp c a b pos) (tIf tA ta tb):=by
 intro pins s σ H Q I h;refine wpAny_IfExp (thn (hc pins s σ H _ I h) fun d s1 z0=>?_);obtain ⟨H1,I1,q1⟩:=z0;cases d with
 | true=>exact ha pins s1 σ H1 Q I1 q1
 | false=>exact hb pins s1 σ H1 Q I1 q1
end
end L2
namespace L2
open PySem PySem.Spec PyProof.Rows
def SqL (K:PySem.W.Frag) (H:Hp) (a:Addr) (xs:List V):Prop :=
 Rd H a (.lst xs) \/
  ∃ (o:Obj) (af:Array Value) (n:Nat),K.lookup a=some o/\o.cls=.type "list" /\ o.dict=none/\o.data=.seq af n/\af.size<=sizeLine/\Vals xs af.toList
def SqT (K:PySem.W.Frag) (H:Hp) (a:Addr) (xs:List V):Prop :=
 Rd H a (.tup xs) \/
  ∃ (o:Obj) (af:Array Value) (n:Nat),K.lookup a=some o/\o.cls=.type "tuple" /\ o.dict=none/\o.data=.seq af n/\af.size<=sizeLine/\Vals xs af.toList
noncomputable def abp:Value->Option V
 | .none=>some .non
 | .bool b=>some (.bl b)
 | .int i _=>some (.int i)
 | .str x _=>some (.str x)
 | .bytes b _=>some (.byt b)
 | .float b _=>some (.flt b)
 | .ref a=>some (.ref a)
 | .type n=>some (.ty n)
 | _=>none
theorem RelV.abs {x:V} {u:Value} (r:RelV x u):abp u=some x:=by
 cases x with
 | non=>cases r; rfl
 | bl _=>cases r; rfl
 | int _=>obtain ⟨t,rfl⟩:=r; rfl
 | str _=>obtain ⟨t,rfl⟩:=r; rfl
 | byt _=>obtain ⟨t,rfl⟩:=r; rfl
 | flt _=>obtain ⟨t,rfl⟩:=r; rfl
 | ref _=>cases r; rfl
 | ty _=>cases r; rfl
theorem RelV.inj {x y:V} {u:Value} (r:RelV x u) (q:RelV y u):x=y:=Option.some.inj (r.abs.symm.trans q.abs)
theorem Vals.inj {xs ys:List V} {us:List Value} (h:Vals xs us):Vals ys us->xs=ys:=by
 induction h generalizing ys with
 | nil=>intro k; cases k; rfl
 | cons r t ih=>intro k; cases k with | cons r' t'=>rw [r.inj r',ih t']
section
variable {X:Cx} {pins:List (Addr × Obj)} {σ:St} {H:Hp} {s:Shared} {a:Addr} {xs ys:List V}
theorem SqL.of {K:PySem.W.Frag} (h:H a=some (.lst xs)):SqL K H a xs:=.inl (.inl h)
theorem SqT.of {K:PySem.W.Frag} (h:H a=some (.tup xs)):SqT K H a xs:=.inl (.inl h)
theorem Inv.list (I:Inv X pins σ H s) (h:SqL X.K H a xs):∃ af:List Value,Vals xs af/\PlainL s.heap a af.toArray/\xs.length<=sizeLine:=by
 rcases h with h | ⟨o,af,n,hk,hc,hd,hs,hz,r⟩
 ·obtain ⟨z,af,n,r,e⟩:=h.ok I.hok;exact ⟨af,r,⟨_,n,e,rfl,rfl,rfl⟩,z⟩
 ·refine ⟨af.toList,r,⟨o,n,I.kIn a o hk,hc,hd,by simpa using hs⟩,?_⟩;have e:=r.length;simp only [Array.length_toList] at e;omega
theorem Inv.tuple (I:Inv X pins σ H s) (h:SqT X.K H a xs):∃ af:List Value,Vals xs af/\IsTup s.heap a af.toArray/\xs.length<=sizeLine:=by
 rcases h with h | ⟨o,af,n,hk,hc,hdn,hs,hz,r⟩
 ·obtain ⟨z,af,r,p⟩:=h.ok I.hok;exact ⟨af,r,p.is,z⟩
 ·refine ⟨af.toList,r,⟨o,I.kIn a o hk,hc,n,by simpa using hs⟩,?_⟩;have e:=r.length;simp only [Array.length_toList] at e;omega
theorem Inv.a0m (I:Inv X pins σ H s) (h:SqL X.K H a xs) (h':SqL X.K H a ys):xs=ys:=by
 obtain ⟨af,r,⟨o,n,e,_,_,d⟩,_⟩:=I.list h;obtain ⟨its',r',⟨o',n',e',_,_,d'⟩,_⟩:=I.list h';rw [e] at e'; cases e';rw [d] at d';injection d' with d1 _;have:af=its':=by simpa using congrArg Array.toList d1
 subst this;exact r.inj r'
theorem Inv.Uw (I:Inv X pins σ H s) (h:SqT X.K H a xs) (h':SqT X.K H a ys):xs=ys:=by
 obtain ⟨af,r,⟨o,e,_,n,d⟩,_⟩:=I.tuple h;obtain ⟨its',r',⟨o',e',_,n',d'⟩,_⟩:=I.tuple h';rw [e] at e'; cases e';rw [d] at d';injection d' with d1 _;have:af=its':=by simpa using congrArg Array.toList d1
 subst this;exact r.inj r'
end
abbrev Cx.wish (X:Cx) (E:Value->Shared->Prop):Cx:={ X with xe:=E }
abbrev Cx.nox (X:Cx):Cx:=X.wish fun _ _=>False
theorem Cx.Ok.wish {X:Cx} (ok:X.Ok) (E:Value->Shared->Prop):(X.wish E).Ok :=
 ⟨ok.mod,ok.kind,ok.glob,ok.blt,ok.above,ok.inj,ok.has,ok.cab,ok.hd,ok.frames,ok.stk,ok.exf,ok.bs,ok.bsz,ok.noex,ok.exfs,ok.Pr,ok.frf⟩
theorem Cx.Ok.Bx {X:Cx} {E:Value->Shared->Prop} (ok:(X.wish E).Ok):X.Ok :=
 ⟨ok.mod,ok.kind,ok.glob,ok.blt,ok.above,ok.inj,ok.has,ok.cab,ok.hd,ok.frames,ok.stk,ok.exf,ok.bs,ok.bsz,ok.noex,ok.exfs,ok.Pr,ok.frf⟩
section
variable {X:Cx} {pins:List (Addr × Obj)} {σ:St} {H:Hp} {s:Shared} {E:Value->Shared->Prop}
theorem Inv.wish (I:Inv X pins σ H s) (E:Value->Shared->Prop):Inv (X.wish E) pins σ H s:=⟨I.ok.wish E,I.os,I.bare,I.base,I.loc,I.cell,I.free,I.freeC,I.pin,I.hok,I.len⟩
theorem Inv.Bx (I:Inv (X.wish E) pins σ H s):Inv X pins σ H s:=⟨I.ok.Bx,I.os,I.bare,I.base,I.loc,I.cell,I.free,I.freeC,I.pin,I.hok,I.len⟩
theorem SP.Bx {D:Ends} {f:Flow} {s':Shared} (h:SP (X.wish E) pins D f s'):SP X pins D f s':=by
 cases f with
 | next=>obtain ⟨ah,H',I,q⟩:=h; exact ⟨ah,H',I.Bx,q⟩
 | brk=>obtain ⟨ah,H',I,q⟩:=h; exact ⟨ah,H',I.Bx,q⟩
 | cont=>obtain ⟨ah,H',I,q⟩:=h; exact ⟨ah,H',I.Bx,q⟩
 | ret u=>obtain ⟨v,ah,H',I,r,q⟩:=h; exact ⟨v,ah,H',I.Bx,r,q⟩
theorem PSs.nox {st:List Stmt} {t:TS} (h:PSs X.nox st t):PSs X st t:=fun pins s σ H D I hw =>
 wpAny_mono (h pins s σ H D (I.wish _) hw) (fun _ _ q=>q.Bx) fun _ _ z=>False.elim z
end
section
variable {X:Cx} {st:Stmt} {rest:List Stmt} {t u:TS} {e:Expr} {te:TE} {pos:Pos}
def a99:TS:=fun D σ H=>D.nx σ H
def aau (t u:TS):TS:=fun D σ H=>t { D with nx:=u D } σ H
theorem a2q:PSs X [] a99:=fun _ _ σ H _ I h=>wpAny_execs_nil ⟨σ,H,I,h⟩
theorem Q7 (h1:PS X st t) (h2:PSs X rest u):PSs X (st::rest) (aau t u):=by
 intro pins s σ H D I h;refine wpAny_execs_cons (thn (h1 pins s σ H { D with nx:=u D } I h) fun f s1 q=>?_);cases f with
 | next =>
  obtain ⟨ah,H',I',q⟩:=q;exact h2 pins s1 ah H' D I' q
 | ret v=>exact q
 | brk=>exact q
 | cont=>exact q
theorem Nt (h1:PS X st t):PSs X [st] t:=by
 intro pins s σ H D I h;refine wpAny_execs_cons (thn (h1 pins s σ H D I h) fun f s1 q=>?_);cases f with
 | next=>exact wpAny_execs_nil q
 | ret v=>exact q
 | brk=>exact q
 | cont=>exact q
theorem Inv.quiet {pins:List (Addr × Obj)} {σ:St} {H:Hp} {s:Shared} (I:Inv X pins σ H s):interactive X.env=false:=by simp [interactive,I.ok.kind]
def Wc (te:TE):TS:=fun D σ H=>te σ H fun _ H1=>D.nx σ H1
theorem Ds (he:PE X e te) (hs:swapsWith e none pos.line X.env=pure false:=by rfl):PS X (.Expr e pos) (Wc te):=by
 intro pins s σ H D I h;exact wpAny_Expr_any (thn (he pins s σ H _ I h) fun v s1 z7=>by obtain ⟨x,H1,I1,r1,q1⟩:=z7; exact ⟨σ,H1,I1,q1⟩) I.quiet hs
def ab1 (te:TE):TS:=fun D σ H=>te σ H D.rt
theorem a1a (he:PE X e te):PS X (.Return (some e) pos) (ab1 te):=by
 intro pins s σ H D I h;exact wpAny_Return_some (thn (he pins s σ H _ I h) fun v s1 z7=>by obtain ⟨x,H1,I1,r1,q1⟩:=z7; exact ⟨x,σ,H1,I1,r1,q1⟩)
def abj (c:TT) (t u:TS):TS:=fun D σ H=>c σ H fun b H1=>if b=true then t D σ H1 else u D σ H1
theorem a83 {c:Expr} {a b:List Stmt} {tc:TT} (hc:PT X c tc) (ha:PSs X a t) (hb:PSs X b u):PS X (.If c a b pos) (abj tc t u):=by
 intro pins s σ H D I h;refine wpAny_If (thn (hc pins s σ H _ I h) fun d s1 z0=>?_);obtain ⟨H1,I1,q1⟩:=z0;cases d with
 | true=>exact ha pins s1 σ H1 D I1 q1
 | false=>exact hb pins s1 σ H1 D I1 q1
end
abbrev TG:=V->St->Hp->(St->Hp->Prop)->Prop
def PG (X:Cx) (target:Expr) (t:TG):Prop :=
 ∀ (pins:List (Addr × Obj)) (s:Shared) (σ:St) (H:Hp) (v:V) (u:Value) (Q:St->Hp->Prop),Inv X pins σ H s->RelV v u->t v σ H Q ->
  wpAny (model X.prog X.w) X.A (assign target X.env u) (fun _ s'=>∃ ah H',Inv X pins ah H' s'/\Q ah H') X.xe s
abbrev a9q:=V->V->V->Hp->(Hp->Prop)->Prop
def aae (X:Cx) (t:a9q):Prop :=
 ∀ (pins:List (Addr × Obj)) (s:Shared) (σ:St) (H:Hp) (o i v:V) (ov iv u:Value) (Q:Hp->Prop),Inv X pins σ H s->RelV o ov->RelV i iv->RelV v u->t o i v H Q ->
  wpAny (model X.prog X.w) X.A (setItem ov iv u) (fun _ s'=>∃ H',Inv X pins σ H' s'/\Q H') X.xe s
section
variable {X:Cx} {pos:Pos}
def Uv (i:Nat):TG:=fun v σ H Q=>Q (σ.set i (some v)) H
theorem Bt {i:Nat} {x:Str} (hN:X.N.Nodup) (hi:X.N[i]? = some x) (hx:Loc X.env.scope x) (hf:X.fn x=true\/X.env.scope.names.lookup x=some .local:=by first | exact .inl rfl | exact .inr rfl | assumption):PG X (.Name x pos) (Uv i):=by
 intro pins s σ H v u Q I r h;exact wpAny_assign_Name (Ke I hN hi hx r (fun s' I'=>⟨_,H,I',h⟩) hf)
noncomputable def aah (to ti:TE) (t:a9q):TG:=fun v σ H Q=>to σ H fun o H1=>ti σ H1 fun i H2=>t o i v H2 fun H3=>Q σ H3
theorem a0q {o i:Expr} {to ti:TE} {t:a9q} (ho:PE X o to) (hi:PE X i ti) (hs:aae X t)
  (ha:∀ v,assign (.Subscript o i pos) X.env v=(do
   let ov <- holding [v] (eval o X.env)
   let iv <- holding [v,ov] (eval i X.env)
   standAt pos
   holding [v,ov,iv] (setItem ov iv v)
   release [v,ov,iv] []):=by intro _; rfl):PG X (.Subscript o i pos) (aah to ti t):=by
 intro pins s σ H v u Q I r h;rw [ha];refine wpAny_bind (wpAny_holding (thn (ho pins s σ H _ I h) fun ov s1 z0=>?_));obtain ⟨x,H1,I1,r1,q1⟩:=z0;refine wpAny_bind (wpAny_holding (thn (hi pins s1 σ H1 _ I1 q1) fun iv s2 z0=>?_));obtain ⟨y,H2,I2,r2,q2⟩:=z0;refine wpAny_bind (wpAny_standAt (wpAny_bind (wpAny_holding (thn (hs pins s2 σ H2 x y v ov iv u _ I2 r1 r2 r q2) fun _ s3 z0=>?_))));obtain ⟨H3,I3,q3⟩:=z0;exact wpAny_release ⟨σ,H3,I3,q3⟩
def a6d (te:TE) (g:TG):TS:=fun D σ H=>te σ H fun x H1=>g x σ H1 D.nx
theorem a1j {tg e:Expr} {te:TE} {g:TG} (he:PE X e te) (hg:PG X tg g) (hs:swapsWithSole [tg] e pos.line X.env=pure false:=by rfl) (hw:swappedStores [tg] e X.env=pure none:=by rfl)
  (h1:(assignEach [tg] X.env).map (·.2)=[assign tg X.env]:=by rfl):PS X (.Assign [tg] e pos) (a6d te g):=by
 intro pins s σ H D I h;refine wpAny_Assign_stores (thn (he pins s σ H _ I h) fun v s1 z0=>?_) hs hw;obtain ⟨x,H1,I1,r1,q1⟩:=z0;rw [h1];exact thn (hg pins s1 σ H1 x v _ I1 r1 q1) fun _ s2 q=>q
theorem Av {i:Nat} {x:Str} {e:Expr} {te:TE} {pos':Pos} (hN:X.N.Nodup) (hi:X.N[i]? = some x) (hx:Loc X.env.scope x) (he:PE X e te) (hs:swapsWith e (some (.Name x pos')) pos.line X.env=pure false:=by rfl) (hf:X.fn x=true\/X.env.scope.names.lookup x=some .local:=by first | exact .inl rfl | exact .inr rfl | assumption) :
  PS X (.Assign [.Name x pos'] e pos) (a6d te (Uv i)):=by
 intro pins s σ H D I h;refine wpAny_Assign_Name (thn (he pins s σ H _ I h) fun v s1 z0=>?_) hs;obtain ⟨y,H1,I1,r1,q1⟩:=z0;exact Ke I1 hN hi hx r1 (fun s2 I2=>⟨_,H1,I2,q1⟩) hf
end
section
variable {X:Cx} {pos:Pos}
noncomputable def a6n (c:TT) (tb:TS):TS:=fun D σ H=>∃ W:Nat->St->Hp->Prop,(∃ m,W m σ H)/\∀ m σ H,W m σ H ->
 c σ H fun b H1=>if b=true then ∃ N:St->Hp->Prop,(∀ ah H',N ah H'->∃ m',m'<m/\W m' ah H')/\tb { D with nx:=N,ct:=N,bk:=D.nx } σ H1 else D.nx σ H1
theorem Rn {c:Expr} {body:List Stmt} {tc:TT} {tb:TS} (hp:PassesOwn (model X.prog X.w) X.A X.env X.xe) (hc:PT X c tc) (hb:PSs X body tb):PS X (.While c body [] pos) (a6n tc tb):=by
 intro pins s σ H D I h;obtain ⟨W,⟨m0,w0⟩,turn⟩:=h;refine wpAny_While (codeAny_whileLoop (fun n s'=>∃ ah H',Inv X pins ah H' s'/\W n ah H') ?_ m0 ⟨σ,H,I,w0⟩);rintro n s1 ⟨σ1,H1,I1,w1⟩;refine wpAny_passesOwn hp (thn (hc pins s1 σ1 H1 _ I1 (turn n σ1 H1 w1)) fun b s2 z0=>?_);obtain ⟨H2,I2,q2⟩:=z0;cases b with
 | true =>
  obtain ⟨N,hN,q2⟩:=q2;rw [if_pos rfl];refine wpAny_passesOwn hp (thn (hb pins s2 σ1 H2 _ I2 q2) fun f s3 q3=>?_);cases f with
  | next =>
   obtain ⟨bu,H3,I3,n3⟩:=q3;obtain ⟨m',hm,w3⟩:=hN bu H3 n3;exact ⟨m',hm,bu,H3,I3,w3⟩
  | cont =>
   obtain ⟨bu,H3,I3,n3⟩:=q3;obtain ⟨m',hm,w3⟩:=hN bu H3 n3;exact ⟨m',hm,bu,H3,I3,w3⟩
  | brk=>exact q3
  | ret v=>exact q3
 | false =>
  rw [if_neg Bool.false_ne_true];exact wpAny_execs_nil ⟨σ1,H2,I2,q2⟩
end
structure It where
 go:Nat->Hp->Prop
 yld:Nat->Hp->V->Hp->Prop
 stop:Nat->Hp->Prop
def Kq (X:Cx) (pins:List (Addr × Obj)) (H:Hp) (b:Addr):Prop :=
 H b=none/\b≠X.env.locals/\b∉X.fs/\(b∈X.ex\/X.s₀.heap.objs.size<=b)/\(∀ x c,X.env.cells.lookup x=some c->c≠b)/\∀ p∈X.pn++pins,p.1≠b
theorem Inv.a8j {X:Cx} {pins:List (Addr × Obj)} {σ:St} {H H':Hp} {s:Shared} {b:Addr} (I:Inv X pins σ H s) (hb:s.heap.objs.size<=b) (hn:H' b=none):Kq X pins H' b:=by
 refine ⟨hn,Nat.ne_of_gt (Nat.lt_of_lt_of_le I.lt hb),I.abk hb,.inr (Nat.le_trans I.sz hb),fun x c e z=>?_,fun p hp z=>?_⟩
 ·obtain ⟨v,q⟩:=I.cell x c e;exact absurd (Nat.lt_of_lt_of_le q.lt (by rw [z]; exact hb)) (Nat.lt_irrefl _)
 ·exact absurd (Nat.lt_of_lt_of_le (Heap.lt_size (I.pin p hp).1) (by rw [z]; exact hb)) (Nat.lt_irrefl _)
structure Turn (P:Program) (w:World) (K:PySem.W.Frag) (tg:Expr) (J:It) (fp:List Addr) (it:Addr) (tn:Nat->Heap->Prop):Prop where
 mem:it∈fp
 obj:∀ i h,tn i h->∀ b∈fp,∃ o,h.get? b=some o/\∀ v,o.data≠.cell v
 keep:∀ i h h',tn i h->(∀ b∈fp,∀ o,h.get? b=some o->h'.get? b=some o)->tn i h'
 item:∀ (X:Cx),X.prog=P->X.w=w->X.K=K->X.calm=true->∀ (i:Nat) (pins:List (Addr × Obj)) (s:Shared) (σ:St) (H:Hp) (E:Value->Shared->Prop),Inv X pins σ H s->(∀ b∈fp,Kq X pins H b)->tn i s.heap->J.go i H ->
  wpAny (model P w) X.A (pyNext (.ref it)) (fun r s1=>∃ u,r=some u /\
   wpAny (model P w) X.A (letOwnedTupleGo tg (.ref it) u) (fun _ s2=>∃ x H',Inv X pins σ H' s2/\RelV x u/\J.yld i H x H'/\tn (i+1) s2.heap/\∀ b∈fp,H' b=none) E s1) E s
 done:∀ (X:Cx),X.prog=P->X.w=w->X.K=K->X.calm=true->∀ (i:Nat) (pins:List (Addr × Obj)) (s:Shared) (σ:St) (H:Hp) (E:Value->Shared->Prop),Inv X pins σ H s->(∀ b∈fp,Kq X pins H b)->tn i s.heap->J.stop i H ->
  wpAny (model P w) X.A (pyNext (.ref it)) (fun r s1=>r=none/\Inv X pins σ H s1) E s
 self:∀ (A:Around) (i:Nat) (s:Shared) (Q:Value->Shared->Prop) (E:Value->Shared->Prop),tn i s.heap->Q (.ref it) s->wpAny (model P w) A (pyIter (.ref it)) Q E s
abbrev TI:=St->Hp->(It->Hp->Prop)->Prop
def PIE (X:Cx) (pins:List (Addr × Obj)) (σ:St) (tg:Expr) (R:It->Hp->Prop) (bR:Value) (s2:Shared):Prop :=
 ∃ (it:Addr) (fp:List Addr) (tn:Nat->Heap->Prop) (J:It) (H':Hp),bR=.ref it/\Inv X pins σ H' s2/\Turn X.prog X.w X.K tg J fp it tn/\tn 0 s2.heap/\(∀ b∈fp,Kq X pins H' b)/\R J H'
def PI (X:Cx) (tg iter:Expr) (wi:TI):Prop :=
 ∀ (pins:List (Addr × Obj)) (s:Shared) (σ:St) (H:Hp) (R:It->Hp->Prop),Inv X pins σ H s->wi σ H R ->
  wpAny (model X.prog X.w) X.A (eval iter X.env) (fun v s1=>wpAny (model X.prog X.w) X.A (pyIter v) (PIE X pins σ tg R) X.xe s1) X.xe s
theorem Yk {M:Model} {A:Around} {E:Value->Shared->Prop} {s:Shared} {tg:Expr} {it:Addr} {u:Value} {o:Obj} {n:String} {vs:Array Value} {Q:Unit->Shared->Prop} (ho:s.heap.get? it=some o) (hc:o.cls=.type n) (hd:o.data=.fields vs)
  (hn:["enumerate","zip","dict_itemiterator","dict_reverseitemiterator","odict_iterator","itertools.zip_longest","itertools.pairwise"].contains n=false) (hQ:Q () s):wpAny M A (letOwnedTupleGo tg (.ref it) u) Q E s:=by
 unfold letOwnedTupleGo
 cases tg <;> first
  | exact wpAny_pure hQ
  | (cases u <;> first
    | exact wpAny_pure hQ
    | (refine wpAny_bind (wpAny_load ho ?_)
       rw [hc,hd];show wpAny M A (if (["enumerate","zip","dict_itemiterator","dict_reverseitemiterator","odict_iterator","itertools.zip_longest","itertools.pairwise"].contains n&&vs[0]? == some (rawInt _))=true then _ else _) Q E s;rw [if_neg (by intro h; rw [hn,Bool.false_and] at h; cases h)];exact wpAny_pure hQ))
noncomputable def Itl (K:PySem.W.Frag) (a:Addr):It :=
 ⟨fun i H=>∃ xs x,SqL K H a xs/\xs[i]? = some x,fun i H x H'=>H'=H/\∀ xs,SqL K H a xs->xs[i]? = some x,fun i H=>∃ xs,SqL K H a xs/\xs.length<=i⟩
noncomputable def Itt (K:PySem.W.Frag) (a:Addr):It :=
 ⟨fun i H=>∃ xs x,SqT K H a xs/\xs[i]? = some x,fun i H x H'=>H'=H/\∀ xs,SqT K H a xs->xs[i]? = some x,fun i H=>∃ xs,SqT K H a xs/\xs.length<=i⟩
def Itr (lo:Int) (n:Nat):It:=⟨fun i _=>i<n,fun i H x H'=>H'=H/\x=.int (lo+i),fun i _=>n<=i⟩
theorem W8 {P:Program} {w:World} {K:PySem.W.Frag} {tg:Expr} (a it:Addr):Turn P w K tg (Itl K a) [it] it (fun i h=>h.IsListIter it a i) where
 mem:=by simp
 obj:=fun i h st b hb=>by
  have e:b=it:=by simpa using hb
  subst e;obtain ⟨o,e,c,d⟩:=st;exact ⟨o,e,fun v z=>by rw [d] at z; cases z⟩
 keep:=fun i h h' st k=>st.at fun o e=>k it (by simp) o e
 item:=by
  intro X hP hw hK hc i pins s σ H E I hf st hg;subst hP hw hK;obtain ⟨xs,x,hq,hx⟩:=hg;obtain ⟨af,rv,p,hz⟩:=I.list hq;obtain ⟨u,hu,ru⟩:=rv.get hx;obtain ⟨f0,f1,f2,f3,f4,f5⟩:=hf it (by simp);refine wpAny_pyNext_list_item st p.isList (x:=u) (by simpa using hu) fun h' aa sb=>?_;have I1:Inv X pins σ H { s with heap:=h' }:=I.turned (t':=s.toks) (fun b o hb e=>(sb.2 b hb).trans e) f0 f1 f3 f4 f5;obtain ⟨o,e,c,d⟩:=id aa;exact ⟨u,rfl,Yk (s:={ s with heap:=h' }) e c d (by decide) ⟨x,H,I1,ru,⟨rfl,fun ys hy=>by rw [I.a0m hy hq]; exact hx⟩,aa,fun b hb=>(hf b hb).1⟩⟩
 done:=by
  intro X hP hw hK hc i pins s σ H E I hf st hg;subst hP hw hK;obtain ⟨xs,hq,hx⟩:=hg;obtain ⟨af,rv,p,hz⟩:=I.list hq;obtain ⟨f0,f1,f2,f3,f4,f5⟩:=hf it (by simp);have hl:=rv.length;exact wpAny_pyNext_list_end (I.ok.hd hc) st p.isList (by simp; omega) fun h' eb=>⟨rfl,I.turned (t':=s.toks) (fun b o hb e=>eb b o hb e) f0 f1 f3 f4 f5⟩
 self:=fun _ _ _ _ _ st h=>wpAny_pyIter_listiter st h
theorem U3 {P:Program} {w:World} {K:PySem.W.Frag} {tg:Expr} (a it:Addr):Turn P w K tg (Itt K a) [it] it (fun i h=>h.IsTupleIter it a i) where
 mem:=by simp
 obj:=fun i h st b hb=>by
  have e:b=it:=by simpa using hb
  subst e;obtain ⟨o,e,c,d⟩:=st;exact ⟨o,e,fun v z=>by rw [d] at z; cases z⟩
 keep:=fun i h h' st k=>st.at fun o e=>k it (by simp) o e
 item:=by
  intro X hP hw hK hc i pins s σ H E I hf st hg;subst hP hw hK;obtain ⟨xs,x,hq,hx⟩:=hg;obtain ⟨af,rv,p,hz⟩:=I.tuple hq;obtain ⟨u,hu,ru⟩:=rv.get hx;obtain ⟨f0,f1,f2,f3,f4,f5⟩:=hf it (by simp);refine wpAny_pyNext_tuple_item st (show s.heap.IsTuple a af.toArray from p) (x:=u) (by simpa using hu) fun h' aa sb=>?_;have I1:Inv X pins σ H { s with heap:=h' }:=I.turned (t':=s.toks) (fun b o hb e=>(sb.2 b hb).trans e) f0 f1 f3 f4 f5;obtain ⟨o,e,c,d⟩:=id aa;exact ⟨u,rfl,Yk (s:={ s with heap:=h' }) e c d (by decide) ⟨x,H,I1,ru,⟨rfl,fun ys hy=>by rw [I.Uw hy hq]; exact hx⟩,aa,fun b hb=>(hf b hb).1⟩⟩
 done:=by
  intro X hP hw hK hc i pins s σ H E I hf st hg;subst hP hw hK;obtain ⟨xs,hq,hx⟩:=hg;obtain ⟨af,rv,p,hz⟩:=I.tuple hq;obtain ⟨f0,f1,f2,f3,f4,f5⟩:=hf it (by simp);have hl:=rv.length;exact wpAny_pyNext_tuple_end (I.ok.hd hc) st (show s.heap.IsTuple a af.toArray from p) (by simp; omega) fun h' eb=>⟨rfl,I.turned (t':=s.toks) (fun b o hb e=>eb b o hb e) f0 f1 f3 f4 f5⟩
 self:=fun _ _ _ _ _ st h=>wpAny_pyIter_tupleiter st h
theorem T6 {P:Program} {w:World} {K:PySem.W.Frag} {tg:Expr} (it:Addr) (lo:Int) (n:Nat):Turn P w K tg (Itr lo n) [it] it (fun i h=>IsRangeIter h it (lo+(i:Nat) * 1) ((n:Int) - (i:Nat)) 1) where
 mem:=by simp
 obj:=fun i h st b hb=>by
  have e:b=it:=by simpa using hb
  subst e
  exact ⟨_,st,fun v z=>by
   have z':Data.fields _=Data.cell v:=z;cases z'⟩
 keep:=fun i h h' st k=>k it (by simp) _ st
 item:=by
  intro X hP hw hK hc i pins s σ H E I hf st hg;subst hP hw hK;obtain ⟨f0,f1,f2,f3,f4,f5⟩:=hf it (by simp);have W:=Walks.range (prog:=X.prog) (w:=X.w) (I.ok.hd hc) it lo 1 n;refine W.item i s _ _ hg st fun v h' tk hv aa kk=>?_;obtain ⟨t,rfl⟩:=hv;have I1:Inv X pins σ H { s with heap:=h',toks:=tk }:=I.turned (fun b o hb e=>kk b o (by simpa using hb) e) f0 f1 f3 f4 f5;refine ⟨_,rfl,Yk (s:={ s with heap:=h',toks:=tk }) (n := "range_iterator") aa rfl rfl (by decide) ⟨.int (lo+i),H,I1,⟨t,?_⟩,⟨rfl,rfl⟩,aa,fun b hb=>(hf b hb).1⟩⟩;rw [Int.mul_one]
 done:=by
  intro X hP hw hK hc i pins s σ H E I hf st hg;subst hP hw hK;obtain ⟨f0,f1,f2,f3,f4,f5⟩:=hf it (by simp);exact wpAny_pyNext_range_end (I.ok.hd hc) st (by have:n<=i:=hg; omega) fun h' eb=>⟨rfl,I.turned (t':=s.toks) (fun b o hb e=>eb b o hb e) f0 f1 f3 f4 f5⟩
 self:=fun _ _ _ _ _ st h=>wpAny_pyIter_rangeiter st h
end L2
namespace L2
open PySem PySem.Spec PyProof.Rows
section
variable {X:Cx} {tg:Expr}
theorem Ye {pins:List (Addr × Obj)} {σ:St} {H:Hp} {s:Shared} {R:It->Hp->Prop} {E:Value->Shared->Prop} {lo hi:Int} {t u v:Tok} {tk:Nat} (I:Inv X pins σ H s) (h1:-(2 ^ 62)<=lo) (h2:lo<2 ^ 62) (h3:-(2 ^ 62)<=hi) (h4:hi<2 ^ 62)
  (q:R (Itr lo (hi - lo).toNat) H):wpAny (model X.prog X.w) X.A (pyIter (.ref s.heap.objs.size)) (PIE X pins σ tg R) E { s with heap:=s.heap.push { cls:=.type "range",data:=.fields #[.int lo t,.int hi u,.int 1 v] },toks:=tk }:=by
 refine wpAny_pyIter_range (IsRange.new ..) (small_one h1 h2 h3 h4) ?_;have I1:Inv X pins σ H { s with heap:=s.heap.push { cls:=.type "range",data:=.fields #[.int lo t,.int hi u,.int 1 v] },toks:=tk }:=I.kept fun b o e=>Heap.get?_push_of_some _ e
 refine ⟨(s.heap.push { cls:=.type "range",data:=.fields #[.int lo t,.int hi u,.int 1 v] }).objs.size,[(s.heap.push { cls:=.type "range",data:=.fields #[.int lo t,.int hi u,.int 1 v] }).objs.size],_,_,H,rfl,
  I1.kept (t':=tk) fun b o e=>Heap.get?_push_of_some _ e,T6 _ lo (hi - lo).toNat,?_,fun b hb=>?_,q⟩
 ·have e1:lo+((0:Nat):Int) * 1=lo:=by simp
  have e2:(((hi - lo).toNat:Nat):Int) - ((0:Nat):Int)=Builtin.Range.rangeSize lo hi 1:=by rw [rangeSize_one]; split <;> omega
  show IsRangeIter _ _ (lo+((0:Nat):Int) * 1) ((((hi - lo).toNat:Nat):Int) - ((0:Nat):Int)) 1;rw [e1,e2];exact Heap.get?_push_size _ rfl
 ·have e:b=(s.heap.push { cls:=.type "range",data:=.fields #[.int lo t,.int hi u,.int 1 v] }).objs.size:=by simpa using hb
  subst e;exact I1.a8j (Nat.le_refl _) (I1.hok.fresh (Nat.le_refl _))
noncomputable def a8t (ta:TA):TI:=fun σ H R=>ta σ H fun vs H1=>∃ j:Int,vs=[.int j]/\-(2 ^ 62)<=j/\j<2 ^ 62/\R (Itr 0 j.toNat) H1
theorem Xq {a:Expr} {ta:TA} {p pos:Pos} (hg:Gl X "range") (hm:X.mg "range" = none) (ha:PA X [a] ta) (hs:starEach [a] X.env=[(false,eval a X.env)]:=by rfl):PI X tg (.Call (.Name "range" p) [a] [] pos) (a8t ta):=by
 intro pins s σ H R I h;refine Call_ (Rk I hg hm boot_range (PyProof.Rows.callWith_type1 (thn (ha pos pins s σ H _ I h) fun us s1 z0=>?_) hs rfl));obtain ⟨vs,H1,I1,r1,q1⟩:=z0;obtain ⟨j,e,q1,q2,q⟩:=q1;subst e;cases r1 with
 | cons r rr =>
  cases rr;obtain ⟨t,rfl⟩:=r;exact call_range_1 (Ye I1 (by omega) (by omega) q1 q2 (by simpa using q))
noncomputable def abb (wi:TI) (g:TG) (tb:TS):TS:=fun D σ H=>wi σ H fun J H1=>∃ W:Nat->Nat->St->Hp->Prop,(∃ m,W 0 m σ H1)/\∀ i m σ H,W i m σ H ->
 (J.stop i H/\D.nx σ H)\/(J.go i H/\∃ N:St->Hp->Prop,(∀ ah H',N ah H'->∃ m',m'<m/\W (i+1) m' ah H')/\∀ x H',J.yld i H x H'->g x σ H' fun bp H2=>tb { D with nx:=N,ct:=N,bk:=D.nx } bp H2)
def Ml (fp:List Addr) (h:Heap):List (Addr × Obj):=fp.filterMap fun b=>(h.get? b).map fun o=>(b,o)
theorem Dg {fp:List Addr} {h:Heap} {b:Addr} {o:Obj} (hb:b∈fp) (e:h.get? b=some o):(b,o)∈Ml fp h:=List.mem_filterMap.mpr ⟨b,hb,by rw [e]; rfl⟩
theorem Vy {fp:List Addr} {h:Heap} {p:Addr × Obj} (hp:p∈Ml fp h):p.1∈fp/\h.get? p.1=some p.2:=by
 obtain ⟨b,hb,e⟩:=List.mem_filterMap.mp hp;cases q:h.get? b with
 | none=>rw [q] at e; cases e
 | some o =>
  rw [q] at e;have e':(b,o)=p:=Option.some.inj e;subst e';exact ⟨hb,q⟩
theorem Inv.pinned {pins:List (Addr × Obj)} {σ:St} {H:Hp} {s:Shared} {fp:List Addr} (I:Inv X pins σ H s) (hf:∀ b∈fp,Kq X pins H b) (ho:∀ b∈fp,∃ o,s.heap.get? b=some o/\∀ v,o.data≠.cell v):Inv X (pins++Ml fp s.heap) σ H s :=
 I.Bk fun p hp=>(List.mem_append.mp hp).elim (fun z=>I.pin p (List.mem_append_right _ z)) fun z=>by
  obtain ⟨hb,e⟩:=Vy z;obtain ⟨f0,f1,f2,_⟩:=hf p.1 hb;obtain ⟨o,e',d⟩:=ho p.1 hb;rw [e] at e'; cases e';exact ⟨e,f0,f1,f2,d⟩
theorem Inv.Gu {pins pl:List (Addr × Obj)} {σ:St} {H:Hp} {s:Shared} (I:Inv X (pins++pl) σ H s):Inv X pins σ H s:=I.Bk fun p hp=>I.pin p (List.mem_append_right _ (List.mem_append_left _ hp))
theorem a76 {iter:Expr} {body:List Stmt} {wi:TI} {g:TG} {tb:TS} {pos:Pos} (hp:PassesOwn (model X.prog X.w) X.A X.env X.xe) (hc:X.calm=true) (hi:PI X tg iter wi) (hg:PG X tg g) (hb:PSs X body tb)
  (hs:∀ x,foldedSetIterable iter X.env x=pure x:=by intro _; rfl):PS X (.For tg iter body [] pos) (abb wi g tb):=by
 intro pins s σ H D I h;refine wpAny_For (thn (hi pins s σ H _ I h) fun v s1 h1=>thn h1 fun bR s2 h2=>?_) hs;obtain ⟨it,fp,tn,J,H2,e,I2,T,aQ,f2,W,⟨m0,w0⟩,turn⟩:=h2;subst e;have bb:∀ {H':Hp},(∀ b∈fp,H' b=none)->∀ b∈fp,Kq X pins H' b:=fun hn b hb=>⟨hn b hb,(f2 b hb).2⟩;refine codeAny_forLoop_any (fun n s'=>∃ i ah H',Inv X pins ah H' s'/\tn i s'.heap/\(∀ b∈fp,H' b=none)/\W i n ah H') ?_ m0 ⟨0,σ,H2,I2,aQ,fun b hb=>(f2 b hb).1,w0⟩;rintro n s3 ⟨i,bu,H3,I3,st3,fr3,w3⟩;rcases turn i n bu H3 w3 with ⟨stop,qn⟩ | ⟨go,N,hN,step⟩
 ·refine wpAny_passesOwn hp (thn (T.done X rfl rfl rfl hc i pins s3 bu H3 X.xe I3 (bb fr3) st3 stop) fun r s4 z0=>?_);obtain ⟨hr,I4⟩:=z0;subst hr;exact wpAny_execs_nil ⟨bu,H3,I4,qn⟩
 ·refine wpAny_passesOwn hp (thn (T.item X rfl rfl rfl hc i pins s3 bu H3 X.xe I3 (bb fr3) st3 go) fun r s4 z0=>?_);obtain ⟨u,hr,h4⟩:=z0;subst hr;refine wpAny_passesOwn hp (thn h4 fun _ s5 z0=>?_);obtain ⟨x,H5,I5,r5,y5,st5,fr5⟩:=z0;have fA:=I5.pinned (bb fr5) (T.obj _ _ st5);refine wpAny_passesOwn hp (thn (hg _ s5 bu H5 x u _ fA r5 (step x H5 y5)) fun _ s6 z0=>?_);obtain ⟨σ6,H6,I6,q6⟩:=z0;refine wpAny_passesOwn hp (thn (hb _ s6 σ6 H6 _ I6 q6) fun f s7 q7=>?_)
  have again:∀ {a8:St} {H7:Hp},Inv X (pins++Ml fp s5.heap) a8 H7 s7->N a8 H7->∃ m,m<n/\∃ i ah H',Inv X pins ah H' s7/\tn i s7.heap/\(∀ b∈fp,H' b=none)/\W i m ah H':=fun {a8 H7} I7 n7=>by
   obtain ⟨m',hm,w7⟩:=hN a8 H7 n7;refine ⟨m',hm,i+1,a8,H7,I7.Gu,T.keep _ _ _ st5 fun b hb o e=>(I7.pin (b,o) (List.mem_append_right _ (List.mem_append_right _ (Dg hb e)))).1,fun b hb=>?_,w7⟩;obtain ⟨o,e,d⟩:=T.obj _ _ st5 b hb;exact (I7.pin (b,o) (List.mem_append_right _ (List.mem_append_right _ (Dg hb e)))).2.1
  cases f with
  | next=>obtain ⟨a8,H7,I7,n7⟩:=q7; exact again I7 n7
  | cont=>obtain ⟨a8,H7,I7,n7⟩:=q7; exact again I7 n7
  | brk=>obtain ⟨a8,H7,I7,q7⟩:=q7; exact ⟨a8,H7,I7.Gu,q7⟩
  | ret v=>obtain ⟨x7,a8,H7,I7,r7,q7⟩:=q7; exact ⟨x7,a8,H7,I7.Gu,r7,q7⟩
end
end L2
namespace L2
open PySem PySem.Spec PyProof.Rows
abbrev R2:=V->V->Hp->VK->Prop
def OpR (X:Cx) (f:Value->Value->Sem Value) (r:R2):Prop :=
 ∀ (pins:List (Addr × Obj)) (s:Shared) (σ:St) (H:Hp) (x y:V) (v u:Value) (Q:VK),Inv X pins σ H s->RelV x v->RelV y u->r x y H Q ->
  wpAny (model X.prog X.w) X.A (f v u) (EP X pins σ Q) X.xe s
def UnR (X:Cx) (f:Value->Sem Value) (r:V->Hp->VK->Prop):Prop :=
 ∀ (pins:List (Addr × Obj)) (s:Shared) (σ:St) (H:Hp) (x:V) (v:Value) (Q:VK),Inv X pins σ H s->RelV x v->r x H Q ->
  wpAny (model X.prog X.w) X.A (f v) (EP X pins σ Q) X.xe s
def Iz (X:Cx) (f:Value) (r:List V->Hp->VK->Prop):Prop :=
 ∀ (pins:List (Addr × Obj)) (s:Shared) (σ:St) (H:Hp) (xs:List V) (us:List Value) (Q:VK),Inv X pins σ H s->Vals xs us->r xs H Q ->
  wpAny (model X.prog X.w) X.A (call f us) (EP X pins σ Q) X.xe s
def tOp (r:R2) (ta tb:TE):TE:=fun σ H Q=>ta σ H fun x H1=>tb σ H1 fun y H2=>r x y H2 Q
def tUn (r:V->Hp->VK->Prop) (ta:TE):TE:=fun σ H Q=>ta σ H fun x H1=>r x H1 Q
def rI (C:Int->Int->Prop) (g:Int->Int->V):R2:=fun x y H Q=>∃ i j,x=.int i/\y=.int j/\C i j/\Q (g i j) H
def rI0 (g:Int->Int->V):R2:=fun x y H Q=>∃ i j,x=.int i/\y=.int j/\Q (g i j) H
def rU (g:Int->V):V->Hp->VK->Prop:=fun x H Q=>∃ i,x=.int i/\Q (g i) H
section
variable {X:Cx} {a b c:Expr} {ta tb tc:TE} {pos:Pos}
theorem a9x (ha:PE X a ta) (hb:PE X b tb) {pins:List (Addr × Obj)} {s:Shared} {σ:St} {H:Hp} {R:V->V->Hp->Prop} (I:Inv X pins σ H s)
  (h:ta σ H fun x H1=>tb σ H1 fun y H2=>R x y H2) {Q:Value->Shared->Prop} {f:Value->Value->Sem Value}
  (hf:∀ v u s2 x y H2,Inv X pins σ H2 s2->RelV x v->RelV y u->R x y H2->wpAny (model X.prog X.w) X.A (f v u) Q X.xe s2) :
  wpAny (model X.prog X.w) X.A (eval a X.env) (fun v az=>wpAny (model X.prog X.w) X.A (eval b X.env) (fun u aB=>wpAny (model X.prog X.w) X.A (f v u) Q X.xe aB) X.xe az) X.xe s:=by
 refine thn (ha pins s σ H _ I h) fun v s1 z0=>?_;obtain ⟨x,H1,I1,r1,q1⟩:=z0;refine thn (hb pins s1 σ H1 _ I1 q1) fun u s2 z0=>?_;obtain ⟨y,H2,I2,r2,q2⟩:=z0;exact hf v u s2 x y H2 I2 r1 r2 q2
theorem a1x {op:Operator} {r:R2} (ho:OpR X (binaryOp op) r) (ha:PE X a ta) (hb:PE X b tb):PE X (.BinOp a op b pos) (tOp r ta tb):=by
 intro pins s σ H Q I h;exact wpAny_BinOp (a9x ha hb I h fun v u s2 x y H2 I2 rx ry q=>ho pins s2 σ H2 x y v u Q I2 rx ry q)
theorem a7u {op:UnaryOp} {r:V->Hp->VK->Prop} (ho:UnR X (unaryOp op) r) (ha:PE X a ta):PE X (.UnaryOp op a pos) (tUn r ta):=by
 intro pins s σ H Q I h;exact UnaryOp_ (thn (ha pins s σ H _ I h) fun v s1 z7=>by obtain ⟨x,H1,I1,r1,q1⟩:=z7; exact ho pins s1 σ H1 x v Q I1 r1 q1)
theorem opI {f:Value->Value->Sem Value} {C:Int->Int->Prop} {g:Int->Int->Int}
  (rule:∀ (i j:Int) (t u:Tok) (s:Shared) (Q:Value->Shared->Prop) (E:Value->Shared->Prop),C i j->Q (.int (g i j) s.toks) { s with toks:=s.toks+1 }->wpAny (model X.prog X.w) X.A (f (.int i t) (.int j u)) Q E s) :
  OpR X f (rI C fun i j=>.int (g i j)):=by
 intro pins s σ H x y v u Q I rx ry h;obtain ⟨i,j,rfl,rfl,hc,q⟩:=h;obtain ⟨t,rfl⟩:=rx;obtain ⟨t',rfl⟩:=ry;exact rule i j t t' s _ _ hc ⟨.int (g i j),H,I.tok _,⟨_,rfl⟩,q⟩
theorem aa8 {f:Value->Value->Sem Value} {g:Int->Int->Int}
  (rule:∀ (i j:Int) (t u:Tok) (s:Shared) (Q:Value->Shared->Prop) (E:Value->Shared->Prop),Q (.int (g i j) s.toks) { s with toks:=s.toks+1 }->wpAny (model X.prog X.w) X.A (f (.int i t) (.int j u)) Q E s) :
  OpR X f (rI0 fun i j=>.int (g i j)):=by
 intro pins s σ H x y v u Q I rx ry h;obtain ⟨i,j,rfl,rfl,q⟩:=h;obtain ⟨t,rfl⟩:=rx;obtain ⟨t',rfl⟩:=ry;exact rule i j t t' s _ _ ⟨.int (g i j),H,I.tok _,⟨_,rfl⟩,q⟩
theorem a8o {f:Value->Value->Sem Value} {g:Int->Int->Bool}
  (rule:∀ (i j:Int) (t u:Tok) (s:Shared) (Q:Value->Shared->Prop) (E:Value->Shared->Prop),Q (.bool (g i j)) s->wpAny (model X.prog X.w) X.A (f (.int i t) (.int j u)) Q E s) :
  OpR X f (rI0 fun i j=>.bl (g i j)):=by
 intro pins s σ H x y v u Q I rx ry h;obtain ⟨i,j,rfl,rfl,q⟩:=h;obtain ⟨t,rfl⟩:=rx;obtain ⟨t',rfl⟩:=ry;exact rule i j t t' s _ _ ⟨.bl (g i j),H,I,rfl,q⟩
def a9m (i j:Int):Prop:=(-(2 ^ 64)<i/\i<2 ^ 64)\/(-(2 ^ 64)<j/\j<2 ^ 64)
theorem a9m.ok {i j:Int} (h:a9m i j):IntMulOk i j:=by
 rcases h with ⟨h1,h2⟩ | ⟨h1,h2⟩
 ·exact .of_left (intBits_le_64 h1 h2)
 ·exact .of_right (intBits_le_64 h1 h2)
theorem a74:OpR X (binaryOp .Add) (rI0 fun i j=>.int (i+j)):=aa8 fun _ _ _ _ _ _ _ q=>add_int q
theorem a5x:OpR X (binaryOp .Sub) (rI0 fun i j=>.int (i - j)):=aa8 fun _ _ _ _ _ _ _ q=>sub_int q
theorem a5w:OpR X (binaryOp .Mult) (rI a9m fun i j=>.int (i * j)):=opI fun _ _ _ _ _ _ _ hc q=>mul_int q hc.ok
theorem a68:OpR X (binaryOp .Mod) (rI (fun _ j=>0<j) fun i j=>.int (i%j)):=opI fun i j _ _ _ _ _ hc q=>by
 have h1:(0:Int)<j:=hc;exact mod_int' (by omega) (by rw [Int.fmod_eq_emod_of_nonneg i (by omega)]; exact q)
theorem unI {f:Value->Sem Value} {g:Int->Int}
  (rule:∀ (i:Int) (t:Tok) (s:Shared) (Q:Value->Shared->Prop) (E:Value->Shared->Prop),Q (.int (g i) s.toks) { s with toks:=s.toks+1 }->wpAny (model X.prog X.w) X.A (f (.int i t)) Q E s) :
  UnR X f (rU fun i=>.int (g i)):=by
 intro pins s σ H x v Q I rx h;obtain ⟨i,rfl,q⟩:=h;obtain ⟨t,rfl⟩:=rx;exact rule i t s _ _ ⟨.int (g i),H,I.tok _,⟨_,rfl⟩,q⟩
theorem a6s:UnR X (unaryOp .USub) (rU fun i=>.int (-i)):=unI fun _ _ _ _ _ q=>neg_int q
end
section
variable {X:Cx} {a b c:Expr} {ta tb tc:TE} {pos:Pos}
theorem a9u:OpR X (compareOp .Lt) (rI0 fun i j=>.bl (decide (i<j))):=a8o fun _ _ _ _ _ _ _ q=>lt_int q
theorem a8p:OpR X (compareOp .LtE) (rI0 fun i j=>.bl (decide (i<=j))):=a8o fun _ _ _ _ _ _ _ q=>le_int q
theorem a9a:OpR X (compareOp .Gt) (rI0 fun i j=>.bl (decide (j<i))):=a8o fun _ _ _ _ _ _ _ q=>gt_int q
theorem a9c:OpR X (compareOp .GtE) (rI0 fun i j=>.bl (decide (j<=i))):=a8o fun _ _ _ _ _ _ _ q=>ge_int q
theorem gw (b:Expr) {op:CmpOp} (h:op≠.In:=by decide) (h2:op≠.NotIn:=by decide):behindInMarks op b=false:=by
 have e1:(op==CmpOp.In)=false:=by cases op <;> first | rfl | exact absurd rfl h
 have e2:(op==CmpOp.NotIn)=false:=by cases op <;> first | rfl | exact absurd rfl h2
 cases b <;> simp [behindInMarks,e1,e2]
theorem a4q {op:CmpOp} {r:R2} (ho:OpR X (compareOp op) r) (ha:PE X a ta) (hb:PE X b tb) (hm:behindInMarks op b=false):PE X (.Compare a [op] [b] pos) (tOp r ta tb):=by
 intro pins s σ H Q I h;exact wpAny_Compare1 (a9x ha hb I h fun v u s2 x y H2 I2 rx ry q=>ho pins s2 σ H2 x y v u Q I2 rx ry q) hm
def a70 (t:TE):TT:=fun σ H Q=>t σ H fun x H'=>∃ k,x=.bl k/\Q k H'
theorem a3l {op:CmpOp} {r:R2} (ho:OpR X (compareOp op) r) (ha:PE X a ta) (hb:PE X b tb) (hm:behindInMarks op b=false):PT X (.Compare a [op] [b] pos) (a70 (tOp r ta tb)):=by
 intro pins s σ H Q I h
 refine wpAny_isTrue_Compare1 (thn (ha pins s σ H _ I h) fun v s1 ⟨x,H1,I1,r1,q1⟩=>thn (hb pins s1 σ H1 _ I1 q1) fun u s2 ⟨y,H2,I2,r2,q2⟩ =>
  thn (ho pins s2 σ H2 x y v u _ I2 r1 r2 q2) fun c s3 ⟨z,H3,I3,r3,k,e,q3⟩=>?_) hm
 subst e;cases r3;exact wpAny_truthy_bool ⟨H3,I3,q3⟩
noncomputable def a0y (r r':R2) (ta tb tc:TE):TE:=fun σ H Q=>ta σ H fun x H1=>tb σ H1 fun y H2=>r x y H2 fun z H3=>∃ k,z=.bl k /\
 (if k=true then tc σ H3 fun w' H4=>r' y w' H4 Q else Q (.bl false) H3)
theorem Zy {op bI:CmpOp} {r r':R2} (ho:OpR X (compareOp op) r) (aV:OpR X (compareOp bI) r') (ha:PE X a ta) (hb:PE X b tb) (hc:PE X c tc)
  (hm:lastMarks [op,bI] [b,c]=false:=by with_unfolding_all rfl):PE X (.Compare a [op,bI] [b,c] pos) (a0y r r' ta tb tc):=by
 intro pins s σ H Q I h
 refine Compare_chain (thn (ha pins s σ H _ I h) fun v s1 ⟨x,H1,I1,r1,q1⟩=>chain_link (thn (hb pins s1 σ H1 _ I1 q1) fun u s2 ⟨y,H2,I2,r2,q2⟩ =>
  thn (ho pins s2 σ H2 x y v u _ I2 r1 r2 q2) fun d s3 ⟨z,H3,I3,r3,k,e,q3⟩=>?_)) hm
 subst e;cases r3;refine wpAny_truthy_bool ?_;cases k with
 | false=>exact ite_ff ⟨.bl false,H3,I3,rfl,q3⟩
 | true=>exact ite_tt (chain_last (thn (hc pins s3 σ H3 _ I3 q3) fun w' s4 z7=>by obtain ⟨z',H4,I4,r4,q4⟩:=z7; exact aV pins s4 σ H4 y z' u w' Q I4 r2 r4 q4))
theorem Jb:(sizeLine:Nat)<2 ^ 63:=by rw [sizeLine_eq]; decide
theorem Sv:OpR X (binaryOp .Add) (fun x y H Q=>∃ i j,x=.str i/\y=.str j/\i.length+j.length<=sizeLine/\Q (.str (i++j)) H):=by
 intro pins s σ H x y v u Q I rx ry h;obtain ⟨i,j,rfl,rfl,hz,q⟩:=h;obtain ⟨t,rfl⟩:=rx;obtain ⟨t',rfl⟩:=ry;exact add_str (fun t' tk=>⟨.str (i++j),H,I.tok _,⟨_,rfl⟩,q⟩) hz
theorem vals1 {x:V} {us:List Value} (r:Vals [x] us):∃ u,us=[u]/\RelV x u:=by
 cases r with
 | cons r1 r2=>cases r2; exact ⟨_,rfl,r1⟩
theorem vals2 {x y:V} {us:List Value} (r:Vals [x,y] us):∃ u w',us=[u,w']/\RelV x u/\RelV y w':=by
 cases r with
 | cons r1 r2 =>
  cases r2 with
  | cons r3 r4=>cases r4; exact ⟨_,_,rfl,r1,r3⟩
theorem Uu (hc:X.calm=true):Iz X (.builtin "min") (fun xs H Q=>∃ i j,xs=[.int i,.int j]/\Q (.int (if j<i then j else i)) H):=by
 intro pins s σ H xs us Q I r h;obtain ⟨i,j,rfl,q⟩:=h;obtain ⟨u,w',rfl,⟨t,rfl⟩,⟨t',rfl⟩⟩:=vals2 r;refine min_two_ints (I.ok.hd hc) fun h' tk k=>⟨_,H,I.kept k,?_,q⟩
 by_cases hj:j<i
 ·rw [if_pos hj,if_pos hj]; exact ⟨_,rfl⟩
 ·rw [if_neg hj,if_neg hj]; exact ⟨_,rfl⟩
theorem Mj:Iz X (.type "str") (fun xs H Q=>∃ i,xs=[.int i]/\i.natAbs.log2<1920/\Q (.str (toString i)) H):=by
 intro pins s σ H xs us Q I r h;obtain ⟨i,rfl,hz,q⟩:=h;obtain ⟨u,rfl,t,rfl⟩:=vals1 r;exact PySem.P.str_of_int hz ⟨.str _,H,I.tok _,⟨_,rfl⟩,q⟩
end
end L2
namespace L2
open PySem PySem.Spec PyProof.Rows
structure a5i (h:Heap) (x dx C:Addr) (mA:Str->Option Value):Prop where
 obj:h.get? x=some (PySem.W.instObj C dx)
 ns:h.Ns1 dx mA
 ne:dx≠x
theorem Wu {h:Heap} {dx:Addr} {mA:Str->Option Value} (n:h.Ns1 dx mA):∃ od,h.get? dx=some od/\∀ name,PySem.W.lookIn name od=some (mA name):=by
 obtain ⟨o,es,ep,ho,hd,hk,_,hm⟩:=n;refine ⟨o,ho,fun name=>?_⟩;have e:=hm name;unfold nsFind findBy at e;rw [<- Array.find?_toList] at e;unfold PySem.W.lookIn;rw [hd];dsimp only;split
 ·rename_i y q;rw [q] at e;exact congrArg some e
 ·rename_i q;rw [q] at e
  have a:es.toList.any (·.refKey)=false:=by
   rw [List.any_eq_false];intro y hy;obtain ⟨z,t,hkey⟩:=hk y (Array.mem_toList_iff.mp hy);simp [DictEntry.refKey,hkey]
  have a':¬ es.toList.any (·.refKey)=true:=by rw [a]; exact Bool.false_ne_true
  rw [if_neg a'];exact congrArg some e
theorem a5i.look {h:Heap} {x dx C:Addr} {mA:Str->Option Value} (I:a5i h x dx C mA):∃ od,PySem.W.InstAt h x (PySem.W.instObj C dx) C (some od)/\∀ name,PySem.W.lookIn name od=some (mA name) :=
 let ⟨od,ho,hl⟩:=Wu I.ns
 ⟨od,⟨I.obj,rfl,rfl,ho⟩,hl⟩
section
variable {prog:Program} {w:World} {A:Around} {E:Value->Shared->Prop} {s:Shared} {K:PySem.W.Frag} {x dx C f:Addr} {mA:Str->Option Value} {name:Str} {v:Value}
theorem get_map {expr:Bool} {Q:Value->Shared->Prop} (X:K.In s.heap) (I:a5i s.heap x dx C mA) (hg:PySem.W.plainGet K C name=true) (hh:PySem.W.hasDictIn K C=true)
  (ha:PySem.W.findIn K (.ref C) name=some none) (hv:mA name=some v) (fL:PySem.W.handedIn v=true) (h:Q v { s with toks:=s.toks+1 }) :
  wpAny (model prog w) A (getAttr (.ref x) name expr) Q E s:=by
 obtain ⟨od,J,hl⟩:=I.look;exact PySem.W.get_value X J (PySem.W.plainGet_of hg).1 (PySem.W.findObj_own hh ha rfl (by rw [hl,hv])) fL h
theorem Zb {pl:Sem Bool} {Q:Value × List Value->Shared->Prop} (X:K.In s.heap) (I:a5i s.heap x dx C mA) (hg:PySem.W.plainGet K C name=true)
  (hf:PySem.W.findIn K (.ref C) name=some (some (.ref f))) (ht:PySem.W.isFn K (.ref f)=true) (hv:mA name=none) (h:Q (.ref f,[.ref x]) s) :
  wpAny (model prog w) A (getMethod (.ref x) name pl) Q E s:=by
 obtain ⟨od,J,hl⟩:=I.look;exact PySem.W.method_fn X J (PySem.W.plainGet_of hg).1 (PySem.W.plainGet_of hg).2 hf (beq_iff_eq.mp ht) (by show (PySem.W.lookIn name od).map (·.isSome)=some false; rw [hl,hv]; rfl) h
theorem a4e {ns:List Str} {Q:Unit->Shared->Prop} (X:K.In s.heap) (I:a5i s.heap x dx C mA)
  (hs:PySem.W.findIn K (.ref C) "__setattr__" = some (some (.builtin "object.__setattr__"))) (hp:PySem.W.plainOver K C=true) (ht:PySem.W.takerIn K C name=some none) (hh:PySem.W.hasDictIn K C=true)
  (hw:PySem.Within mA ns) (bM:ns.length<=sizeLine)
  (h:∀ h',a5i h' x dx C (fun y=>if y=name then some v else mA y)->Heap.SameBut dx s.heap h'->Q () { s with heap:=h',toks:=s.toks+2 }) :
  wpAny (model prog w) A (setAttr (.ref x) name v) Q E s:=by
 obtain ⟨od,J,hl⟩:=I.look;refine PySem.W.set_plain X J hs (PySem.W.osa_open (s:={ s with toks:=s.toks+1 }) (r:=none) X J hp ht fun b=>?_);obtain ⟨cd,hc,hd'⟩:=PySem.W.any_some hh;have hx:s.heap.get? x=some ⟨.ref C,some dx,.plain,#[]⟩:=I.obj;refine wpAny_bind (wpAny_pure (wpAny_bind (wpAny_bind (wpAny_loadPart hx (wpAny_bind (PySem.W.Looks.here (s:={ s with toks:=s.toks+1 }) (PySem.W.looks_clsIn X hc) ?_))))));rw [hd'];refine wpAny_pure (a:=some dx) (wpAny_bind (wpAny_pure (wpAny_bind ?_)));refine wpAny_nsSet1 (s:={ s with toks:=s.toks+1 }) I.ns fun h' dB bB=>?_;obtain ⟨oD,esD,epD,hoD,hdD,hcD⟩:=dB.count (PySem.Within.cons name v hw);refine wpAny_bind (wpAny_lookBehind hoD (by rw [hdD]; exact pastItsLine_dict (Nat.le_trans hcD (by rw [List.length_cons]; omega))) ?_);exact wpAny_pure (h _ ⟨(bB.2 _ (Ne.symm I.ne)).trans I.obj,dB,I.ne⟩ bB)
theorem a0g {R:Result->Shared->Prop} {vs:List Value} {kw:List (Str × Value)} (X:K.In s.heap) (hm:PySem.W.makesIn K C=true)
  (hi:PySem.W.findIn K (.ref C) "__init__" = some (some (.ref f))) (hf:PySem.W.typeIn K (.ref f)=some (.type "function"))
  (h:codeAny (model prog w) (A.under (.builtin "type.__call__" ⟨.ref C::vs,kw⟩)) (.call (.ref f) ⟨.ref (s.heap.objs.size+1)::vs,kw⟩) (PySem.W.InitBack (s.heap.objs.size+1) R)
   { s with heap:=(s.heap.push PySem.W.emptyDict).push (PySem.W.instObj C s.heap.objs.size) }) :
  codeAny (model prog w) A (.call (.ref C) ⟨vs,kw⟩) R s:=by
 obtain ⟨hh,g,d,t,os⟩:=s;exact PySem.W.make_core (PySem.W.makes_of X hm) (PySem.W.looks_findIn X hi) (fun self=>PySem.W.bind_fn X self hf) (.inl rfl) h
end
noncomputable def K5 (f:Str) (v:V):List (Str × V)->List (Str × V)
 | []=>[(f,v)]
 | (g,x)::r=>if g=f then (g,v)::r else (g,x)::K5 f v r
theorem Hf (f g:Str) (v:V):∀ fs:List (Str × V),(K5 f v fs).lookup g=if g=f then some v else fs.lookup g
 | []=>by
  show List.lookup g [(f,v)]=_
  by_cases h:g=f
  ·have hb:(g==f)=true:=beq_iff_eq.mpr h;simp only [List.lookup,hb,if_pos h]
  ·have hb:(g==f)=false:=beq_eq_false_iff_ne.mpr h;simp only [List.lookup,hb,if_neg h]
 | (k,x)::r=>by
  have ih:=Hf f g v r;rw [show K5 f v ((k,x)::r)=(if k=f then (k,v)::r else (k,x)::K5 f v r) from rfl]
  by_cases hk:k=f
  ·rw [if_pos hk]
   by_cases h:g=k
   ·have hb:(g==k)=true:=beq_iff_eq.mpr h;simp only [List.lookup,hb,if_pos (h.trans hk)]
   ·have hb:(g==k)=false:=beq_eq_false_iff_ne.mpr h;simp only [List.lookup,hb,if_neg (fun e:g=f=>h (e.trans hk.symm))]
  ·rw [if_neg hk]
   by_cases h:g=k
   ·have hb:(g==k)=true:=beq_iff_eq.mpr h;simp only [List.lookup,hb,if_neg (fun e:g=f=>hk (h.symm.trans e))]
   ·have hb:(g==k)=false:=beq_eq_false_iff_ne.mpr h;simp only [List.lookup,hb];exact ih
theorem Hh (f:Str) (v:V):∀ fs:List (Str × V),f∈(K5 f v fs).map (·.1)/\∀ g,g∈fs.map (·.1)->g∈(K5 f v fs).map (·.1)
 | []=>⟨by simp [K5],fun g h=>by simp at h⟩
 | (k,x)::r=>by
  obtain ⟨i1,i2⟩:=Hh f v r;rw [show K5 f v ((k,x)::r)=(if k=f then (k,v)::r else (k,x)::K5 f v r) from rfl]
  by_cases hk:k=f
  ·rw [if_pos hk];subst hk;exact ⟨by simp,fun g h=>by simpa using h⟩
  ·rw [if_neg hk];refine ⟨?_,fun g h=>?_⟩
   ·rw [List.map_cons];exact List.mem_cons_of_mem _ i1
   ·rw [List.map_cons] at h ⊢;rcases List.mem_cons.mp h with e | e
    ·exact List.mem_cons.mpr (.inl e)
    ·exact List.mem_cons_of_mem _ (i2 g e)
theorem Hu (f:Str) (v:V):∀ fs:List (Str × V),(K5 f v fs).length<=fs.length+1
 | []=>by simp [K5]
 | (k,x)::r=>by
  have ih:=Hu f v r;rw [show K5 f v ((k,x)::r)=(if k=f then (k,v)::r else (k,x)::K5 f v r) from rfl]
  by_cases hk:k=f
  ·rw [if_pos hk,List.length_cons,List.length_cons]; omega
  ·rw [if_neg hk,List.length_cons,List.length_cons]; omega
theorem Kw.some_of {v:V} {o:Option Value} (r:Kw (some v) o):∃ u,o=some u/\RelV v u:=by
 cases o with
 | none=>exact (show False from r).elim
 | some u=>exact ⟨u,rfl,r⟩
theorem Kw.none_of {o:Option Value} (r:Kw none o):o=none:=by
 cases o with
 | none=>rfl
 | some u=>exact (show False from r).elim
theorem Xm {v:V} {u:Value} (r:RelV v u):PySem.W.handedIn u=true:=by
 cases v with
 | non=>cases (show u=Value.none from r); rfl
 | bl b=>cases (show u=Value.bool b from r); rfl
 | int i=>obtain ⟨t,e⟩:=(show ∃ t,u=Value.int i t from r); cases e; rfl
 | str x=>obtain ⟨t,e⟩:=(show ∃ t,u=Value.str x t from r); cases e; rfl
 | byt b=>obtain ⟨t,e⟩:=(show ∃ t,u=Value.bytes b t from r); cases e; rfl
 | flt b=>obtain ⟨t,e⟩:=(show ∃ t,u=Value.float b t from r); cases e; rfl
 | ref a=>cases (show u=Value.ref a from r); rfl
 | ty n=>cases (show u=Value.type n from r); rfl
section
variable {P:Program} {w:World} {H H':Hp} {h h':Heap} {a C dx:Addr} {fs cP:List (Str × V)}
theorem Oh (hok:HOk P w H h) (e:H a=some (.ins C dx fs)):∃ mA,a5i h a dx C mA/\(∀ f,Kw (fs.lookup f) (mA f))/\PySem.Within mA (fs.map (·.1))/\fs.length<=1000/\H dx=some (.own a):=by
 obtain ⟨d,z,ne,ob,mA,n,r,q⟩:=(show yg P w H h a (.ins C dx fs) from hok a _ e);exact ⟨mA,⟨ob,n,ne⟩,r,q,z,d⟩
end
structure Cls (K:PySem.W.Frag) (C:Addr):Prop where
 pg:PySem.W.plainGet K C Str.empty=true
 hd:PySem.W.hasDictIn K C=true
 po:PySem.W.plainOver K C=true
 sa:PySem.W.findIn K (.ref C) "__setattr__" = some (some (.builtin "object.__setattr__"))
theorem Cls.get {K:PySem.W.Frag} {C:Addr} (c:Cls K C) (f:Str):PySem.W.plainGet K C f=true:=c.pg
def Dm (K:PySem.W.Frag) (C:Addr) (f:Str):Prop:=PySem.W.findIn K (.ref C) f=some none
theorem Dm.taker {K:PySem.W.Frag} {C:Addr} {f:Str} (n:Dm K C f):PySem.W.takerIn K C f=some none:=by
 unfold PySem.W.takerIn;rw [show PySem.W.findIn K (.ref C) f=some none from n];rfl
structure Con (K:PySem.W.Frag) (C:Addr) (f:Str) (v:V) (u:Value):Prop where
 at_:PySem.W.findIn K (.ref C) f=some (some u)
 rel:RelV v u
 get:PySem.W.specialIn K u "__get__" = some none
 cp:PySem.W.copiedNames.contains f=false
structure Meth (K:PySem.W.Frag) (C:Addr) (m:Str) (f:Addr):Prop where
 at_:PySem.W.findIn K (.ref C) m=some (some (.ref f))
 fn:PySem.W.isFn K (.ref f)=true
 kp:PySem.W.keepIn K (.ref f)=true
section
variable {X:Cx} {pins:List (Addr × Obj)} {σ:St} {H:Hp} {s:Shared} {a C dx:Addr} {fs:List (Str × V)} {f:Str} {v:V} {A:Around} {E:Value->Shared->Prop}
theorem U0 {b:Bool} {Q:Value->Shared->Prop} (I:Inv X pins σ H s) (e:H a=some (.ins C dx fs)) (c:Cls X.K C) (n:Dm X.K C f) (l:fs.lookup f=some v)
  (h:∀ u s',Inv X pins σ H s'->RelV v u->Q u s'):wpAny (model X.prog X.w) A (getAttr (.ref a) f b) Q E s:=by
 obtain ⟨mA,O,r,_,_,_⟩:=Oh I.hok e;obtain ⟨u,hu,ru⟩:=Kw.some_of (v:=v) (o:=mA f) (by rw [<- l]; exact r f);exact get_map I.kIn O (c.get f) c.hd n hu (Xm ru) (h u _ (I.tok _) ru)
theorem J8 {m:Str} {g:Addr} {pl:Sem Bool} {Q:Value × List Value->Shared->Prop} (I:Inv X pins σ H s) (e:H a=some (.ins C dx fs)) (c:Cls X.K C) (k:Meth X.K C m g) (l:fs.lookup m=none)
  (h:Q (.ref g,[.ref a]) s):wpAny (model X.prog X.w) A (getMethod (.ref a) m pl) Q E s:=by
 obtain ⟨mA,O,r,_,_,_⟩:=Oh I.hok e;have hn:mA m=none:=Kw.none_of (by rw [<- l]; exact r m);exact Zb I.kIn O (c.get m) k.at_ k.fn hn h
theorem Tq {y:V} {u:Value} {Q:Unit->Shared->Prop} (I:Inv X pins σ H s) (e:H a=some (.ins C dx fs)) (c:Cls X.K C) (n:Dm X.K C f) (hl:fs.length<1000) (ry:RelV y u)
  (h:∀ s',Inv X pins σ (upd H a (.ins C dx (K5 f y fs))) s'->Q () s'):wpAny (model X.prog X.w) A (setAttr (.ref a) f u) Q E s:=by
 obtain ⟨mA,O,r,wi,_,ho⟩:=Oh I.hok e;have hz:(fs.map (·.1)).length<=sizeLine:=by rw [List.length_map,sizeLine_eq]; omega
 refine a4e I.kIn O c.sa c.po n.taker c.hd wi hz fun h' O' sb=>h _ ?_;have hd:∃ o,h'.get? dx=some o:=let ⟨o,_,_,e',_⟩:=O'.ns; ⟨o,e'⟩;refine I.write (x:=a) (e:=dx) (by rw [e]; exact True.intro) (.inr ho) (fun b q hb z=>(sb.2 b hb).trans z) hd ?_;refine ⟨by rw [g8 O.ne]; exact ho,?_,O.ne,O'.obj,_,O'.ns,fun g=>?_,fun g hg=>?_⟩
 ·have:=Hu f y fs; omega
 ·show Kw ((K5 f y fs).lookup g) (if g=f then some u else mA g);rw [Hf]
  by_cases q:g=f
  ·rw [if_pos q,if_pos q]; exact ry
  ·rw [if_neg q,if_neg q]; exact r g
 ·by_cases q:g=f
  ·rw [q]; exact (Hh f y fs).1
  ·refine (Hh f y fs).2 g (wi g fun z=>hg ?_);show (if g=f then some u else mA g)=none;rw [if_neg q]; exact z
theorem Inv.made (I:Inv X pins σ H s):Inv X pins σ (upd (upd H s.heap.objs.size (.own (s.heap.objs.size+1))) (s.heap.objs.size+1) (.ins C s.heap.objs.size []))
  { s with heap:=(s.heap.push PySem.W.emptyDict).push (PySem.W.instObj C s.heap.objs.size) }:=by
 have e1:(s.heap.push PySem.W.emptyDict).get? s.heap.objs.size=some PySem.W.emptyDict:=Heap.get?_push_size s.heap rfl
 have e2:((s.heap.push PySem.W.emptyDict).push (PySem.W.instObj C s.heap.objs.size)).get? (s.heap.objs.size+1)=some (PySem.W.instObj C s.heap.objs.size):=by
  have:=Heap.get?_push_size (s.heap.push PySem.W.emptyDict) (o:=PySem.W.instObj C s.heap.objs.size) rfl
  rwa [Heap.size_push] at this
 have e3:(s.heap.push PySem.W.emptyDict).Ns s.heap.objs.size (fun _=>none):=⟨PySem.W.emptyDict,#[],_,e1,rfl,(fun e he=>absurd he (by simp)),fun _=>rfl⟩;have I1:=I.laid (a:=s.heap.objs.size) (o:=.own (s.heap.objs.size+1)) (h':=s.heap.push PySem.W.emptyDict) (t':=s.toks) (fun b u q=>Heap.get?_push_of_some _ q) (Nat.le_refl _) ⟨_,e1⟩;refine I1.laid (a:=s.heap.objs.size+1) (o:=.ins C s.heap.objs.size []) (t':=s.toks) (fun b u q=>Heap.get?_push_of_some _ q) (Nat.le_of_eq (Heap.size_push _ _)) ?_;have ne:s.heap.objs.size≠s.heap.objs.size+1:=Nat.ne_of_lt (Nat.lt_succ_self _);refine ⟨by rw [g8 ne,dj],Nat.zero_le _,ne,e2,fun _=>none,(Heap.Ns1.of_empty e3).at fun o q=>Heap.get?_push_of_some _ q,fun _=>True.intro,fun y hy=>absurd rfl hy⟩
theorem Xc {prog:Program} {w:World} {env:Env} {e:Expr} {f:Str} {pos:Pos} {s:Shared} {Q:Value->Shared->Prop} (hb:attributeBase e f env (eval e env)=eval e env)
  (h:wpAny (model prog w) A (eval e env) (fun o az=>wpAny (model prog w) A (getAttr o f true) Q E az) E s):wpAny (model prog w) A (eval (.Attribute e f pos) env) Q E s :=
 Attribute_any_ h (by rw [arm_eval_Attribute,hb])
end
noncomputable def aap (K:PySem.W.Frag) (ta:TE) (f:Str):TE:=fun σ H Q=>ta σ H fun x H1=>∃ a C dx fs v,x=.ref a/\H1 a=some (.ins C dx fs)/\Cls K C/\Dm K C f/\fs.lookup f=some v/\Q v H1
noncomputable def aas (K:PySem.W.Frag) (ta tv:TE) (f:Str):TS:=fun D σ H=>tv σ H fun y H1=>ta σ H1 fun x H2=>∃ a C dx fs,x=.ref a/\H2 a=some (.ins C dx fs)/\Cls K C/\Dm K C f/\fs.length<1000 /\
 D.nx σ (upd H2 a (.ins C dx (K5 f y fs)))
section
variable {X:Cx} {o e value:Expr} {f:Str} {pos pos' aM:Pos} {ta tv:TE}
theorem a7e (he:PE X e ta) (hb:attributeBase e f X.env (eval e X.env)=eval e X.env):PE X (.Attribute e f pos) (aap X.K ta f):=by
 intro pins s σ H Q I h;refine Xc hb (thn (he pins s σ H _ I h) fun u s1 z0=>?_);obtain ⟨x,H1,I1,rx,a,C,dx,fs,v,ex,ea,c,n,l,q⟩:=z0;subst ex;obtain rfl:u=Value.ref a:=rx;exact U0 I1 ea c n l fun u' s2 I2 ru=>⟨v,H1,I2,ru,q⟩
theorem a66 (ha:PE X o ta) (hv:PE X value tv) (hs:swapsWith value (some (.Attribute o f pos')) pos.line X.env=pure false):PS X (.Assign [.Attribute o f pos'] value pos) (aas X.K ta tv f):=by
 intro pins s σ H D I h;refine plainObj_wpAny_Assign_Attribute (thn (hv pins s σ H _ I h) fun u s1 ⟨y,H1,I1,ry,q⟩=>thn (ha pins s1 σ H1 _ I1 q) fun ov s2 ⟨x,H2,I2,rx,a,C,dx,fs,ex,ea,c,n,l,q2⟩=>?_) hs;subst ex;obtain rfl:ov=Value.ref a:=rx;exact Tq I2 ea c n l ry fun s3 I3=>⟨σ,_,I3,q2⟩
end
section
variable {X:Cx} {pins:List (Addr × Obj)} {σ:St} {H:Hp} {s:Shared} {A:Around} {E:Value->Shared->Prop} {Q:Value->Shared->Prop} {c:Value} {b:Bool}
inductive Xy (K:PySem.W.Frag) (H:Hp):V->Value->Prop where
 | non:Xy K H .non (.type "NoneType")
 | bl (x:Bool):Xy K H (.bl x) (.type "bool")
 | int (i:Int):Xy K H (.int i) (.type "int")
 | str (x:Str):Xy K H (.str x) (.type "str")
 | flt (x:UInt64):Xy K H (.flt x) (.type "float")
 | lst {a:Addr} {xs:List V} (e:H a=some (.lst xs)):Xy K H (.ref a) (.type "list")
 | frz {a:Addr} {o:Obj} {xs:List V} (e:H a=some (.frz o (.lst xs))):Xy K H (.ref a) (.type "list")
 | tup {a:Addr} {xs:List V} (e:H a=some (.tup xs)):Xy K H (.ref a) (.type "tuple")
 | dK {a:Addr} {aw:List (Key × V)} (e:H a=some (.dK aw)):Xy K H (.ref a) (.type "dict")
 | dT {a:Addr} {aw:List (List Key × V)} (e:H a=some (.dT aw)):Xy K H (.ref a) (.type "dict")
 | ins {a C dx:Addr} {fs:List (Str × V)} (e:H a=some (.ins C dx fs)) (cl:Cls K C) (ha:PySem.W.findIn K (.ref C) "__class__" = some (some (.builtin "object.__class__")))
   (hn:PySem.W.specialIn K (.builtin "object.__class__") "__get__" = some (some (.builtin "getset_descriptor.__get__"))) (gC:PySem.W.takesIn K (.builtin "object.__class__")=some true)
   (hm:PySem.W.mroIn K C (.type "object")=some true):Xy K H (.ref a) (.ref C)
end
end L2
namespace L2
open PySem PySem.Spec PyProof.Rows
structure Ab (k:Nat) (A:Around):Prop where
 hd:A.handled=none
 dp:A.depth+3 * k+5<recursionLimit
 un:A.units+16 * k+200<cLine
theorem Ab.mono {j k:Nat} {A:Around} (r:Ab k A) (h:j<=k):Ab j A:=⟨r.hd,by have:=r.dp; omega,by have:=r.un; omega⟩
theorem Ab.deeper {k:Nat} {A:Around} (r:Ab (k+1) A) (env:Env):Ab k (A.deeper env) :=
 ⟨r.hd,by have:=r.dp; show A.depth+1+3 * k+5<_; omega,by have:=r.un; show A.units+3+16 * k+200<_; omega⟩
theorem Ug {A:Around} {C:Addr} {us:List Value} {kw:List (Str × Value)}:(A.under (.builtin "type.__call__" ⟨.ref C::us,kw⟩)).depth=A.depth+1:=by
 first | rfl | simp [Around.under,Code.weight,Code.isCreation,Code.isGuard,Code.isCaller,Code.frames,Code.isFrame,guardIds]
theorem U9 {A:Around} {C:Addr} {us:List Value} {kw:List (Str × Value)}:(A.under (.builtin "type.__call__" ⟨.ref C::us,kw⟩)).units=A.units+1:=by
 first | rfl | simp [Around.under,Code.cUnits,Code.frames,Code.isFrame]
theorem Ab.make {k:Nat} {A:Around} (r:Ab (k+1) A) (C:Addr) (us:List Value) (kw:List (Str × Value)):Ab k (A.under (.builtin "type.__call__" ⟨.ref C::us,kw⟩)) :=
 ⟨r.hd,by have:=r.dp; rw [Ug]; omega,by have:=r.un; rw [U9]; omega⟩
theorem Ab.depth {k:Nat} {A:Around} (r:Ab k A):A.depth<recursionLimit:=by have:=r.dp; omega
theorem Ab.units {k:Nat} {A:Around} (r:Ab k A):A.units+64<cLine:=by have:=r.un; omega
def a3g:TA:=fun _ H Q=>Q [] H
def Sw (ta:TE) (tr:TA):TA:=fun σ H Q=>ta σ H fun x H1=>tr σ H1 fun xs H2=>Q (x::xs) H2
section
variable {X:Cx} {e:Expr} {es:List Expr} {te:TE} {t:TA} {pos:Pos}
theorem v9:PA X [] a3g:=fun _ _ _ _ H Q I h=>Calls.spliced_nil ⟨[],H,I,.nil,h⟩
theorem nu (ha:PE X e te) (hr:PA X es t) (hs:starEach (e::es) X.env=(false,eval e X.env)::starEach es X.env:=by rfl):PA X (e::es) (Sw te t):=by
 intro pos pins s σ H Q I h;rw [hs];show wpAny _ _ (spliced ((false,eval e X.env)::backTo pos (starEach es X.env))) _ _ s;refine Calls.spliced_cons (thn (ha pins s σ H _ I h) fun u s1 z0=>?_);obtain ⟨x,H1,I1,r1,q1⟩:=z0;exact thn (hr pos pins s1 σ H1 _ I1 q1) fun us s2 ⟨xs,H2,I2,r2,q2⟩=>⟨x::xs,H2,I2,.cons r1 r2,q2⟩
noncomputable def ab3 (t:TA):TE:=fun σ H Q=>t σ H fun xs H1=>xs.length<=sizeLine/\∀ p,H1 p=none->Q (.ref p) (upd H1 p (.tup xs))
noncomputable def aar (t:TA):TE:=fun σ H Q=>t σ H fun xs H1=>xs.length<=sizeLine/\∀ p,H1 p=none->Q (.ref p) (upd H1 p (.lst xs))
theorem a0x {x1} (h:PA X es t):PE X (.Tuple es x1 pos) (ab3 t):=by
 intro pins s σ H Q I hq;refine wpAny_Tuple_spliced (thn (h pos pins s σ H _ I hq) fun us s1 ⟨xs,H1,I1,r,z,q⟩=>⟨by rw [<- r.length]; exact z,?_⟩);have hf:H1 s1.heap.objs.size=none:=I1.hok.fresh (Nat.le_refl _);refine ⟨.ref s1.heap.objs.size,upd H1 s1.heap.objs.size (.tup xs),I1.laid (t':=s1.toks) (fun b u e=>Heap.get?_push_of_some _ e) (Nat.le_refl _) ?_,rfl,q _ hf⟩;exact ⟨z,us,r,⟨_,Heap.get?_push_size _ rfl,rfl,rfl,_,rfl⟩⟩
theorem Xf (h:PA X es t):PE X (.List es pos) (aar t):=by
 intro pins s σ H Q I hq;refine wpAny_List_spliced (thn (h pos pins s σ H _ I hq) fun us s1 ⟨xs,H1,I1,r,z,q⟩=>⟨by rw [<- r.length]; exact z,?_⟩);have hf:H1 s1.heap.objs.size=none:=I1.hok.fresh (Nat.le_refl _);refine ⟨.ref s1.heap.objs.size,upd H1 s1.heap.objs.size (.lst xs),I1.laid (t':=s1.toks) (fun b u e=>Heap.get?_push_of_some _ e) (Nat.le_refl _) ?_,rfl,q _ hf⟩;exact ⟨z,us,0,r,Heap.get?_push_size _ rfl⟩
end
abbrev Sp:=List V->Hp->VK->XK->Prop
abbrev CXT:=List Env->Hp->Shared->XK->Value->Shared->Prop
structure a3j (P:Program) (w:World) (K:PySem.W.Frag) (mg:Str->Option Value) (base:Heap) (A:Around) (outer:List Env) (s:Shared) (H:Hp):Prop where
 frames:A.frames=some outer
 mod:Mod K mg base
 bs:∀ b o,base.get? b=some o->s.heap.get? b=some o/\H b=none
 bsz:base.objs.size<=s.heap.objs.size
 Pr:s.heap.FunFrames base outer
 frf:∀ b∈frs outer,H b=none
 hok:HOk P w H s.heap
 bare:AllBare s.gens
def CE (outer:List Env) (P:Program) (w:World) (H:Hp) (s:Shared) (Q:VK) (u:Value) (s':Shared):Prop :=
 ∃ v H',s'.os=s.os/\AllBare s'.gens/\Un (frs outer) [] H H' s.heap s'.heap/\HOk P w H' s'.heap/\RelV v u/\Q v H'
def CR (CX:CXT) (outer:List Env) (P:Program) (w:World) (H:Hp) (s:Shared) (Q:VK) (E:XK) (r:Result) (s':Shared):Prop :=
 match r with
 | .ok (.ret u)=>CE outer P w H s Q u s'
 | .ok _=>False
 | .error e=>CX outer H s E e s'
structure Bj (P:Program) (w:World) (K:PySem.W.Frag) (mg:Str->Option Value) (base:Heap) (CX:CXT) (k:Nat) (f:Addr) (fd:FuncData) (ps:List Str) (sp:Sp):Prop where
 len:∀ vs H Q E,sp vs H Q E->vs.length=ps.length
 run:∀ (A:Around) (outer:List Env) (s:Shared) (H:Hp) (args:Args) (us:List Value) (vs:List V) (Q:VK) (E:XK),Ab k A->a3j P w K mg base A outer s H->BindsTo s fd args (ps.zip us)->Vals vs us->sp vs H Q E ->
  codeAny (model P w) A (.call (.ref f) args) (CR CX outer P w H s Q E) s
theorem Bj.mono {P:Program} {w:World} {K:PySem.W.Frag} {mg:Str->Option Value} {base:Heap} {CX:CXT} {j k:Nat} {f:Addr} {fd:FuncData} {ps:List Str} {sp:Sp} (F:Bj P w K mg base CX j f fd ps sp) (h:j<=k) :
  Bj P w K mg base CX k f fd ps sp:=⟨F.len,fun A outer s H args us vs Q E hr=>F.run A outer s H args us vs Q E (hr.mono h)⟩
theorem Bj.imp {P:Program} {w:World} {K:PySem.W.Frag} {mg:Str->Option Value} {base:Heap} {CX:CXT} {k:Nat} {f:Addr} {fd:FuncData} {ps:List Str} {sp eZ:Sp} (F:Bj P w K mg base CX k f fd ps sp)
  (h:∀ vs H Q E,eZ vs H Q E->sp vs H Q E):Bj P w K mg base CX k f fd ps eZ :=
 ⟨fun vs H Q E q=>F.len vs H Q E (h _ _ _ _ q),fun A outer s H args us vs Q E hr he hb hv hs=>F.run A outer s H args us vs Q E hr he hb hv (h _ _ _ _ hs)⟩
theorem a3j.make {P:Program} {w:World} {K:PySem.W.Frag} {mg:Str->Option Value} {base:Heap} {A:Around} {outer:List Env} {s:Shared} {H:Hp} (e:a3j P w K mg base A outer s H) (C:Addr) (us:List Value) (kw:List (Str × Value)) :
  a3j P w K mg base (A.under (.builtin "type.__call__" ⟨.ref C::us,kw⟩)) outer s H:=⟨by first | exact e.frames | (simpa [Around.under,Code.envs,Code.isFrame,pushEnvs] using e.frames),e.mod,e.bs,e.bsz,e.Pr,e.frf,e.hok,e.bare⟩
section
variable {X:Cx} {pins:List (Addr × Obj)} {σ:St} {H:Hp} {s s':Shared}
theorem Inv.env0 (I:Inv X pins σ H s):a3j X.prog X.w X.K X.mg X.base X.A X.stack s H :=
 ⟨I.ok.frames,I.ok.mod,I.bs,Nat.le_trans I.ok.bsz I.sz,I.stack,I.Nh,I.hok,I.bare⟩
theorem Inv.after {Q:VK} {u:Value} (I:Inv X pins σ H s) (h:CE X.stack X.prog X.w H s Q u s'):EP X pins σ Q u s':=by
 obtain ⟨v,H',os,bare,un,hok,r,q⟩:=h;obtain ⟨hh,g,d,t,os'⟩:=s';obtain rfl:os'=s.os:=os;exact ⟨v,H',I.call (h':=hh) (g':=g) (d':=d) (t':=t) (ch:=[]) un hok bare (fun b z=>absurd z (by simp)),r,q⟩
end
def a8y (sp:Sp) (aS:List V) (E:XK) (t:TA):TE:=fun σ H Q=>t σ H fun vs H1=>sp (vs++aS) H1 Q E
noncomputable def a6t (C:Addr) (m:Str) (sp:Sp) (aS:List V) (E:XK) (ta:TE) (t:TA):TE:=fun σ H Q=>ta σ H fun x H1=>∃ a dx fs,x=.ref a/\H1 a=some (.ins C dx fs)/\fs.lookup m=none /\
 t σ H1 fun vs H2=>sp (x::(vs++aS)) H2 Q E
noncomputable def a9r (C:Addr) (sp:Sp) (aS:List V) (E:XK) (t:TA):TE:=fun σ H Q=>t σ H fun vs H1=>∀ x dx,H1 x=none->H1 dx=none->dx≠x ->
 sp (.ref x::(vs++aS)) (upd (upd H1 dx (.own x)) x (.ins C dx [])) (fun v H2=>v=.non/\Q (.ref x) H2) E
def Binds (K:PySem.W.Frag) (fd:FuncData) (ps:List Str) (ds:List Value):Prop :=
 ∀ (s:Shared) (us:List Value),K.In s.heap->(us++ds).length=ps.length->BindsTo s fd ⟨us,[]⟩ (ps.zip (us++ds))
theorem Binds.all {K:PySem.W.Frag} {fd:FuncData} {ps:List Str} (h:∀ us:List Value,us.length=ps.length->bindArgs fd ⟨us,[]⟩=pure (ps.zip us)):Binds K fd ps []:=fun s us _ hl=>by
 rw [List.append_nil] at hl ⊢;exact .of_eq (h us hl)
def Passes (CX:CXT) (X:Cx) (E:XK):Prop:=∀ (pins:List (Addr × Obj)) (σ:St) (H:Hp) (s:Shared) (e:Value) (s':Shared),Inv X pins σ H s->CX X.stack H s E e s'->X.xe e s'
section
variable {X:Cx} {CX:CXT} {k:Nat} {f C:Addr} {fd:FuncData} {ps:List Str} {sp:Sp} {aS:List V} {ds:List Value} {E:XK} {x m:Str} {p pos apos:Pos} {e o:Expr} {es:List Expr} {ta:TE} {t:TA}
theorem Y4 {pins:List (Addr × Obj)} {σ:St} {H:Hp} {s:Shared} {Q:VK} {us:List Value} {vs:List V} (F:Bj X.prog X.w X.K X.mg X.base CX k f fd ps sp) (hr:Ab k X.A) (hb:Binds X.K fd ps ds) (hd:Vals aS ds) (hx:Passes CX X E)
  (I:Inv X pins σ H s) (r:Vals vs us) (h:sp (vs++aS) H Q E):wpAny (model X.prog X.w) X.A (call (.ref f) us) (EP X pins σ Q) X.xe s:=by
 have r2:Vals (vs++aS) (us++ds):=r.append hd;have hl:(us++ds).length=ps.length:=by rw [<- r2.length]; exact F.len _ _ _ _ h
 refine wpAny_call (codeAny_mono (F.run X.A X.stack s H ⟨us,[]⟩ (us++ds) (vs++aS) Q E hr I.env0 (hb s us I.kIn hl) r2 h) fun r s' hq=>?_);cases r with
 | error e=>exact hx pins σ H s e s' I hq
 | ok fl =>
  cases fl with
  | ret u=>exact I.after hq
  | next=>exact False.elim hq
  | brk=>exact False.elim hq
  | cont=>exact False.elim hq
theorem Vn (F:Bj X.prog X.w X.K X.mg X.base CX k f fd ps sp) (hr:Ab k X.A) (hg:Gl X x) (hm:X.mg x=some (.ref f)) (hk:PySem.W.keepIn X.K (.ref f)=true) (hb:Binds X.K fd ps ds) (hd:Vals aS ds) (hx:Passes CX X E)
  (ha:PA X (e::es) t) (aP:(x==("__debug__" : Str))=false:=by decide) (he:starEach (e::es) X.env=(false,eval e X.env)::starEach es X.env:=by rfl) (aI:(backTo pos (starEach es X.env)).any (·.1)=false:=by rfl) :
  PE X (.Call (.Name x p) (e::es) [] pos) (a8y sp aS E t):=by
 intro pins s σ H Q I h;refine wpAny_Call_Name_kw (Io I hg hm ?_ aP);refine PySem.W.callWith_K (h₀:=X.base) I.ok.mod.kin hk (thn (ha pos pins s σ H _ I h) fun us s1 ⟨vs,H1,I1,r,q⟩=>⟨I1.kIn,?_⟩) he aI;exact Y4 F hr hb hd hx I1 r q
theorem a3a {pl:Sem Bool} (he:PE X o ta) (c:Cls X.K C) (hm:Meth X.K C m f) (F:Bj X.prog X.w X.K X.mg X.base CX k f fd ps sp) (hr:Ab k X.A) (hb:Binds X.K fd ps ds) (hd:Vals aS ds) (hx:Passes CX X E) (ha:PA X (e::es) t)
  (hst:starEach (e::es) X.env=(false,eval e X.env)::starEach es X.env:=by rfl) (aI:(backTo pos (starEach es X.env)).any (·.1)=false:=by rfl)
  (ht:eval (.Call (.Attribute o m apos) (e::es) [] pos) X.env=(do
   let ov <- eval o X.env
   standAt apos.atName
   let (f,first) <- holding [ov] (getMethod ov m pl)
   callWith pos f first (backTo pos (starEach (e::es) X.env)) (backToKw pos (keywordEach [] X.env))):=by rfl) :
  PE X (.Call (.Attribute o m apos) (e::es) [] pos) (a6t C m sp aS E ta t):=by
 intro pins s σ H Q I h;refine PySem.W.methodCall_KW (pl:=pl) (thn (he pins s σ H _ I h) fun u s1 z0=>?_) ht;obtain ⟨x,H1,I1,rx,a,dx,fs,ex,ea,l,q⟩:=z0;subst ex;obtain rfl:u=Value.ref a:=rx;refine J8 I1 ea c hm l ?_;refine PySem.W.callWith_K (first:=[.ref a]) (h₀:=X.base) I.ok.mod.kin hm.kp (thn (ha pos pins s1 σ H1 _ I1 q) fun us s2 ⟨vs,H2,I2,r,q2⟩=>⟨I2.kIn,?_⟩) hst aI;exact Y4 (us:=.ref a::us) (vs:=.ref a::vs) F hr hb hd hx I2 (.cons rfl r) q2
theorem Ys {pl:Sem Bool} (he:PE X o ta) (c:Cls X.K C) (hm:Meth X.K C m f) (F:Bj X.prog X.w X.K X.mg X.base CX k f fd ps sp) (hr:Ab k X.A) (hb:Binds X.K fd ps ds) (hd:Vals aS ds) (hx:Passes CX X E)
  (ht:eval (.Call (.Attribute o m apos) [] [] pos) X.env=(do
   let ov <- eval o X.env
   standAt apos.atName
   let (f,first) <- holding [ov] (getMethod ov m pl)
   callWith pos f first (backTo pos (starEach [] X.env)) (backToKw pos (keywordEach [] X.env))):=by rfl) :
  PE X (.Call (.Attribute o m apos) [] [] pos) (a6t C m sp aS E ta a3g):=by
 intro pins s σ H Q I h;refine PySem.W.methodCall_KW (pl:=pl) (thn (he pins s σ H _ I h) fun u s1 z0=>?_) ht;obtain ⟨x,H1,I1,rx,a,dx,fs,ex,ea,l,q⟩:=z0;subst ex;obtain rfl:u=Value.ref a:=rx;refine J8 I1 ea c hm l ?_;exact PySem.W.callWith_K0 (first:=[.ref a]) I1.kIn hm.kp (Y4 (us:=[.ref a]) (vs:=[.ref a]) F hr hb hd hx I1 (.cons rfl .nil) q)
structure Mk (K:PySem.W.Frag) (C f:Addr):Prop where
 makes:PySem.W.makesIn K C=true
 init:PySem.W.findIn K (.ref C) "__init__" = some (some (.ref f))
 fn:PySem.W.isFn K (.ref f)=true
 kp:PySem.W.keepIn K (.ref C)=true
theorem Yi {pins:List (Addr × Obj)} {σ:St} {H:Hp} {s:Shared} {Q:VK} {us:List Value} {vs:List V} (M:Mk X.K C f) (F:Bj X.prog X.w X.K X.mg X.base CX k f fd ps sp) (hr:Ab (k+1) X.A) (hb:Binds X.K fd ps ds) (hd:Vals aS ds)
  (hx:Passes CX X E) (I:Inv X pins σ H s) (r:Vals vs us)
  (h:∀ x dx,H x=none->H dx=none->dx≠x->sp (.ref x::(vs++aS)) (upd (upd H dx (.own x)) x (.ins C dx [])) (fun v H2=>v=.non/\Q (.ref x) H2) E) :
  wpAny (model X.prog X.w) X.A (call (.ref C) us) (EP X pins σ Q) X.xe s:=by
 have hq:=h (s.heap.objs.size+1) s.heap.objs.size (I.hok.fresh (Nat.le_succ _)) (I.hok.fresh (Nat.le_refl _)) (Nat.ne_of_lt (Nat.lt_succ_self _));have I2:=Inv.made (C:=C) I;have r2:Vals (V.ref (s.heap.objs.size+1)::(vs++aS)) (Value.ref (s.heap.objs.size+1)::(us++ds)):=.cons rfl (r.append hd)
 have hl:(Value.ref (s.heap.objs.size+1)::us++ds).length=ps.length:=by
  have e:=r2.length;rw [F.len _ _ _ _ hq] at e;exact e.symm
 refine wpAny_call (a0g (f:=f) I.kIn M.makes M.init (beq_iff_eq.mp M.fn) (codeAny_mono (F.run _ X.stack _ _ ⟨Value.ref (s.heap.objs.size+1)::us,[]⟩ (Value.ref (s.heap.objs.size+1)::(us++ds)) _ _ E (hr.make C us [])
  (I2.env0.make C us []) (hb _ (Value.ref (s.heap.objs.size+1)::us) I2.kIn hl) r2 hq) fun r s' cQ=>?_))
 cases r with
 | error e=>exact hx pins σ _ _ e s' I2 cQ
 | ok fl =>
  cases fl with
  | ret u =>
   obtain ⟨v,H',I3,rv,ev,q3⟩:=I2.after cQ;subst ev;exact ⟨rv,⟨V.ref (s.heap.objs.size+1),H',I3,rfl,q3⟩⟩
  | next=>exact False.elim cQ
  | brk=>exact False.elim cQ
  | cont=>exact False.elim cQ
theorem a3y (M:Mk X.K C f) (F:Bj X.prog X.w X.K X.mg X.base CX k f fd ps sp) (hr:Ab (k+1) X.A) (hg:Gl X x) (hm:X.mg x=some (.ref C)) (hb:Binds X.K fd ps ds) (hd:Vals aS ds) (hx:Passes CX X E)
  (ha:PA X (e::es) t) (aP:(x==("__debug__" : Str))=false:=by decide) (he:starEach (e::es) X.env=(false,eval e X.env)::starEach es X.env:=by rfl) (aI:(backTo pos (starEach es X.env)).any (·.1)=false:=by rfl) :
  PE X (.Call (.Name x p) (e::es) [] pos) (a9r C sp aS E t):=by
 intro pins s σ H Q I h;refine wpAny_Call_Name_kw (Io I hg hm ?_ aP);refine PySem.W.callWith_K (h₀:=X.base) I.ok.mod.kin M.kp (thn (ha pos pins s σ H _ I h) fun us s1 ⟨vs,H1,I1,r,q⟩=>⟨I1.kIn,?_⟩) he aI;exact Yi M F hr hb hd hx I1 r q
end
section
variable {X:Cx} {CX:CXT} {k:Nat} {f C:Addr} {fd:FuncData} {ps ks:List Str} {sp:Sp} {E:XK} {x m:Str} {p pos apos dX:Pos} {e o:Expr} {es:List Expr} {gv:List Keyword} {te ta:TE} {t tk:TA} {nm:Option Str}
structure aaj (K:PySem.W.Frag) (fd:FuncData) (ps ks:List Str) (g:List Value->List Value->List Value) (gV:List V->List V->List V):Prop where
 to:∀ (s:Shared) (us ws:List Value),K.In s.heap->(g us ws).length=ps.length->BindsTo s fd ⟨us,ks.zip ws⟩ (ps.zip (g us ws))
 rel:∀ {vs:List V} {us:List Value} {zs:List V} {ws:List Value},Vals vs us->Vals zs ws->Vals (gV vs zs) (g us ws)
variable {g:List Value->List Value->List Value} {gV:List V->List V->List V}
end
structure Ad (N P:List Str) (sc:Scope):Prop where
 kind:sc.kind=.function
 co:sc.isCoroutine=false
 gen:sc.isGenerator=false
 nd:N.Nodup
 pre:N.take P.length=P
 par:∀ x∈P,sc.names.lookup x=some .local\/sc.names.lookup x=some .cell
 nofree:∀ y∈sc.names,y.2≠.free
theorem Mh {kindOf:Str->Option NameKind} {x:Str}:∀ {binds:List (Str × Value)} {m:Str->Option Value},(∀ v,(x,v)∉binds)->bindL kindOf binds m x=m x
 | [],_,_=>rfl
 | (n,v)::r,m,h=>by
  unfold bindL;rw [Mh fun w hw=>h w (List.mem_cons_of_mem _ hw)];split
  ·have:x≠n:=by rintro rfl; exact h v List.mem_cons_self
   simp [this]
  ·rfl
theorem N6 {kindOf:Str->Option NameKind} {x:Str}:∀ {binds:List (Str × Value)} {m:Str->Option Value},(∀ v,(x,v)∉binds)->bindC kindOf binds m x=m x
 | [],_,_=>rfl
 | (n,v)::r,m,h=>by
  unfold bindC;rw [N6 fun w hw=>h w (List.mem_cons_of_mem _ hw)];split
  ·rfl
  ·have:x≠n:=by rintro rfl; exact h v List.mem_cons_self
   simp [this]
theorem Lj {kindOf:Str->Option NameKind} {x:Str} {v:Value}:∀ {P:List Str} {vs:List Value} {i:Nat} {m:Str->Option Value},P.Nodup->P[i]? = some x->vs[i]? = some v->kindOf x=some .local ->
  bindL kindOf (P.zip vs) m x=some v
 | [],_,_,_,_,h,_,_=>by simp at h
 | _::_,[],_,_,_,_,h,_=>by simp at h
 | p::P,w::vs,0,m,nd,h1,h2,hk=>by
  simp at h1 h2; subst h1; subst h2;show bindL kindOf ((p,w)::P.zip vs) m p=_;unfold bindL;rw [Mh fun v hv=>(List.nodup_cons.mp nd).1 (List.of_mem_zip hv).1,if_pos hk];simp
 | p::P,w::vs,i+1,m,nd,h1,h2,hk=>by
  show bindL kindOf ((p,w)::P.zip vs) m x=_;unfold bindL;exact Lj (i:=i) (List.nodup_cons.mp nd).2 (by simpa using h1) (by simpa using h2) hk
theorem N5 {kindOf:Str->Option NameKind} {x:Str} {v:Value}:∀ {P:List Str} {vs:List Value} {i:Nat} {m:Str->Option Value},P.Nodup->P[i]? = some x->vs[i]? = some v->kindOf x≠some .local ->
  bindC kindOf (P.zip vs) m x=some v
 | [],_,_,_,_,h,_,_=>by simp at h
 | _::_,[],_,_,_,_,h,_=>by simp at h
 | p::P,w::vs,0,m,nd,h1,h2,hk=>by
  simp at h1 h2; subst h1; subst h2;show bindC kindOf ((p,w)::P.zip vs) m p=_;unfold bindC;rw [N6 fun v hv=>(List.nodup_cons.mp nd).1 (List.of_mem_zip hv).1,if_neg hk];simp
 | p::P,w::vs,i+1,m,nd,h1,h2,hk=>by
  show bindC kindOf ((p,w)::P.zip vs) m x=_;unfold bindC;exact N5 (i:=i) (List.nodup_cons.mp nd).2 (by simpa using h1) (by simpa using h2) hk
def start (N:List Str) (vs:List V):St:=vs.map some++List.replicate (N.length - vs.length) none
noncomputable def M7 (CX:CXT) (P:Program) (w:World) (K:PySem.W.Frag) (mg:Str->Option Value) (base:Heap) (N:List Str) (qual:Str) (scope:Scope) (f:Addr) (cd:Value) (A:Around) (outer:List Env) (s:Shared) (H:Hp) (E:XK):Cx where
 prog:=P
 w:=w
 K:=K
 mg:=mg
 base:=base
 A:=A.deeper (envOfC qual scope s.heap.objs.size f cd)
 N:=N
 s₀:=s
 H₀:=H
 env:=envOfC qual scope s.heap.objs.size f cd
 outer:=outer
 stack:=envOfC qual scope s.heap.objs.size f cd::outer
 ex:=[]
 calm:=true
 fn:=fun _=>true
 pn:=[]
 xe:=fun e s'=>wpAny (model P w) (A.deeper (envOfC qual scope s.heap.objs.size f cd)) (leaving (envOfC qual scope s.heap.objs.size f cd) e) (fun _ dS=>CX outer H s E e dS) (fun e' dS=>CX outer H s E e' dS) s'
theorem Qk {sc:Scope} {n:Nat} {x:Str} (h:sc.names.lookup x=some .cell):∃ c,(cellsFrom n sc.names []).lookup x=some c:=by
 have q:=PySem.W.cellsFrom_some sc.names n [] (.inl h);exact Option.isSome_iff_exists.mp q
theorem W3 {CX:CXT} {P:Program} {w:World} {K:PySem.W.Frag} {mg:Str->Option Value} {base:Heap} {N ps:List Str} {qual:Str} {scope:Scope} {f:Addr} {cd:Value} {A:Around} {outer:List Env} {s s1:Shared} {H:Hp} {E:XK} {us:List Value} {vs:List V}
  (S:Ad N ps scope) (hd:A.handled=none) (e0:a3j P w K mg base A outer s H) (hl:vs.length=ps.length) (r:Vals vs us)
  (x:InCallC s s.heap.objs.size (bindL (envOfC qual scope s.heap.objs.size f cd).kindOf (ps.zip us) fun _=>none) (cellsFrom (s.heap.objs.size+1) scope.names []) (bindC (envOfC qual scope s.heap.objs.size f cd).kindOf (ps.zip us) fun _=>none) s1) :
  Inv (M7 CX P w K mg base N qual scope f cd A outer s H E) [] (start N vs) H s1:=by
 have aI:ps.length<=N.length:=by have:=congrArg List.length S.pre; rw [List.length_take] at this; omega
 obtain ⟨h1,tk,rfl,hk⟩:=x.done;have cJ:∀ b:Addr,b∉(M7 CX P w K mg base N qual scope f cd A outer s H E).ex:=fun b z=>absurd (show b∈([]:List Addr) from z) (by simp)
 refine ⟨⟨e0.mod,S.kind,rfl,rfl,Nat.le_refl _,fun y z c h1 h2=>?_,fun y hy=>?_,fun y c _ h=>?_,fun _=>hd,Around.frames_deeper e0.frames,.inr ⟨rfl,rfl⟩,fun b z=>absurd z (cJ b),e0.bs,e0.bsz,fun b _ _=>cJ b,fun b z=>absurd z (cJ b),e0.Pr,e0.frf⟩,
  rfl,e0.bare,Un.kept hk,⟨_,x.toInCall.ns,fun i y v h1 h2 h3=>?_⟩,fun y c h=>⟨_,x.cell y c h⟩,e0.hok.fresh (Nat.le_refl _),fun y c h=>?_,fun p hp=>absurd (show p∈([]:List (Addr × Obj)) from hp) (by simp),e0.hok.kept hk,?_⟩
 ·exact name_of_addr x.apart (PySem.mem_of_lookup h1) (PySem.mem_of_lookup h2)
 ·have hy:scope.names.lookup y=some .cell\/scope.names.lookup y=some .free:=hy;rcases hy with hy | hy
  ·exact Qk hy
  ·exact absurd rfl (S.nofree _ (PySem.mem_of_lookup hy))
 ·exact Nat.le_of_lt (x.above y c (PySem.mem_of_lookup h))
 ·have hi:i<vs.length:=by
   unfold start at h2
   by_cases hi:i<vs.length
   ·exact hi
   ·rw [List.getElem?_append_right (by simpa using hi)] at h2;rw [List.getElem?_replicate] at h2;split at h2 <;> cases h2
  have ha:vs[i]? = some v:=by
   unfold start at h2;rw [List.getElem?_append_left (by simpa using hi),List.getElem?_map] at h2;cases e:vs[i]? with
   | none=>rw [e] at h2; cases h2
   | some a=>rw [e] at h2; cases h2; rfl
  obtain ⟨u,hu,rv⟩:=r.get ha
  have hp:ps[i]? = some y:=by
   rw [<- S.pre,List.getElem?_take_of_lt (by omega)]; exact h1
  have eR:ps.Nodup:=by rw [<- S.pre]; exact S.nd.sublist (List.take_sublist _ _)
  refine ⟨u,rv,?_⟩;rcases S.par y (List.mem_of_getElem? hp) with k | k
  ·exact .inl ⟨k,Lj eR hp hu k⟩
  ·obtain ⟨c,e⟩:=Qk (n:=s.heap.objs.size+1) k;refine .inr ⟨.inl k,c,e,?_⟩;have q:=x.cell y c e;rw [N5 eR hp hu (by show scope.names.lookup y≠_; rw [k]; decide)] at q;exact q
 ·exact e0.hok.fresh (Nat.le_of_lt (x.above y c (PySem.mem_of_lookup h)))
 ·unfold start;show _=N.length;rw [List.length_append,List.length_map,List.length_replicate];omega
theorem a5u {CX:CXT} {P:Program} {w:World} {K:PySem.W.Frag} {mg:Str->Option Value} {base:Heap} {k:Nat} {f:Addr} {name qual:Str} {params:Arguments} {body:List Stmt} {scope:Scope} {dV kV doc pm aC ct oc:Value} {an od:Option Addr}
  {bA:Array (Option Value)} {N ps:List Str} {sp:Sp} (lk:K.lookup f=some ⟨oc,od,.func (PySem.W.fnOf name qual params body scope dV kV doc pm an aC ct),bA⟩) (a7:PySem.W.codeIn K aC qual=true) (S:Ad N ps scope)
  (len:∀ vs H Q E,sp vs H Q E->vs.length=ps.length)
  (bL:∀ (A:Around) (outer:List Env) (s:Shared) (H:Hp) (vs:List V) (Q:VK) (E:XK),Ab k (A.deeper (envOfC qual scope s.heap.objs.size f aC))->sp vs H Q E ->
   ∃ t,PSs (M7 CX P w K mg base N qual scope f aC A outer s H E) body t/\t { nx:=fun _ H'=>Q .non H',rt:=Q } (start N vs) H) :
  Bj P w K mg base CX (k+1) f (PySem.W.fnOf name qual params body scope dV kV doc pm an aC ct) ps sp:=by
 refine ⟨len,fun A outer s H args us vs Q E hr e0 hb r bV=>?_⟩;have hl:=len _ _ _ _ bV;have KX:K.In s.heap:=e0.mod.kin.keeps fun b o e=>(e0.bs b o e).1;have lim:s.heap.NoLimit:=e0.mod.nolimit.keeps fun b o e=>(e0.bs b o e).1
 have cU:∀ y∈ps.zip us,scope.names.lookup y.1=some .local\/(scope.names.lookup y.1=some .cell/\((cellsFrom (s.heap.objs.size+1) scope.names []).lookup y.1).isSome=true):=fun ⟨n,v⟩ hy=>by
  rcases S.par n (List.of_mem_zip hy).1 with q | q
  ·exact .inl q
  ·exact .inr ⟨q,PySem.W.cellsFrom_some _ _ _ (.inl q)⟩
 refine codeAny_call_function hr.depth (KX _ _ lk) rfl S.co S.gen rfl (PySem.W.codeRec_of KX a7) (hb _ _ _ _ ?_);refine wpAny_newFunctionEnv_cells S.kind cU fun env he s1 x=>?_;subst he;refine ⟨lim.keeps x.toInCall.keep,codeAny_func ?_⟩;obtain ⟨t,ht,hq⟩:=bL A outer s H vs Q E (hr.deeper _) bV;have I:Inv (M7 CX P w K mg base N qual scope f aC A outer s H E) [] (start N vs) H s1:=W3 S hr.hd e0 hl r x;refine wpAny_mono (ht [] s1 (start N vs) H _ I hq) (fun fl s' hs=>?_) fun e s' hs=>hs
 have fin:∀ {ah:St} {H':Hp} {v:V} {u:Value},Inv (M7 CX P w K mg base N qual scope f aC A outer s H E) [] ah H' s'->RelV v u->Q v H'->CE outer P w H s Q u s' :=
  fun {ah H' v u} J rv q=>⟨v,H',J.os,J.bare,J.base,J.hok,rv,q⟩
 cases fl with
 | ret u =>
  obtain ⟨v,ah,H',J,rv,q⟩:=hs;exact fin J rv q
 | next =>
  obtain ⟨ah,H',J,q⟩:=hs;exact fin (v:=V.non) (u:=Value.none) J rfl q
 | brk =>
  obtain ⟨_,_,_,q⟩:=hs;exact False.elim q
 | cont =>
  obtain ⟨_,_,_,q⟩:=hs;exact False.elim q
end L2
namespace L2
open PySem PySem.Spec PyProof.Rows
section
variable {X:Cx} {x:Str} {p pos:Pos} {e:Expr} {es:List Expr} {t:TA} {id T:String} {r:List V->Hp->VK->Prop}
def tCB (r:List V->Hp->VK->Prop) (t:TA):TE:=fun σ H Q=>t σ H fun vs H1=>r vs H1 Q
theorem j6 (hc:Iz X (.builtin id) r) (hg:Gl X x) (hm:X.mg x=none) (hv:bootBuiltins x=some (.builtin id)) (ha:PA X (e::es) t) (hn:x ≠ "__name__" := by decide) (aP:(x==("__debug__" : Str))=false:=by decide)
  (he:starEach (e::es) X.env=(false,eval e X.env)::starEach es X.env:=by rfl) (aI:(backTo pos (starEach es X.env)).any (·.1)=false:=by rfl):PE X (.Call (.Name x p) (e::es) [] pos) (tCB r t):=by
 intro pins s σ H Q I h;refine wpAny_Call_Name_kw (Rk I hg hm hv ?_ hn aP);exact PyProof.Rows.callWith_builtin1 (thn (ha pos pins s σ H _ I h) fun us s1 z7=>by obtain ⟨vs,H1,I1,r1,q1⟩:=z7; exact hc pins s1 σ H1 vs us Q I1 r1 q1) he aI
theorem Am (hc:Iz X (.type T) r) (hg:Gl X x) (hm:X.mg x=none) (hv:bootBuiltins x=some (.type T)) (ha:PA X (e::es) t) (hn:x ≠ "__name__" := by decide) (aP:(x==("__debug__" : Str))=false:=by decide)
  (he:starEach (e::es) X.env=(false,eval e X.env)::starEach es X.env:=by rfl) (aI:(backTo pos (starEach es X.env)).any (·.1)=false:=by rfl):PE X (.Call (.Name x p) (e::es) [] pos) (tCB r t):=by
 intro pins s σ H Q I h;refine wpAny_Call_Name_kw (Rk I hg hm hv ?_ hn aP);exact PyProof.Rows.callWith_type1 (thn (ha pos pins s σ H _ I h) fun us s1 z7=>by obtain ⟨vs,H1,I1,r1,q1⟩:=z7; exact hc pins s1 σ H1 vs us Q I1 r1 q1) he aI
end
end L2
end
section
namespace HT
open PySem PyProof.Rows
section
open PySem.SeqAt
open PySem.AutoSeq1 (wpAny_loadPart')
open PySem.MeetsSeq PySem.MeetsSeq2 PySem.MeetsSeq3
end
section
variable {prog:Program} {w:World} {A:Around} {E:Value->Shared->Prop} {s:Shared}
theorem a4f {t b:Addr} {vs ws:List Value} {Q:Value->Shared->Prop} (ht:IsTup s.heap t vs.toArray) (hb:IsTup s.heap b ws.toArray) (hv:vs≠[])
  (h1:ws=[]->Q (.ref t) s) (h2:ws≠[]->Q (.ref s.heap.objs.size) { s with heap:=s.heap.push { cls:=.type "tuple",data:=.seq (vs++ws).toArray } })
  (bM:vs.length+ws.length<=sizeLine):wpAny (model prog w) A (binaryOp .Add (.ref t) (.ref b)) Q E s:=by
 obtain ⟨⟨cls,dd,data,sl⟩,ho,hc,n,hd⟩:=id ht;obtain ⟨⟨cls2,dd2,data2,sl2⟩,ho2,hc2,n2,hd2⟩:=id hb;simp only at hc hd hc2 hd2;subst hc hd hc2 hd2;have e:vs.toArray++ws.toArray=(vs++ws).toArray:=by simp
 by_cases hw:ws=[]
 ·exact concat_meets ⟨_,ho,rfl⟩ ⟨_,ho2,rfl⟩ noFill_tuple_add seq_tuple_add PySem.F.slot_tuple_add PySem.F.entry_tuple_add (PySem.F.args_tuple_add_2 _ _)
   (tuple_addW1 t b vs.toArray ws.toArray n n2 dd dd2 sl sl2 (by simpa using hv) (by simp [hw])) ⟨ho,ho2,h1 hw⟩
 ·refine concat_meets ⟨_,ho,rfl⟩ ⟨_,ho2,rfl⟩ noFill_tuple_add seq_tuple_add PySem.F.slot_tuple_add PySem.F.entry_tuple_add (PySem.F.args_tuple_add_2 _ _)
   (tuple_addW2 t b vs.toArray ws.toArray n n2 dd dd2 sl sl2 (by simpa using hv) (by simpa using hw) (by rw [List.size_toArray,List.size_toArray]; exact bM)) ⟨ho,ho2,?_⟩
  rw [e];exact h2 hw
noncomputable def sIx (n d:Nat):Option Int->Nat
 | none=>d
 | some v=>if v<0 then (v+(n:Int)).toNat else min v.toNat n
end
end HT
namespace L2
open PySem PySem.Spec PyProof.Rows
abbrev TO:=St->Hp->(Option Int->Hp->Prop)->Prop
def PO (X:Cx) (e:Option Expr) (t:TO):Prop :=
 ∀ (pins:List (Addr × Obj)) (s:Shared) (σ:St) (H:Hp) (Q:Option Int->Hp->Prop),Inv X pins σ H s->t σ H Q ->
  wpAny (model X.prog X.w) X.A (evalPart e X.env) (fun u s'=>∃ o H',Inv X pins σ H' s'/\IsPart u o/\Q o H') X.xe s
def a5a:TO:=fun _ H Q=>Q none H
def a91 (t:TE):TO:=fun σ H Q=>t σ H fun x H1=>∃ i,x=.int i/\Q (some i) H1
section
variable {X:Cx} {e:Expr} {te:TE} {lo hi:Option Expr} {tl th:TO} {pos p2:Pos}
theorem a3p:PO X none a5a:=by
 intro pins s σ H Q I h;rw [evalPart_none];exact wpAny_pure ⟨none,H,I,.none,h⟩
theorem a4d (h:PE X e te):PO X (some e) (a91 te):=by
 intro pins s σ H Q I hw;rw [evalPart_some];refine thn (h pins s σ H _ I hw) fun u s1 z0=>?_;obtain ⟨x,H1,I1,r1,q1⟩:=z0;obtain ⟨i,rfl,q⟩:=q1;obtain ⟨t,rfl⟩:=r1;exact ⟨some i,H1,I1,.int i t,q⟩
def SlR (X:Cx) (r:V->Option Int->Option Int->Hp->VK->Prop):Prop :=
 ∀ (pins:List (Addr × Obj)) (s:Shared) (σ:St) (H:Hp) (x:V) (v vl vu:Value) (lo hi:Option Int) (sl:Addr) (Q:VK),Inv X pins σ H s->RelV x v->s.heap.IsSliceOf sl vl vu .none->IsPart vl lo->IsPart vu hi->r x lo hi H Q ->
  ∃ T id,typeLookup (.type T) "__getitem__" = pure (some (.builtin id))/\s.TypeIs v T/\wpAny (model X.prog X.w) X.A (getItem v (.ref sl)) (EP X pins σ Q) X.xe s
theorem SlR.or {r r':V->Option Int->Option Int->Hp->VK->Prop} (h:SlR X r) (h':SlR X r'):SlR X (fun x lo hi H Q=>r x lo hi H Q\/r' x lo hi H Q):=by
 intro pins s σ H x v vl vu lo hi sl Q I rx hs pl pu q;rcases q with q | q
 ·exact h pins s σ H x v vl vu lo hi sl Q I rx hs pl pu q
 ·exact h' pins s σ H x v vl vu lo hi sl Q I rx hs pl pu q
def tSl (r:V->Option Int->Option Int->Hp->VK->Prop) (te:TE) (tl th:TO):TE:=fun σ H Q=>te σ H fun x H1=>tl σ H1 fun l H2=>th σ H2 fun u H3=>r x l u H3 Q
theorem Qt {r:V->Option Int->Option Int->Hp->VK->Prop} (hr:SlR X r) (he:PE X e te) (hl:PO X lo tl) (hu:PO X hi th):PE X (.Subscript e (.Slice lo hi none p2) pos) (tSl r te tl th):=by
 intro pins s σ H Q I h;refine Subscript_ (thn (he pins s σ H _ I h) fun v s1 z0=>?_);obtain ⟨x,H1,I1,r1,q1⟩:=z0;refine wpAny_Slice (thn (hl pins s1 σ H1 _ I1 q1) fun vl s2 ⟨l,H2,I2,pl,q2⟩=>thn (hu pins s2 σ H2 _ I2 q2) fun vu s3 ⟨u,H3,I3,pu,q3⟩=>?_);rw [evalPart_none];refine wpAny_pure ?_;have I4:Inv X pins σ H3 { s3 with heap:=s3.heap.push { cls:=.type "slice",data:=.fields #[vl,vu,.none] } }:=I3.kept (t':=s3.toks) fun b ob q=>Heap.get?_push_of_some _ q;obtain ⟨T,id,hT,ht,hg⟩:=hr pins { s3 with heap:=s3.heap.push { cls:=.type "slice",data:=.fields #[vl,vu,.none] } } σ H3 x v vl vu l u s3.heap.objs.size Q I4 r1 (Heap.IsSliceOf.new ..) pl pu q3;show wpAny (model X.prog X.w) X.A (subscriptTail e (.Slice lo hi none p2) v (.ref s3.heap.objs.size)) (EP X pins σ Q) X.xe { s3 with heap:=s3.heap.push { cls:=.type "slice",data:=.fields #[vl,vu,.none] } };exact tail_any (ops:=[.ref s3.heap.objs.size,v]) ht hT hg (by with_unfolding_all rfl)
noncomputable def a2v (xs:List V) (lo hi:Option Int):List V:=(xs.drop (HT.sIx xs.length 0 lo)).take (HT.sIx xs.length xs.length hi - HT.sIx xs.length 0 lo)
theorem Nq (xs:List V) (lo hi:Option Int):(a2v xs lo hi).length<=xs.length:=by
 unfold a2v;rw [List.length_take,List.length_drop];omega
noncomputable def a93 (K:PySem.W.Frag):R2:=fun x y H Q=>∃ a b xs ys,x=.ref a/\y=.ref b/\SqT K H a xs/\SqT K H b ys/\xs≠[]/\xs.length+ys.length<=sizeLine /\
 (ys=[]->Q (.ref a) H)/\(ys≠[]->∀ p,H p=none->Q (.ref p) (upd H p (.tup (xs++ys))))
theorem Vals.Pj {xs:List V} {us:List Value} (r:Vals xs us):us=[]↔xs=[]:=by
 cases r with
 | nil=>simp
 | cons _ _=>simp
theorem a3h:OpR X (binaryOp .Add) (a93 X.K):=by
 intro pins s σ H x y v u Q I rx ry h;obtain ⟨a,b,xs,ys,rfl,rfl,ha,hb,hx,hz,q1,q2⟩:=h;cases rx;cases ry;obtain ⟨af,r1,p1,_⟩:=I.tuple ha;obtain ⟨its2,r2,p2,_⟩:=I.tuple hb;refine HT.a4f p1 p2 (fun z=>hx (r1.Pj.mp z)) (fun z=>⟨.ref a,H,I,rfl,q1 (r2.Pj.mp z)⟩) (fun z=>?_) (by rw [<- r1.length,<- r2.length]; exact hz);refine ⟨.ref s.heap.objs.size,_,I.laid (t':=s.toks) (o:=.tup (xs++ys)) (fun b ob q=>Heap.get?_push_of_some _ q) (Nat.le_refl _) ?_,rfl,q2 (fun w=>z (r2.Pj.mpr w)) _ (I.hok.fresh (Nat.le_refl _))⟩;exact ⟨by rw [List.length_append]; exact hz,_,r1.append r2,a2c.new _ _⟩
end
end L2
namespace L2
open PySem PySem.Spec PyProof.Rows
noncomputable def ixN (n:Nat) (i:Int):Option Nat:=if 0<=i then (if i<n then some i.toNat else none) else if -(n:Int)<=i then some (i+n).toNat else none
def atI {α:Type} (xs:List α) (i:Int):Option α:=(ixN xs.length i).bind fun j=>xs[j]?
theorem Vo {n:Nat} {i:Int} {j:Nat} (h:ixN n i=some j):seqIndex? i n=some j/\j<n/\-(n:Int)<=i/\i<n:=by
 unfold ixN at h
 by_cases h0:0<=i
 ·rw [if_pos h0] at h
  by_cases h1:i<n
  ·rw [if_pos h1] at h;have e:i.toNat=j:=Option.some.inj h;exact ⟨by rw [seqIndex_of h0 h1,e],by omega,by omega,h1⟩
  ·rw [if_neg h1] at h; cases h
 ·rw [if_neg h0] at h
  by_cases h1:-(n:Int)<=i
  ·rw [if_pos h1] at h;have e:(i+n).toNat=j:=Option.some.inj h;exact ⟨by rw [seqIndex_neg (by omega) h1,e],by omega,h1,by omega⟩
  ·rw [if_neg h1] at h; cases h
theorem Nr {α:Type} {xs:List α} {i:Int} {v:α} (h:atI xs i=some v):∃ j,seqIndex? i xs.length=some j/\xs[j]? = some v/\j<xs.length/\-(xs.length:Int)<=i/\i<xs.length:=by
 unfold atI at h;cases e:ixN xs.length i with
 | none=>rw [e] at h; cases h
 | some j =>
  rw [e] at h;obtain ⟨h1,h2,h3,h4⟩:=Vo e;exact ⟨j,h1,h,h2,h3,h4⟩
def K7 (b:Expr):Prop:=∀ o i,subscripted b false o i=operate [o,i] (getItem o i)
def IxR (X:Cx) (r:R2):Prop :=
 ∀ (value slice:Expr) (pins:List (Addr × Obj)) (s:Shared) (σ:St) (H:Hp) (x y:V) (v u:Value) (Q:VK),Inv X pins σ H s->RelV x v->RelV y u->r x y H Q ->
  subscripted slice false v u=operate [v,u] (getItem v u)->wpAny (model X.prog X.w) X.A (subscriptTail value slice v u) (EP X pins σ Q) X.xe s
def MtR (X:Cx) (id:String) (r:V->List V->Hp->VK->Prop):Prop :=
 ∀ (pins:List (Addr × Obj)) (s:Shared) (σ:St) (H:Hp) (x:V) (xs:List V) (v:Value) (us:List Value) (Q:VK),Inv X pins σ H s->RelV x v->Vals xs us->r x xs H Q ->
  wpAny (model X.prog X.w) X.A (call (.builtin id) (v::us)) (EP X pins σ Q) X.xe s
section
variable {X:Cx} {a b:Expr} {ta tb:TE} {pos:Pos}
theorem a3r {r:R2} (hr:IxR X r) (ha:PE X a ta) (hb:PE X b tb) (hs:K7 b):PE X (.Subscript a b pos) (tOp r ta tb):=by
 intro pins s σ H Q I h;exact Subscript_ (a9x ha hb I h fun v u s2 x y H2 I2 rx ry q=>hr a b pins s2 σ H2 x y v u Q I2 rx ry q (hs _ _))
noncomputable def ab7 (K:PySem.W.Frag):R2:=fun x y H Q=>∃ p xs i v,x=.ref p/\y=.int i/\SqL K H p xs/\atI xs i=some v/\Q v H
noncomputable def aan (K:PySem.W.Frag):R2:=fun x y H Q=>∃ p xs i v,x=.ref p/\y=.int i/\SqT K H p xs/\atI xs i=some v/\Q v H
noncomputable def aaq:R2:=fun x y H Q=>∃ z i c,x=.str z/\y=.int i/\z.length<=sizeLine/\atI z.cps.toList i=some c/\Q (.str ⟨#[c]⟩) H
theorem Oa:IxR X (ab7 X.K):=by
 intro value slice pins s σ H x y v u Q I rx ry h hs;obtain ⟨p,xs,i,z,rfl,rfl,hq,he,q⟩:=h;cases rx;obtain ⟨t,rfl⟩:=ry;obtain ⟨af,r,pl,hz⟩:=I.list hq;obtain ⟨j,h1,h2,h3,h4,h5⟩:=Nr he;obtain ⟨w,ew,rw'⟩:=r.get h2;have hl:=r.length;have hn:=Jb;have fin:EP X pins σ Q w s:=⟨z,H,I,rw',q⟩
 by_cases h0:0<=i
 ·have hj:i.toNat=j:=by
   rw [seqIndex_of h0 h5] at h1;exact Option.some.inj h1
  exact item_listR pl.isList h0 (by omega) (by rw [hj]; simpa using ew) fin hs
 ·have hj:(i+(af.toArray.size:Int)).toNat=j:=by
   rw [seqIndex_neg (by omega) h4] at h1;rw [List.size_toArray,<- hl];exact Option.some.inj h1
  exact subscriptTail_builtinR (x:=w) pl.isList.typeIs slot_list_getitem.lookup
   (wpAny_getItem_list_neg (Q:=fun r s'=>r=w/\EP X pins σ Q r s') pl.isList (by omega) (by rw [List.size_toArray] <;> omega) (by omega) (by rw [hj]; simpa using ew) ⟨rfl,fin⟩) hs
theorem a7b:IxR X (aan X.K):=by
 intro value slice pins s σ H x y v u Q I rx ry h hs;obtain ⟨p,xs,i,z,rfl,rfl,hq,he,q⟩:=h;cases rx;obtain ⟨t,rfl⟩:=ry;obtain ⟨af,r,pl,hz⟩:=I.tuple hq;obtain ⟨j,h1,h2,h3,h4,h5⟩:=Nr he;obtain ⟨w,ew,rw'⟩:=r.get h2;have hl:=r.length;have hn:=Jb;have fin:EP X pins σ Q w s:=⟨z,H,I,rw',q⟩
 exact subscriptTail_builtinR (x:=w) pl.typeIs slot_tuple_getitem.lookup
  (getItem_tuple (j:=j) (Q:=fun r s'=>r=w/\EP X pins σ Q r s') pl (by omega) (by omega) (by rw [List.size_toArray,<- hl]; exact h1) (by simpa using ew) ⟨rfl,fin⟩) hs
theorem a73:IxR X aaq:=by
 intro value slice pins s σ H x y v u Q I rx ry h hs;obtain ⟨z,i,c,rfl,rfl,hz,he,q⟩:=h;obtain ⟨t,rfl⟩:=rx;obtain ⟨t',rfl⟩:=ry;obtain ⟨j,h1,h2,h3,h4,h5⟩:=Nr he;have hl:z.cps.toList.length=z.length:=by simp [Str.length]
 rw [hl] at h1 h4 h5;have hn:=Jb
 exact tail_any (typeIs_str s z t) slot_str_getitem.lookup (getItem_str (c:=c) (by
  have e1:decide (i < -(2 ^ 63:Int))=false:=decide_eq_false (by omega);have e2:decide (i >= 2 ^ 63)=false:=decide_eq_false (by omega);rw [e1,e2,Bool.or_false]) (by rw [h1]; simpa using h2) ⟨.str ⟨#[c]⟩,H,I.tok _,⟨_,rfl⟩,q⟩) hs
theorem Sh (af:List Value) (n j:Nat) (u:Value):Obj.mapSeq (·.setIfInBounds j u) { cls:=.type "list",data:=.seq af.toArray n } = { cls:=.type "list",data:=.seq (af.set j u).toArray n }:=by
 simp [Obj.mapSeq]
theorem Inv.lst {pins:List (Addr × Obj)} {σ:St} {H:Hp} {s:Shared} {p:Addr} {xs:List V} (I:Inv X pins σ H s) (h:H p=some (.lst xs)) :
  ∃ (af:List Value) (n:Nat),Vals xs af/\s.heap.get? p=some { cls:=.type "list",data:=.seq af.toArray n }/\xs.length<=sizeLine:=by
 obtain ⟨z,af,n,r,e⟩:=I.hok p _ h;exact ⟨af,n,r,e,z⟩
theorem Inv.a85 {pins:List (Addr × Obj)} {σ:St} {H:Hp} {s:Shared} {p:Addr} {xs ys:List V} {af its':List Value} {n n':Nat} {f:Obj->Obj} (I:Inv X pins σ H s) (h:H p=some (.lst xs))
  (ho:s.heap.get? p=some { cls:=.type "list",data:=.seq af.toArray n }) (hf:f { cls:=.type "list",data:=.seq af.toArray n } = { cls:=.type "list",data:=.seq its'.toArray n' }) (r:Vals ys its') (hz:ys.length<=sizeLine) (t:Nat) :
  Inv X pins σ (upd H p (.lst ys)) { s with heap:=s.heap.update p f,toks:=t }:=by
 have e:(s.heap.update p f).get? p=some { cls:=.type "list",data:=.seq its'.toArray n' }:=by
  rw [Heap.get?_update_self f ho (by rw [hf] <;> rfl),hf]
 refine I.write (x:=p) (e:=p) (by rw [h]; trivial) (.inl rfl) (fun b u hb q=>(Heap.get?_update_other _ _ (Ne.symm hb)).trans q) ⟨_,e⟩ ?_;exact ⟨hz,its',n',r,e⟩
def a65:V->V->V->Hp->(Hp->Prop)->Prop:=fun o i v H Q=>∃ p xs k j,o=.ref p/\i=.int k/\H p=some (.lst xs)/\ixN xs.length k=some j/\Q (upd H p (.lst (xs.set j v)))
theorem set_list:aae X a65:=by
 intro pins s σ H o i v ov iv u Q I ro ri rv h;obtain ⟨p,xs,k,j,rfl,rfl,hp,hj,q⟩:=h;cases ro;obtain ⟨t,rfl⟩:=ri;obtain ⟨af,n,r,ho,hz⟩:=I.lst hp;obtain ⟨h1,h2,h3,h4⟩:=Vo hj;have hl:=r.length;have hn:=Jb
 have I':Inv X pins σ (upd H p (.lst (xs.set j v))) { s with heap:=s.heap.update p (Obj.mapSeq (·.setIfInBounds j u)) } :=
  I.a85 hp ho (Sh af n j u) (r.set rv j) (by rw [List.length_set]; exact hz) s.toks
 by_cases h0:0<=k
 ·have hk:k.toNat=j:=by
   rw [seqIndex_of h0 h4] at h1;exact Option.some.inj h1
  exact PySem.W.ki_setAt ho h0 (by omega) (by rw [List.size_toArray,<- hl]; exact h4) (by rw [hk]; exact ⟨_,I',q⟩)
 ·have hk:(k+(af.toArray.size:Int)).toNat=j:=by
   rw [seqIndex_neg (by omega) h3] at h1;rw [List.size_toArray,<- hl];exact Option.some.inj h1
  exact PySem.W.ki_setBack ho (by omega) (by rw [List.size_toArray,<- hl]; exact h3) (by omega) (by rw [hk]; exact ⟨_,I',q⟩)
theorem Mi (lo hi:Option Int) (n:Nat):(sliceBounds lo hi none n).1=((HT.sIx n 0 lo:Nat):Int)/\(sliceBounds lo hi none n).2.1=((HT.sIx n n hi:Nat):Int)/\(sliceBounds lo hi none n).2.2=1:=by
 refine ⟨?_,?_,rfl⟩
 ·cases lo with
  | none=>simp [sliceBounds,HT.sIx]
  | some i =>
   simp only [sliceBounds,HT.sIx,Option.getD_none,show (1:Int) > 0 by decide,if_true]
   by_cases h:i<0
   ·simp only [h,if_true] <;> omega
   ·simp only [h,if_false] <;> omega
 ·cases hi with
  | none=>simp [sliceBounds,HT.sIx]
  | some i =>
   simp only [sliceBounds,HT.sIx,Option.getD_none,show (1:Int) > 0 by decide,if_true]
   by_cases h:i<0
   ·simp only [h,if_true] <;> omega
   ·simp only [h,if_false] <;> omega
theorem Jp (af:List Value) (lo hi:Option Int):slicePick af.toArray lo hi none=((af.drop (HT.sIx af.length 0 lo)).take (HT.sIx af.length af.length hi - HT.sIx af.length 0 lo)).toArray:=by
 obtain ⟨h1,h2,h3⟩:=Mi lo hi af.toArray.size;unfold slicePick;rw [h1,h2,h3];simp only [sliceRange_one,pick_run,List.size_toArray] <;> rfl
def aay (K:PySem.W.Frag):V->Option Int->Option Int->Hp->VK->Prop:=fun x lo hi H Q=>∃ a xs,x=.ref a/\SqL K H a xs/\∀ p,H p=none->Q (.ref p) (upd H p (.lst (a2v xs lo hi)))
theorem a2m:SlR X (aay X.K):=by
 intro pins s σ H x v vl vu lo hi sl Q I rx hs pl pu h;obtain ⟨a,xs,rfl,hx,q⟩:=h;cases rx;obtain ⟨af,r,ht,hz⟩:=I.list hx;have hlen:=r.length;refine ⟨"list",_,slot_list_getitem.lookup,ht.isList.typeIs,?_⟩;refine wpAny_getItem_list_slice ht.isList hs pl pu .none (by simp) ?_ (by rw [List.size_toArray] <;> omega);rw [Jp,<- hlen];refine ⟨.ref s.heap.objs.size,_,I.laid (t':=s.toks) (o:=.lst (a2v xs lo hi)) (fun b ob q=>Heap.get?_push_of_some _ q) (Nat.le_refl _) ?_,rfl,q _ (I.hok.fresh (Nat.le_refl _))⟩;exact ⟨Nat.le_trans (Nq xs lo hi) hz,_,0,(r.drop (HT.sIx xs.length 0 lo)).take (HT.sIx xs.length xs.length hi - HT.sIx xs.length 0 lo),Heap.get?_push_size _ rfl⟩
theorem zx:Iz X (.builtin "len") (fun xs H Q=>∃ p ys,xs=[.ref p]/\(SqL X.K H p ys\/SqT X.K H p ys)/\Q (.int ys.length) H):=by
 intro pins s σ H xs us Q I r h;obtain ⟨p,ys,rfl,hq,q⟩:=h;obtain ⟨u,rfl,rx⟩:=vals1 r;cases rx;have hn:=Jb;rcases hq with hq | hq
 ·obtain ⟨af,r',pl,hz⟩:=I.list hq;have hlen:=r'.length;exact Calls.call_len_list pl.isList (by simp only [List.size_toArray] <;> omega) ⟨.int ys.length,H,I.tok _,⟨s.toks+1,by rw [List.size_toArray,hlen]⟩,q⟩
 ·obtain ⟨af,r',pl,hz⟩:=I.tuple hq;have hlen:=r'.length;exact len_tuple pl (by simp only [List.size_toArray] <;> omega) ⟨.int ys.length,H,I.tok _,⟨s.toks+1,by rw [List.size_toArray,hlen]⟩,q⟩
theorem M4:Iz X (.builtin "len") (fun xs H Q=>∃ z,xs=[.str z]/\z.length<=sizeLine/\Q (.int z.length) H):=by
 intro pins s σ H xs us Q I r h;obtain ⟨z,rfl,hz,q⟩:=h;obtain ⟨u,rfl,t,rfl⟩:=vals1 r;have hn:=Jb;exact len_str (by omega) ⟨.int z.length,H,I.tok _,⟨_,rfl⟩,q⟩
theorem Br:Iz X (.type "tuple") (fun xs H Q=>∃ p ys,xs=[.ref p]/\((SqL X.K H p ys/\∀ l,H l=none->Q (.ref l) (upd H l (.tup ys)))\/(SqT X.K H p ys/\Q (.ref p) H))):=by
 intro pins s σ H xs us Q I r h;obtain ⟨p,ys,rfl,h⟩:=h;obtain ⟨u,rfl,rx⟩:=vals1 r;cases rx;rcases h with ⟨hq,q⟩ | ⟨hq,q⟩
 ·obtain ⟨af,r',pl,hz⟩:=I.list hq;have hlen:=r'.length;refine call_tuple_list pl.isList (fun h' kp=>?_) (by simp only [List.size_toArray] <;> omega);have I1:Inv X pins σ H { s with heap:=h' }:=I.kept (t':=s.toks) kp
  have I2:Inv X pins σ (upd H h'.objs.size (.tup ys)) { s with heap:=h'.push { cls:=.type "tuple",data:=.seq af.toArray } } :=
   I1.laid (t':=s.toks) (fun b o e=>Heap.get?_push_of_some _ e) (Nat.le_refl _) (show yg X.prog X.w _ _ _ (.tup ys) from ⟨hz,af,r',a2c.new _ _⟩)
  exact ⟨.ref h'.objs.size,_,I2,rfl,q _ (I1.hok.fresh (Nat.le_refl _))⟩
 ·obtain ⟨af,r',pl,hz⟩:=I.tuple hq;exact call_tuple_same pl ⟨.ref p,H,I,rfl,q⟩
def tyV (K:PySem.W.Frag) (T:String) (x:V) (H:Hp):Prop:=match x with
 | .str _=>T = "str"
 | .int _=>T = "int"
 | .ref p=>(T = "list" /\ ∃ xs,SqL K H p xs)\/(T = "tuple" /\ ∃ o,K.lookup p=some o/\o.cls=.type "tuple" /\ o.dict=none) \/
   (T = "dict" /\ ((∃ aw,H p=some (.dK aw))\/∃ aw,H p=some (.dT aw)))\/(T = "set" /\ ∃ S n,H p=some (.set S n))
 | _=>False
theorem a1f {pins:List (Addr × Obj)} {σ:St} {H:Hp} {s:Shared} {T:String} {x:V} {v:Value} (I:Inv X pins σ H s) (r:RelV x v) (ty:tyV X.K T x H) :
  s.TypeIs v T/\∀ a,v=.ref a->∃ ob,s.heap.get? a=some ob/\ob.dict=none:=by
 cases x with
 | str z =>
  obtain ⟨t,rfl⟩:=r;cases (show T = "str" from ty);exact ⟨typeIs_str s z t,fun _ e=>nomatch e⟩
 | int i =>
  obtain ⟨t,rfl⟩:=r;cases (show T = "int" from ty);exact ⟨typeIs_int s i t,fun _ e=>nomatch e⟩
 | ref p =>
  cases r;rcases ty with ⟨rfl,xs,hq⟩ | ⟨rfl,o,hk,hc,hd⟩ | ⟨rfl,hk⟩ | ⟨rfl,S,n,hk⟩
  ·obtain ⟨af,_,pl,_⟩:=I.list hq;refine ⟨pl.isList.typeIs,fun a e=>?_⟩;cases e;obtain ⟨o,n,e,c,hd,_⟩:=pl;exact ⟨o,e,hd⟩
  ·refine ⟨⟨o,I.kIn p o hk,hc⟩,fun a e=>?_⟩;cases e;exact ⟨o,I.kIn _ o hk,hd⟩
  ·have z:∃ o,s.heap.get? p=some o/\o.ExactDict:=by
    rcases hk with ⟨aw,hk⟩ | ⟨aw,hk⟩
    ·obtain ⟨_,_,_,_,o,_,_,e,ex,_⟩:=I.hok p _ hk;exact ⟨o,e,ex⟩
    ·obtain ⟨_,_,_,_,o,_,_,e,ex,_⟩:=I.hok p _ hk;exact ⟨o,e,ex⟩
   obtain ⟨o,e,ex⟩:=z;refine ⟨⟨o,e,ex.1⟩,fun a e2=>?_⟩;cases e2;exact ⟨o,e,ex.2.1⟩
  ·obtain ⟨o,_,_,_,e,ex,_⟩:=I.hok p _ hk;refine ⟨⟨o,e,ex.1⟩,fun a e2=>?_⟩;cases e2;exact ⟨o,e,ex.2.1⟩
 | _=>exact False.elim ty
def aaf (K:PySem.W.Frag) (T:String) (r:V->List V->Hp->VK->Prop) (to:TE):TE:=fun σ H Q=>to σ H fun x H1=>tyV K T x H1/\r x [] H1 Q
def tBM (K:PySem.W.Frag) (T:String) (r:V->List V->Hp->VK->Prop) (to:TE) (t:TA):TE:=fun σ H Q=>to σ H fun x H1=>tyV K T x H1/\t σ H1 fun xs H2=>r x xs H2 Q
variable {o e:Expr} {es:List Expr} {to:TE} {t:TA} {name:Str} {apos ay:Pos} {T id:String} {r:V->List V->Hp->VK->Prop}
theorem a6l (pa:PlainAttrs T) (slot:Slot T name id) (d5:typeOf (.builtin id)=pure (.type "method_descriptor")) (hm:MtR X id r) (ho:PE X o to)
  (aJ:attributeBase o name X.env (eval o X.env)=eval o X.env:=by rfl) (aN:(apos.endLine==ay.line)=true:=by rfl):PE X (.Call (.Attribute o name apos) [] [] ay) (aaf X.K T r to):=by
 intro pins s σ H Q I h;refine wpAny_Call_method0_late aJ aN (thn (ho pins s σ H _ I h) fun v s1 z0=>?_);obtain ⟨x,H1,I1,r1,ty,q1⟩:=z0;obtain ⟨h1,h2⟩:=a1f I1 r1 ty;exact ⟨T,id,pa,slot,d5,h1,h2,Calls.callWith_builtin rfl (PySem.evalArgs_none (hm pins s1 σ H1 x [] v [] Q I1 r1 .nil q1))⟩
theorem Kl (pa:PlainAttrs T) (slot:Slot T name id) (d5:typeOf (.builtin id)=pure (.type "method_descriptor")) (hm:MtR X id r) (ho:PE X o to) (ha:PA X (e::es) t)
  (aJ:attributeBase o name X.env (eval o X.env)=eval o X.env:=by rfl)
  (bt:((backTo ay (starEach (e::es) X.env)).all (fun x=>!x.1)&&(backToKw ay (keywordEach [] X.env)).all (fun x=>x.1.isSome)
   && decide ((e::es).length+([]:List Keyword).length+(if ([]:List Keyword).isEmpty then 0 else 1)<30))=true:=by rfl)
  (aN:(apos.endLine==ay.line)=true:=by rfl) (hs:starEach (e::es) X.env=(false,eval e X.env)::starEach es X.env:=by rfl) (aL:(backTo ay (starEach es X.env)).any (·.1)=false:=by rfl) :
  PE X (.Call (.Attribute o name apos) (e::es) [] ay) (tBM X.K T r to t):=by
 intro pins s σ H Q I h;refine wpAny_Call_method_late aJ bt aN rfl (thn (ho pins s σ H _ I h) fun v s1 z0=>?_);obtain ⟨x,H1,I1,r1,ty,q1⟩:=z0;obtain ⟨h1,h2⟩:=a1f I1 r1 ty;refine ⟨T,id,pa,slot,d5,h1,h2,?_⟩;have hA:=ha ay pins s1 σ H1 _ I1 q1;rw [hs] at hA ⊢;refine Calls.callWith_builtin (by show (false||(backTo ay (starEach es X.env)).any (·.1))=false; rw [aL] <;> rfl) (Calls.evalArgs_plain ?_);exact thn hA fun us s2 ⟨vs,H2,I2,r2,q2⟩=>hm pins s2 σ H2 x vs v us Q I2 r1 r2 q2
end
end L2
namespace L2
open PySem PySem.Spec PyProof.Rows
def MtM (X:Cx) (id:String) (r:V->List V->Hp->VK->Prop):Prop :=
 ∀ (pins:List (Addr × Obj)) (s:Shared) (σ:St) (H:Hp) (x:V) (xs:List V) (v:Value) (us:List Value) (Q:VK),Inv X pins σ H s->RelV x v->Vals xs us->r x xs H Q ->
  wpAny (model X.prog X.w) X.A (call (.builtin id) (v::us)) (EP X pins σ Q) X.xe s
theorem Vals.one {x:V} {us:List Value} (h:Vals [x] us):∃ u,us=[u]/\RelV x u:=by
 cases h with
 | cons r t=>cases t; exact ⟨_,rfl,r⟩
theorem Vals.two {x y:V} {us:List Value} (h:Vals [x,y] us):∃ u v,us=[u,v]/\RelV x u/\RelV y v:=by
 cases h with
 | cons r t=>obtain ⟨v,e,q⟩:=Vals.one t; exact ⟨_,v,congrArg _ e,r,q⟩
theorem Vals.zero:∀ {us:List Value},Vals [] us->us=[]
 | _,.nil=>rfl
theorem Vals.dropLast {xs:List V} {us:List Value} (h:Vals xs us):Vals xs.dropLast us.dropLast:=by
 induction h with
 | nil=>exact .nil
 | cons r t ih =>
  cases t with
  | nil=>exact .nil
  | cons q t'=>exact .cons r ih
theorem Vals.rep {xs:List V} {us:List Value} (h:Vals xs us):∀ k:Nat,Vals (List.replicate k xs).flatten (List.replicate k us).flatten
 | 0=>.nil
 | k+1=>by
  rw [List.replicate_succ,List.replicate_succ,List.flatten_cons,List.flatten_cons];exact Vals.append h (Vals.rep h k)
theorem Sg {α:Type} (l:List α):l.eraseIdx (l.length - 1)=l.dropLast:=by
 induction l with
 | nil=>rfl
 | cons a r ih =>
  cases r with
  | nil=>rfl
  | cons b r =>
   have e:(a::b::r).length - 1=((b::r).length - 1)+1:=by
    have h1:(a::b::r).length=r.length+2:=rfl;have h2:(b::r).length=r.length+1:=rfl;omega
   rw [e,List.eraseIdx_cons_succ,ih]
   all_goals rfl
section
variable {X:Cx} {pins:List (Addr × Obj)} {σ:St} {H:Hp} {s:Shared} {l b:Addr} {xs ys zs:List V}
theorem Inv.aa6 {af its':List Value} {n:Nat} {f:Array Value->Array Value} {t':Nat} (I:Inv X pins σ H s) (hH:H l=some (.lst xs))
  (e:s.heap.get? l=some { cls:=.type "list",data:=.seq af.toArray n }) (hf:f af.toArray=its'.toArray) (hv:Vals ys its') (hz:ys.length<=sizeLine) :
  Inv X pins σ (upd H l (.lst ys)) { s with heap:=s.heap.update l (Obj.mapSeq f),toks:=t' }:=by
 have q:=PySem.IsL.update e f;rw [hf] at q;refine I.write (x:=l) (e:=l) (by rw [hH]; exact trivial) (.inl rfl) (fun b' u hb hu=>(Heap.get?_update_other s.heap (Obj.mapSeq f) (Ne.symm hb)).trans hu) ⟨_,q⟩ ?_;exact ⟨hz,its',_,hv,q⟩
theorem Inv.aaz {af:List Value} {t':Nat} (I:Inv X pins σ H s) (hv:Vals ys af) (hz:ys.length<=sizeLine) :
  Inv X pins σ (upd H s.heap.objs.size (.lst ys)) { s with heap:=s.heap.push { cls:=.type "list",data:=.seq af.toArray },toks:=t' } :=
 I.laid (fun _ _ q=>Heap.get?_push_of_some _ q) (Nat.le_refl _) ⟨hz,af,0,hv,Heap.get?_push_size _ rfl⟩
theorem Inv.fresh (I:Inv X pins σ H s):H s.heap.objs.size=none:=I.hok.fresh (Nat.le_refl _)
theorem Inv.aa2 (I:Inv X pins σ H s) (hH:H l=some (.lst xs)):xs.length<=sizeLine/\∃ (af:List Value) (n:Nat),Vals xs af/\xs.length=af.length/\s.heap.get? l=some { cls:=.type "list",data:=.seq af.toArray n }:=by
 obtain ⟨z,af,n,r,e⟩:=I.hok l _ hH;exact ⟨z,af,n,r,r.length,e⟩
end
section
variable {X:Cx}
def Ht:V->List V->Hp->VK->Prop:=fun x vs H Q=>∃ l xs y,x=.ref l/\vs=[y]/\H l=some (.lst xs)/\xs.length<sizeLine/\Q .non (upd H l (.lst (xs++[y])))
theorem yu:MtM X "list.append" Ht:=by
 intro pins s σ H x vs v us Q I rx rv h;obtain ⟨l,xs,y,rfl,rfl,hH,hz,q⟩:=h;cases rx;obtain ⟨u,rfl,ru⟩:=rv.one;obtain ⟨z,af,n,r,hl,e⟩:=I.aa2 hH;refine call_meets F.slot_list_append ⟨_,e,rfl⟩ F.entry_list_append (F.args_list_append_2 _ _) (PySem.list_append l af.toArray n u (by rw [List.size_toArray]; omega)) ⟨e,?_⟩;refine ⟨.non,_,I.aa6 (its':=af++[u]) hH e (by simp) (r.append (.cons ru .nil)) ?_,rfl,q⟩;rw [List.length_append,List.length_singleton];omega
def aad:V->List V->Hp->VK->Prop:=fun x vs H Q=>∃ l xs y,x=.ref l/\vs=[]/\H l=some (.lst xs)/\xs[xs.length - 1]? = some y/\Q y (upd H l (.lst xs.dropLast))
theorem a6w:MtM X "list.pop" aad:=by
 intro pins s σ H x vs v us Q I rx rv h;obtain ⟨l,xs,y,rfl,rfl,hH,hy,q⟩:=h;cases rx;have fK:=rv.zero;subst fK;obtain ⟨z,af,n,r,hl,e⟩:=I.aa2 hH;obtain ⟨u,hu,ru⟩:=r.get hy
 have dD:af.toArray[af.toArray.size - 1]? = some u:=by
  show af.toArray[af.length - 1]? = some u;rw [<- Array.getElem?_toList,<- hl];exact hu
 refine call_meets F.slot_list_pop ⟨_,e,rfl⟩ F.entry_list_pop (F.args_list_pop_1 _) (MeetsSeq.list_pop_last l af.toArray n u dD (by rw [List.size_toArray]; omega)) ⟨e,?_⟩;refine ⟨y,_,I.aa6 (its':=af.dropLast) hH e ?_ r.dropLast ?_,ru,q⟩
 ·show af.toArray.eraseIdxIfInBounds (af.toArray.size - 1)=af.dropLast.toArray;rw [List.size_toArray,List.eraseIdxIfInBounds_toArray,Sg]
 ·rw [List.length_dropLast];omega
end
section
variable {prog:Program} {w:World} {A:Around} {E:Value->Shared->Prop} {s:Shared}
end
section
variable {X:Cx}
end
section
variable {κ:Type} [DecidableEq κ]
def Qw (aw:List (κ × V)) (k:κ):Option V:=(aw.find? fun kv=>decide (kv.1=k)).map (·.2)
noncomputable def putK (aw:List (κ × V)) (k:κ) (v:V):List (κ × V) :=
 if (aw.any fun kv=>decide (kv.1=k))=true then aw.map (fun kv=>if kv.1=k then (kv.1,v) else kv) else aw++[(k,v)]
theorem Gv {p:κ × V} {r:List (κ × V)} {k:κ} (e:p.1=k):Qw (p::r) k=some p.2:=by simp [Qw,List.find?_cons,e]
theorem Gq {p:κ × V} {r:List (κ × V)} {k:κ} (e:¬ p.1=k):Qw (p::r) k=Qw r k:=by simp [Qw,List.find?_cons,e]
theorem Kw.Ep {o:Option V} {u:Option Value} (r:Kw o u):o.isSome=u.isSome:=by
 cases o with
 | none=>cases u with
  | none=>rfl
  | some _=>exact (show False from r).elim
 | some _=>cases u with
  | none=>exact (show False from r).elim
  | some _=>rfl
theorem KV.val {aw:List (κ × V)} {vs:List (κ × Value)} (r:KV aw vs) (k:κ):Kw (Qw aw k) (valueAt vs k):=by
 unfold KV at r
 induction r with
 | nil=>exact True.intro
 | @cons p q ps qs h t ih =>
  obtain ⟨h1,h2⟩:=h
  by_cases e:p.1=k
  ·have e':q.1=k:=h1.symm.trans e;have b:valueAt (q::qs) k=some q.2:=by simp [valueAt,List.find?_cons,e']
   rw [Gv e,b]; exact h2
  ·have e':¬ q.1=k:=fun z=>e (h1.trans z);have b:valueAt (q::qs) k=valueAt qs k:=by simp [valueAt,List.find?_cons,e']
   rw [Gq e,b]; exact ih
theorem KV.any {aw:List (κ × V)} {vs:List (κ × Value)} (r:KV aw vs) (k:κ):(aw.any fun kv=>decide (kv.1=k))=vs.any fun kv=>decide (kv.1=k):=by
 unfold KV at r
 induction r with
 | nil=>rfl
 | cons h t ih=>rw [List.any_cons,List.any_cons,ih,h.1]
theorem KV.keys {aw:List (κ × V)} {vs:List (κ × Value)} (r:KV aw vs):aw.map (·.1)=vs.map (·.1):=by
 unfold KV at r
 induction r with
 | nil=>rfl
 | cons h t ih=>rw [List.map_cons,List.map_cons,ih,h.1]
theorem KV.length {aw:List (κ × V)} {vs:List (κ × Value)} (r:KV aw vs):aw.length=vs.length:=Paired.length r
end
theorem a0l {P:Program} {w:World} {k:Key} {u:Value} (r:RelV (kV k) u):(yq P w).is k u=true:=by
 cases k with
 | inl i=>obtain ⟨t,e⟩:=(show ∃ t,u=Value.int i t from r); subst e; exact Nj P w i t
 | inr x=>obtain ⟨t,e⟩:=(show ∃ t,u=Value.str x t from r); subst e; exact O4 P w x t
theorem Li {P:Program} {w:World}:∀ {ks:List Key} {us:List Value},Vals (ks.map kV) us->ItemsAre (yq P w) ks us
 | [],_,r=>by rw [List.map_nil] at r; cases r; exact .nil
 | k::ks,_,r=>by
  rw [List.map_cons] at r;cases r with
  | cons h t=>exact .cons (a0l h) (Li t)
abbrev KT (H:Hp):List (List Key × V)->List (List Key × Addr × Value)->Prop:=Paired fun p q=>p.1=q.1/\H q.2.1=some (.tup (p.1.map kV))/\RelV p.2 q.2.2
theorem KT.val {H:Hp} {aw:List (List Key × V)} {xs:List (List Key × Addr × Value)} (r:KT H aw xs) (k:List Key):Kw (Qw aw k) ((atKey xs k).map (·.2)):=by
 induction r with
 | nil=>exact True.intro
 | @cons p q ps qs h t ih =>
  obtain ⟨h1,_,h2⟩:=h
  by_cases e:p.1=k
  ·have e':q.1=k:=h1.symm.trans e;have b:atKey (q::qs) k=some q.2:=by simp [atKey,List.find?_cons,e']
   rw [Gv e,b]; exact h2
  ·have e':¬ q.1=k:=fun z=>e (h1.trans z);have b:atKey (q::qs) k=atKey qs k:=by simp [atKey,List.find?_cons,e']
   rw [Gq e,b]; exact ih
section
variable {P:Program} {w:World} {H:Hp} {h:Heap} {a:Addr}
theorem a7r {u:HO} (ok:HOk P w H h) (e:Rd H a u):yg P w H h a u:=e.ok ok
theorem Pu {aw:List (Key × V)} (ok:HOk P w H h) (e:Rd H a (.dK aw)):aw.length<=sizeLine/\(a==sysModules)=false/\∃ vs,KV aw vs/\h.DictOf (yq P w) a vs :=
 show yg P w H h a (.dK aw) from a7r ok e
theorem Ra {ks:List Key} (ok:HOk P w H h) (e:H a=some (.tup (ks.map kV))):(tupleKind (yq P w)).is h ks a:=by
 obtain ⟨_,af,r,o,h1,h2,_,n,h3⟩:=(show yg P w H h a (.tup (ks.map kV)) from ok a _ e);exact ⟨o,af.toArray,n,h1,h2,h3,by simpa using Li r⟩
theorem a0d {aw:List (List Key × V)} (ok:HOk P w H h) (e:Rd H a (.dT aw)):aw.length<=sizeLine/\(a==sysModules)=false /\
  ∃ xs,KT H aw xs/\h.DictOfH (tupleKind (yq P w)) a xs:=by
 obtain ⟨z,y,xs,r,o,es,ep,h1,h2,h3,h4,h5⟩:=(show yg P w H h a (.dT aw) from a7r ok e);refine ⟨z,y,xs,r,o,es,ep,h1,h2,h3,h4,fun x hx=>?_,h5⟩
 have all:∀ {l:List (List Key × V)} {m:List (List Key × Addr × Value)},KT H l m->∀ x∈m,(tupleKind (yq P w)).is h x.1 x.2.1:=by
  intro l m q
  induction q with
  | nil=>intro x hx; exact nomatch hx
  | @cons p q ps qs hq t ih =>
   intro x hx;rcases List.mem_cons.mp hx with e | hx
   ·subst e;exact Ra ok (by rw [<- hq.1]; exact hq.2.1)
   ·exact ih x hx
 exact all r x hx
end
def a5p (H:Hp) (a:Addr) (y:V) (r:Option V):Prop :=
 (∃ aw k,Rd H a (.dK aw)/\y=kV k/\r=Qw aw k)\/∃ aw k b,Rd H a (.dT aw)/\y=.ref b/\H b=some (.tup (k.map kV))/\r=Qw aw k
def a8n (H:Hp) (a:Addr) (y v:V) (H':Hp):Prop :=
 (∃ aw k,H a=some (.dK aw)/\y=kV k/\aw.length<sizeLine/\H'=upd H a (.dK (putK aw k v))) \/
 ∃ aw k b,H a=some (.dT aw)/\y=.ref b/\H b=some (.tup (k.map kV))/\aw.length<sizeLine/\H'=upd H a (.dT (putK aw k v))
theorem a8n.k {H:Hp} {a:Addr} {aw:List (Key × V)} {k:Key} {v:V} (e:H a=some (.dK aw)) (hl:aw.length<sizeLine):a8n H a (kV k) v (upd H a (.dK (putK aw k v))):=.inl ⟨aw,k,e,rfl,hl,rfl⟩
theorem a8n.t {H:Hp} {a b:Addr} {aw:List (List Key × V)} {k:List Key} {v:V} (e:H a=some (.dT aw)) (eb:H b=some (.tup (k.map kV))) (hl:aw.length<sizeLine) :
  a8n H a (.ref b) v (upd H a (.dT (putK aw k v))):=.inr ⟨aw,k,b,e,rfl,eb,hl,rfl⟩
section
variable {X:Cx} {pins:List (Addr × Obj)} {σ:St} {H:Hp} {s:Shared} {a:Addr} {y v:V} {u r:Value} {o:Option V} {A:Around} {E:Value->Shared->Prop}
theorem Inv.big (I:Inv X pins σ H s):sysModules<s.heap.objs.size:=by
 have h:mainGlobals<s.heap.objs.size:=(I.mod.glob.keeps I.bk).lt;exact Nat.lt_trans (by decide) h
theorem W4 {Q:Value->Shared->Prop} (hu:A.units+1<cLine) (I:Inv X pins σ H s) (g:a5p H a y (some v)) (ry:RelV y u) (h:∀ w' s',Inv X pins σ H s'->RelV v w'->Q w' s') :
  wpAny (model X.prog X.w) A (getItem (.ref a) u) Q E s:=by
 rcases g with ⟨aw,k,e,ey,l⟩ | ⟨aw,k,b,e,ey,eb,l⟩
 ·subst ey;obtain ⟨z,hd,vs,rel,dd⟩:=Pu I.hok e;obtain ⟨w',hw,rw'⟩:=Kw.some_of (v:=v) (o:=valueAt vs k) (by rw [l]; exact rel.val k);exact wpAny_getItem_of (a0l ry) dd.mapOf hw (h w' _ (I.tok _) rw')
 ·subst ey;cases (show u=Value.ref b from ry);obtain ⟨z,hd,xs,rel,dd⟩:=a0d I.hok e;obtain ⟨w',hw,rw'⟩:=Kw.some_of (v:=v) (o:=(atKey xs k).map (·.2)) (by rw [l]; exact rel.val k);obtain ⟨p,hp,hp2⟩:=Option.map_eq_some_iff.mp hw;refine wpAny_getItem_heap (tupleKind_room_in1 hu) (Ra I.hok eb) dd hp ?_;rw [hp2];exact h w' _ (I.tok _) rw'
theorem abm {Q:Value->Shared->Prop} (hu:A.units+1<cLine) (I:Inv X pins σ H s) (g:a5p H a y o) (ry:RelV y u) (h:∀ s',Inv X pins σ H s'->Q (.bool o.isSome) s') :
  wpAny (model X.prog X.w) A (compareOp .In u (.ref a)) Q E s:=by
 rcases g with ⟨aw,k,e,ey,l⟩ | ⟨aw,k,b,e,ey,eb,l⟩
 ·subst ey;obtain ⟨z,hd,vs,rel,dd⟩:=Pu I.hok e;refine wpAny_in_of (a0l ry) hd dd.mapOf ?_;rw [<- (rel.val k).Ep,<- l];exact h _ (I.tok _)
 ·subst ey;cases (show u=Value.ref b from ry);obtain ⟨z,hd,xs,rel,dd⟩:=a0d I.hok e;refine wpAny_in_heap (tupleKind_room_in1 hu) (Ra I.hok eb) hd dd ?_;have q:=(rel.val k).Ep;rw [Option.isSome_map] at q;rw [<- q,<- l];exact h _ (I.tok _)
theorem a4s {Q:Value->Shared->Prop} (hu:A.units+1<cLine) (I:Inv X pins σ H s) (g:a5p H a y o) (ry:RelV y u) (h:∀ s',Inv X pins σ H s'->Q (.bool (!o.isSome)) s') :
  wpAny (model X.prog X.w) A (compareOp .NotIn u (.ref a)) Q E s:=by
 rcases g with ⟨aw,k,e,ey,l⟩ | ⟨aw,k,b,e,ey,eb,l⟩
 ·subst ey;obtain ⟨z,hd,vs,rel,dd⟩:=Pu I.hok e;refine wpAny_notIn_of (a0l ry) hd dd.mapOf ?_;rw [<- (rel.val k).Ep,<- l];exact h _ (I.tok _)
 ·subst ey;cases (show u=Value.ref b from ry);obtain ⟨z,hd,xs,rel,dd⟩:=a0d I.hok e;refine wpAny_notIn_heap (tupleKind_room_in1 hu) (Ra I.hok eb) hd dd ?_;have q:=(rel.val k).Ep;rw [Option.isSome_map] at q;rw [<- q,<- l];exact h _ (I.tok _)
end
section
variable {X:Cx} {pins:List (Addr × Obj)} {σ:St} {H:Hp} {s:Shared} {a:Addr} {aw:List (Key × V)} {k:Key} {u:Value} {A:Around} {E:Value->Shared->Prop}
theorem a7y {Q:Value->Shared->Prop} (I:Inv X pins σ H s) (e:Rd H a (.dK aw)) (h:∀ t s',Inv X pins σ H s'->Q (.int aw.length t) s'):wpAny (model X.prog X.w) A (call (.builtin "len") [.ref a]) Q E s:=by
 obtain ⟨z,hd,vs,rel,dd⟩:=Pu I.hok e;refine call_len_dict hd dd (by rw [<- rel.length]; rw [sizeLine_eq] at z; omega) ?_;rw [<- rel.length];exact h _ _ (I.tok _)
end
theorem Oe {X:Cx} {pins:List (Addr × Obj)} {σ:St} {H:Hp} {s:Shared} {a:Addr} {y:V} {o:Option V} (I:Inv X pins σ H s) (g:a5p H a y o):s.TypeIs (.ref a) "dict" := by
 rcases g with ⟨aw,k,e,_,_⟩ | ⟨aw,k,b,e,_,_,_⟩
 ·obtain ⟨_,_,vs,_,dd⟩:=Pu I.hok e;exact dd.typeIs
 ·obtain ⟨_,_,xs,_,dd⟩:=a0d I.hok e;exact dd.typeIs
section
variable {X:Cx} {o i e value:Expr} {pos pos' aM:Pos} {td ty tv:TE}
end
section
variable {X:Cx} {pos:Pos}
end
structure M1 (X:Cx) (o:Expr) (m:Str) (apos:Pos) (e:Expr) (ay:Pos):Prop where
 base:attributeBase o m X.env (eval o X.env)=eval o X.env
 few:((backTo ay (starEach [e] X.env)).all (fun x=>!x.1)&&(backToKw ay (keywordEach [] X.env)).all (fun x=>x.1.isSome)
  && decide (([e]:List Expr).length+([]:List Keyword).length+(if ([]:List Keyword).isEmpty then 0 else 1)<30))=true
 line:(apos.endLine==ay.line)=true
 trees:backTo ay (starEach [e] X.env)=[(false,eval e X.env)]
structure M2 (X:Cx) (o:Expr) (m:Str) (apos:Pos) (e f:Expr) (ay:Pos):Prop where
 base:attributeBase o m X.env (eval o X.env)=eval o X.env
 few:((backTo ay (starEach [e,f] X.env)).all (fun x=>!x.1)&&(backToKw ay (keywordEach [] X.env)).all (fun x=>x.1.isSome)
  && decide (([e,f]:List Expr).length+([]:List Keyword).length+(if ([]:List Keyword).isEmpty then 0 else 1)<30))=true
 line:(apos.endLine==ay.line)=true
 trees:backTo ay (starEach [e,f] X.env)=[(false,eval e X.env),(false,eval f X.env)]
section
variable {X:Cx} {pins:List (Addr × Obj)} {σ:St} {H:Hp} {s:Shared} {a:Addr} {y d:V} {u r:Value} {o:Option V} {A:Around} {E:Value->Shared->Prop}
end
section
variable {X:Cx} {o e f:Expr} {apos ay:Pos} {td ty tx:TE}
end
section
variable {X:Cx} {pins:List (Addr × Obj)} {σ:St} {H:Hp} {s:Shared} {a:Addr} {aw:List (Key × V)} {A:Around} {E:Value->Shared->Prop}
end
section
variable {X:Cx} {pins:List (Addr × Obj)} {σ:St} {H:Hp} {s:Shared} {a:Addr} {y:V} {u:Value} {A:Around} {E:Value->Shared->Prop}
end
end L2
end
section
namespace Att
open PySem PySem.W PySem.Calls PyProof.Rows
theorem Ib {P:Params} {h:Heap}:∀ (ns:List Int) (vs:List Value),WellAll P h vs (ns.map WData.int)->IntsAre vs ns:=by
 intro ns
 induction ns with
 | nil =>
  intro vs w;rw [List.map_nil] at w;cases w;exact .nil
 | cons n ns ih =>
  intro vs w;rw [List.map_cons] at w;cases w with
  | cons a b =>
   cases a;exact .cons _ _ (ih _ b)
theorem Xp {l:OpenLaw} {n:Nat} (hn:l.most=some n) {P:Params} {h:Heap} {args:List WData} {vals:List Value}
  (bC:l.row.toRowW.claim.pre args=true) (dW:WellAll P h vals args) :
  ∃ a vs ns,vals=[Value.ref a]/\args=[WData.list (ns.map WData.int)]/\h.get? a=some { cls:=.type "list",data:=.seq vs.toArray }/\IntsAre vs ns/\ns.length<=n:=by
 have fD:WShape.hasAll [] args [.list .int]=true:=(pre_splitW bC).1;have hc:l.pre.holds [] { args:=args } = true:=(pre_splitW bC).2;obtain ⟨d,r,rfl,h1,h2⟩:=hasAllW_cons fD;obtain rfl:=hasAllW_nil h2;obtain ⟨xs,rfl,h3⟩:=hasW_list h1;obtain ⟨ns,rfl⟩:=items_int h3
 have hlen:ns.length<=n:=by
  unfold OpenLaw.pre at hc
  have h4:(WTm.not (.lt (.lit (.int (n:Int))) (.len (.arg 0)))).holds [] { args:=[.list (ns.map .int)] } = true:=by
   have h4:=(holds_andW hc).1;rw [hn] at h4;exact h4
  have h5:=condW_of h4 (w_not (w_lt w_lit (w_len_list (w_arg rfl))));rw [List.length_map] at h5;refine Nat.le_of_not_lt fun q=>?_;have q':(n:Int)<((ns.length:Nat):Int):=by omega
  first
   | (rw [decide_eq_true q'] at h5; exact absurd h5 (by decide))
   | (simp at h5; omega)
 cases dW with
 | cons w1 w2 =>
  cases w2;cases w1 with
  | list ho hall=>exact ⟨_,_,ns,rfl,rfl,ho,Ib ns _ hall,hlen⟩
theorem Wg (l:OpenLaw) (args:List WData):l.row.toRowW.claim.post args (.bool true) args=true :=
 postW_of (r:=l.row.toRowW) (X:=(true==true))
  (show WShape.has [] (.bool true) .bool=true by first | rfl | decide | simp [WShape.has,WShape.arms,WShape.armsAll])
  (show (WTm.eq .res (.lit (.bool true))).value [] { args:=args,res:=some (.bool true),after:=args } = some (.bool (true==true)) from w_eq_bool (w_res rfl) w_lit) rfl
theorem O8 {l:OpenLaw} {n:Nat} {q:Program} {loose:List Str} {XP:(Str->Option Value)->Heap->Prop} {YP:World->Heap->Prop} {d:DefRec}
  (hn:l.most=some n) (cS:d.params.defaults=[])
  (call:∀ (w:World) (s₀ az:Shared) (mg mb:Str->Option Value) (fa:Addr) (o:Obj) (pm cd doc:Value) (a:Addr) (vs:List Value) (ns:List Int),
   Ground q loose [] XP w s₀ mg mb az.heap->YP w az.heap ->
   az.heap.get? fa=some o->o.data=.func (docDef d.name d.params d.body d.scope pm cd doc)->az.heap.CodeRec cd d.name->mg d.name=some (.ref fa) ->
   az.heap.get? a=some { cls:=.type "list",data:=.seq vs.toArray }->IntsAre vs ns->ns.length<=n->az.gens = #[] ->
   codeAny (model l.prog w) callerA (.call (.ref fa) ⟨[.ref a],[]⟩) (fun r s'=>r=.ok (.ret (.bool true))/\OldK az.heap s'.heap/\s'.os=az.os/\AllBare s'.gens) az) :
  WalkO q loose XP YP l.row.toRowW d [] (fun f vs=>PySem.call f vs):=by
 intro w s₀ az mg mb G Y fa o pm cd doc dV kV ho hd a7 hD cz hg args vals as bC fR gD dW gA;obtain rfl:dV=.none:=Dflts.none hD cS;obtain rfl:kV=.none:=Dflts.noKw hD;obtain ⟨a,vs,ns,rfl,rfl,cA,hints,hlen⟩:=Xp hn bC dW;refine enter_call (codeAny_mono (call w s₀ az mg mb fa o pm cd doc a vs ns G Y ho (fd_plain hd) a7 cz cA hints hlen hg) fun r s' hq=>?_);obtain ⟨rfl,h2,h3,h4⟩:=hq;exact ⟨.inl ⟨.bool true,.bool true,[],rfl,fun _=>rfl,.bool true,Wg l _,fun _=>⟨List.Pairwise.nil,fun _ hm=>(nomatch hm)⟩⟩,h2,h3,h4⟩
section
variable {prog:Program} {w:World} {A:Around} {E:Value->Shared->Prop} {s:Shared} {K:Frag}
end
end Att
namespace L2
open PySem PySem.Spec PyProof.Rows
theorem Lb:∀ {vs:List Value} {ns:List Int},IntsAre vs ns->Vals (ns.map V.int) vs
 | _,_,.nil=>.nil
 | _,_,.cons n t h=>.cons ⟨t,rfl⟩ (Lb h)
def Only (H:Hp):Prop:=∀ b,H b=none\/∃ o xs,H b=some (.frz o (.lst xs))
theorem Zt {P:Program} {w:World} {K:PySem.W.Frag} {mg mb:Str->Option Value} {CX:CXT} {k:Nat} {fa a:Addr} {fd:FuncData} {x:Str} {sp:Sp} {az:Shared} {vs:List Value} {ns:List Int}
  (KX:K.In az.heap) (eM:az.heap.Ns mainGlobals mg) (hb:az.heap.Ns builtinsNs mb) (e9:∀ x:Str,x ≠ "__name__" -> mb x=bootBuiltins x) (d3:az.heap.NoLimit) (hg:az.gens = #[])
  (ha:az.heap.get? a=some { cls:=.type "list",data:=.seq vs.toArray }) (hi:IntsAre vs ns) (hl:ns.length<=sizeLine) (hr:Ab k callerA)
  (F:∀ base:Heap,K.In base->base.Ns mainGlobals mg->Bj P w K mg base CX k fa fd [x] sp) (cG:∀ (s:Shared) (u:Value),BindsTo s fd ⟨[u],[]⟩ [(x,u)])
  (bV:∀ H:Hp,Only H->SqL K H a (ns.map V.int)->sp [.ref a] H (fun v _=>v=.bl true) fun _ _ _=>False)
  (dM:∀ H e s',CX [] H az (fun _ _ _=>False) e s'->False) :
  codeAny (model P w) callerA (.call (.ref fa) ⟨[.ref a],[]⟩) (fun r s'=>r=.ok (.ret (.bool true))/\OldK az.heap s'.heap/\s'.os=az.os/\AllBare s'.gens) az:=by
 have rv:=Lb hi;have dQ:=hi.length
 have core:∀ H:Hp,Only H->SqL K H a (ns.map V.int)->HOk P w H az.heap->(∀ b,H b≠none->b=a)->(H a≠none->K.lookup a=none) ->
   codeAny (model P w) callerA (.call (.ref fa) ⟨[.ref a],[]⟩) (fun r s'=>r=.ok (.ret (.bool true))/\OldK az.heap s'.heap/\s'.os=az.os/\AllBare s'.gens) az:=by
  intro H hO hS hok hA hK;have bz:∀ {b:Addr} {o:Obj},az.heap.get? b=some o->H b=none->(Zm az.heap H).get? b=some o:=fun e n=>Zj e n
  have cJ:∀ {b:Addr} {o:Obj} {es:Array DictEntry} {ep:Nat},az.heap.get? b=some o->o.data=.dict es ep->H b=none:=fun {b o es ep} e d=>by
   cases q:H b with
   | none=>rfl
   | some u =>
    have e':b=a:=hA b (by rw [q]; simp);subst e';rw [ha] at e; cases e;have d':Data.seq vs.toArray _=Data.dict es ep:=d;cases d'
  have dm:∀ {b:Addr} {m:Str->Option Value},az.heap.Ns b m->(Zm az.heap H).Ns b m:=fun {b m} ⟨o,es,ep,e,d,r⟩=>⟨o,es,ep,bz e (cJ e d),d,r⟩
  have eP:K.In (Zm az.heap H):=fun b o e=>bz (KX b o e) (by
   cases q:H b with
   | none=>rfl
   | some u =>
    have e':b=a:=hA b (by rw [q]; simp);subst e';rw [hK (by rw [q]; simp)] at e; cases e)
  have hM:Mod K mg (Zm az.heap H):=⟨eP,dm eM,⟨mb,dm hb,e9⟩,let ⟨mc,h1,h2⟩:=d3; ⟨mc,dm h1,h2⟩⟩;have e0:a3j P w K mg (Zm az.heap H) callerA [] az H:=⟨rfl,hM,fun b o e=>a5l e,Nat.le_of_eq (Um _ _),trivial,fun b hb=>absurd (show b∈([]:List Addr) from hb) (by simp),hok,.of_eq hg⟩;refine codeAny_mono ((F _ eP (dm eM)).run callerA [] az H ⟨[.ref a],[]⟩ [.ref a] [.ref a] _ _ hr e0 (cG az (.ref a)) (.cons rfl .nil) (bV H hO hS)) fun r s' h=>?_;cases r with
  | error e=>exact (dM H e s' h).elim
  | ok fl =>
   cases fl with
   | next=>exact False.elim h
   | brk=>exact False.elim h
   | cont=>exact False.elim h
   | ret u =>
    obtain ⟨v,H',os,bare,un,hok',r',q⟩:=h;have q':v=.bl true:=q;subst q';obtain rfl:u=Value.bool true:=r';refine ⟨rfl,OldK.of_keep fun b o e=>?_,os,bare⟩;cases q:H b with
    | none=>exact un.keep b o e q (by intro z; exact absurd (show b∈([]:List Addr) from z) (by simp)) (by simp)
    | some u =>
     rcases hO b with z | ⟨ob,xs,z⟩
     ·rw [q] at z; cases z
     ·have z2:=un.frzs b ob _ z;obtain ⟨e1,_⟩:=hok b _ z;obtain ⟨e2,_⟩:=hok' b _ z2;rw [e] at e1; cases e1;exact e2
 cases hk:K.lookup a with
 | some o =>
  have e:=KX a o hk;rw [ha] at e;cases e;refine core (fun _=>none) (fun _=>.inl rfl) (.inr ⟨_,vs.toArray,_,hk,rfl,rfl,rfl,by rw [List.size_toArray,dQ]; exact hl,by simpa using rv⟩) (fun b u z=>by have z':(none:Option HO)=some u:=z; cases z') (fun b z=>absurd rfl z) fun z=>absurd rfl z
 | none =>
  refine core (fun b=>if b=a then some (.frz { cls:=.type "list",data:=.seq vs.toArray } (.lst (ns.map V.int))) else none) (fun b=>?_) (.inl (.inr ⟨{ cls:=.type "list",data:=.seq vs.toArray },if_pos rfl⟩)) (fun b u z=>?_) (fun b z=>?_) fun _=>hk
  ·by_cases hb:b=a
   ·exact .inr ⟨_,_,if_pos hb⟩
   ·exact .inl (if_neg hb)
  ·by_cases hb:b=a
   ·have z':=(if_pos hb).symm.trans z;cases z';subst hb;exact ⟨ha,by rw [List.length_map]; exact hl,vs,_,rv,ha⟩
   ·have z':=(if_neg hb).symm.trans z;cases z'
  ·by_cases hb:b=a
   ·exact hb
   ·exact absurd (if_neg hb) z
end L2
namespace L2
open PySem PySem.Spec PyProof.Rows
theorem a5f {l:PySem.W.OpenLaw} {n k:Nat} {q:Program} {loose:List Str} {XP:(Str->Option Value)->Heap->Prop} {YP:World->Heap->Prop} {d:DefRec} {K:Params->PySem.W.Frag} {CX:World->CXT} {sp:World->Sp} {x:Str}
  (hn:l.most=some n) (dB:n<=sizeLine) (cS:d.params.defaults=[]) (hr:Ab k callerA)
  (hY:∀ (w:World) (h:Heap),YP w h->(K w.params).In h)
  (F:∀ (w:World) (mg:Str->Option Value) (fa:Addr) (h:Heap),(K w.params).In h->h.Ns mainGlobals mg->mg d.name=some (.ref fa) ->
   ∃ fd:FuncData,(∀ (s:Shared) (u:Value),BindsTo s fd ⟨[u],[]⟩ [(x,u)]) /\
    ∀ base:Heap,(K w.params).In base->base.Ns mainGlobals mg->Bj l.prog w (K w.params) mg base (CX w) k fa fd [x] (sp w))
  (bV:∀ (w:World) (H:Hp) (a:Addr) (ns:List Int),ns.length<=n->Only H->SqL (K w.params) H a (ns.map V.int)->sp w [.ref a] H (fun v _=>v=.bl true) fun _ _ _=>False)
  (dM:∀ (w:World) (H:Hp) (s:Shared) (e:Value) (s':Shared),CX w [] H s (fun _ _ _=>False) e s'->False) :
  PySem.W.WalkO q loose XP YP l.row.toRowW d [] (fun f vs=>PySem.call f vs):=by
 refine Att.O8 hn cS fun w s₀ az mg mb fa o pm cd doc a vs ns G Y ho hd a7 cz cA hints hlen hg=>?_;have KX:=hY w _ Y;obtain ⟨fd,hb,hF⟩:=F w mg fa _ KX G.T.g cz;exact Zt KX G.T.g G.T.b G.T.builtins G.T.nolimit hg cA hints (Nat.le_trans hlen dB) hr hF hb (fun H hO hS=>bV w H a ns hlen hO hS) fun H e s'=>dM w H az e s'
end L2
namespace L2
open PySem PySem.Spec PyProof.Rows
noncomputable def Dq (s:Stmt):Arguments:=match s with
 | .FunctionDef _ a _ _ _ _ _ _ _ _=>a
 | _=>{ posonlyargs:=[],args:=[],vararg:=none,kwonlyargs:=[],kw_defaults:=[],kwarg:=none,defaults:=[] }
def v8 (s:Stmt):List Stmt:=match s with
 | .FunctionDef _ _ b _ _ _ _ _ _ _=>b
 | _=>[]
noncomputable def gn (s:Stmt):Scope:=match s with
 | .FunctionDef _ _ _ _ _ _ sc _ _ _=>sc
 | _=>{ kind:=.function,names:=[],isGenerator:=false,isCoroutine:=false }
abbrev CX0:CXT:=fun _ _ _ _ _ _=>False
abbrev E0:XK:=fun _ _ _=>False
theorem a79 {X:Cx}:Passes CX0 X E0:=fun _ _ _ _ _ _ _ h=>h.elim
structure Fun (K:PySem.W.Frag) (x qual:Str) (st:Stmt) (f:Addr) (fd:FuncData):Prop where
 ex:∃ (oc:Value) (od:Option Addr) (kV doc pm:Value) (an:Option Addr) (aC ct:Value) (bA:Array (Option Value)),
  fd=PySem.W.fnOf x qual (Dq st) (v8 st) (gn st) .none kV doc pm an aC ct/\K.lookup f=some ⟨oc,od,.func fd,bA⟩/\PySem.W.codeIn K aC qual=true
 kp:PySem.W.keepIn K (.ref f)=true
section
variable {P:Program} {w:World} {K:PySem.W.Frag} {mg:Str->Option Value} {base:Heap}
theorem Fun.ok {x qual:Str} {st:Stmt} {f:Addr} {fd:FuncData} {N ps:List Str} {k:Nat} {sp:Sp} (F:Fun K x qual st f fd) (S:Ad N ps (gn st)) (len:∀ vs H Q E,sp vs H Q E->vs.length=ps.length)
  (bL:∀ (aC:Value) (A:Around) (outer:List Env) (s:Shared) (H:Hp) (vs:List V) (Q:VK) (E:XK),Ab k (A.deeper (envOfC qual (gn st) s.heap.objs.size f aC))->sp vs H Q E ->
   ∃ t,PSs (M7 CX0 P w K mg base N qual (gn st) f aC A outer s H E).nox (v8 st) t/\t { nx:=fun _ H'=>Q .non H',rt:=Q } (start N vs) H):Bj P w K mg base CX0 (k+1) f fd ps sp:=by
 obtain ⟨oc,od,kV,doc,pm,an,aC,ct,bA,rfl,lk,a7⟩:=F.ex;refine a5u lk a7 S len fun A outer s H vs Q E hr bV=>?_;obtain ⟨t,h,q⟩:=bL aC A outer s H vs Q E hr bV;exact ⟨t,h.nox,q⟩
theorem Fun.binds {x qual:Str} {st:Stmt} {f:Addr} {fd:FuncData} {ps:List Str} (F:Fun K x qual st f fd)
  (h:∀ (kV doc pm:Value) (an:Option Addr) (aC ct:Value) (us:List Value),us.length=ps.length->bindArgs (PySem.W.fnOf x qual (Dq st) (v8 st) (gn st) .none kV doc pm an aC ct) ⟨us,[]⟩=pure (ps.zip us)):Binds K fd ps []:=by
 obtain ⟨oc,od,kV,doc,pm,an,aC,ct,bA,rfl,lk,a7⟩:=F.ex;exact .all (h kV doc pm an aC ct)
theorem bd1 {fd:FuncData} {ps:List Str} (h:∀ a,bindArgs fd ⟨[a],[]⟩=pure (ps.zip [a])) (us:List Value) (hl:us.length=1):bindArgs fd ⟨us,[]⟩=pure (ps.zip us):=by
 cases us with
 | nil=>exact nomatch hl
 | cons a us =>
 cases us with
 | cons _ _=>simp at hl
 | nil=>exact h a
theorem bd2 {fd:FuncData} {ps:List Str} (h:∀ a b,bindArgs fd ⟨[a,b],[]⟩=pure (ps.zip [a,b])) (us:List Value) (hl:us.length=2):bindArgs fd ⟨us,[]⟩=pure (ps.zip us):=by
 cases us with
 | nil=>exact nomatch hl
 | cons a us =>
 cases us with
 | nil=>exact nomatch hl
 | cons b us =>
 cases us with
 | cons _ _=>simp at hl
 | nil=>exact h a b
theorem bd3 {fd:FuncData} {ps:List Str} (h:∀ a b c,bindArgs fd ⟨[a,b,c],[]⟩=pure (ps.zip [a,b,c])) (us:List Value) (hl:us.length=3):bindArgs fd ⟨us,[]⟩=pure (ps.zip us):=by
 cases us with
 | nil=>exact nomatch hl
 | cons a us =>
 cases us with
 | nil=>exact nomatch hl
 | cons b us =>
 cases us with
 | nil=>exact nomatch hl
 | cons c us =>
 cases us with
 | cons _ _=>simp at hl
 | nil=>exact h a b c
theorem bd4 {fd:FuncData} {ps:List Str} (h:∀ a b c d,bindArgs fd ⟨[a,b,c,d],[]⟩=pure (ps.zip [a,b,c,d])) (us:List Value) (hl:us.length=4):bindArgs fd ⟨us,[]⟩=pure (ps.zip us):=by
 cases us with
 | nil=>exact nomatch hl
 | cons a us =>
 cases us with
 | nil=>exact nomatch hl
 | cons b us =>
 cases us with
 | nil=>exact nomatch hl
 | cons c us =>
 cases us with
 | nil=>exact nomatch hl
 | cons d us =>
 cases us with
 | cons _ _=>simp at hl
 | nil=>exact h a b c d
theorem bd5 {fd:FuncData} {ps:List Str} (h:∀ a b c d e,bindArgs fd ⟨[a,b,c,d,e],[]⟩=pure (ps.zip [a,b,c,d,e])) (us:List Value) (hl:us.length=5):bindArgs fd ⟨us,[]⟩=pure (ps.zip us):=by
 cases us with
 | nil=>exact nomatch hl
 | cons a us =>
 cases us with
 | nil=>exact nomatch hl
 | cons b us =>
 cases us with
 | nil=>exact nomatch hl
 | cons c us =>
 cases us with
 | nil=>exact nomatch hl
 | cons d us =>
 cases us with
 | nil=>exact nomatch hl
 | cons e us =>
 cases us with
 | cons _ _=>simp at hl
 | nil=>exact h a b c d e
theorem Rh {x qual:Str} {st:Stmt} {f:Addr} {oc:Value} {od an:Option Addr} {bA:Array (Option Value)} {kV doc pm aC ct:Value} (l:K.lookup f=some ⟨oc,od,.func (PySem.W.fnOf x qual (Dq st) (v8 st) (gn st) .none kV doc pm an aC ct),bA⟩)
  (c:PySem.W.codeIn K aC qual=true) (k:PySem.W.keepIn K (.ref f)=true):Fun K x qual st f (PySem.W.fnOf x qual (Dq st) (v8 st) (gn st) .none kV doc pm an aC ct):=⟨⟨oc,od,kV,doc,pm,an,aC,ct,bA,rfl,l,c⟩,k⟩
end
theorem a4a {A:Around} {k:Nat} (hr:Ab k A):A.units+1<cLine:=Nat.lt_of_le_of_lt (Nat.add_le_add_left (by decide:1<=64) _) hr.units
theorem Ck {n:Nat} (h:n<=1000):n<sizeLine:=Nat.lt_of_le_of_lt h (by decide)
section
variable {X:Cx}
theorem pv (i:Nat) {x:Str} {pos:Pos} (hN:X.N[i]? = some x:=by rfl) (hv:Vis X.env.scope x:=by first | exact Or.inl rfl | exact Or.inr (Or.inl rfl) | exact Or.inr (Or.inr rfl)) (hd:(x==("__debug__" : Str))=false:=by decide)
  (a7:(x==("__classdict__" : Str))=false:=by decide):PE X (.Name x pos) (Y7 i):=Vv hN hv hd a7
end
theorem Vk {A B:Prop} (h:B):if false=true then A else B:=by
 rw [if_neg Bool.false_ne_true];exact h
theorem Wk {A B:Prop} (h:A):if true=true then A else B:=by
 rw [if_pos rfl];exact h
def Same (H H':Hp):Prop:=∀ b o,H b=some o->H' b=some o
theorem Same.refl (H:Hp):Same H H:=fun _ _ h=>h
theorem Same.trans {H H1 H2:Hp} (a:Same H H1) (b:Same H1 H2):Same H H2:=fun c o h=>b c o (a c o h)
theorem Same.free {H H':Hp} (e:Same H H') {l:Addr} (h:H' l=Option.none):H l=Option.none:=by
 cases q:H l with
 | none=>rfl
 | some o =>
  rw [e l o q] at h;cases h
section
variable {X:Cx}
end
section
variable {κ:Type} [DecidableEq κ]
end
section
variable {pr:Program} {wd:World} {Ar:Around} {Rs:Result->Shared->Prop} {s:Shared}
theorem N8 {el dC eI:Expr} {cs:List Expr} {eN:Scope} {ps:Pos} {bR aH:Value} {en:Env} (J:Nat->Shared->Prop)
  (turn:∀ n z,J n z->wpAny (model pr wd) Ar (pyNext bR) (fun nx z1=>match nx with
   | none=>Rs (.ok .next) z1
   | some v=>wpAny (model pr wd) Ar (letOwnedTupleGo dC bR v) (fun _ z2=>wpAny (model pr wd) Ar (assign dC en v) (fun _ z3 =>
     wpAny (model pr wd) Ar (forIn cs true fun c go=>if go=true then do let ok <- isTrue c en (eval c en); pure (ForInStep.yield ok) else pure (ForInStep.yield go)) (fun ok z4 =>
      if ok=true then wpAny (model pr wd) Ar (eval el en) (fun x z5 =>
       wpAny (model pr wd) Ar (call (.builtin "list.append") [aH,x]) (fun _ z6=>∃ m,m<n/\J m z6) (fun _ _=>False) z5) (notedBy (model pr wd) Ar en fun x z=>Rs (.error x) z) z4
      else ∃ m,m<n/\J m z4) (fun _ _=>False) z3) (fun _ _=>False) z2) (fun _ _=>False) z1) (fun _ _=>False) z)
  (n:Nat) (h:J n s) :
  codeAny (model pr wd) Ar (.compLoop (.ListComp el [⟨dC,eI,cs,0⟩] eN ps) 0 bR aH en) Rs s:=by
 refine codeAny_loop rfl J (fun k z hz=>?_) n h;show wpAny _ Ar ((compTurn (.ListComp el [⟨dC,eI,cs,0⟩] eN ps) 0 bR aH en).onRaise (fun ex=>do noteFrame ex en; theTreesLotGoes ex)) _ _ z;refine wpAny_noted ?_;rw [compTurn_list];refine wpAny_bind (wpAny_standAt (wpAny_bind (wpAny_mono (turn k z hz) (fun nx z1 g1=>?_) fun _ _ no=>no.elim)));cases nx with
 | none=>exact wpAny_pure g1
 | some v =>
  refine wpAny_bind (wpAny_mono g1 (fun _ z2 g2=>?_) fun _ _ no=>no.elim);refine wpAny_bind (wpAny_mono g2 (fun _ z3 g3=>wpAny_bind (wpAny_mono g3 (fun ok z4 g4=>?_) fun _ _ no=>no.elim)) fun _ _ no=>no.elim);cases ok with
  | false=>exact wpAny_pure (And.intro rfl g4)
  | true =>
   exact wpAny_bind (wpAny_bind (wpAny_mono g4 (fun x z5 g5=>wpAny_bind (wpAny_mono g5 (fun _ z6 g6=>wpAny_pure (wpAny_pure (And.intro rfl g6))) fun _ _ no=>no.elim)) fun _ _ e=>e))
end
noncomputable def Ob (env:Env):List (Str × NameKind)->List (Str × Addr)->List (Str × Addr)
 | [],cs=>cs
 | (n,k)::r,cs=>Ob env r (if (k==NameKind.free)=true then (match env.cells.lookup n with | some c=>(n,c)::cs | none=>cs) else cs)
noncomputable def Cw (env:Env) (names:List (Str × NameKind)):Bool:=names.all fun y=>!(y.2==NameKind.free)||(env.cells.lookup y.1).isSome
theorem En {scope:Scope} {env:Env} (h:Cw env scope.names=true):closureFor scope env=pure (Ob env scope.names []):=by
 have key:∀ (l:List (Str × NameKind)) (cs:List (Str × Addr)),Cw env l=true ->
   (forIn (m:=Sem) l cs fun x r=>(do
    if (x.2==NameKind.free)=true then
     let c <- cellOf env x.1
     pure (ForInStep.yield ((x.1,c)::r))
    else pure (ForInStep.yield r)))=pure (Ob env l cs):=by
  intro l
  induction l with
  | nil=>intro cs _; rfl
  | cons x r ih =>
   intro cs h;obtain ⟨n,k⟩:=x;unfold Cw at h;rw [List.all_cons,Bool.and_eq_true] at h;obtain ⟨h1,h2⟩:=h;rw [List.forIn_cons]
   by_cases hk:(k==NameKind.free)=true
   ·have cF:(env.cells.lookup n).isSome=true:=by simpa [hk] using h1
    obtain ⟨c,hc⟩:=Option.isSome_iff_exists.mp cF;have e:cellOf env n=pure c:=by unfold cellOf; rw [hc]
    simp only [hk,if_true,e,pure_bind];rw [ih _ h2];simp only [Ob,hk,if_true,hc]
   ·simp only [hk,if_false,pure_bind,Bool.false_eq_true];rw [ih _ h2];simp only [Ob,hk,if_false,Bool.false_eq_true]
 have:=key scope.names [] h;unfold closureFor;simpa using this
noncomputable def jj (X:Cx) (scope:Scope) (N:List Str) (C:Addr) (s₀:Shared) (H₀:Hp) (ex:List Addr) (pn:List (Addr × Obj)):Cx :=
 { X with N:=N,s₀:=s₀,H₀:=H₀,env:=compEnvC scope (Ob X.env scope.names []) C X.env,outer:=X.stack,ex:=ex,fn:=fun _=>false,pn:=pn,xe:=fun _ _=>False }
structure Es (X:Cx) (scope:Scope) (N:List Str):Prop where
 has:Cw X.env scope.names=true
 kind:scope.kind=.function
 nocell:∀ y∈scope.names,y.2≠.cell
 names:∀ y∈scope.names,y.2=.local->scope.names.lookup y.1=some .local
def a0t (X:Cx) (scope:Scope) (x:Str):Prop :=
 (X.env.kindOf x=some .cell\/X.env.kindOf x=some .free)/\Vis X.env.scope x/\((relabel scope X.env).names.lookup x=some .cell\/(relabel scope X.env).names.lookup x=some .free)
theorem Ie {env:Env}:∀ (l:List (Str × NameKind)) (cs:List (Str × Addr)),(∀ x c,cs.lookup x=some c->env.cells.lookup x=some c) ->
  ∀ x c,(Ob env l cs).lookup x=some c->env.cells.lookup x=some c
 | [],cs,h,x,c,e=>h x c e
 | (n,k)::r,cs,h,x,c,e=>by
  rw [Ob] at e;refine Ie r _ (fun y d q=>?_) x c e;split at q
  ·split at q
   ·rename_i c' bN;rw [List.lookup_cons] at q;split at q
    ·rename_i hb;cases q;have dF:=eq_of_beq hb;rw [dF]; exact bN
    ·exact h y d q
   ·exact h y d q
  ·exact h y d q
theorem Us {env:Env}:∀ (l:List (Str × NameKind)) (cs:List (Str × Addr)) (x:Str),(∃ c,cs.lookup x=some c)->∃ c,(Ob env l cs).lookup x=some c
 | [],cs,x,h=>h
 | (n,k)::r,cs,x,h=>by
  rw [Ob];refine Us r _ x ?_;split
  ·split
   ·rename_i c' bN;rw [List.lookup_cons];split
    ·exact ⟨_,rfl⟩
    ·exact h
   ·exact h
  ·exact h
theorem Wj {env:Env}:∀ (l:List (Str × NameKind)) (cs:List (Str × Addr)) (x:Str),Cw env l=true->(x,NameKind.free)∈l->∃ c,(Ob env l cs).lookup x=some c
 | [],cs,x,_,h=>by simp at h
 | (n,k)::r,cs,x,hh,h=>by
  unfold Cw at hh;rw [List.all_cons,Bool.and_eq_true] at hh;rw [Ob];rcases List.mem_cons.mp h with e | h'
  ·injection e with e1 e2;subst e1; subst e2;have h1:(env.cells.lookup x).isSome=true:=by simpa using hh.1
   obtain ⟨c,hc⟩:=Option.isSome_iff_exists.mp h1;refine Us r _ x ?_;simp [hc]
  ·exact Wj r _ x hh.2 h'
theorem mem_of_lookup {α:Type}:∀ {l:List (Str × α)} {x:Str} {k:α},l.lookup x=some k->(x,k)∈l
 | [],_,_,h=>by simp at h
 | (n,k')::r,x,k,h=>by
  rw [List.lookup_cons] at h;split at h
  ·rename_i hb;cases h;have dF:=eq_of_beq hb;rw [dF]; exact List.mem_cons_self
  ·exact List.mem_cons_of_mem _ (mem_of_lookup h)
theorem Rq {scope:Scope} {env:Env} (nc:∀ y∈scope.names,y.2≠.cell) {x:Str} (h:(relabel scope env).names.lookup x=some .cell\/(relabel scope env).names.lookup x=some .free):(x,NameKind.free)∈scope.names:=by
 have:∃ k,(x,k)∈(relabel scope env).names/\(k=.cell\/k=.free):=by
  rcases h with h | h
  ·exact ⟨_,mem_of_lookup h,.inl rfl⟩
  ·exact ⟨_,mem_of_lookup h,.inr rfl⟩
 obtain ⟨k,hm,hk⟩:=this;obtain ⟨⟨n,k'⟩,hm',e⟩:=List.mem_map.mp hm;dsimp only at e;split at e
 ·rename_i hc;cases e;simp only [Bool.and_eq_true,beq_iff_eq] at hc;obtain ⟨⟨h1,_⟩,_⟩:=hc;subst h1; exact hm'
 ·cases e;rcases hk with rfl | rfl
  ·exact absurd rfl (nc _ hm')
  ·exact hm'
def PTs (X:Cx) (ifs:List Expr) (t:TT):Prop:=∀ (pins:List (Addr × Obj)) (s:Shared) (σ:St) (H:Hp) (Q:Bool->Hp->Prop),Inv X pins σ H s->t σ H Q ->
 wpAny (model X.prog X.w) X.A (forIn ifs true fun c r=>if r=true then do let ok <- isTrue c X.env (eval c X.env); pure (ForInStep.yield ok) else pure (ForInStep.yield r)) (TP X pins σ Q) X.xe s
theorem Vt {X:Cx}:PTs X [] (fun _ H Q=>Q true H):=fun pins s σ H Q I h=>wpAny_tests_nil ⟨H,I,h⟩
def Jk (X:Cx) (scope:Scope) (N:List Str) (g:TG) (tc:TT) (te:TE) (σ:St) (J:It) (H1:Hp) (Q:VK):Prop:=∀ D,H1 D=none->∃ aT:St,aT.length=N.length /\
 (∀ (i:Nat) (v:V) (x:Str),aT[i]? = some (some v)->N[i]? = some x->Vis (relabel scope X.env) x->∃ k:Nat,X.N[k]? = some x/\σ[k]? = some (some v)/\a0t X scope x) /\
 ∃ W:Nat->Nat->St->Hp->Prop,(∃ m,W 0 m aT (upd H1 D (.lst [])))/\∀ i m ah H',W i m ah H' ->
  (J.stop i H'/\Q (.ref D) H')\/(J.go i H'/\∀ x H2,J.yld i H' x H2->g x ah H2 fun bp H3=>tc bp H3 fun b H4=>if b=true then te bp H4 fun y H5=>∃ l,H5 D=some (.lst l)/\l.length<sizeLine/\∃ m',m'<m/\W (i+1) m' bp (upd H5 D (.lst (l++[y]))) else ∃ m',m'<m/\W (i+1) m' bp H4)
noncomputable def a8c (X:Cx) (scope:Scope) (N:List Str) (wi:TI) (g:TG) (tc:TT) (te:TE):TE:=fun σ H Q=>wi σ H fun J H1=>Jk X scope N g tc te σ J H1 Q
section
variable {X:Cx} {scope:Scope} {N:List Str}
theorem Wo (sc:Es X scope N) {pins:List (Addr × Obj)} {σ:St} {H:Hp} {s:Shared} {fp:List Addr} (I:Inv X pins σ H s) (hf:∀ b∈fp,Kq X pins H b) (cH:∀ b∈fp,b<s.heap.objs.size) :
  (jj X scope N s.heap.objs.size s H fp (X.pn++pins)).Ok where
 mod:=I.ok.mod
 kind:=sc.kind
 glob:=I.ok.glob
 blt:=I.ok.blt
 above:=Nat.le_refl _
 inj:=fun x y c h1 h2=>I.ok.inj x y c (Ie _ [] (fun _ _ z=>by simp at z) x c h1) (Ie _ [] (fun _ _ z=>by simp at z) y c h2)
 has:=fun x h=>Wj _ [] x sc.has (Rq sc.nocell h)
 cab:=fun x c h=>by cases h
 hd:=I.ok.hd
 frames:=I.ok.frames
 stk:=.inl rfl
 exf:=fun b hb=>⟨Nat.ne_of_lt (cH b hb),fun x c h=>(hf b hb).2.2.2.2.1 x c (Ie _ [] (fun _ _ z=>by simp at z) x c h)⟩
 bs:=I.bs
 bsz:=Nat.le_trans I.ok.bsz I.sz
 noex:=fun b o e hb=>by
  rcases (hf b hb).2.2.2.1 with z | z
  ·exact I.ok.noex b o e z
  ·exact absurd (Nat.lt_of_lt_of_le (Heap.lt_size e) (Nat.le_trans I.ok.bsz z)) (Nat.lt_irrefl _)
 exfs:=fun b hb z=>by
  rcases List.mem_cons.mp (I.Mx b z) with e | e
  ·exact (hf b hb).2.1 e
  ·exact (hf b hb).2.2.1 e
 Pr:=I.stack
 frf:=I.Nh
theorem U7 (sc:Es X scope N) {pins:List (Addr × Obj)} {σ aT:St} {H:Hp} {s:Shared} {fp:List Addr} {h':Heap} {m:Str->Option Value} {tk:Nat} (I:Inv X pins σ H s) (hf:∀ b∈fp,Kq X pins H b) (cH:∀ b∈fp,b<s.heap.objs.size)
  (hl:aT.length=N.length) (h0:∀ (i:Nat) (v:V) (x:Str),aT[i]? = some (some v)->N[i]? = some x->Vis (relabel scope X.env) x->∃ k:Nat,X.N[k]? = some x/\σ[k]? = some (some v)/\a0t X scope x)
  (hn:h'.Ns s.heap.objs.size m) (hk:∀ b o,s.heap.get? b=some o->h'.get? b=some o) :
  Inv (jj X scope N s.heap.objs.size s H fp (X.pn++pins)) [] aT H { s with heap:=h',toks:=tk } where
 ok:=Wo sc I hf cH
 os:=rfl
 bare:=I.bare
 base:=Un.kept hk
 loc:=⟨m,hn,fun i x v e1 e2 e3=>by
  obtain ⟨k,n2,n3,ck,cv,cr⟩:=h0 i v x e2 e1 e3;obtain ⟨m0,_,hl0⟩:=I.loc;obtain ⟨u,r,l⟩:=hl0 k x v n2 n3 cv;refine ⟨u,r,.inr ⟨cr,?_⟩⟩;rcases l with ⟨l1,_⟩ | ⟨_,c,hc,z⟩
  ·rcases ck with q | q <;> (rw [l1] at q; cases q)
  ·obtain ⟨c',bN⟩:=Wj (env:=X.env) scope.names [] x sc.has (Rq sc.nocell cr);have q:=Ie scope.names [] (fun _ _ z=>by simp at z) x c' bN;rw [hc] at q; cases q;obtain ⟨o,ho,hd⟩:=z;exact ⟨c,bN,o,hk _ _ ho,hd⟩⟩
 cell:=fun x c e=>by
  obtain ⟨v,o,ho,hd⟩:=I.cell x c (Ie scope.names [] (fun _ _ z=>by simp at z) x c e);exact ⟨v,o,hk _ _ ho,hd⟩
 free:=I.hok.fresh (Nat.le_refl _)
 freeC:=fun x c e=>I.freeC x c (Ie scope.names [] (fun _ _ z=>by simp at z) x c e)
 pin:=fun p hp=>by
  have dZ:p∈X.pn++pins:=by simpa [jj] using hp
  obtain ⟨a,b,c,d,e⟩:=I.pin p dZ;refine ⟨hk _ _ a,b,Nat.ne_of_lt (Heap.lt_size a),fun z=>?_,e⟩;rcases List.mem_cons.mp (I.Mx p.1 z) with q | q
  ·exact c q
  ·exact d q
 hok:=I.hok.kept hk
 len:=hl
theorem Jl {pins:List (Addr × Obj)} {σ ah:St} {H H':Hp} {s s':Shared} {fp:List Addr} {h':Heap} (I:Inv X pins σ H s) (hf:∀ b∈fp,Kq X pins H b)
  (J:Inv (jj X scope N s.heap.objs.size s H fp (X.pn++pins)) [] ah H' s') (hs:Heap.SameBut s.heap.objs.size s'.heap h'):Inv X pins σ H' { s' with heap:=h' }:=by
 have kb:∀ b o,b≠s.heap.objs.size->s'.heap.get? b=some o->h'.get? b=some o:=fun b o n e=>hs.extBut b o n e;have ne:∀ b o,s.heap.get? b=some o->b≠s.heap.objs.size:=fun b o e=>Nat.ne_of_lt (Heap.lt_size e);have fr:H' s.heap.objs.size=none:=J.free;have u0:Un (frs X.stack) fp H H' s.heap s'.heap:=J.base
 have u:Un (frs X.stack) fp H H' s.heap h':=⟨fun b o e n h1 h2=>kb b o (ne b o e) (u0.keep b o e n h1 h2),fun b o e n h1 h2=>by
   obtain ⟨sl,q⟩:=u0.slot b o e n h1 h2;exact ⟨sl,kb b _ (ne b o e) q⟩,u0.free,fun b o e h=>by
   obtain ⟨o',q⟩:=u0.there b o e h;exact ⟨o',kb b _ (ne b o e) q⟩,u0.tups,u0.frzs,u0.tbls⟩
 have hok:HOk X.prog X.w H' h':=fun b o e=>by
  refine (J.hok b o e).stay (fun c v hc q=>kb c v ?_ q) (fun _ q=>q) fun _ _ q=>q;rcases hc with z | z
  ·rw [z]; intro y; rw [y] at e; rw [fr] at e; cases e
  ·intro y; rw [y] at z; rw [fr] at z; cases z
 have fQ:s'.os=s.os:=J.os;obtain ⟨hh,g,d,t,os'⟩:=s';obtain rfl:os'=s.os:=fQ;exact Inv.call (X:=X) (s:=s) (H:=H) (h':=h') (g':=g) (d':=d) (t':=t) (ch:=fp) I u hok J.bare fun b hb=>⟨(hf b hb).2.2.2.1,(hf b hb).2.1,(hf b hb).2.2.2.2.1,(hf b hb).2.2.2.2.2⟩
variable {tg iter elt:Expr} {ifs:List Expr} {pos:Pos} {g:TG} {tc:TT} {te:TE}
theorem Ip {Ex:Cx->Value->Shared->Prop} (sc:Es X scope N) (calm:X.calm=true)
  (hg:∀ C s₀ H₀ ex pn,PG (jj X scope N C s₀ H₀ ex pn) tg g) (hc:∀ C s₀ H₀ ex pn,PTs (jj X scope N C s₀ H₀ ex pn) ifs tc) (he:∀ C s₀ H₀ ex pn,PE ((jj X scope N C s₀ H₀ ex pn).wish (Ex (jj X scope N C s₀ H₀ ex pn))) elt te)
  {pins:List (Addr × Obj)} {σ:St} {H1:Hp} {aB:Shared} {it:Addr} {fp:List Addr} {tn:Nat->Heap->Prop} {J:It} {Q:VK} {E:Value->Shared->Prop} {RR:Value->Addr->Result->Shared->Prop}
  (I:Inv X pins σ H1 aB) (T:Turn X.prog X.w X.K tg J fp it tn) (aQ:tn 0 aB.heap) (f2:∀ b∈fp,Kq X pins H1 b) (q:Jk X scope N g tc te σ J H1 Q)
  (de:∀ D ax H3 ah H' s',Inv X pins σ H3 ax->(∀ b∈fp,Kq X pins H3 b)->Inv (jj X scope N ax.heap.objs.size ax H3 fp (X.pn++pins)) [] ah H' s'->Q (.ref D) H'->RR (.ref D) ax.heap.objs.size (.ok .next) s')
  (d4:∀ D ax H3 e s',Inv X pins σ H3 ax->(∀ b∈fp,Kq X pins H3 b)->Ex (jj X scope N ax.heap.objs.size ax H3 fp (X.pn++pins)) e s'->notedBy (model X.prog X.w) X.A (jj X scope N ax.heap.objs.size ax H3 fp (X.pn++pins)).env (fun x z=>RR (.ref D) ax.heap.objs.size (.error x) z) e s') :
  wpAny (model X.prog X.w) X.A (newList []) (fun acc ax=>wpAny (model X.prog X.w) X.A (newFunctionEnv scope X.env.globals (Ob X.env scope.names []) [] X.env.qual none .none (some X.env)) (fun aZ aY =>
   codeAny (model X.prog X.w) X.A (.compStart (.ListComp elt [⟨tg,iter,ifs,0⟩] scope pos) 0 (.ref it) acc { aZ with scope:=relabel scope X.env }) (RR acc aZ.locals) aY) E ax) E aB:=by
 refine wpAny_newObj_type (wpAny_newFunctionEnv sc.nocell (by intro y hy; simp at hy) (fun br bq bc=>?_) sc.kind);dsimp only at bq bc ⊢
 have I3:Inv X pins σ (upd H1 aB.heap.objs.size (.lst [])) { aB with heap:=aB.heap.push { cls:=.type "list",dict:=none,data:=.seq ([]:List Value).toArray } } :=
  I.laid (t':=aB.toks) (fun b ob q=>Heap.get?_push_of_some _ q) (Nat.le_refl _) ⟨Nat.zero_le _,[],_,.nil,Heap.get?_push_size _ rfl⟩
 generalize hs3:({ aB with heap:=aB.heap.push { cls:=.type "list",dict:=none,data:=.seq ([]:List Value).toArray } }:Shared)=ax at I3;have bJ:aB.heap.push { cls:=.type "list",dict:=none,data:=.seq ([]:List Value).toArray } = ax.heap:=by rw [<- hs3]
 have cb:∀ (h:Heap) (t:Nat),({ aB with heap:=h,toks:=t }:Shared) = { ax with heap:=h,toks:=t }:=fun h t=>by rw [<- hs3]
 rw [bJ] at bq bc ⊢
 have eW:∀ b∈fp,b<aB.heap.objs.size:=fun b hb=>by
  obtain ⟨o,ho,_⟩:=T.obj _ _ aQ b hb;exact Heap.lt_size ho
 have fq:ax.heap.objs.size=aB.heap.objs.size+1:=by rw [<- bJ,Heap.size_push]
 have fo:∀ b o,aB.heap.get? b=some o->ax.heap.get? b=some o:=fun b o e=>by rw [<- bJ]; exact Heap.get?_push_of_some _ e
 have f3:∀ b∈fp,Kq X pins (upd H1 aB.heap.objs.size (.lst [])) b:=fun b hb=>⟨by rw [g8 (Nat.ne_of_lt (eW b hb))]; exact (f2 b hb).1,(f2 b hb).2⟩;have eU:∀ b∈fp,b<ax.heap.objs.size:=fun b hb=>by rw [fq]; exact Nat.lt_succ_of_lt (eW b hb)
 obtain ⟨aT,hl,h0,W,⟨m0,w0⟩,turn⟩:=q aB.heap.objs.size (I.hok.fresh (Nat.le_refl _));have eL:∀ b o,ax.heap.get? b=some o->br.get? b=some o:=fun b o e=>bc.extBut b o (Nat.ne_of_lt (Heap.lt_size e)) (Heap.get?_push_of_some _ e);rw [cb];have J0:=U7 (tk:=aB.toks+([]:List (Str × Value)).length) sc I3 f3 eU hl h0 bq eL;have eC:tn 0 br:=T.keep _ _ _ aQ fun b _ o e=>eL b o (fo b o e)
 have key:∀ aY:Shared,aY = { ax with heap:=br,toks:=aB.toks+([]:List (Str × Value)).length }->codeAny (model X.prog X.w) X.A (.compLoop (.ListComp elt [⟨tg,iter,ifs,0⟩] scope pos) 0 (.ref it) (.ref aB.heap.objs.size)
   (jj X scope N ax.heap.objs.size ax (upd H1 aB.heap.objs.size (.lst [])) fp (X.pn++pins)).env) (RR (.ref aB.heap.objs.size) ax.heap.objs.size) aY:=by
  rintro aY rfl;generalize hX:jj X scope N ax.heap.objs.size ax (upd H1 aB.heap.objs.size (.lst [])) fp (X.pn++pins)=X' at J0;have hP:X'.prog=X.prog:=by rw [<- hX]; rfl
  have hW:X'.w=X.w:=by rw [<- hX]; rfl
  have hA:X'.A=X.A:=by rw [<- hX]; rfl
  have et:X'.xe=fun _ _=>False:=by rw [<- hX]; rfl
  have hK:X'.K=X.K:=by rw [<- hX]; rfl
  have cY:X'.calm=true:=by rw [<- hX]; exact calm
  have bb:∀ {H':Hp},(∀ b∈fp,H' b=none)->∀ b∈fp,Kq X' [] H' b:=fun hn b hb=>by
   have z:=Wo sc I3 f3 eU;rw [hX] at z;refine ⟨hn b hb,(z.exf b (by rw [<- hX]; exact hb)).1,z.exfs b (by rw [<- hX]; exact hb),.inl (by rw [<- hX]; exact hb),(z.exf b (by rw [<- hX]; exact hb)).2,fun p hp=>?_⟩;have dZ:p∈X.pn++pins:=by rw [<- hX] at hp; simpa [jj] using hp
   exact (f3 b hb).2.2.2.2.2 p dZ
  have bS:PG X' tg g:=by rw [<- hX]; exact hg _ _ _ _ _
  have bN:PTs X' ifs tc:=by rw [<- hX]; exact hc _ _ _ _ _
  have bT:PE (X'.wish (Ex X')) elt te:=by rw [<- hX]; exact he _ _ _ _ _
  have dR:∀ e s',Ex X' e s'->notedBy (model X.prog X.w) X.A X'.env (fun x z=>RR (.ref aB.heap.objs.size) ax.heap.objs.size (.error x) z) e s':=fun e s' z=>by rw [<- hX] at z ⊢; exact d4 _ ax _ e s' I3 f3 z
  have fin:∀ ah H' s',Inv X' [] ah H' s'->Q (.ref aB.heap.objs.size) H'->RR (.ref aB.heap.objs.size) ax.heap.objs.size (.ok .next) s':=fun ah H' s' I' q'=>de _ ax _ ah H' s' I3 f3 (by rw [hX]; exact I') q';have T':Turn X'.prog X'.w X'.K tg J fp it tn:=by rw [hP,hW,hK]; exact T
  rw [<- hP,<- hW,<- hA];refine N8 (J:=fun n s'=>∃ i ah H',Inv X' [] ah H' s'/\tn i s'.heap/\(∀ b∈fp,H' b=none)/\W i n ah H') ?_ m0 ⟨0,aT,_,J0,eC,fun b hb=>(f3 b hb).1,w0⟩;rintro n s5 ⟨i,σ5,H5,I5,st5,fr5,w5⟩;rcases turn i n σ5 H5 w5 with ⟨stop,qn⟩ | ⟨go,step⟩
  ·refine thn (T'.done X' rfl rfl rfl cY i [] s5 σ5 H5 _ I5 (bb fr5) st5 stop) fun r s6 z0=>?_;obtain ⟨hr,I6⟩:=z0;subst hr;exact fin _ _ _ I6 qn
  ·refine thn (T'.item X' rfl rfl rfl cY i [] s5 σ5 H5 _ I5 (bb fr5) st5 go) fun r s6 z0=>?_;obtain ⟨u,hr,h6⟩:=z0;subst hr;refine thn h6 fun _ s7 z0=>?_;obtain ⟨x,H7,I7,r7,y7,st7,fr7⟩:=z0;have fc:=I7.pinned (bb fr7) (T'.obj _ _ st7);have a1:=bS _ s7 σ5 H7 x u _ fc r7 (step x H7 y7);rw [et] at a1;refine thn a1 fun _ s8 z0=>?_;obtain ⟨σ8,H8,I8,q8⟩:=z0;have a2:=bN _ s8 σ8 H8 _ I8 q8;rw [et] at a2;refine thn a2 fun ok s9 z0=>?_;obtain ⟨H9,I9,q9⟩:=z0
   have again:∀ {a8:St} {H7:Hp} {s':Shared} {m':Nat},Inv X' ([]++Ml fp s7.heap) a8 H7 s'->m'<n->W (i+1) m' a8 H7->∃ m,m<n/\∃ i ah H',Inv X' [] ah H' s'/\tn i s'.heap/\(∀ b∈fp,H' b=none)/\W i m ah H':=fun {a8 H7 s' m'} I7 hm w7=>by
    refine ⟨m',hm,i+1,a8,H7,I7.Gu,T'.keep _ _ _ st7 fun b hb o e=>(I7.pin (b,o) (List.mem_append_right _ (List.mem_append_right _ (Dg hb e)))).1,fun b hb=>?_,w7⟩;obtain ⟨o,e,d⟩:=T'.obj _ _ st7 b hb;exact (I7.pin (b,o) (List.mem_append_right _ (List.mem_append_right _ (Dg hb e)))).2.1
   cases ok with
   | false =>
    rw [if_neg Bool.false_ne_true] at q9 ⊢;obtain ⟨m',hm,w9⟩:=q9;exact again I9 hm w9
   | true =>
    rw [if_pos rfl] at q9 ⊢;refine wpAny_mono (bT _ s9 σ8 H9 _ (I9.wish _) q9) (fun xv eV z0=>?_) fun e z h=>by rw [hP,hW,hA]; exact dR e z h
    obtain ⟨y,H10,I10',r10,l,hl10,hz10,m',hm,w10⟩:=z0;have fC:=I10'.Bx;have a4:=yu (X:=X') _ eV σ8 H10 (.ref aB.heap.objs.size) [y] (.ref aB.heap.objs.size) [xv] (fun _ H'=>H'=upd H10 aB.heap.objs.size (.lst (l++[y]))) fC rfl (.cons r10 .nil) ⟨_,l,y,rfl,rfl,hl10,hz10,rfl⟩;rw [et] at a4;refine thn a4 fun _ gu z0=>?_;obtain ⟨v,H11,I11,_,e11⟩:=z0;subst e11;exact again I11 hm w10
 exact codeAny_compStart_list (key _ rfl) (T.self _ 0 _ _ _ eC (key _ rfl))
theorem T7 (sc:Es X scope N) (calm:X.calm=true)
  (hg:∀ C s₀ H₀ ex pn,PG (jj X scope N C s₀ H₀ ex pn) tg g) (hc:∀ C s₀ H₀ ex pn,PTs (jj X scope N C s₀ H₀ ex pn) ifs tc) (he:∀ C s₀ H₀ ex pn,PE (jj X scope N C s₀ H₀ ex pn) elt te)
  {pins:List (Addr × Obj)} {σ:St} {H1:Hp} {aB:Shared} {it:Addr} {fp:List Addr} {tn:Nat->Heap->Prop} {J:It} {Q:VK} {E:Value->Shared->Prop} {RR:Value->Addr->Result->Shared->Prop}
  (I:Inv X pins σ H1 aB) (T:Turn X.prog X.w X.K tg J fp it tn) (aQ:tn 0 aB.heap) (f2:∀ b∈fp,Kq X pins H1 b) (q:Jk X scope N g tc te σ J H1 Q)
  (de:∀ D ax H3 ah H' s',Inv X pins σ H3 ax->(∀ b∈fp,Kq X pins H3 b)->Inv (jj X scope N ax.heap.objs.size ax H3 fp (X.pn++pins)) [] ah H' s'->Q (.ref D) H'->RR (.ref D) ax.heap.objs.size (.ok .next) s') :
  wpAny (model X.prog X.w) X.A (newList []) (fun acc ax=>wpAny (model X.prog X.w) X.A (newFunctionEnv scope X.env.globals (Ob X.env scope.names []) [] X.env.qual none .none (some X.env)) (fun aZ aY =>
   codeAny (model X.prog X.w) X.A (.compStart (.ListComp elt [⟨tg,iter,ifs,0⟩] scope pos) 0 (.ref it) acc { aZ with scope:=relabel scope X.env }) (RR acc aZ.locals) aY) E ax) E aB :=
 Ip (Ex:=fun _ _ _=>False) sc calm hg hc he I T aQ f2 q de fun _ _ _ _ _ _ _ z=>z.elim
theorem a3w {wi:TI} (sc:Es X scope N) (calm:X.calm=true) (hi:PI X tg iter wi)
  (hg:∀ C s₀ H₀ ex pn,PG (jj X scope N C s₀ H₀ ex pn) tg g) (hc:∀ C s₀ H₀ ex pn,PTs (jj X scope N C s₀ H₀ ex pn) ifs tc) (he:∀ C s₀ H₀ ex pn,PE (jj X scope N C s₀ H₀ ex pn) elt te)
  (hs:∀ x,foldedSetIterable iter X.env x=pure x:=by intro _; rfl):PE X (.ListComp elt [⟨tg,iter,ifs,0⟩] scope pos) (a8c X scope N wi g tc te):=by
 intro pins s σ H Q I h;rw [eval_ListComp];refine wpAny_comprehension_free (use:=none) rfl hs (En sc.has) sc.kind sc.names ?_;refine wpAny_mono (hi pins s σ H _ I h) (fun x az br=>wpAny_mono br (fun bR aB cm=>?_) fun _ _ e=>e) fun _ _ e=>e;obtain ⟨it,fp,tn,J,H1,rfl,I2,T,aQ,f2,q⟩:=cm;refine T7 (RR:=fun acc C=>compPost (model X.prog X.w) X.A X.xe none (EP X pins σ Q) acc C) sc calm hg hc he I2 T aQ f2 q ?_;intro D ax H3 ah H' s' I3 f3 I' qn;obtain ⟨m,hn,_⟩:=I'.loc;exact ⟨m,hn,fun h' bE=>⟨.ref D,H',Jl I3 f3 I' bE,rfl,qn⟩⟩
end
end L2
end
section
namespace C
open PySem PySem.Spec PyProof.Rows L2
mutual
inductive Rep (K:PySem.W.Frag) (S:Hp) (as:List Addr):V->T->Prop where
 | non:Rep K S as .non .non
 | bl (b:Bool):Rep K S as (.bl b) (.bl b)
 | int (i:Int):Rep K S as (.int i) (.int i)
 | str (x:Str):Rep K S as (.str x) (.str x)
 | tup {a:Addr} {vs:List V} {ts:List T}:SqT K S a vs->qg K S as vs ts->Rep K S as (.ref a) (.tup ts)
 | lst {a:Addr} {vs:List V} {ts:List T}:SqL K S a vs->qg K S as vs ts->Rep K S as (.ref a) (.lst ts)
 | dic {a:Addr} {aw:List (L2.Key × V)} {ts:List (L2.Key × T)}:Rd S a (.dK aw)->Gb K S as aw ts->Rep K S as (.ref a) (.dic ts)
 | obj {n:Nat} {a:Addr}:as[n]? = some a->Rep K S as (.ref a) (.obj n)
 | adr (a:Addr):Rep K S as (.ref a) (.adr a)
inductive qg (K:PySem.W.Frag) (S:Hp) (as:List Addr):List V->List T->Prop where
 | nil:qg K S as [] []
 | cons {v:V} {t:T} {vs:List V} {ts:List T}:Rep K S as v t->qg K S as vs ts->qg K S as (v::vs) (t::ts)
inductive Gb (K:PySem.W.Frag) (S:Hp) (as:List Addr):List (L2.Key × V)->List (L2.Key × T)->Prop where
 | nil:Gb K S as [] []
 | cons {k:L2.Key} {v:V} {t:T} {vs:List (L2.Key × V)} {ts:List (L2.Key × T)}:Rep K S as v t->Gb K S as vs ts->Gb K S as ((k,v)::vs) ((k,t)::ts)
end
theorem yj {S S':Hp} {a:Addr} {u:HO} (e:Same S S') (h:Rd S a u):Rd S' a u:=by
 rcases h with h | ⟨o,h⟩
 ·exact .inl (e _ _ h)
 ·exact .inr ⟨o,e _ _ h⟩
theorem qd {K:PySem.W.Frag} {S S':Hp} {a:Addr} {xs:List V} (e:Same S S') (h:SqT K S a xs):SqT K S' a xs:=by
 rcases h with h | h
 ·exact .inl (yj e h)
 ·exact .inr h
theorem lg {K:PySem.W.Frag} {S S':Hp} {a:Addr} {xs:List V} (e:Same S S') (h:SqL K S a xs):SqL K S' a xs:=by
 rcases h with h | h
 ·exact .inl (yj e h)
 ·exact .inr h
section
variable {K:PySem.W.Frag} {S S':Hp} {as ai:List Addr}
theorem Wb {α:Type} {l r:List α} {n:Nat} {a:α} (h:l[n]? = some a):(l++r)[n]? = some a:=by
 have:=(List.getElem?_eq_some_iff.mp h).1;rw [List.getElem?_append_left this]; exact h
theorem Oj {n:Nat} {a:Addr} (x:∃ l,ai=as++l) (h:as[n]? = some a):ai[n]? = some a:=by obtain ⟨l,rfl⟩:=x; exact Wb h
theorem Rep.mono (e:Same S S') (x:∃ l,ai=as++l) {v:V} {t:T} (h:Rep K S as v t):Rep K S' ai v t :=
 Rep.rec (motive_1:=fun v t _=>Rep K S' ai v t) (motive_2:=fun v t _=>qg K S' ai v t) (motive_3:=fun v t _=>Gb K S' ai v t) .non .bl .int .str (fun h _ i=>.tup (qd e h) i) (fun h _ i=>.lst (lg e h) i) (fun h _ i=>.dic (yj e h) i) (fun h=>.obj (Oj x h)) .adr .nil (fun _ _ a b=>.cons a b) .nil (fun _ _ a b=>.cons a b) h
theorem qg.mono (e:Same S S') (x:∃ l,ai=as++l) {v:List V} {t:List T} (h:qg K S as v t):qg K S' ai v t :=
 qg.rec (motive_1:=fun v t _=>Rep K S' ai v t) (motive_2:=fun v t _=>qg K S' ai v t) (motive_3:=fun v t _=>Gb K S' ai v t) .non .bl .int .str (fun h _ i=>.tup (qd e h) i) (fun h _ i=>.lst (lg e h) i) (fun h _ i=>.dic (yj e h) i) (fun h=>.obj (Oj x h)) .adr .nil (fun _ _ a b=>.cons a b) .nil (fun _ _ a b=>.cons a b) h
theorem Gb.mono (e:Same S S') (x:∃ l,ai=as++l) {v:List (L2.Key × V)} {t:List (L2.Key × T)} (h:Gb K S as v t):Gb K S' ai v t :=
 Gb.rec (motive_1:=fun v t _=>Rep K S' ai v t) (motive_2:=fun v t _=>qg K S' ai v t) (motive_3:=fun v t _=>Gb K S' ai v t) .non .bl .int .str (fun h _ i=>.tup (qd e h) i) (fun h _ i=>.lst (lg e h) i) (fun h _ i=>.dic (yj e h) i) (fun h=>.obj (Oj x h)) .adr .nil (fun _ _ a b=>.cons a b) .nil (fun _ _ a b=>.cons a b) h
inductive Qs (K:PySem.W.Frag) (S:Hp) (as:List Addr):List (Str × V)->List (Str × T)->Prop where
 | nil:Qs K S as [] []
 | cons {k:Str} {v:V} {t:T} {vs:List (Str × V)} {ts:List (Str × T)}:Rep K S as v t->Qs K S as vs ts->Qs K S as ((k,v)::vs) ((k,t)::ts)
theorem Qs.mono (e:Same S S') (x:∃ l,ai=as++l) {v:List (Str × V)} {t:List (Str × T)} (h:Qs K S as v t):Qs K S' ai v t:=by
 induction h with
 | nil=>exact .nil
 | cons h _ ih=>exact .cons (h.mono e x) ih
inductive Uj (K:PySem.W.Frag) (S:Hp) (as:List Addr):List (List L2.Key × V)->List (List L2.Key × T)->Prop where
 | nil:Uj K S as [] []
 | cons {k:List L2.Key} {v:V} {t:T} {vs:List (List L2.Key × V)} {ts:List (List L2.Key × T)}:Rep K S as v t->Uj K S as vs ts->Uj K S as ((k,v)::vs) ((k,t)::ts)
theorem Uj.mono (e:Same S S') (x:∃ l,ai=as++l) {v:List (List L2.Key × V)} {t:List (List L2.Key × T)} (h:Uj K S as v t):Uj K S' ai v t:=by
 induction h with
 | nil=>exact .nil
 | cons h _ ih=>exact .cons (h.mono e x) ih
theorem Uj.length {vs:List (List L2.Key × V)} {ts:List (List L2.Key × T)} (h:Uj K S as vs ts):vs.length=ts.length:=by
 induction h with
 | nil=>rfl
 | cons _ _ ih=>exact congrArg (· + 1) ih
theorem qg.length {vs:List V} {ts:List T} (h:qg K S as vs ts):vs.length=ts.length :=
 qg.rec (motive_1:=fun _ _ _=>True) (motive_2:=fun v t _=>v.length=t.length) (motive_3:=fun _ _ _=>True) trivial (fun _=>trivial) (fun _=>trivial) (fun _=>trivial) (fun _ _ _=>trivial) (fun _ _ _=>trivial) (fun _ _ _=>trivial) (fun _=>trivial) (fun _=>trivial) rfl (fun _ _ _ i=>congrArg (· + 1) i) trivial (fun _ _ _ _=>trivial) h
theorem Gb.length {vs:List (L2.Key × V)} {ts:List (L2.Key × T)} (h:Gb K S as vs ts):vs.length=ts.length :=
 Gb.rec (motive_1:=fun _ _ _=>True) (motive_2:=fun _ _ _=>True) (motive_3:=fun v t _=>v.length=t.length) trivial (fun _=>trivial) (fun _=>trivial) (fun _=>trivial) (fun _ _ _=>trivial) (fun _ _ _=>trivial) (fun _ _ _=>trivial) (fun _=>trivial) (fun _=>trivial) trivial (fun _ _ _ _=>trivial) rfl (fun _ _ _ i=>congrArg (· + 1) i) h
theorem qg.get:∀ {vs:List V} {ts:List T} {i:Nat} {t:T},qg K S as vs ts->ts[i]? = some t->∃ v,vs[i]? = some v/\Rep K S as v t
 | _,_,_,_,.nil,e=>by simp at e
 | _,_,0,_,.cons r _,e=>by simp at e; subst e; exact ⟨_,rfl,r⟩
 | _,_,i+1,t,.cons _ r,e=>by
  obtain ⟨v,h1,h2⟩:=qg.get (i:=i) (t:=t) r (by simpa using e);exact ⟨v,by simpa using h1,h2⟩
theorem qg.append {vs:List V} {ts:List T} {ws:List V} {us:List T} (h:qg K S as vs ts) (q:qg K S as ws us):qg K S as (vs++ws) (ts++us) :=
 qg.rec (motive_1:=fun _ _ _=>True) (motive_2:=fun v t _=>qg K S as (v++ws) (t++us)) (motive_3:=fun _ _ _=>True) trivial (fun _=>trivial) (fun _=>trivial) (fun _=>trivial) (fun _ _ _=>trivial) (fun _ _ _=>trivial) (fun _ _ _=>trivial) (fun _=>trivial) (fun _=>trivial) q (fun h _ _ i=>.cons h i) trivial (fun _ _ _ _=>trivial) h
theorem qg.drop:∀ (n:Nat) {vs:List V} {ts:List T},qg K S as vs ts->qg K S as (vs.drop n) (ts.drop n)
 | 0,_,_,r=>r
 | _+1,_,_,.nil=>.nil
 | n+1,_,_,.cons _ r=>qg.drop n r
theorem Gb.get (k:L2.Key):∀ {vs:List (L2.Key × V)} {ts:List (L2.Key × T)},Gb K S as vs ts->(∃ v t,Qw vs k=some v/\Y6 k ts=some t/\Rep K S as v t)\/(Qw vs k=none/\Y6 k ts=none)
 | _,_,.nil=>.inr ⟨rfl,rfl⟩
 | _,_,.cons (k:=q) (v:=v) (t:=t) (vs:=vs) (ts:=ts) h r=>by
  by_cases e:q=k
  ·exact .inl ⟨v,t,Gv (p:=(q,v)) e,by rw [Y6,if_pos e],h⟩
  ·rw [Gq (p:=(q,v)) e,Y6,if_neg e];exact Gb.get k r
end
structure Bas where
 S:Hp
 as:List Addr
 H:Hp
structure a7c (B:Bas) (S:Hp) (as:List Addr) (H:Hp):Prop where
 same:Same B.S S
 more:∃ l,as=B.as++l
 keep:∀ p o,B.H p=some o->B.S p=none->p∉B.as->H p=some o/\S p=none/\p∉as
structure Ext (S H S' H':Hp):Prop where
 s:Same S S'
 h:Same H H'
 sub:Same S' H'
 new:∀ p,S' p≠none->S p≠none\/H p=none
theorem Ext.refl {S H:Hp} (h:Same S H):Ext S H S H:=⟨Same.refl _,Same.refl _,h,fun _ q=>.inl q⟩
theorem Same.upd {H:Hp} {p:Addr} (h:H p=none) (o:HO):Same H (upd H p o):=fun b u q=>by rw [g8 (um q h)]; exact q
theorem Ext.laid {S H:Hp} (h:Same S H) {p:Addr} (n:H p=none) (o:HO):Ext S H (upd S p o) (upd H p o) where
 s:=Same.upd (h.free n) o
 h:=Same.upd n o
 sub:=fun b u q=>by
  by_cases e:b=p
  ·subst e; rw [dj] at q ⊢; exact q
  ·rw [g8 e] at q ⊢; exact h _ _ q
 new:=fun b q=>by
  by_cases e:b=p
  ·subst e; exact .inr n
  ·rw [g8 e] at q; exact .inl q
def Own (K:PySem.W.Frag) (S:Hp) (as:List Addr) (H:Hp) (p:Addr):T->Prop
 | .lst ts=>∃ vs,H p=some (.lst vs)/\qg K S as vs ts
 | .dic ts=>∃ aw,H p=some (.dK aw)/\Gb K S as aw ts
 | _=>False
structure T5 (K:PySem.W.Frag) (B:Bas) (S:Hp) (as:List Addr) (H:Hp) (p:Addr) (t:T):Prop where
 own:Own K S as H p t
 out:S p=none
 nas:p∉as
 new:B.H p=none
def a1k (K:PySem.W.Frag) (S:Hp) (as:List Addr) (H:Hp) (a:Addr):SO->Prop
 | .dic ts=>∃ aw,H a=some (.dK aw)/\Gb K S as aw ts
 | .lst ts=>∃ vs,H a=some (.lst vs)/\qg K S as vs ts
 | .dit ts=>∃ aw,H a=some (.dT aw)/\Uj K S as aw ts
 | .ins C fs=>∃ dx vs,H a=some (.ins C dx vs)/\Qs K S as vs fs
 | .fdc ts=>∃ aw,(∃ o,H a=some (.frz o (.dK aw)))/\Gb K S as aw ts
 | .exc C f t=>∃ dx v,H a=some (.ext fun h=>∃ vs,h.get? a=some { cls:=.ref C,dict:=some dx,data:=.fields vs })/\S dx=some (.ext fun h=>∃ hs tk u,RelV v u/\h.get? dx=some (PySem.W.dictOf [⟨hs,.str f tk,u⟩] 1))/\Rep K S as v t
structure Fq (K:PySem.W.Frag) (S:Hp) (as:List Addr) (H:Hp) (sto:List SO):Prop where
 len:as.length=sto.length
 nd:as.Nodup
 at':∀ (n:Nat) so,sto[n]? = some so->∃ a,as[n]? = some a/\S a=none/\a1k K S as H a so
structure Rel (K:PySem.W.Frag) (B:Bas) (st:Sta) (σ:L2.St) (H:Hp) (ps:List (V × T)) (S:Hp) (as:List Addr):Prop where
 sub:Same S H
 grow:a7c B S as H
 slots:∀ (i:Nat) t f,st.env[i]? = some (some (t,f))->∃ v,σ[i]? = some (some v)/\(f=false->Rep K S as v t)/\(f=true->∃ p,v=.ref p/\T5 K B S as H p t)
 apart:∀ (i j:Nat) t u p,st.env[i]? = some (some (t,true))->st.env[j]? = some (some (u,true))->σ[i]? = some (some (.ref p))->σ[j]? = some (some (.ref p))->i=j
 sto:Fq K S as H st.sto
 pend:∀ p∈ps,Rep K S as p.1 p.2
 len:σ.length=st.env.length
section
variable {K:PySem.W.Frag} {B:Bas} {st:Sta} {σ:L2.St} {H H' S S':Hp} {ps:List (V × T)} {as:List Addr}
theorem nol {as:List Addr}:∃ l:List Addr,as=as++l:=⟨[],(List.append_nil _).symm⟩
theorem Own.mono {p:Addr} {t:T} (hs:Same S S') (hh:H p=H' p) (o:Own K S as H p t):Own K S' as H' p t:=by
 cases t with
 | lst ts=>obtain ⟨vs,h,r⟩:=o; exact ⟨vs,hh ▸ h,r.mono hs nol⟩
 | dic ts=>obtain ⟨vs,h,r⟩:=o; exact ⟨vs,hh ▸ h,r.mono hs nol⟩
 | _=>exact o.elim
theorem Own.there {p:Addr} {t:T} (o:Own K S as H p t):∃ ob,H p=some ob:=by
 cases t with
 | lst ts=>obtain ⟨vs,h,r⟩:=o; exact ⟨_,h⟩
 | dic ts=>obtain ⟨vs,h,r⟩:=o; exact ⟨_,h⟩
 | _=>exact o.elim
theorem a1k.mono {a:Addr} {so:SO} (hs:Same S S') (hh:H a=H' a) (o:a1k K S as H a so):a1k K S' as H' a so:=by
 cases so with
 | dic ts=>obtain ⟨vs,h,r⟩:=o; exact ⟨vs,hh ▸ h,r.mono hs nol⟩
 | lst ts=>obtain ⟨vs,h,r⟩:=o; exact ⟨vs,hh ▸ h,r.mono hs nol⟩
 | dit ts=>obtain ⟨vs,h,r⟩:=o; exact ⟨vs,hh ▸ h,r.mono hs nol⟩
 | exc C f t=>obtain ⟨dx,v,h,g,r⟩:=o; exact ⟨dx,v,hh ▸ h,hs _ _ g,r.mono hs nol⟩
 | ins C fs=>obtain ⟨dx,vs,h,r⟩:=o; exact ⟨dx,vs,hh ▸ h,r.mono hs nol⟩
 | fdc ts=>obtain ⟨vs,h,r⟩:=o; exact ⟨vs,hh ▸ h,r.mono hs nol⟩
theorem a1k.there {a:Addr} {so:SO} (o:a1k K S as H a so):∃ ob,H a=some ob:=by
 cases so with
 | dic ts=>obtain ⟨vs,h,r⟩:=o; exact ⟨_,h⟩
 | lst ts=>obtain ⟨vs,h,r⟩:=o; exact ⟨_,h⟩
 | dit ts=>obtain ⟨vs,h,r⟩:=o; exact ⟨_,h⟩
 | exc C f t=>obtain ⟨dx,v,h,g,r⟩:=o; exact ⟨_,h⟩
 | ins C fs=>obtain ⟨dx,vs,h,r⟩:=o; exact ⟨_,h⟩
 | fdc ts=>obtain ⟨vs,⟨o,h⟩,r⟩:=o; exact ⟨_,h⟩
theorem Ext.outs (x:Ext S H S' H') {p:Addr} {o:HO} (h:H p=some o) (n:S p=none):S' p=none:=by
 cases q:S' p with
 | none=>rfl
 | some u =>
  rcases x.new p (by rw [q]; exact Option.some_ne_none _) with z | z
  ·exact absurd n z
  ·rw [h] at z; cases z
theorem Fq.ext {sto:List SO} (r:Fq K S as H sto) (x:Ext S H S' H'):Fq K S' as H' sto where
 len:=r.len
 nd:=r.nd
 at':=fun n so e=>by
  obtain ⟨a,h1,h2,h3⟩:=r.at' n so e;obtain ⟨ob,ho⟩:=h3.there;exact ⟨a,h1,x.outs ho h2,h3.mono x.s (by rw [ho,x.h _ _ ho])⟩
theorem Rel.ext (r:Rel K B st σ H ps S as) (x:Ext S H S' H'):Rel K B st σ H' ps S' as where
 sub:=x.sub
 grow:=⟨r.grow.same.trans x.s,r.grow.more,fun p o h1 h2 h3=>by
  obtain ⟨a,b,c⟩:=r.grow.keep p o h1 h2 h3;exact ⟨x.h _ _ a,x.outs a b,c⟩⟩
 slots:=fun i t f e=>by
  obtain ⟨v,h1,h2,h3⟩:=r.slots i t f e;refine ⟨v,h1,fun q=>(h2 q).mono x.s nol,fun q=>?_⟩;obtain ⟨p,e,o⟩:=h3 q;obtain ⟨ob,ho⟩:=o.own.there;exact ⟨p,e,o.own.mono x.s (by rw [ho,x.h _ _ ho]),x.outs ho o.out,o.nas,o.new⟩
 apart:=r.apart
 sto:=r.sto.ext x
 pend:=fun p hp=>(r.pend p hp).mono x.s nol
 len:=r.len
theorem Rel.push (r:Rel K B st σ H ps S as) {v:V} {t:T} (h:Rep K S as v t):Rel K B st σ H ((v,t)::ps) S as :=
 ⟨r.sub,r.grow,r.slots,r.apart,r.sto,fun p hp=>by
  rcases List.mem_cons.mp hp with rfl | z
  ·exact h
  ·exact r.pend p z,r.len⟩
theorem Rel.drop {p:V × T} (r:Rel K B st σ H (p::ps) S as):Rel K B st σ H ps S as :=
 ⟨r.sub,r.grow,r.slots,r.apart,r.sto,fun q hq=>r.pend q (List.mem_cons_of_mem _ hq),r.len⟩
theorem Rel.top {v:V} {t:T} (r:Rel K B st σ H ((v,t)::ps) S as):Rep K S as v t:=r.pend (v,t) List.mem_cons_self
theorem Rel.top2 {v:V} {t:T} {q:V × T} (r:Rel K B st σ H (q::(v,t)::ps) S as):Rep K S as v t:=r.pend (v,t) (List.mem_cons_of_mem _ List.mem_cons_self)
end
inductive tOf (K:PySem.W.Frag) (B:Bas) (m:M T) (σ:L2.St) (H:Hp) (Q:VK):Prop
 | mk (st:Sta) (ps:List (V × T)) (S:Hp) (as:List Addr) (R:Rel K B st σ H ps S as) (t:T) (aa:Sta) (e:m st=some (t,aa)) (q:∀ v H' S' ai,Rel K B aa σ H' ((v,t)::ps) S' ai->Q v H')
inductive cOf (K:PySem.W.Frag) (B:Bas) (m:M Bool) (σ:L2.St) (H:Hp) (Q:Bool->Hp->Prop):Prop
 | mk (st:Sta) (ps:List (V × T)) (S:Hp) (as:List Addr) (R:Rel K B st σ H ps S as) (b:Bool) (aa:Sta) (e:m st=some (b,aa)) (q:∀ H' S' ai,Rel K B aa σ H' ps S' ai->Q b H')
inductive aOf (K:PySem.W.Frag) (B:Bas) (m:M (List T)) (σ:L2.St) (H:Hp) (Q:List V->Hp->Prop):Prop
 | mk (st:Sta) (ps:List (V × T)) (S:Hp) (as:List Addr) (R:Rel K B st σ H ps S as) (ts:List T) (aa:Sta) (e:m st=some (ts,aa)) (q:∀ vs H' S' ai,Rel K B aa σ H' ps S' ai->qg K S' ai vs ts->Q vs H')
theorem _root_.L2.PE.imp {X:Cx} {e:Expr} {t t':TE} (h:PE X e t) (i:∀ σ H Q,t' σ H Q->t σ H Q):PE X e t':=fun pins s σ H Q I q=>h pins s σ H Q I (i σ H Q q)
theorem _root_.L2.PT.imp {X:Cx} {e:Expr} {t t':TT} (h:PT X e t) (i:∀ σ H Q,t' σ H Q->t σ H Q):PT X e t':=fun pins s σ H Q I q=>h pins s σ H Q I (i σ H Q q)
theorem _root_.L2.PA.imp {X:Cx} {e:List Expr} {t t':TA} (h:PA X e t) (i:∀ σ H Q,t' σ H Q->t σ H Q):PA X e t':=fun pos pins s σ H Q I q=>h pos pins s σ H Q I (i σ H Q q)
theorem _root_.L2.PS.imp {X:Cx} {e:Stmt} {t t':TS} (h:PS X e t) (i:∀ D σ H,t' D σ H->t D σ H):PS X e t':=fun pins s σ H D I q=>h pins s σ H D I (i D σ H q)
theorem _root_.L2.PSs.imp {X:Cx} {e:List Stmt} {t t':TS} (h:PSs X e t) (i:∀ D σ H,t' D σ H->t D σ H):PSs X e t':=fun pins s σ H D I q=>h pins s σ H D I (i D σ H q)
noncomputable def r2 (K:PySem.W.Frag) (f:T->T->Option T):R2:=fun x y H Q=>∃ S as t u w,Same S H/\Rep K S as x t/\Rep K S as y u/\f t u=some w/\∀ v H' S',Ext S H S' H'->Rep K S' as v w->Q v H'
def r1 (K:PySem.W.Frag) (f:T->Option T):V->Hp->VK->Prop:=fun x H Q=>∃ S as t w,Same S H/\Rep K S as x t/\f t=some w/\∀ v H' S',Ext S H S' H'->Rep K S' as v w->Q v H'
def rL (K:PySem.W.Frag) (f:List T->Option T):List V->Hp->VK->Prop:=fun xs H Q=>∃ S as ts w,Same S H/\qg K S as xs ts/\f ts=some w/\∀ v H' S',Ext S H S' H'->Rep K S' as v w->Q v H'
abbrev OpT (X:Cx) (f:Value->Value->Sem Value) (g:T->T->Option T):Prop:=OpR X f (r2 X.K g)
abbrev UnT (X:Cx) (f:Value->Sem Value) (g:T->Option T):Prop:=UnR X f (r1 X.K g)
abbrev Xn (X:Cx) (f:Value) (g:List T->Option T):Prop:=Iz X f (rL X.K g)
section
variable {X:Cx} {B:Bas} {a b c:Expr} {m m1 m2:M T} {pos:Pos}
theorem Cz {v:V} {t:T} {e:Expr} (h:PE X e (tC v)) (r:∀ S as,Rep X.K S as v t):PE X e (tOf X.K B (ak t)):=h.imp fun σ H Q z9=>by
 obtain ⟨st,ps,S,as,R,t',aa,e,q⟩:=z9;cases e;exact q v H S as (R.push (r S as))
theorem bw {i:Int} {j:Nat}:PE X (.Constant (.int i) j pos) (tOf X.K B (ak (.int i))):=Cz a88 fun _ _=>.int i
theorem Hw {i:Bool} {j:Nat}:PE X (.Constant (.bool i) j pos) (tOf X.K B (ak (.bl i))):=Cz a9j fun _ _=>.bl i
theorem dz {i:Str} {j:Nat}:PE X (.Constant (.str i) j pos) (tOf X.K B (ak (.str i))):=Cz a72 fun _ _=>.str i
theorem a1b {j:Nat}:PE X (.Constant .none j pos) (tOf X.K B (ak .non)):=Cz a7h fun _ _=>.non
theorem jf {op:Operator} {f:T->T->Option T} (ho:OpT X (binaryOp op) f) (ha:PE X a (tOf X.K B m1)) (hb:PE X b (tOf X.K B m2)):PE X (.BinOp a op b pos) (tOf X.K B (mOp f m1 m2)) :=
 (a1x ho ha hb).imp fun σ H Q z9=>by
  obtain ⟨st,ps,S,as,R,t,aa,e,q⟩:=z9;obtain ⟨t1,s1,t2,e1,e2,e3⟩:=Ii e;refine ⟨st,ps,S,as,R,t1,s1,e1,fun v H1 S1 ag R1=>⟨s1,_,S1,ag,R1,t2,aa,e2,fun u H2 S2 aD R2=>?_⟩⟩;exact ⟨S2,aD,t1,t2,t,R2.sub,R2.top2,R2.top,e3,fun w H3 S3 x r=>q w H3 S3 aD ((R2.drop.drop.ext x).push r)⟩
end
section
variable {K:PySem.W.Frag} {B:Bas} {st:Sta} {σ:L2.St} {H H' S S':Hp} {ps:List (V × T)} {as:List Addr}
theorem Rel.freeze (r:Rel K B st σ H ps S as) {i:Nat} {t:T} (e:st.env[i]? = some (some (t,true))) :
  ∃ v S',σ[i]? = some (some v)/\Rel K B { st with env:=st.env.set i (some (t,false)) } σ H ((v,t)::ps) S' as:=by
 obtain ⟨v,h1,_,h3⟩:=r.slots i t true e;obtain ⟨p,rfl,o⟩:=h3 rfl;obtain ⟨ob,ho⟩:=o.own.there;have hi:i<st.env.length:=(List.getElem?_eq_some_iff.mp e).1;have sS:Same S (upd S p ob):=Same.upd o.out ob
 have rep:Rep K (upd S p ob) as (.ref p) t:=by
  have w:=o.own;cases t with
  | lst ts=>obtain ⟨vs,h,q⟩:=w; rw [ho] at h; cases h; exact .lst (SqL.of dj) (q.mono sS nol)
  | dic ts=>obtain ⟨vs,h,q⟩:=w; rw [ho] at h; cases h; exact .dic (.inl dj) (q.mono sS nol)
  | _=>exact w.elim
 have outs:∀ q,S q=none->q≠p->upd S p ob q=none:=fun q h n=>by rw [g8 n]; exact h
 refine ⟨.ref p,upd S p ob,h1,?_⟩;refine Rel.push (v:=.ref p) (t:=t) ⟨?_,?_,?_,?_,?_,?_,?_⟩ rep
 ·intro b u q
  by_cases z:b=p
  ·subst z; rw [dj] at q; cases q; exact ho
  ·rw [g8 z] at q; exact r.sub _ _ q
 ·refine ⟨r.grow.same.trans sS,r.grow.more,fun q w a b c=>?_⟩;obtain ⟨x,y,z⟩:=r.grow.keep q w a b c;refine ⟨x,outs q y fun n=>?_,z⟩;subst n; rw [o.new] at a; cases a
 ·intro j u f ej
  by_cases aK:i=j
  ·subst aK;rw [List.getElem?_set_self hi] at ej;cases ej;exact ⟨.ref p,h1,fun _=>rep,fun z=>by cases z⟩
  ·rw [List.getElem?_set_ne aK] at ej;obtain ⟨v',a1,a2,a3⟩:=r.slots j u f ej;refine ⟨v',a1,fun z=>(a2 z).mono sS nol,fun z=>?_⟩;subst z;obtain ⟨p',rfl,o'⟩:=a3 rfl;refine ⟨p',rfl,o'.own.mono sS rfl,outs p' o'.out fun n=>?_,o'.nas,o'.new⟩;subst n;exact aK (r.apart i j t u p' e ej h1 a1)
 ·intro j k u w q ej ek
  have hj:st.env[j]? = some (some (u,true)):=by
   by_cases aK:i=j
   ·subst aK; rw [List.getElem?_set_self hi] at ej; cases ej
   ·rwa [List.getElem?_set_ne aK] at ej
  have hk:st.env[k]? = some (some (w,true)):=by
   by_cases aK:i=k
   ·subst aK; rw [List.getElem?_set_self hi] at ek; cases ek
   ·rwa [List.getElem?_set_ne aK] at ek
  exact r.apart j k u w q hj hk
 ·refine ⟨r.sto.len,r.sto.nd,fun n so en=>?_⟩;obtain ⟨a,a1,a2,a3⟩:=r.sto.at' n so en;refine ⟨a,a1,outs a a2 fun z=>?_,a3.mono sS rfl⟩;subst z;exact o.nas (List.mem_of_getElem? a1)
 ·exact fun q hq=>(r.pend q hq).mono sS nol
 ·show σ.length=(st.env.set i _).length;rw [List.length_set]; exact r.len
end
section
variable {X:Cx} {B:Bas} {a b c:Expr} {m m1 m2:M T} {pos:Pos}
theorem au (i:Nat) {e:Expr} (h:PE X e (Y7 i)):PE X e (tOf X.K B (bf i)):=h.imp fun σ H Q z9=>by
 obtain ⟨st,ps,S,as,R,t,aa,e,q⟩:=z9;rcases Yo e with ⟨e1,rfl⟩ | ⟨e1,rfl⟩
 ·obtain ⟨v,h1,h2,_⟩:=R.slots i t false e1;exact ⟨v,h1,q v H S as (R.push (h2 rfl))⟩
 ·obtain ⟨v,S',h1,R'⟩:=R.freeze e1;exact ⟨v,h1,q v H S' as R'⟩
theorem cj:PA X [] (aOf X.K B cu):=v9.imp fun σ H Q z9=>by
 obtain ⟨st,ps,S,as,R,ts,aa,e,q⟩:=z9;cases e;exact q [] H S as R .nil
theorem aq {es:List Expr} {ms:M (List T)} (ha:PE X a (tOf X.K B m)) (hr:PA X es (aOf X.K B ms)) (hs:starEach (a::es) X.env=(false,eval a X.env)::starEach es X.env:=by rfl):PA X (a::es) (aOf X.K B (ao m ms)) :=
 (nu ha hr hs).imp fun σ H Q z9=>by
  obtain ⟨st,ps,S,as,R,ts,aa,e,q⟩:=z9;obtain ⟨t,s1,us,e1,e2,rfl⟩:=Fd e;refine ⟨st,ps,S,as,R,t,s1,e1,fun v H1 S1 ag R1=>⟨s1,_,S1,ag,R1,us,aa,e2,fun vs H2 S2 aD R2 rs=>?_⟩⟩;exact q (v::vs) H2 S2 aD R2.drop (.cons R2.top rs)
theorem Uo {es:List Expr} {ms:M (List T)} {k:Nat} (h:PA X es (aOf X.K B ms)) (hm:∀ st ts aa,ms st=some (ts,aa)->ts.length<=1000):PE X (.Tuple es k pos) (tOf X.K B (j5 (fun l=>some (.tup l)) ms)) :=
 (a0x h).imp fun σ H Q z9=>by
  obtain ⟨st,ps,S,as,R,t,aa,e,q⟩:=z9;obtain ⟨ts,e1,e2⟩:=Ei e;cases e2;refine ⟨st,ps,S,as,R,ts,aa,e1,fun vs H1 S1 ag R1 rs=>⟨?_,fun p hp=>?_⟩⟩
  ·rw [rs.length]; exact Nat.le_of_lt (Ck (hm _ _ _ e1))
  ·have x:=Ext.laid R1.sub hp (.tup vs);exact q _ _ _ _ ((R1.ext x).push (.tup (SqT.of dj) (rs.mono x.s nol)))
theorem qm {es:List Expr} {ms:M (List T)} (h:PA X es (aOf X.K B ms)) (hm:∀ st ts aa,ms st=some (ts,aa)->ts.length<=1000):PE X (.List es pos) (tOf X.K B (j5 (fun l=>some (.lst l)) ms)) :=
 (Xf h).imp fun σ H Q z9=>by
  obtain ⟨st,ps,S,as,R,t,aa,e,q⟩:=z9;obtain ⟨ts,e1,e2⟩:=Ei e;cases e2;refine ⟨st,ps,S,as,R,ts,aa,e1,fun vs H1 S1 ag R1 rs=>⟨?_,fun p hp=>?_⟩⟩
  ·rw [rs.length]; exact Nat.le_of_lt (Ck (hm _ _ _ e1))
  ·have x:=Ext.laid R1.sub hp (.lst vs);exact q _ _ _ _ ((R1.ext x).push (.lst (SqL.of dj) (rs.mono x.s nol)))
theorem jk:∀ st ts aa,cu st=some (ts,aa)->ts.length<=0:=fun st ts aa e=>by cases e; exact Nat.le_refl _
theorem d8 {r:M (List T)} {n:Nat} (h:∀ st ts aa,r st=some (ts,aa)->ts.length<=n):∀ st ts aa,ao m r st=some (ts,aa)->ts.length<=n+1:=fun st ts aa e=>by
 obtain ⟨t,s1,us,e1,e2,rfl⟩:=Fd e;exact Nat.succ_le_succ (h _ _ _ e2)
theorem j9 {ms:M (List T)} {f:List T->Option T} {e:Expr} (h:PE X e (tCB (rL X.K f) (aOf X.K B ms))):PE X e (tOf X.K B (j5 f ms)) :=
 h.imp fun σ H Q z9=>by
  obtain ⟨st,ps,S,as,R,t,aa,e,q⟩:=z9;obtain ⟨ts,e1,e2⟩:=Ei e;refine ⟨st,ps,S,as,R,ts,aa,e1,fun vs H1 S1 ag R1 rs=>⟨S1,ag,ts,t,R1.sub,rs,e2,fun v H2 S2 x r=>?_⟩⟩;exact q v H2 S2 ag ((R1.ext x).push r)
theorem Qn {f:T->T->Option T} {e:Expr} (h:PE X e (tOp (r2 X.K f) (tOf X.K B m1) (tOf X.K B m2))):PE X e (tOf X.K B (mOp f m1 m2)) :=
 h.imp fun σ H Q z9=>by
  obtain ⟨st,ps,S,as,R,t,aa,e,q⟩:=z9;obtain ⟨t1,s1,t2,e1,e2,e3⟩:=Ii e;refine ⟨st,ps,S,as,R,t1,s1,e1,fun v H1 S1 ag R1=>⟨s1,_,S1,ag,R1,t2,aa,e2,fun u H2 S2 aD R2=>?_⟩⟩;exact ⟨S2,aD,t1,t2,t,R2.sub,R2.top2,R2.top,e3,fun w H3 S3 x r=>q w H3 S3 aD ((R2.drop.drop.ext x).push r)⟩
theorem Zw {f:T->Option T} {e:Expr} (h:PE X e (tUn (r1 X.K f) (tOf X.K B m))):PE X e (tOf X.K B (mUn f m)) :=
 h.imp fun σ H Q z9=>by
  obtain ⟨st,ps,S,as,R,t,aa,e,q⟩:=z9;obtain ⟨t1,e1,e3⟩:=a3q e;refine ⟨st,ps,S,as,R,t1,aa,e1,fun v H1 S1 ag R1=>⟨S1,ag,t1,t,R1.sub,R1.top,e3,fun w H3 S3 x r=>q w H3 S3 ag ((R1.drop.ext x).push r)⟩⟩
theorem mz {op:CmpOp} {f:T->T->Option T} (ho:OpT X (compareOp op) f) (ha:PE X a (tOf X.K B m1)) (hb:PE X b (tOf X.K B m2)) (hm:behindInMarks op b=false):PE X (.Compare a [op] [b] pos) (tOf X.K B (mOp f m1 m2)):=Qn (a4q ho ha hb hm)
theorem Ub {op:UnaryOp} {f:T->Option T} (ho:UnT X (unaryOp op) f) (ha:PE X a (tOf X.K B m)):PE X (.UnaryOp op a pos) (tOf X.K B (mUn f m)):=Zw (a7u ho ha)
theorem Ji {e:Expr} (h:PT X e (a70 (tOf X.K B m))):PT X e (cOf X.K B (dg m)):=h.imp fun σ H Q z9=>by
 obtain ⟨st,ps,S,as,R,t,aa,e,q⟩:=z9;refine ⟨st,ps,S,as,R,.bl t,aa,yr e,fun v H1 S1 ag R1=>?_⟩;cases R1.top;exact ⟨t,rfl,q H1 S1 ag R1.drop⟩
theorem kh {op:CmpOp} {f:T->T->Option T} (ho:OpT X (compareOp op) f) (ha:PE X a (tOf X.K B m1)) (hb:PE X b (tOf X.K B m2)) (hm:behindInMarks op b=false):PT X (.Compare a [op] [b] pos) (cOf X.K B (dg (mOp f m1 m2))) :=
 Ji ((a3l ho ha hb hm).imp fun σ H Q z9=>by
  obtain ⟨st,ps,S,as,R,t,aa,e,q⟩:=z9;obtain ⟨t1,s1,t2,e1,e2,e3⟩:=Ii e;refine ⟨st,ps,S,as,R,t1,s1,e1,fun v H1 S1 ag R1=>⟨s1,_,S1,ag,R1,t2,aa,e2,fun u H2 S2 aD R2=>?_⟩⟩;exact ⟨S2,aD,t1,t2,t,R2.sub,R2.top2,R2.top,e3,fun w H3 S3 x r=>q w H3 S3 aD ((R2.drop.drop.ext x).push r)⟩)
theorem Rb {e:Expr} (h:PE X e (tOf X.K B m)) (he:∀ whole,isTrue e X.env whole=(do let v <- whole; standAt e.pos; holding [v] (truthy v)):=by intro _; rfl):PT X e (cOf X.K B (dg m)) :=
 Ji ((a7t h he).imp fun σ H Q h=>h)
theorem X6 {c1:M Bool} (ha:PT X a (cOf X.K B c1)):PT X (.UnaryOp .Not a pos) (cOf X.K B (Xe c1)):=(a6e ha).imp fun σ H Q z9=>by
 obtain ⟨st,ps,S,as,R,t,aa,e,q⟩:=z9;obtain ⟨k,e1,rfl⟩:=Y9 e;exact ⟨st,ps,S,as,R,k,aa,e1,q⟩
theorem Jo {c1:M Bool} (ha:PT X a (cOf X.K B c1)):PW X (.BoolOp .And [a] pos) (cOf X.K B c1):=pw_and1 ha
theorem a1h {c1:M Bool} (ha:PT X a (cOf X.K B c1)):PW X (.BoolOp .Or [a] pos) (cOf X.K B c1):=pw_or1 ha
theorem a7a {e:Expr} {t t':TT} (h:PW X e t) (i:∀ σ H Q,t' σ H Q->t σ H Q):PW X e t':=fun whole pins s σ H Q I q=>h whole pins s σ H Q I (i σ H Q q)
theorem Ru {c1 c2:M Bool} {rest:List Expr} (ha:PT X a (cOf X.K B c1)) (hb:PW X (.BoolOp .And (b::rest) pos) (cOf X.K B c2)):PW X (.BoolOp .And (a::b::rest) pos) (cOf X.K B (Dj c1 c2)) :=
 a7a (pw_and ha hb) fun σ H Q z9=>by
  obtain ⟨st,ps,S,as,R,t,aa,e,q⟩:=z9;rcases R7 e with ⟨s1,e1,e2⟩ | ⟨e1,rfl⟩
  ·exact ⟨st,ps,S,as,R,true,s1,e1,fun H1 S1 ag R1=>Wk (⟨s1,ps,S1,ag,R1,t,aa,e2,q⟩)⟩
  ·exact ⟨st,ps,S,as,R,false,aa,e1,fun H1 S1 ag R1=>Vk (q H1 S1 ag R1)⟩
theorem a7x {c1 c2:M Bool} {rest:List Expr} (ha:PT X a (cOf X.K B c1)) (hb:PW X (.BoolOp .Or (b::rest) pos) (cOf X.K B c2)):PW X (.BoolOp .Or (a::b::rest) pos) (cOf X.K B (mOr c1 c2)) :=
 a7a (pw_or ha hb) fun σ H Q z9=>by
  obtain ⟨st,ps,S,as,R,t,aa,e,q⟩:=z9;rcases Vw e with ⟨s1,e1,e2⟩ | ⟨e1,rfl⟩
  ·exact ⟨st,ps,S,as,R,false,s1,e1,fun H1 S1 ag R1=>Vk (⟨s1,ps,S1,ag,R1,t,aa,e2,q⟩)⟩
  ·exact ⟨st,ps,S,as,R,true,aa,e1,fun H1 S1 ag R1=>Wk (q H1 S1 ag R1)⟩
theorem Gn {c1:M Bool} (hc:PT X c (cOf X.K B c1)) (ha:PE X a (tOf X.K B m1)) (hb:PE X b (tOf X.K B m2)):PE X (.IfExp c a b pos) (tOf X.K B (mIf c1 m1 m2)) :=
 (Zf hc ha hb).imp fun σ H Q z9=>by
  obtain ⟨st,ps,S,as,R,t,aa,e,q⟩:=z9;rcases a4x e with ⟨s1,e1,e2⟩ | ⟨s1,e1,e2⟩
  ·exact ⟨st,ps,S,as,R,true,s1,e1,fun H1 S1 ag R1=>Wk (⟨s1,ps,S1,ag,R1,t,aa,e2,q⟩)⟩
  ·exact ⟨st,ps,S,as,R,false,s1,e1,fun H1 S1 ag R1=>Vk (⟨s1,ps,S1,ag,R1,t,aa,e2,q⟩)⟩
theorem Gd {op:BoolOp} (ha:PE X a (tOf X.K B m)):PE X (.BoolOp op [a] pos) (tOf X.K B m):=a6r ha
theorem Eo {rest:List Expr} (ha:PE X a (tOf X.K B m1)) (hb:PE X (.BoolOp .And (b::rest) pos) (tOf X.K B m2)):PE X (.BoolOp .And (a::b::rest) pos) (tOf X.K B (xu (Dj (dg m1) (dg m2)))) :=
 (a5t ha hb).imp fun σ H Q z9=>by
  obtain ⟨st,ps,S,as,R,t,aa,e,q⟩:=z9;obtain ⟨b,e1,rfl⟩:=Kz e;rcases R7 e1 with ⟨s1,e2,e3⟩ | ⟨e2,rfl⟩
  ·refine ⟨st,ps,S,as,R,.bl true,s1,yr e2,fun v H1 S1 ag R1=>?_⟩;cases R1.top;exact ⟨true,rfl,Wk (⟨s1,ps,S1,ag,R1.drop,.bl b,aa,yr e3,q⟩)⟩
  ·refine ⟨st,ps,S,as,R,.bl false,aa,yr e2,fun v H1 S1 ag R1=>?_⟩;cases R1.top;exact ⟨false,rfl,Vk (q _ H1 S1 ag (R1.drop.push (.bl _)))⟩
theorem a94 {rest:List Expr} (ha:PE X a (tOf X.K B m1)) (hb:PE X (.BoolOp .Or (b::rest) pos) (tOf X.K B m2)):PE X (.BoolOp .Or (a::b::rest) pos) (tOf X.K B (xu (mOr (dg m1) (dg m2)))) :=
 (a9k ha hb).imp fun σ H Q z9=>by
  obtain ⟨st,ps,S,as,R,t,aa,e,q⟩:=z9;obtain ⟨b,e1,rfl⟩:=Kz e;rcases Vw e1 with ⟨s1,e2,e3⟩ | ⟨e2,rfl⟩
  ·refine ⟨st,ps,S,as,R,.bl false,s1,yr e2,fun v H1 S1 ag R1=>?_⟩;cases R1.top;exact ⟨false,rfl,Vk (⟨s1,ps,S1,ag,R1.drop,.bl b,aa,yr e3,q⟩)⟩
  ·refine ⟨st,ps,S,as,R,.bl true,aa,yr e2,fun v H1 S1 ag R1=>?_⟩;cases R1.top;exact ⟨true,rfl,Wk (q _ H1 S1 ag (R1.drop.push (.bl _)))⟩
end
theorem a0e {a b:S} {s s':Sta} {fl:Flow} (h:qe a b s=some (fl,s')):(∃ s1,a s=some (.next,s1)/\b s1=some (fl,s'))\/(a s=some (fl,s')/\fl≠.next):=by
 unfold qe at h;split at h
 ·rename_i s1 e; exact .inl ⟨s1,e,h⟩
 ·rename_i r hr; exact .inr ⟨h,fun z=>by subst z; exact hr _ h⟩
theorem Yd {e:M T} {s s':Sta} {fl:Flow} (h:Az e s=some (fl,s')):∃ t,e s=some (t,s')/\fl=.ret t:=by
 unfold Az at h;split at h
 ·rename_i t s1 e; cases h; exact ⟨t,e,rfl⟩
 ·cases h
theorem a2k {c:M Bool} {a b:S} {s s':Sta} {fl:Flow} (h:sIf c a b s=some (fl,s')):(∃ s1,c s=some (true,s1)/\a s1=some (fl,s'))\/(∃ s1,c s=some (false,s1)/\b s1=some (fl,s')):=by
 unfold sIf at h;split at h
 ·rename_i s1 e; exact .inl ⟨s1,e,h⟩
 ·rename_i s1 e; exact .inr ⟨s1,e,h⟩
 ·cases h
theorem Zx {i:Nat} {e:M T} {s s':Sta} {fl:Flow} (h:ou i e s=some (fl,s')):∃ t s1,e s=some (t,s1)/\fl=.next/\s'=jr i t false s1:=by
 unfold ou at h;split at h
 ·rename_i t s1 e; cases h; exact ⟨t,s1,e,rfl,rfl⟩
 ·cases h
theorem Zo {i:Nat} {e:M T} {s s':Sta} {fl:Flow} (h:sNew i e s=some (fl,s')):∃ t s1,e s=some (t,s1)/\fl=.next/\s'=jr i t true s1:=by
 unfold sNew at h;split at h
 ·rename_i t s1 e; cases h; exact ⟨t,s1,e,rfl,rfl⟩
 ·cases h
theorem Zd {g:G} {it:M (List T)} {b:S} {s s':Sta} {fl:Flow} (h:Tz g it b s=some (fl,s')):∃ ts s1,it s=some (ts,s1)/\forL g b ts s1=some (fl,s'):=by
 unfold Tz at h;split at h
 ·rename_i ts s1 e; exact ⟨ts,s1,e,h⟩
 ·cases h
theorem Oc {i:Nat} {e:M T} {s s':Sta} {fl:Flow} (h:v7 i e s=some (fl,s')) :
  Aj i s=true/\∃ t s1 xs,e s=some (t,s1)/\s1.env[i]? = some (some (.lst xs,true))/\xs.length<lim/\fl=.next/\s'=jr i (.lst (xs++[t])) true s1:=by
 unfold v7 at h;split at h
 ·rename_i hd;refine ⟨hd,?_⟩;split at h
  ·rename_i t s1 e;split at h
   ·rename_i xs ex;split at h
    ·rename_i hl; cases h; exact ⟨t,s1,xs,e,ex,hl,rfl,rfl⟩
    ·cases h
   ·cases h
  ·cases h
 ·cases h
section
variable {K:PySem.W.Frag} {B:Bas} {st:Sta} {σ:L2.St} {H H' S S':Hp} {ps ps2:List (V × T)} {as ai:List Addr}
theorem Rel.pick (r:Rel K B st σ H ps S as) (h:∀ p∈ps2,p∈ps):Rel K B st σ H ps2 S as :=
 ⟨r.sub,r.grow,r.slots,r.apart,r.sto,fun p hp=>r.pend p (h p hp),r.len⟩
theorem Ko {α:Type} {l:List α} {i:Nat} {x:α} (h:l.length<=i):l.set i x=l:=List.set_eq_of_length_le h
theorem Rel.put (r:Rel K B st σ H ps S as) {i:Nat} {v:V} {t:T} (h:Rep K S as v t):Rel K B (jr i t false st) (σ.set i (some v)) H ps S as:=by
 by_cases hi:i<st.env.length
 ·have hs:i<σ.length:=by rw [r.len]; exact hi
  refine ⟨r.sub,r.grow,fun j u f e=>?_,fun j k u w p ej ek sj sk=>?_,r.sto,r.pend,by show _=(st.env.set i _).length; rw [List.length_set,List.length_set]; exact r.len⟩
  ·have e:(st.env.set i (some (t,false)))[j]? = some (some (u,f)):=e
   by_cases aK:i=j
   ·subst aK;rw [List.getElem?_set_self hi] at e; cases e;exact ⟨v,List.getElem?_set_self hs,fun _=>h,fun z=>by cases z⟩
   ·rw [List.getElem?_set_ne aK] at e ⊢;exact r.slots j u f e
  ·have ej:(st.env.set i (some (t,false)))[j]? = some (some (u,true)):=ej;have ek:(st.env.set i (some (t,false)))[k]? = some (some (w,true)):=ek;have aK:i≠j:=fun z=>by subst z; rw [List.getElem?_set_self hi] at ej; cases ej
   have bZ:i≠k:=fun z=>by subst z; rw [List.getElem?_set_self hi] at ek; cases ek
   rw [List.getElem?_set_ne aK] at ej sj;rw [List.getElem?_set_ne bZ] at ek sk;exact r.apart j k u w p ej ek sj sk
 ·have e1:jr i t false st=st:=by unfold jr; rw [Ko (Nat.le_of_not_lt hi)]
  have e2:σ.set i (some v)=σ:=Ko (by rw [r.len]; exact Nat.le_of_not_lt hi);rw [e1,e2]; exact r
def Gy (st:Sta) (σ:L2.St) (p:Addr):Prop:=∀ (j:Nat) u,st.env[j]? = some (some (u,true))->σ[j]? = some (some (.ref p))->False
theorem Rel.a89 (r:Rel K B st σ H ps S as) {i:Nat} {p:Addr} {t:T} (h:T5 K B S as H p t) (hn:Gy st σ p):Rel K B (jr i t true st) (σ.set i (some (.ref p))) H ps S as:=by
 by_cases hi:i<st.env.length
 ·have hs:i<σ.length:=by rw [r.len]; exact hi
  refine ⟨r.sub,r.grow,fun j u f e=>?_,fun j k u w q ej ek sj sk=>?_,r.sto,r.pend,by show _=(st.env.set i _).length; rw [List.length_set,List.length_set]; exact r.len⟩
  ·have e:(st.env.set i (some (t,true)))[j]? = some (some (u,f)):=e
   by_cases aK:i=j
   ·subst aK;rw [List.getElem?_set_self hi] at e; cases e;exact ⟨.ref p,List.getElem?_set_self hs,(fun z=>by cases z),fun _=>⟨p,rfl,h⟩⟩
   ·rw [List.getElem?_set_ne aK] at e ⊢;exact r.slots j u f e
  ·have ej:(st.env.set i (some (t,true)))[j]? = some (some (u,true)):=ej;have ek:(st.env.set i (some (t,true)))[k]? = some (some (w,true)):=ek
   by_cases aK:i=j
   ·by_cases bZ:i=k
    ·rw [<- aK,<- bZ]
    ·subst aK;rw [List.getElem?_set_self hs] at sj; cases sj;rw [List.getElem?_set_ne bZ] at ek sk;exact (hn k w ek sk).elim
   ·rw [List.getElem?_set_ne aK] at ej sj
    by_cases bZ:i=k
    ·subst bZ;rw [List.getElem?_set_self hs] at sk; cases sk;exact (hn j u ej sj).elim
    ·rw [List.getElem?_set_ne bZ] at ek sk;exact r.apart j k u w q ej ek sj sk
 ·have e1:jr i t true st=st:=by unfold jr; rw [Ko (Nat.le_of_not_lt hi)]
  have e2:σ.set i (some (.ref p))=σ:=Ko (by rw [r.len]; exact Nat.le_of_not_lt hi);rw [e1,e2]; exact r
theorem Rel.turn (r:Rel K B st σ H ps S as) {i:Nat} {t t':T} {p:Addr} {ob:HO} (e:st.env[i]? = some (some (t,true))) (hp:σ[i]? = some (some (.ref p))) (h:Own K S as (upd H p ob) p t') :
  Rel K B (jr i t' true st) σ (upd H p ob) ps S as:=by
 obtain ⟨v,h1,_,h3⟩:=r.slots i t true e;rw [hp] at h1; cases h1;obtain ⟨p',ep,o⟩:=h3 rfl;cases ep;have hi:i<st.env.length:=(List.getElem?_eq_some_iff.mp e).1;have other:∀ q,q≠p->H q=upd H p ob q:=fun q n=>(g8 n).symm;refine ⟨fun b u q=>?_,⟨r.grow.same,r.grow.more,fun q w a b c=>?_⟩,fun j u f ej=>?_,fun j k u w q ej ek sj sk=>?_,⟨r.sto.len,r.sto.nd,fun n so en=>?_⟩,r.pend,by show _=(st.env.set i _).length; rw [List.length_set]; exact r.len⟩
 ·have n:b≠p:=fun z=>by subst z; rw [o.out] at q; cases q
  rw [g8 n]; exact r.sub _ _ q
 ·obtain ⟨x,y,z⟩:=r.grow.keep q w a b c;have n:q≠p:=fun z=>by subst z; rw [o.new] at a; cases a
  exact ⟨by rw [g8 n]; exact x,y,z⟩
 ·have ej:(st.env.set i (some (t',true)))[j]? = some (some (u,f)):=ej
  by_cases aK:i=j
  ·subst aK;rw [List.getElem?_set_self hi] at ej; cases ej;exact ⟨.ref p,hp,(fun z=>by cases z),fun _=>⟨p,rfl,h,o.out,o.nas,o.new⟩⟩
  ·rw [List.getElem?_set_ne aK] at ej;obtain ⟨v',a1,a2,a3⟩:=r.slots j u f ej;refine ⟨v',a1,a2,fun z=>?_⟩;subst z;obtain ⟨p',rfl,o'⟩:=a3 rfl;have n:p'≠p:=fun z=>by subst z; exact aK (r.apart i j t u p' e ej hp a1)
   exact ⟨p',rfl,o'.own.mono (Same.refl _) (other p' n),o'.out,o'.nas,o'.new⟩
 ·have back:∀ (j:Nat) u,(st.env.set i (some (t',true)))[j]? = some (some (u,true))->∃ u',st.env[j]? = some (some (u',true)):=fun j u ej=>by
   by_cases aK:i=j
   ·subst aK; exact ⟨t,e⟩
   ·rw [List.getElem?_set_ne aK] at ej; exact ⟨u,ej⟩
  obtain ⟨u',ej'⟩:=back j u ej;obtain ⟨w',ek'⟩:=back k w ek;exact r.apart j k u' w' q ej' ek' sj sk
 ·obtain ⟨a,a1,a2,a3⟩:=r.sto.at' n so en;have n:a≠p:=fun z=>by subst z; exact o.nas (List.mem_of_getElem? a1)
  exact ⟨a,a1,a2,a3.mono (Same.refl _) (other a n)⟩
theorem Rel.Qc (r:Rel K B st σ H ps S as) {n:Nat} {so eQ:SO} {a:Addr} {ob:HO} (e:st.sto[n]? = some so) (ha:as[n]? = some a) (h:a1k K S as (upd H a ob) a eQ) :
  Rel K B { st with sto:=st.sto.set n eQ } σ (upd H a ob) ps S as:=by
 have ma:a∈as:=List.mem_of_getElem? ha;have hn:n<st.sto.length:=(List.getElem?_eq_some_iff.mp e).1
 have sa:S a=none:=by
  obtain ⟨a',a1,a2,_⟩:=r.sto.at' n so e;rw [ha] at a1; cases a1; exact a2
 have other:∀ q,q≠a->H q=upd H a ob q:=fun q n=>(g8 n).symm;refine ⟨fun b u q=>?_,⟨r.grow.same,r.grow.more,fun q w x y z=>?_⟩,fun j u f ej=>?_,r.apart,⟨by rw [List.length_set]; exact r.sto.len,r.sto.nd,fun k cO en=>?_⟩,r.pend,r.len⟩
 ·have n:b≠a:=fun z=>by subst z; rw [sa] at q; cases q
  rw [g8 n]; exact r.sub _ _ q
 ·obtain ⟨x1,y1,z1⟩:=r.grow.keep q w x y z;have n:q≠a:=fun z=>by subst z; exact z1 ma
  exact ⟨by rw [g8 n]; exact x1,y1,z1⟩
 ·obtain ⟨v',a1,a2,a3⟩:=r.slots j u f ej;refine ⟨v',a1,a2,fun z=>?_⟩;obtain ⟨p',rfl,o'⟩:=a3 z;have n:p'≠a:=fun z=>by subst z; exact o'.nas ma
  exact ⟨p',rfl,o'.own.mono (Same.refl _) (other p' n),o'.out,o'.nas,o'.new⟩
 ·by_cases hk:n=k
  ·subst hk;rw [List.getElem?_set_self hn] at en; cases en;exact ⟨a,ha,sa,h⟩
  ·rw [List.getElem?_set_ne hk] at en;obtain ⟨b,b1,b2,b3⟩:=r.sto.at' k cO en
   have n:b≠a:=fun z=>by
    subst z;have l1:=(List.getElem?_eq_some_iff.mp b1).1;have l2:=(List.getElem?_eq_some_iff.mp ha).1;exact hk ((List.getElem?_inj (i:=n) (j:=k) l2 r.sto.nd).mp (by rw [ha,b1]))
   exact ⟨b,b1,b2,b3.mono (Same.refl _) (other b n)⟩
end
def Fin (K:PySem.W.Frag) (B:Bas) (D:Ends) (ps:List (V × T)):Flow->Sta->Prop
 | .next,aa=>∀ ah H' S' ai,Rel K B aa ah H' ps S' ai->D.nx ah H'
 | .ret t,aa=>∀ v ah H' S' ai,Rel K B aa ah H' ((v,t)::ps) S' ai->D.rt v H'
 | .brk,aa=>∀ ah H' S' ai,Rel K B aa ah H' ps S' ai->D.bk ah H'
 | .cont,aa=>∀ ah H' S' ai,Rel K B aa ah H' ps S' ai->D.ct ah H'
inductive sOf (K:PySem.W.Frag) (B:Bas) (s:S) (D:Ends) (σ:L2.St) (H:Hp):Prop
 | mk (st:Sta) (ps:List (V × T)) (S0:Hp) (as:List Addr) (R:Rel K B st σ H ps S0 as) (fl:Flow) (aa:Sta) (e:s st=some (fl,aa)) (q:Fin K B D ps fl aa)
inductive gOf (K:PySem.W.Frag) (B:Bas) (g:G) (v:V) (σ:L2.St) (H:Hp) (Q:L2.St->Hp->Prop):Prop
 | mk (st:Sta) (ps:List (V × T)) (S:Hp) (as:List Addr) (t:T) (R:Rel K B st σ H ((v,t)::ps) S as) (aa:Sta) (e:g t st=some aa) (q:∀ ah H' S' ai,Rel K B aa ah H' ps S' ai->Q ah H')
inductive fOf (K:PySem.W.Frag) (B:Bas) (m:M T) (σ:L2.St) (H:Hp) (Q:VK):Prop
 | mk (st:Sta) (ps:List (V × T)) (S:Hp) (as:List Addr) (R:Rel K B st σ H ps S as) (t:T) (aa:Sta) (e:m st=some (t,aa)) (q:∀ p H' S' ai,Rel K B aa σ H' ps S' ai->T5 K B S' ai H' p t->Gy aa σ p->Q (.ref p) H')
section
variable {X:Cx} {B:Bas} {a b c e:Expr} {m m1 m2:M T} {pos:Pos} {u v:S}
theorem ql:PSs X [] (sOf X.K B Ec):=a2q.imp fun D σ H z9=>by
 obtain ⟨st,ps,S,as,R,fl,aa,e,q⟩:=z9;cases e; exact q σ H S as R
theorem f9 {st:Stmt} {rest:List Stmt} (h1:PS X st (sOf X.K B u)) (h2:PSs X rest (sOf X.K B v)):PSs X (st::rest) (sOf X.K B (qe u v)):=(Q7 h1 h2).imp fun D σ H z9=>by
 obtain ⟨st,ps,S,as,R,fl,aa,e,q⟩:=z9;rcases a0e e with ⟨s1,e1,e2⟩ | ⟨e1,hn⟩
 ·exact ⟨st,ps,S,as,R,.next,s1,e1,fun ah H' S' ai R'=>⟨s1,ps,S',ai,R',fl,aa,e2,q⟩⟩
 ·refine ⟨st,ps,S,as,R,fl,aa,e1,?_⟩;cases fl with
  | next=>exact absurd rfl hn
  | ret t=>exact q
  | brk=>exact q
  | cont=>exact q
theorem ju {st:Stmt} (h1:PS X st (sOf X.K B u)):PSs X [st] (sOf X.K B u):=Nt h1
theorem kj (he:PE X e (tOf X.K B m)):PS X (.Return (some e) pos) (sOf X.K B (Az m)):=(a1a he).imp fun D σ H z9=>by
 obtain ⟨st,ps,S,as,R,fl,aa,e,q⟩:=z9;obtain ⟨t,e1,rfl⟩:=Yd e;exact ⟨st,ps,S,as,R,t,aa,e1,fun v H' S' ai R'=>q v σ H' S' ai R'⟩
theorem Dp {c1:M Bool} {sa sb:List Stmt} (hc:PT X c (cOf X.K B c1)) (ha:PSs X sa (sOf X.K B u)) (hb:PSs X sb (sOf X.K B v)):PS X (.If c sa sb pos) (sOf X.K B (sIf c1 u v)):=(a83 hc ha hb).imp fun D σ H z9=>by
 obtain ⟨st,ps,S,as,R,fl,aa,e,q⟩:=z9;rcases a2k e with ⟨s1,e1,e2⟩ | ⟨s1,e1,e2⟩
 ·exact ⟨st,ps,S,as,R,true,s1,e1,fun H1 S1 ag R1=>Wk ⟨s1,ps,S1,ag,R1,fl,aa,e2,q⟩⟩
 ·exact ⟨st,ps,S,as,R,false,s1,e1,fun H1 S1 ag R1=>Vk ⟨s1,ps,S1,ag,R1,fl,aa,e2,q⟩⟩
theorem Bb (i:Nat) {tg:Expr} (h:PG X tg (Uv i)):PG X tg (gOf X.K B (hName i)):=fun pins s σ H x u Q I r z9=>h pins s σ H x u Q I r (by
 obtain ⟨st,ps,S,as,t,R,aa,e,q⟩:=z9;cases e;exact q _ H S as (R.drop.put R.top))
theorem a7j (i:Nat) {te:TE} {s:Stmt} (h:PS X s (a6d te (Uv i))) (hm:∀ σ H Q,tOf X.K B m σ H Q->te σ H Q):PS X s (sOf X.K B (ou i m)):=h.imp fun D σ H z9=>by
 obtain ⟨st,ps,S,as,R,fl,aa,e,q⟩:=z9;obtain ⟨t,s1,e1,rfl,rfl⟩:=Zx e;exact hm σ H _ ⟨st,ps,S,as,R,t,s1,e1,fun v H' S' ai R'=>q _ H' S' ai (R'.drop.put R'.top)⟩
theorem Cr (i:Nat) {te:TE} {s:Stmt} (h:PS X s (a6d te (Uv i))) (hm:∀ σ H Q,fOf X.K B m σ H Q->te σ H Q):PS X s (sOf X.K B (sNew i m)):=h.imp fun D σ H z9=>by
 obtain ⟨st,ps,S,as,R,fl,aa,e,q⟩:=z9;obtain ⟨t,s1,e1,rfl,rfl⟩:=Zo e;exact hm σ H _ ⟨st,ps,S,as,R,t,s1,e1,fun p H' S' ai R' o n=>q _ H' S' ai (R'.a89 o n)⟩
end
section
variable {K:PySem.W.Frag} {B:Bas} {st:Sta} {σ:L2.St} {H H' S S':Hp} {ps ps2:List (V × T)} {as ai:List Addr}
theorem Own.more {p:Addr} {t:T} (hs:Same S S') (x:∃ l,ai=as++l) (hh:H p=H' p) (o:Own K S as H p t):Own K S' ai H' p t:=by
 cases t with
 | lst ts=>obtain ⟨vs,h,r⟩:=o; exact ⟨vs,hh ▸ h,r.mono hs x⟩
 | dic ts=>obtain ⟨vs,h,r⟩:=o; exact ⟨vs,hh ▸ h,r.mono hs x⟩
 | _=>exact o.elim
theorem Rel.call {ae:List SO} (r:Rel K B st σ H ps S as) (g:a7c ⟨S,as,H⟩ S' ai H') (sub:Same S' H') (so:Fq K S' ai H' ae):Rel K B { st with sto:=ae } σ H' ps S' ai where
 sub:=sub
 grow:=by
  refine ⟨r.grow.same.trans g.same,?_,fun p o a b c=>?_⟩
  ·obtain ⟨l,e⟩:=r.grow.more;obtain ⟨l',e'⟩:=g.more;exact ⟨l++l',by rw [e',e,List.append_assoc]⟩
  ·obtain ⟨x,y,z⟩:=r.grow.keep p o a b c;exact g.keep p o x y z
 slots:=fun i t f e=>by
  obtain ⟨v,h1,h2,h3⟩:=r.slots i t f e;refine ⟨v,h1,fun q=>(h2 q).mono g.same g.more,fun q=>?_⟩;obtain ⟨p,rfl,o⟩:=h3 q;obtain ⟨ob,ho⟩:=o.own.there;obtain ⟨x,y,z⟩:=g.keep p ob ho o.out o.nas;exact ⟨p,rfl,o.own.more g.same g.more (by rw [ho,x]),y,z,o.new⟩
 apart:=r.apart
 sto:=so
 pend:=fun p hp=>(r.pend p hp).mono g.same g.more
 len:=r.len
end
noncomputable def spF (K:PySem.W.Frag) (ar:Nat) (F:Fn):Sp:=fun vs H Q _=>∃ S as sto ts t ae,Same S H/\Fq K S as H sto/\qg K S as vs ts/\ts.length=ar/\F ts sto=some (t,ae) /\
 ∀ v H' S' ai,a7c ⟨S,as,H⟩ S' ai H'->Same S' H'->Fq K S' ai H' ae->Rep K S' ai v t->Q v H'
section
variable {X:Cx} {B:Bas} {a b c e:Expr} {m m1 m2:M T} {pos p:Pos} {u v:S} {es:List Expr} {ms:M (List T)} {k:Nat} {f:Addr} {fd:FuncData} {pn:List Str} {F:Fn} {x:Str}
theorem a5j (G:Bj X.prog X.w X.K X.mg X.base CX0 k f fd pn (spF X.K pn.length F)) (hr:Ab k X.A) (hg:Gl X x) (hm:X.mg x=some (.ref f)) (hk:PySem.W.keepIn X.K (.ref f)=true) (hb:Binds X.K fd pn [])
  (ha:PA X (e::es) (aOf X.K B ms)) (hl:∀ st ts aa,ms st=some (ts,aa)->ts.length=pn.length) (aP:(x==("__debug__" : Str))=false:=by decide)
  (he:starEach (e::es) X.env=(false,eval e X.env)::starEach es X.env:=by rfl) (aI:(backTo pos (starEach es X.env)).any (·.1)=false:=by rfl) :
  PE X (.Call (.Name x p) (e::es) [] pos) (tOf X.K B (fj F ms)) :=
 (Vn G hr hg hm hk hb .nil a79 ha aP he aI).imp fun σ H Q z9=>by
  obtain ⟨st,ps,S,as,R,t,aa,e,q⟩:=z9;obtain ⟨ts,s1,sto,e1,e2,rfl⟩:=Wx e;refine ⟨st,ps,S,as,R,ts,s1,e1,fun vs H1 S1 ag R1 rs=>?_⟩;show spF X.K pn.length F (vs++[]) H1 Q E0;rw [List.append_nil];exact ⟨S1,ag,s1.sto,ts,t,sto,R1.sub,R1.sto,rs,hl _ _ _ e1,e2,fun v H2 S2 aD g sub so r=>q v H2 S2 aD ((R1.call g sub so).push r)⟩
theorem eq_nil:∀ st ts aa,cu st=some (ts,aa)->ts.length=0:=fun st ts aa e=>by cases e; rfl
theorem bh {r:M (List T)} {n:Nat} (h:∀ st ts aa,r st=some (ts,aa)->ts.length=n):∀ st ts aa,ao m r st=some (ts,aa)->ts.length=n+1:=fun st ts aa e=>by
 obtain ⟨t,s1,us,e1,e2,rfl⟩:=Fd e;exact congrArg (· + 1) (h _ _ _ e2)
end
section
variable {P:Program} {w:World} {K:PySem.W.Frag} {mg:Str->Option Value} {base:Heap}
theorem Xv {N:List Str} {vs:List V} {i:Nat} {v:V} (h:vs[i]? = some v):(L2.start N vs)[i]? = some (some v):=by
 unfold L2.start;have hi:=(List.getElem?_eq_some_iff.mp h).1;rw [List.getElem?_append_left (by rw [List.length_map]; exact hi),List.getElem?_map,h]; rfl
theorem Mp {S H:Hp} {as:List Addr} {sto:List SO} {vs:List V} {ts:List T} {N:List Str} (h1:Same S H) (h2:Fq K S as H sto) (h3:qg K S as vs ts) (hN:ts.length<=N.length) :
  Rel K ⟨S,as,H⟩ ⟨ts.map (fun t=>some (t,false))++List.replicate (N.length - ts.length) none,sto⟩ (L2.start N vs) H [] S as:=by
 have key:∀ (i:Nat) t fl,(ts.map (fun t=>some (t,false))++List.replicate (N.length - ts.length) (none:Slot))[i]? = some (some (t,fl))->fl=false/\ts[i]? = some t:=fun i t fl e=>by
  by_cases hi:i<ts.length
  ·rw [List.getElem?_append_left (by rw [List.length_map]; exact hi),List.getElem?_map] at e;cases z:ts[i]? with
   | none=>rw [z] at e; cases e
   | some t'=>rw [z] at e; cases e; exact ⟨rfl,rfl⟩
  ·rw [List.getElem?_append_right (by rw [List.length_map]; exact Nat.le_of_not_lt hi)] at e;have:=List.eq_of_mem_replicate (List.mem_of_getElem? e);cases this
 refine ⟨h1,⟨Same.refl _,nol,fun p o a b c=>⟨a,b,c⟩⟩,fun i t fl e=>?_,fun i j t u p ei ej=>?_,h2,(fun p hp=>by cases hp),?_⟩
 ·obtain ⟨rfl,e'⟩:=key i t fl e;obtain ⟨v,hv,r⟩:=h3.get e';exact ⟨v,Xv hv,fun _=>r,fun z=>by cases z⟩
 ·obtain ⟨z,_⟩:=key i t true ei; cases z
 ·unfold L2.start;rw [List.length_append,List.length_append,List.length_map,List.length_map,List.length_replicate,List.length_replicate,h3.length]
theorem a2b {x qual:Str} {st:Stmt} {f:Addr} {fd:FuncData} {N ps:List Str} {k:Nat} {b:S} (F:Fun K x qual st f fd) (Sc:Ad N ps (gn st)) (hN:ps.length<=N.length)
  (hb:∀ (aC:Value) (A:Around) (outer:List Env) (s:Shared) (H:Hp) (E:XK) (B:Bas),Ab k (A.deeper (envOfC qual (gn st) s.heap.objs.size f aC)) ->
   PSs (M7 CX0 P w K mg base N qual (gn st) f aC A outer s H E).nox (v8 st) (sOf K B b)):Bj P w K mg base CX0 (k+1) f fd ps (spF K ps.length (zp N.length b)):=by
 refine F.ok Sc (fun vs H Q E h=>?_) fun aC A outer s H vs Q E hr h=>?_
 ·obtain ⟨S,as,sto,ts,t,ae,h1,h2,h3,h4,_⟩:=h;rw [h3.length,h4]
 ·obtain ⟨S,as,sto,ts,t,ae,h1,h2,h3,h4,h5,q⟩:=h;refine ⟨_,hb aC A outer s H E ⟨S,as,H⟩ hr,?_⟩;have lv:vs.length=ps.length:=by rw [h3.length,h4]
  have R:Rel K ⟨S,as,H⟩ ⟨ts.map (fun t=>some (t,false))++List.replicate (N.length - ts.length) none,sto⟩ (L2.start N vs) H [] S as:=Mp h1 h2 h3 (by rw [h4]; exact hN);unfold zp at h5;split at h5
  ·rename_i t' s' e;cases h5;exact ⟨_,[],S,as,R,.ret t,s',e,fun v ah H' S' ai R'=>q v H' S' ai R'.grow R'.sub R'.sto R'.top⟩
  ·rename_i s' e;cases h5;exact ⟨_,[],S,as,R,.next,s',e,fun ah H' S' ai R'=>q .non H' S' ai R'.grow R'.sub R'.sto .non⟩
  ·cases h5
end
theorem Yv {g:G} {b:S} {t:T} {r:List T} {s s':Sta} {fl:Flow} (h:forL g b (t::r) s=some (fl,s')):∃ s1 fb s2,g t s=some s1/\b s1=some (fb,s2) /\
  (match fb with | .next=>forL g b r s2=some (fl,s') | .cont=>forL g b r s2=some (fl,s') | .brk=>fl=.next/\s'=s2 | .ret v=>fl=.ret v/\s'=s2):=by
 rw [forL] at h;dsimp only at h;split at h
 ·rename_i s1 e1;split at h
  ·rename_i s2 e2; exact ⟨s1,.next,s2,e1,e2,h⟩
  ·rename_i s2 e2; exact ⟨s1,.cont,s2,e1,e2,h⟩
  ·rename_i s2 e2; cases h; exact ⟨s1,.brk,_,e1,e2,rfl,rfl⟩
  ·rename_i v s2 e2; cases h; exact ⟨s1,.ret v,_,e1,e2,rfl,rfl⟩
  ·cases h
 ·cases h
structure Fy (K:PySem.W.Frag) (S:Hp) (as:List Addr) (H:Hp) (J:It) (ts:List T):Prop where
 go:∀ (i:Nat) t,ts[i]? = some t->J.go i H/\∀ x H',J.yld i H x H'->∃ S',Ext S H S' H'/\Rep K S' as x t
 stop:∀ i,ts.length<=i->J.stop i H
inductive iOf (K:PySem.W.Frag) (B:Bas) (m:M (List T)) (σ:L2.St) (H:Hp) (R:It->Hp->Prop):Prop
 | mk (st:Sta) (ps:List (V × T)) (S:Hp) (as:List Addr) (R0:Rel K B st σ H ps S as) (ts:List T) (aa:Sta) (e:m st=some (ts,aa)) (z:ts.length<=sizeLine) (q:∀ J H' S' ai aX,Rel K B aa σ H' (aX++ps) S' ai->(∀ S as H,(∀ p∈aX,Rep K S as p.1 p.2)->Same S H->Fy K S as H J ts)->R J H')
section
variable {X:Cx} {tg l:Expr} {tl:TE}
noncomputable def iSq (K:PySem.W.Frag) (tl:TE):TI:=fun σ H R=>tl σ H fun x H1=>∃ a,x=.ref a/\(((∃ xs,SqL K H1 a xs)/\R (Itl K a) H1)\/((∃ xs,SqT K H1 a xs)/\R (Itt K a) H1))
theorem a8w (hl:PE X l tl):PI X tg l (iSq X.K tl):=by
 intro pins s σ H R I h;refine thn (hl pins s σ H _ I h) fun v s1 z0=>?_;obtain ⟨x,H1,I1,r1,q1⟩:=z0;obtain ⟨a,e,q⟩:=q1;subst e;cases r1;rcases q with ⟨⟨xs,hq⟩,q⟩ | ⟨⟨xs,hq⟩,q⟩
 ·obtain ⟨af,rv,p,hz⟩:=I1.list hq;refine wpAny_pyIter_list p.isList ?_;refine ⟨s1.heap.objs.size,[s1.heap.objs.size],_,_,H1,rfl,I1.kept (t':=s1.toks) fun b o e=>Heap.get?_push_of_some _ e,W8 a _,⟨_,Heap.get?_push_size _ rfl,rfl,rfl⟩,fun b hb=>?_,q⟩;have e:b=s1.heap.objs.size:=by simpa using hb
  subst e;exact I1.a8j (Nat.le_refl _) (I1.hok.fresh (Nat.le_refl _))
 ·obtain ⟨af,rv,p,hz⟩:=I1.tuple hq;refine wpAny_pyIter_tuple (show s1.heap.IsTuple a af.toArray from p) ?_;refine ⟨s1.heap.objs.size,[s1.heap.objs.size],_,_,H1,rfl,I1.kept (t':=s1.toks) fun b o e=>Heap.get?_push_of_some _ e,U3 a _,⟨_,Heap.get?_push_size _ rfl,rfl,rfl⟩,fun b hb=>?_,q⟩;have e:b=s1.heap.objs.size:=by simpa using hb
  subst e;exact I1.a8j (Nat.le_refl _) (I1.hok.fresh (Nat.le_refl _))
end
section
variable {X:Cx} {B:Bas} {a b c e tg iter:Expr} {m m1 m2:M T} {pos p:Pos} {u v:S} {g:G} {it:M (List T)} {body:List Stmt}
theorem itL {K:PySem.W.Frag} {S:Hp} {as:List Addr} {H:Hp} {p:Addr} {vs:List V} {ts:List T} (sub:Same S H) (h:SqL K H p vs) (r:qg K S as vs ts):Fy K S as H (Itl K p) ts where
 go:=fun i t e=>by
  obtain ⟨v,hv,rv⟩:=r.get e;exact ⟨⟨vs,v,h,hv⟩,fun x H' y=>⟨S,by rw [y.1]; exact Ext.refl sub,by have:=y.2 vs h; rw [hv] at this; cases this; exact rv⟩⟩
 stop:=fun i hi=>⟨vs,h,by rw [r.length]; exact hi⟩
theorem itT {K:PySem.W.Frag} {S:Hp} {as:List Addr} {H:Hp} {p:Addr} {vs:List V} {ts:List T} (sub:Same S H) (h:SqT K H p vs) (r:qg K S as vs ts):Fy K S as H (Itt K p) ts where
 go:=fun i t e=>by
  obtain ⟨v,hv,rv⟩:=r.get e;exact ⟨⟨vs,v,h,hv⟩,fun x H' y=>⟨S,by rw [y.1]; exact Ext.refl sub,by have:=y.2 vs h; rw [hv] at this; cases this; exact rv⟩⟩
 stop:=fun i hi=>⟨vs,h,by rw [r.length]; exact hi⟩
theorem jo:lim<=sizeLine:=by rw [sizeLine_eq]; decide
theorem Rf (h:PE X iter (tOf X.K B m)):PI X tg iter (iOf X.K B (Nf m)):=by
 intro pins s σ H R I hw;refine a8w h pins s σ H R I ?_;obtain ⟨st,ps,S,as,Rl,ts,aa,e,hz,q⟩:=hw;unfold Nf at e;split at e
 ·rename_i xs s1 e1;split at e
  ·rename_i hl;cases e;refine ⟨st,ps,S,as,Rl,_,_,e1,fun v H1 S1 ag R1=>?_⟩;have top:=R1.top;cases top with
   | @lst a vs _ hs hr =>
    refine ⟨a,rfl,.inl ⟨⟨vs,lg R1.sub hs⟩,q _ H1 S1 ag [(.ref a,.lst _)] R1 fun S2 aD H2 hp hh=>?_⟩⟩;have:=hp _ List.mem_cons_self;cases this with
    | @lst _ vs2 _ bB bK=>exact itL hh (lg hh bB) bK
  ·cases e
 ·rename_i xs s1 e1;split at e
  ·rename_i hl;cases e;refine ⟨st,ps,S,as,Rl,_,_,e1,fun v H1 S1 ag R1=>?_⟩;have top:=R1.top;cases top with
   | @tup a vs _ hs hr =>
    refine ⟨a,rfl,.inr ⟨⟨vs,qd R1.sub hs⟩,q _ H1 S1 ag [(.ref a,.tup _)] R1 fun S2 aD H2 hp hh=>?_⟩⟩;have:=hp _ List.mem_cons_self;cases this with
    | @tup _ vs2 _ bB bK=>exact itT hh (qd hh bB) bK
  ·cases e
 ·cases e
theorem Jj {a:M T} {ts:List T} {s s':Sta} (h:Ay a s=some (ts,s')):∃ n:Int,a s=some (.int n,s')/\(-1000000<n/\n<1000000)/\ts=rangeT n.toNat:=by
 unfold Ay at h;split at h
 ·rename_i n s1 e;split at h
  ·rename_i hl; cases h; exact ⟨n,e,by have:n.natAbs<1000000:=hl; omega,rfl⟩
  ·cases h
 ·cases h
theorem Sy {n i:Nat} {t:T} (h:(rangeT n)[i]? = some t):i<n/\t=.int (i:Int):=by
 unfold rangeT at h;rw [List.getElem?_map] at h;cases z:(List.range n)[i]? with
 | none=>rw [z] at h; cases h
 | some k =>
  rw [z] at h; cases h;obtain ⟨hi,e⟩:=List.getElem?_eq_some_iff.mp z;rw [List.getElem_range] at e; subst e;rw [List.length_range] at hi;exact ⟨hi,rfl⟩
theorem Ka (hg:Gl X "range") (hm:X.mg "range" = none) (h:PE X a (tOf X.K B m)) (hs:starEach [a] X.env=[(false,eval a X.env)]:=by rfl):PI X tg (.Call (.Name "range" p) [a] [] pos) (iOf X.K B (Ay m)):=by
 intro pins s σ H R I hw;refine Xq (ta:=Sw (tOf X.K B m) a3g) hg hm (nu h v9 hs) hs pins s σ H R I ?_;obtain ⟨st,ps,S,as,Rl,ts,aa,e,hz,q⟩:=hw;obtain ⟨n,e1,hl,rfl⟩:=Jj e;refine ⟨st,ps,S,as,Rl,_,_,e1,fun v H1 S1 ag R1=>?_⟩;cases R1.top;refine ⟨n,rfl,by omega,by omega,q _ H1 S1 ag [] R1.drop fun S2 aD H2 _ hh=>⟨fun i t e=>?_,fun i hi=>?_⟩⟩
 ·obtain ⟨hi,rfl⟩:=Sy e;refine ⟨hi,fun x H' y=>⟨S2,by rw [y.1]; exact Ext.refl hh,?_⟩⟩;have:=y.2; subst this;rw [Int.zero_add]; exact .int _
 ·show n.toNat<=i;unfold rangeT at hi
  rwa [List.length_map,List.length_range] at hi
theorem Qz (hp:PassesOwn (model X.prog X.w) X.A X.env X.xe) (hc:X.calm=true) (hi:PI X tg iter (iOf X.K B it)) (hg:PG X tg (gOf X.K B g)) (hb:PSs X body (sOf X.K B u)) (bM:∀ st ts aa,it st=some (ts,aa)->ts.length<=sizeLine)
  (hs:∀ x,foldedSetIterable iter X.env x=pure x:=by intro _; rfl):PS X (.For tg iter body [] pos) (sOf X.K B (Tz g it u)):=(a76 hp hc hi hg hb hs).imp fun D σ H z9=>by
 obtain ⟨st,ps,S,as,R,fl,aa,e,q⟩:=z9;obtain ⟨ts,s1,e1,e2⟩:=Zd e;refine ⟨st,ps,S,as,R,ts,s1,e1,bM _ _ _ e1,fun J H1 S1 ag aX R1 facts=>?_⟩;refine ⟨fun i m σ H=>m=ts.length - i/\i<=ts.length/\∃ aG Si aE,Rel X.K B aG σ H (aX++ps) Si aE/\forL g u (ts.drop i) aG=some (fl,aa),⟨ts.length,by simp,Nat.zero_le _,s1,S1,ag,R1,by simpa using e2⟩,?_⟩;rintro i m bp H2 ⟨rfl,hi,aG,Si,aE,Ri,ei⟩;have F:=facts Si aE H2 (fun p hp=>Ri.pend p (List.mem_append_left _ hp)) Ri.sub;have sub:∀ p∈ps,p∈aX++ps:=fun p hp=>List.mem_append_right _ hp
 by_cases aW:i<ts.length
 ·rw [List.drop_eq_getElem_cons aW] at ei;obtain ⟨s2,fb,s3,eg,eb,er⟩:=Yv ei;have ht:ts[i]? = some ts[i]:=List.getElem?_eq_getElem aW;refine .inr ⟨(F.go i _ ht).1,fun ah H'=>∃ aG Si aE,Rel X.K B aG ah H' (aX++ps) Si aE/\forL g u (ts.drop (i+1)) aG=some (fl,aa),fun ah H' h=>⟨ts.length - (i+1),by omega,rfl,aW,h⟩,fun x H' y=>?_⟩;obtain ⟨S',ex,rx⟩:=(F.go i _ ht).2 x H' y;refine ⟨aG,aX++ps,S',aE,_,(Ri.ext ex).push rx,s2,eg,fun bu H3 S3 aO R3=>⟨s2,aX++ps,S3,aO,R3,fb,s3,eb,?_⟩⟩;cases fb with
  | next=>exact fun ah H' S' ai R'=>⟨s3,S',ai,R',er⟩
  | cont=>exact fun ah H' S' ai R'=>⟨s3,S',ai,R',er⟩
  | brk =>
   obtain ⟨rfl,rfl⟩:=er;exact fun ah H' S' ai R'=>q ah H' S' ai (R'.pick sub)
  | ret v =>
   obtain ⟨rfl,rfl⟩:=er
   exact fun v ah H' S' ai R'=>q v ah H' S' ai (R'.pick fun p hp=>by
    rcases List.mem_cons.mp hp with rfl | z
    ·exact List.mem_cons_self
    ·exact List.mem_cons_of_mem _ (sub p z))
 ·have cW:i=ts.length:=by omega
  subst cW;rw [List.drop_length] at ei;cases ei;exact .inl ⟨F.stop _ (Nat.le_refl _),q bp H2 Si aE (Ri.pick sub)⟩
end
section
variable {K:PySem.W.Frag} {B:Bas} {st:Sta} {σ:L2.St} {H H' S S':Hp} {ps ps2:List (V × T)} {as ai:List Addr}
theorem Rel.Wa (r:Rel K B st σ H ps S as) {i:Nat} {t:T} (e:st.env[i]? = some (some (t,true))):∃ S',Rel K B { st with env:=st.env.set i (some (t,false)) } σ H ps S' as:=by
 obtain ⟨v,S',_,R⟩:=r.freeze e;exact ⟨S',R.drop⟩
theorem Rel.j8:∀ (aA:List Nat) {st:Sta} {S:Hp},Rel K B st σ H ps S as->∃ S',Rel K B { st with env:=j8 aA st.env } σ H ps S' as
 | [],st,S,r=>⟨S,r⟩
 | i::l,st,S,r=>by
  unfold C.j8;rw [List.foldl_cons];split
  ·rename_i t f e;cases f with
   | true =>
    obtain ⟨S1,R1⟩:=r.Wa e;exact Rel.j8 l R1
   | false =>
    have e2:st.env.set i (some (t,false))=st.env:=by
     apply List.ext_getElem?;intro j
     by_cases aK:i=j
     ·subst aK;rw [List.getElem?_set_self (List.getElem?_eq_some_iff.mp e).1,e]
     ·rw [List.getElem?_set_ne aK]
    rw [e2];exact Rel.j8 l r
  ·exact Rel.j8 l r
noncomputable def Dk (env:List Slot):Nat->List Slot
 | 0=>env
 | n+1=>match (Dk env n)[n]? with
  | some (some (t,_))=>(Dk env n).set n (some (t,false))
  | _=>Dk env n
theorem Hs (env:List Slot):∀ n,(Dk env n).length=env.length
 | 0=>rfl
 | n+1=>by
  rw [Dk];split
  ·rw [List.length_set]; exact Hs env n
  ·exact Hs env n
theorem Gz (env:List Slot):∀ (n j:Nat),(Dk env n)[j]? = if j<n then (env[j]?).map Yw else env[j]?
 | 0,j=>by rw [if_neg (Nat.not_lt_zero _)]; rfl
 | n+1,j=>by
  have dq:=Gz env n n;rw [if_neg (Nat.lt_irrefl _)] at dq;have fO:=Gz env n j;rw [Dk,dq]
  by_cases hj:j=n
  ·subst hj;rw [if_pos (Nat.lt_succ_self _)];cases z:env[j]? with
   | none=>simp only [z,Option.map_none]; rw [dq,z]
   | some s =>
    have hl:j<(Dk env j).length:=by rw [Hs]; exact (List.getElem?_eq_some_iff.mp z).1
    cases s with
    | none=>simp only [Option.map_some]; rw [dq,z]; rfl
    | some p=>obtain ⟨t,f⟩:=p; simp only [Option.map_some]; rw [List.getElem?_set_self hl]; rfl
  ·have e1:(if j<n+1 then (env[j]?).map Yw else env[j]?)=(if j<n then (env[j]?).map Yw else env[j]?):=by
    by_cases aW:j<n
    ·rw [if_pos aW,if_pos (Nat.lt_succ_of_lt aW)]
    ·rw [if_neg aW,if_neg (by omega)]
   rw [e1,<- fO];split
   ·rw [List.getElem?_set_ne (Ne.symm hj)]
   ·rfl
theorem Vd (env:List Slot):Dk env env.length=env.map Yw:=by
 apply List.ext_getElem?;intro j;rw [Gz,List.getElem?_map]
 by_cases hj:j<env.length
 ·rw [if_pos hj]
 ·rw [if_neg hj,List.getElem?_eq_none (Nat.le_of_not_lt hj)]; rfl
theorem Rel.Dk (r:Rel K B st σ H ps S as):∀ n,∃ S',Rel K B { st with env:=C.Dk st.env n } σ H ps S' as
 | 0=>⟨S,r⟩
 | n+1=>by
  obtain ⟨S1,R1⟩:=Rel.Dk r n;rw [C.Dk];split
  ·rename_i t f e;cases f with
   | true=>exact R1.Wa e
   | false =>
    have e2:(C.Dk st.env n).set n (some (t,false))=C.Dk st.env n:=by
     apply List.ext_getElem?;intro j
     by_cases aK:n=j
     ·subst aK;rw [List.getElem?_set_self (List.getElem?_eq_some_iff.mp e).1,e]
     ·rw [List.getElem?_set_ne aK]
    rw [e2];exact ⟨S1,R1⟩
  ·exact ⟨S1,R1⟩
theorem Rel.je (r:Rel K B st σ H ps S as):∃ S',Rel K B (je st) σ H ps S' as:=by
 obtain ⟨S',R⟩:=r.Dk st.env.length;rw [Vd] at R;exact ⟨S',R⟩
def Px (st:Sta):Prop:=∀ (i:Nat) t,st.env[i]?≠some (some (t,true))
theorem uq (st:Sta):Px (C.je st):=fun i t e=>by
 unfold C.je at e;rw [List.getElem?_map] at e;cases z:st.env[i]? with
 | none=>rw [z] at e; cases e
 | some s =>
  rw [z] at e;cases s with
  | none=>cases e
  | some p=>obtain ⟨t,f⟩:=p; cases e
theorem Rel.rebase (r:Rel K B st σ H ps S as) (n:Px st):Rel K ⟨S,as,H⟩ st σ H ps S as :=
 ⟨r.sub,⟨Same.refl _,nol,fun p o a b c=>⟨a,b,c⟩⟩,fun i t f e=>by
  obtain ⟨v,h1,h2,_⟩:=r.slots i t f e;exact ⟨v,h1,h2,fun z=>by subst z; exact absurd e (n i t)⟩,r.apart,r.sto,r.pend,r.len⟩
end
theorem Vm {g:G} {c:M Bool} {e:M T} {t:T} {r acc us:List T} {s s':Sta} (h:G8 g c e (t::r) s acc=some (us,s')):∃ s1 b s2,g t s=some s1/\c s1=some (b,s2) /\
  ((b=true/\∃ u s3,e s2=some (u,s3)/\acc.length<lim/\G8 g c e r (je s3) (acc++[u])=some (us,s'))\/(b=false/\G8 g c e r (je s2) acc=some (us,s'))):=by
 rw [G8] at h;split at h
 ·rename_i s1 e1;split at h
  ·rename_i s2 e2;split at h
   ·rename_i u s3 e3;split at h
    ·rename_i hl; exact ⟨s1,true,s2,e1,e2,.inl ⟨rfl,u,s3,e3,hl,h⟩⟩
    ·cases h
   ·cases h
  ·rename_i s2 e2; exact ⟨s1,false,s2,e1,e2,.inr ⟨rfl,h⟩⟩
  ·cases h
 ·cases h
theorem Vs {nv:Nat} {aA:List Nat} {g:G} {it:M (List T)} {c:M Bool} {e:M T} {s s':Sta} {v:T} (h:J1 nv aA g it c e s=some (v,s')):∃ ts s1 us s2,it s=some (ts,s1) /\
  G8 g c e ts ⟨List.replicate nv none++aA.map (fun i=>((j8 aA s1.env)[i]?).getD none),s1.sto⟩ []=some (us,s2)/\v=.lst us/\s'=⟨j8 aA s1.env,s2.sto⟩:=by
 unfold J1 at h;split at h
 ·rename_i ts s1 e1;dsimp only at h;split at h
  ·rename_i us s2 e2; cases h; exact ⟨ts,s1,us,s2,e1,e2,rfl,rfl⟩
  ·cases h
 ·cases h
section
variable {K:PySem.W.Frag} {B:Bas} {st:Sta} {σ:L2.St} {H H' S S':Hp} {ps ps2:List (V × T)} {as ai:List Addr} {D:Addr} {ob:HO}
theorem Fq.mem {sto:List SO} (r:Fq K S as H sto) {a:Addr} (h:a∈as):∃ o,H a=some o:=by
 obtain ⟨n,hn⟩:=List.getElem?_of_mem h;have hl:=(List.getElem?_eq_some_iff.mp hn).1;rw [r.len] at hl;obtain ⟨a',h1,h2,h3⟩:=r.at' n _ (List.getElem?_eq_getElem hl);rw [hn] at h1; cases h1;exact h3.there
theorem Rel.fresh (r:Rel K B st σ H ps S as) (h:H D=none):B.H D=none/\S D=none/\D∉as/\Gy st σ D:=by
 have sD:S D=none:=r.sub.free h;have nD:D∉as:=fun z=>by obtain ⟨o,e⟩:=r.sto.mem z; rw [h] at e; cases e
 refine ⟨?_,sD,nD,fun j u e1 e2=>?_⟩
 ·cases q:B.H D with
  | none=>rfl
  | some o =>
   have b1:B.S D=none:=by
    cases z:B.S D with
    | none=>rfl
    | some u=>have:=r.grow.same _ _ z; rw [sD] at this; cases this
   have b2:D∉B.as:=fun z=>by obtain ⟨l,e⟩:=r.grow.more; exact nD (by rw [e]; exact List.mem_append_left _ z)
   have:=(r.grow.keep D o q b1 b2).1;rw [h] at this; cases this
 ·obtain ⟨v,h1,_,h3⟩:=r.slots j u true e1;rw [e2] at h1; cases h1;obtain ⟨p,ep,o⟩:=h3 rfl;cases ep;obtain ⟨ob,ho⟩:=o.own.there;rw [h] at ho; cases ho
theorem Rel.a8a (r:Rel K B st σ H ps S as) (bD:B.H D=none) (sD:S D=none) (nD:D∉as) (no:Gy st σ D):Rel K B st σ (upd H D ob) ps S as:=by
 have ne:∀ b u,S b=some u->b≠D:=fun b u e z=>by subst z; rw [sD] at e; cases e
 refine ⟨fun b u e=>by rw [g8 (ne b u e)]; exact r.sub _ _ e,⟨r.grow.same,r.grow.more,fun p o x y z=>?_⟩,fun i t f e=>?_,r.apart,⟨r.sto.len,r.sto.nd,fun n so e=>?_⟩,r.pend,r.len⟩
 ·obtain ⟨a,b,c⟩:=r.grow.keep p o x y z;exact ⟨by rw [g8 (fun w=>by subst w; rw [bD] at x; cases x)]; exact a,b,c⟩
 ·obtain ⟨v,h1,h2,h3⟩:=r.slots i t f e;refine ⟨v,h1,h2,fun z=>?_⟩;obtain ⟨p,rfl,o⟩:=h3 z;have n:p≠D:=fun w=>by subst w; subst z; exact no i t e h1
  exact ⟨p,rfl,o.own.mono (Same.refl _) (g8 n).symm,o.out,o.nas,o.new⟩
 ·obtain ⟨a,h1,h2,h3⟩:=r.sto.at' n so e;exact ⟨a,h1,h2,h3.mono (Same.refl _) (g8 (fun w=>by subst w; exact nD (List.mem_of_getElem? h1))).symm⟩
theorem Rel.a4w (r:Rel K B st σ H ps S as) (no:Px st) (sD:S D=none) (nD:D∉as):Rel K ⟨S,as,upd H D ob⟩ st σ (upd H D ob) ps S as:=by
 have ne:∀ b u,S b=some u->b≠D:=fun b u e z=>by subst z; rw [sD] at e; cases e
 refine ⟨fun b u e=>by rw [g8 (ne b u e)]; exact r.sub _ _ e,⟨Same.refl _,nol,fun p o x y z=>⟨x,y,z⟩⟩,fun i t f e=>?_,r.apart,⟨r.sto.len,r.sto.nd,fun n so e=>?_⟩,r.pend,r.len⟩
 ·obtain ⟨v,h1,h2,_⟩:=r.slots i t f e;exact ⟨v,h1,h2,fun z=>by subst z; exact absurd e (no i t)⟩
 ·obtain ⟨a,h1,h2,h3⟩:=r.sto.at' n so e;exact ⟨a,h1,h2,h3.mono (Same.refl _) (g8 (fun w=>by subst w; exact nD (List.mem_of_getElem? h1))).symm⟩
end
theorem Em:∀ (aA:List Nat) (env:List Slot) (k:Nat),(∀ t,env[k]?≠some (some (t,true)))->∀ t,(j8 aA env)[k]?≠some (some (t,true))
 | [],env,k,h=>h
 | i::l,env,k,h=>by
  have e:j8 (i::l) env=j8 l (match env[i]? with | some (some (t,_))=>env.set i (some (t,false)) | _=>env):=rfl;rw [e];refine Em l _ k fun t=>?_;split
  ·rename_i t' f e'
   by_cases hk:i=k
   ·subst hk;rw [List.getElem?_set_self (List.getElem?_eq_some_iff.mp e').1];intro z; cases z
   ·rw [List.getElem?_set_ne hk]; exact h t
  ·exact h t
theorem Dt:∀ (aA:List Nat) (env:List Slot) (k:Nat),k∈aA->∀ t,(j8 aA env)[k]?≠some (some (t,true))
 | [],env,k,h=>by simp at h
 | i::l,env,k,h=>by
  have e:j8 (i::l) env=j8 l (match env[i]? with | some (some (t,_))=>env.set i (some (t,false)) | _=>env):=rfl;rw [e];rcases List.mem_cons.mp h with rfl | h'
  ·refine Em l _ k fun t=>?_;split
   ·rename_i t' f e';rw [List.getElem?_set_self (List.getElem?_eq_some_iff.mp e').1];intro z; cases z
   ·rename_i hx;intro z;exact hx _ _ z
  ·exact Dt l _ k h'
def gE (K:PySem.W.Frag) (g:G):TG:=fun v σ H Q=>∃ B,gOf K B g v σ H Q
def cE (K:PySem.W.Frag) (c:M Bool):TT:=fun σ H Q=>∃ B,cOf K B c σ H Q
def eE (K:PySem.W.Frag) (e:M T):TE:=fun σ H Q=>∃ B,tOf K B e σ H Q
theorem pgE {X:Cx} {tg:Expr} {g:G} (h:∀ B,PG X tg (gOf X.K B g)):PG X tg (gE X.K g):=fun pins s σ H x u Q I r ⟨B,q⟩=>h B pins s σ H x u Q I r q
theorem peE {X:Cx} {e:Expr} {m:M T} (h:∀ B,PE X e (tOf X.K B m)):PE X e (eE X.K m):=fun pins s σ H Q I ⟨B,q⟩=>h B pins s σ H Q I q
theorem Q9 {X:Cx}:PTs X [] (cE X.K Te):=fun pins s σ H Q I z9=>by
 obtain ⟨B,st,ps,S,as,R,b,aa,e,q⟩:=z9;cases e;exact Vt pins s σ H Q I (q H S as R)
section
variable {X:Cx} {scope:Scope} {N:List Str}
inductive CI (K:PySem.W.Frag) (B:Bas) (g:G) (c:M Bool) (e:M T) (ts us:List T) (env:List Slot) (s2:Sta) (σ:L2.St) (pp:List (V × T)) (D:Addr) (i m:Nat) (ah:L2.St) (H':Hp):Prop where
 | mk (aG:Sta) (Si:Hp) (aE:List Addr) (acc:List T) (aH:List V) (hm:m=ts.length - i) (hi:i<=ts.length) (Ri:Rel K ⟨Si,aE,H'⟩ aG ah H' [] Si aE) (no:Px aG) (Ro:Rel K B ⟨env,aG.sto⟩ σ H' pp Si aE) (hD:H' D=some (.lst aH)) (sD:Si D=none) (nD:D∉aE) (rA:qg K Si aE aH acc) (ei:G8 g c e (ts.drop i) aG acc=some (us,s2)):CI K B g c e ts us env s2 σ pp D i m ah H'
theorem Lx {B:Bas} {nv:Nat} {aA:List Nat} {env:List Slot} {aU:List SO} {σ:L2.St} {H1 S1:Hp} {ag:List Addr} {pp:List (V × T)} {D:Addr}
  (hN:N.length=nv+aA.length) (aR:∀ (j k:Nat),aA[j]? = some k->∃ x,N[nv+j]? = some x/\X.N[k]? = some x/\a0t X scope x)
  (R1:Rel X.K B ⟨env,aU⟩ σ H1 pp S1 ag) (bY:∀ k∈aA,∀ t,env[k]?≠some (some (t,true))) (hD:H1 D=none) :
  ∃ aT:L2.St,aT.length=N.length/\(∀ (i:Nat) (v:V) (x:Str),aT[i]? = some (some v)->N[i]? = some x->Vis (relabel scope X.env) x->∃ k:Nat,X.N[k]? = some x/\σ[k]? = some (some v)/\a0t X scope x) /\
   Rel X.K ⟨S1,ag,upd H1 D (.lst [])⟩ ⟨List.replicate nv none++aA.map (fun i=>(env[i]?).getD none),aU⟩ aT (upd H1 D (.lst [])) [] S1 ag/\Px ⟨List.replicate nv none++aA.map (fun i=>(env[i]?).getD none),aU⟩ /\
   Rel X.K B ⟨env,aU⟩ σ (upd H1 D (.lst [])) pp S1 ag:=by
 obtain ⟨bD,sD1,nD1,noD⟩:=R1.fresh hD
 have bQ:∀ (i:Nat) s,(List.replicate nv (none:Slot)++aA.map (fun i=>(env[i]?).getD none))[i]? = some (some s)->∃ j k,i=nv+j/\aA[j]? = some k/\env[k]? = some (some s):=fun i s h=>by
  by_cases hi:i<nv
  ·rw [List.getElem?_append_left (by rw [List.length_replicate]; exact hi)] at h;have:=List.eq_of_mem_replicate (List.mem_of_getElem? h); cases this
  ·rw [List.getElem?_append_right (by rw [List.length_replicate]; exact Nat.le_of_not_lt hi),List.length_replicate,List.getElem?_map] at h;cases z:aA[i - nv]? with
   | none=>rw [z] at h; cases h
   | some k =>
    rw [z] at h;refine ⟨i - nv,k,by omega,z,?_⟩;cases w:env[k]? with
    | none=>simp [w] at h
    | some s'=>simp [w] at h; rw [h]
 have sig:∀ (j k:Nat) v,aA[j]? = some k->σ[k]? = some (some v)->(List.replicate nv (none:Option V)++aA.map (fun i=>(σ[i]?).getD none))[nv+j]? = some (some v):=fun j k v h1 h2=>by
  rw [List.getElem?_append_right (by rw [List.length_replicate]; omega),List.length_replicate,Nat.add_sub_cancel_left,List.getElem?_map,h1];simp [h2]
 refine ⟨List.replicate nv none++aA.map (fun i=>(σ[i]?).getD none),by rw [List.length_append,List.length_replicate,List.length_map,hN],fun i v x h1 h2 _=>?_,?_⟩
 ·by_cases hi:i<nv
  ·rw [List.getElem?_append_left (by rw [List.length_replicate]; exact hi)] at h1;have:=List.eq_of_mem_replicate (List.mem_of_getElem? h1); cases this
  ·rw [List.getElem?_append_right (by rw [List.length_replicate]; exact Nat.le_of_not_lt hi),List.length_replicate,List.getElem?_map] at h1;cases z:aA[i - nv]? with
   | none=>rw [z] at h1; cases h1
   | some k =>
    rw [z] at h1;obtain ⟨y,n1,n2,ck⟩:=aR _ _ z;have e:nv+(i - nv)=i:=by omega
    rw [e,h2] at n1; cases n1;refine ⟨k,n2,?_,ck⟩;cases w:σ[k]? with
    | none=>simp [w] at h1
    | some s'=>simp [w] at h1; rw [h1]
 refine ⟨?_,?_,?_⟩
 ·refine Rel.a4w (B:=B) (H:=H1) ⟨R1.sub,R1.grow,fun i t f h=>?_,fun i j t u p hi hj=>?_,R1.sto,(fun p hp=>by cases hp),?_⟩ (fun i t h=>?_) sD1 nD1
  ·obtain ⟨j,k,rfl,hk,ek⟩:=bQ i _ h;obtain ⟨v,h1,h2,h3⟩:=R1.slots k t f ek;exact ⟨v,sig j k v hk h1,h2,h3⟩
  ·obtain ⟨j,k,rfl,hk,ek⟩:=bQ i _ hi;exact absurd ek (bY k (List.mem_of_getElem? hk) t)
  ·show (List.replicate nv (none:Option V)++aA.map _).length=(List.replicate nv (none:Slot)++aA.map _).length;rw [List.length_append,List.length_append,List.length_replicate,List.length_replicate,List.length_map,List.length_map]
  ·obtain ⟨j,k,rfl,hk,ek⟩:=bQ i _ h;exact absurd ek (bY k (List.mem_of_getElem? hk) t)
 ·intro i t h;obtain ⟨j,k,rfl,hk,ek⟩:=bQ i _ h;exact absurd ek (bY k (List.mem_of_getElem? hk) t)
 ·exact R1.a8a bD sD1 nD1 noD
theorem V3 {B:Bas} {nv:Nat} {aA:List Nat} {g:G} {c:M Bool} {e:M T} {ts us:List T} {env:List Slot} {aU:List SO} {s2:Sta} {σ:L2.St} {H1 S1:Hp} {ag:List Addr} {ps aX:List (V × T)} {J:It} {Q:VK}
  (hN:N.length=nv+aA.length) (hv:∀ i x,i<nv->N[i]? = some x->True)
  (aR:∀ (j k:Nat),aA[j]? = some k->∃ x,N[nv+j]? = some x/\X.N[k]? = some x/\a0t X scope x)
  (R1:Rel X.K B ⟨env,aU⟩ σ H1 (aX++ps) S1 ag) (bY:∀ k∈aA,∀ t,env[k]?≠some (some (t,true)))
  (facts:∀ S as H,Same B.S S->(∃ l,as=B.as++l)->(∀ p∈aX,Rep X.K S as p.1 p.2)->Same S H->Fy X.K S as H J ts)
  (hc:G8 g c e ts ⟨List.replicate nv none++aA.map (fun i=>(env[i]?).getD none),aU⟩ []=some (us,s2))
  (fin:∀ D H' S' ai,Rel X.K B ⟨env,s2.sto⟩ σ H' (aX++ps) S' ai->T5 X.K B S' ai H' D (.lst us)->Gy ⟨env,s2.sto⟩ σ D->Q (.ref D) H') :
  Jk X scope N (gE X.K g) (cE X.K c) (eE X.K e) σ J H1 Q:=by
 intro D hD;obtain ⟨bD,sD1,nD1,noD⟩:=R1.fresh hD;obtain ⟨aT,z1,z2,z3,z4,z5⟩:=Lx hN aR R1 bY hD;refine ⟨aT,z1,z2,fun i m ah H'=>CI X.K B g c e ts us env s2 σ (aX++ps) D i m ah H',⟨ts.length,.mk _ S1 ag [] [] (by simp) (Nat.zero_le _) z3 z4 z5 dj sD1 nD1 .nil hc⟩,?_⟩;rintro i m ah H' ⟨aG,Si,aE,acc,aH,rfl,hi,Ri,no,Ro,hD',sD,nD,rA,ei⟩;have F:=facts Si aE H' Ro.grow.same Ro.grow.more (fun p hp=>Ro.pend p (List.mem_append_left _ hp)) Ri.sub
 by_cases aW:i<ts.length
 ·rw [List.drop_eq_getElem_cons aW] at ei;obtain ⟨s3,b,s4,eg,ec,er⟩:=Vm ei;have ht:ts[i]? = some ts[i]:=List.getElem?_eq_getElem aW;refine .inr ⟨(F.go i _ ht).1,fun x H2 y=>?_⟩;obtain ⟨S2,ex,rx⟩:=(F.go i _ ht).2 x H2 y;refine ⟨⟨Si,aE,H'⟩,aG,[],S2,aE,_,(Ri.ext ex).push rx,s3,eg,fun bu H3 S3 aO R3=>⟨⟨Si,aE,H'⟩,s3,[],S3,aO,R3,b,s4,ec,fun H4 S4 dk R4=>?_⟩⟩;rcases er with ⟨rfl,w,s5,ee,hlen,erest⟩ | ⟨rfl,erest⟩
  ·refine Wk ⟨⟨Si,aE,H'⟩,s4,[],S4,dk,R4,w,s5,ee,fun y H5 S5 c9 R5=>?_⟩;obtain ⟨S6,R6⟩:=R5.je;obtain ⟨k1,k2,k3⟩:=R6.grow.keep D _ hD' sD nD;have df:=Ro.call R6.grow R6.sub R6.sto;refine ⟨aH,k1,?_,ts.length - (i+1),by omega,.mk (je s5) S6 c9 (acc++[w]) (aH++[y]) rfl aW (R6.drop.a4w (uq _) k2 k3) (uq _) (df.a8a bD k2 k3 noD) dj k2 k3 ((rA.mono R6.grow.same R6.grow.more).append (.cons R6.top .nil)) erest⟩;rw [rA.length]; exact Nat.lt_of_lt_of_le hlen jo
  ·refine Vk ?_;obtain ⟨S6,R6⟩:=R4.je;obtain ⟨k1,k2,k3⟩:=R6.grow.keep D _ hD' sD nD;have df:=Ro.call R6.grow R6.sub R6.sto;exact ⟨ts.length - (i+1),by omega,.mk (je s4) S6 dk acc aH rfl aW (R6.rebase (uq _)) (uq _) df k1 k2 k3 (rA.mono R6.grow.same R6.grow.more) erest⟩
 ·have cW:i=ts.length:=by omega
  subst cW;rw [List.drop_length] at ei;cases ei;exact .inl ⟨F.stop _ (Nat.le_refl _),fin D H' Si aE Ro ⟨⟨aH,hD',rA⟩,sD,nD,bD⟩ noD⟩
theorem Rel.give {K:PySem.W.Frag} {B:Bas} {st:Sta} {σ:L2.St} {H S:Hp} {ps:List (V × T)} {as:List Addr} {p:Addr} {t:T} (r:Rel K B st σ H ps S as) (o:T5 K B S as H p t) (no:Gy st σ p):∃ S',Rel K B st σ H ((.ref p,t)::ps) S' as:=by
 obtain ⟨ob,ho⟩:=o.own.there;have sS:Same S (upd S p ob):=Same.upd o.out ob
 have rep:Rep K (upd S p ob) as (.ref p) t:=by
  have w:=o.own;cases t with
  | lst ts=>obtain ⟨vs,h,q⟩:=w; rw [ho] at h; cases h; exact .lst (SqL.of dj) (q.mono sS nol)
  | dic ts=>obtain ⟨vs,h,q⟩:=w; rw [ho] at h; cases h; exact .dic (.inl dj) (q.mono sS nol)
  | _=>exact w.elim
 have outs:∀ q,S q=none->q≠p->upd S p ob q=none:=fun q h n=>by rw [g8 n]; exact h
 refine ⟨upd S p ob,Rel.push (v:=.ref p) (t:=t) ⟨?_,?_,?_,r.apart,?_,fun q hq=>(r.pend q hq).mono sS nol,r.len⟩ rep⟩
 ·intro b u q
  by_cases z:b=p
  ·subst z; rw [dj] at q; cases q; exact ho
  ·rw [g8 z] at q; exact r.sub _ _ q
 ·refine ⟨r.grow.same.trans sS,r.grow.more,fun q w a b c=>?_⟩;obtain ⟨x,y,z⟩:=r.grow.keep q w a b c;refine ⟨x,outs q y fun n=>?_,z⟩;subst n; rw [o.new] at a; cases a
 ·intro j u f ej;obtain ⟨v',a1,a2,a3⟩:=r.slots j u f ej;refine ⟨v',a1,fun z=>(a2 z).mono sS nol,fun z=>?_⟩;subst z;obtain ⟨p',rfl,o'⟩:=a3 rfl;refine ⟨p',rfl,o'.own.mono sS rfl,outs p' o'.out fun n=>?_,o'.nas,o'.new⟩;subst n;exact no j u ej a1
 ·refine ⟨r.sto.len,r.sto.nd,fun n so en=>?_⟩;obtain ⟨a,a1,a2,a3⟩:=r.sto.at' n so en;refine ⟨a,a1,outs a a2 fun z=>?_,a3.mono sS rfl⟩;subst z;exact o.nas (List.mem_of_getElem? a1)
theorem a75 {K:PySem.W.Frag} {B:Bas} {m:M T} {σ:L2.St} {H:Hp} {Q:VK} (h:tOf K B m σ H Q):fOf K B m σ H Q:=by
 obtain ⟨st,ps,S,as,R,t,aa,e,q⟩:=h;refine ⟨st,ps,S,as,R,t,aa,e,fun p H' S' ai R' o n=>?_⟩;obtain ⟨S2,R2⟩:=R'.give o n;exact q _ H' S2 ai R2
theorem K3 {e:Expr} {B:Bas} {m:M T} (h:PE X e (fOf X.K B m)):PE X e (tOf X.K B m):=h.imp fun σ H Q=>a75
variable {B:Bas} {nv:Nat} {aA:List Nat} {g:G} {it:M (List T)} {c:M Bool} {e:M T} {tg iter elt:Expr} {ifs:List Expr} {pos:Pos}
structure a4u (X:Cx) (scope:Scope) (N:List Str) (nv:Nat) (aA:List Nat):Prop where
 len:N.length=nv+aA.length
 at':∀ (j k:Nat),aA[j]? = some k->∃ x,N[nv+j]? = some x/\X.N[k]? = some x/\a0t X scope x
theorem a6i (co:a4u X scope N nv aA) (bM:∀ st ts aa,it st=some (ts,aa)->ts.length<=sizeLine) {σ:L2.St} {H:Hp} {Q:VK} (h:fOf X.K B (J1 nv aA g it c e) σ H Q) :
  a8c X scope N (iOf X.K B it) (gE X.K g) (cE X.K c) (eE X.K e) σ H Q:=by
 obtain ⟨st,ps,S,as,R,t,aa,e,q⟩:=h;obtain ⟨ts,s1,us,s2,e1,e2,rfl,rfl⟩:=Vs e;refine ⟨st,ps,S,as,R,ts,s1,e1,bM _ _ _ e1,fun J H1 S1 ag aX R1 facts=>?_⟩;obtain ⟨S2,R2⟩:=R1.j8 aA;exact V3 co.len (fun _ _ _ _=>trivial) co.at' R2 (fun k hk=>Dt aA s1.env k hk) (fun S as H _ _=>facts S as H) e2 fun D H' S' ai R' o n=>q D H' S' ai (R'.pick fun p hp=>List.mem_append_right _ hp) o n
theorem V9 (co:a4u X scope N nv aA) (sc:Es X scope N) (calm:X.calm=true) (hi:PI X tg iter (iOf X.K B it)) (bM:∀ st ts aa,it st=some (ts,aa)->ts.length<=sizeLine)
  (hg:∀ C s₀ H₀ ex pn,PG (jj X scope N C s₀ H₀ ex pn) tg (gE X.K g)) (hc:∀ C s₀ H₀ ex pn,PTs (jj X scope N C s₀ H₀ ex pn) ifs (cE X.K c)) (he:∀ C s₀ H₀ ex pn,PE (jj X scope N C s₀ H₀ ex pn) elt (eE X.K e))
  (hs:∀ x,foldedSetIterable iter X.env x=pure x:=by intro _; rfl):PE X (.ListComp elt [⟨tg,iter,ifs,0⟩] scope pos) (fOf X.K B (J1 nv aA g it c e)) :=
 (a3w sc calm hi hg hc he hs).imp fun σ H Q h=>a6i co bM h
end
section
variable {X:Cx}
theorem Oz {f:Value->Value->Sem Value} {g:T->T->Option T} {r:R2} (h:OpR X f r)
  (k:∀ S as x y t u w,Rep X.K S as x t->Rep X.K S as y u->g t u=some w->∀ (H:Hp) (Q:VK),Same S H->(∀ v H' S',Ext S H S' H'->Rep X.K S' as v w->Q v H')->r x y H Q):OpT X f g:=by
 intro pins s σ H x y v u Q I rx ry z8;obtain ⟨S,as,t,w,z,sub,ht,hu,hf,q⟩:=z8;exact h pins s σ H x y v u Q I rx ry (k S as x y t w z ht hu hf H Q sub q)
structure OI (g:T->Option T):Prop where
 n:g .non=none
 b:∀ x,g (.bl x)=none
 s:∀ x,g (.str x)=none
 t:∀ x,g (.tup x)=none
 l:∀ x,g (.lst x)=none
 d:∀ x,g (.dic x)=none
 o:∀ x,g (.obj x)=none
 a:∀ x,g (.adr x)=none
theorem OI.int {g:T->Option T} {w t:T} (h:OI g) (e:g t=some w):∃ i,t=.int i:=by
 cases t with
 | int i=>exact ⟨i,rfl⟩
 | non=>exact jm (h.n.symm.trans e)
 | bl x=>exact jm ((h.b x).symm.trans e)
 | str x=>exact jm ((h.s x).symm.trans e)
 | tup x=>exact jm ((h.t x).symm.trans e)
 | lst x=>exact jm ((h.l x).symm.trans e)
 | dic x=>exact jm ((h.d x).symm.trans e)
 | obj x=>exact jm ((h.o x).symm.trans e)
 | adr x=>exact jm ((h.a x).symm.trans e)
theorem Bl {K:PySem.W.Frag} {S:Hp} {as:List Addr} {x y:V} {t u w:T} {g:T->T->Option T} {P:Prop} (ht:Rep K S as x t) (hu:Rep K S as y u) (hf:g t u=some w)
  (n1:∀ u,OI (g · u)) (n2:∀ i,OI (g (.int i))) (k:∀ i j,x=.int i->y=.int j->g (.int i) (.int j)=some w->P):P:=by
 obtain ⟨i,rfl⟩:=(n1 u).int hf;obtain ⟨j,rfl⟩:=(n2 i).int hf;cases ht; cases hu;exact k i j rfl rfl hf
theorem Nz:OpT X (binaryOp .Sub) Zq:=Oz a5x fun S as x y t u w ht hu hf H Q sub q =>
 Bl (g:=Zq) ht hu hf (fun u=>⟨rfl,fun _=>rfl,fun _=>rfl,fun _=>rfl,fun _=>rfl,fun _=>rfl,fun _=>rfl,fun _=>rfl⟩) (fun i=>⟨rfl,fun _=>rfl,fun _=>rfl,fun _=>rfl,fun _=>rfl,fun _=>rfl,fun _=>rfl,fun _=>rfl⟩) fun i j ex ey hf=>by
 subst ex ey; cases hf;exact ⟨_,_,rfl,rfl,q _ H S (Ext.refl sub) (.int _)⟩
theorem Bw:OpT X (binaryOp .Mod) Mr:=Oz a68 fun S as x y t u w ht hu hf H Q sub q =>
 Bl (g:=Mr) ht hu hf (fun u=>⟨rfl,fun _=>rfl,fun _=>rfl,fun _=>rfl,fun _=>rfl,fun _=>rfl,fun _=>rfl,fun _=>rfl⟩) (fun i=>⟨rfl,fun _=>rfl,fun _=>rfl,fun _=>rfl,fun _=>rfl,fun _=>rfl,fun _=>rfl,fun _=>rfl⟩) fun i j ex ey hf=>by
 subst ex ey;obtain ⟨hc,hf⟩:=Du hf;cases hf; exact ⟨_,_,rfl,rfl,hc,q _ H S (Ext.refl sub) (.int _)⟩
def a8r (i j:Int):Prop:=0<j/\(j<1073741824\/j.natAbs<fdl)
theorem a06:OpR X (binaryOp .FloorDiv) (rI a8r fun i j=>.int (i / j)):=opI fun i j _ _ _ _ _ hc q=>by
 have h1:(0:Int)<j:=hc.1
 have h2:j.natAbs<2 ^ 200:=by
  rcases hc.2 with h | h
  ·exact Nat.lt_trans (show j.natAbs<1073741824 by omega) (by decide)
  ·exact h
 exact floordiv_int (by omega) (by rw [Int.fdiv_eq_ediv_of_nonneg i (by omega)]; exact q) (.inl (PyProof.noPylong_of_log2 (Nat.lt_trans ((Nat.log2_lt (by omega)).mpr h2) (by decide))))
theorem Kh:OpT X (binaryOp .FloorDiv) Kc:=Oz a06 fun S as x y t u w ht hu hf H Q sub q =>
 Bl (g:=Kc) ht hu hf (fun u=>⟨rfl,fun _=>rfl,fun _=>rfl,fun _=>rfl,fun _=>rfl,fun _=>rfl,fun _=>rfl,fun _=>rfl⟩) (fun i=>⟨rfl,fun _=>rfl,fun _=>rfl,fun _=>rfl,fun _=>rfl,fun _=>rfl,fun _=>rfl,fun _=>rfl⟩) fun i j ex ey hf=>by
 subst ex ey;obtain ⟨hc,hf⟩:=Du hf;cases hf; exact ⟨_,_,rfl,rfl,hc,q _ H S (Ext.refl sub) (.int _)⟩
theorem Jd:OpT X (compareOp .Lt) ltT:=Oz a9u fun S as x y t u w ht hu hf H Q sub q =>
 Bl (g:=ltT) ht hu hf (fun u=>⟨rfl,fun _=>rfl,fun _=>rfl,fun _=>rfl,fun _=>rfl,fun _=>rfl,fun _=>rfl,fun _=>rfl⟩) (fun i=>⟨rfl,fun _=>rfl,fun _=>rfl,fun _=>rfl,fun _=>rfl,fun _=>rfl,fun _=>rfl,fun _=>rfl⟩) fun i j ex ey hf=>by
 subst ex ey; cases hf;exact ⟨_,_,rfl,rfl,q _ H S (Ext.refl sub) (.bl _)⟩
theorem Q8:OpT X (compareOp .LtE) leT:=Oz a8p fun S as x y t u w ht hu hf H Q sub q =>
 Bl (g:=leT) ht hu hf (fun u=>⟨rfl,fun _=>rfl,fun _=>rfl,fun _=>rfl,fun _=>rfl,fun _=>rfl,fun _=>rfl,fun _=>rfl⟩) (fun i=>⟨rfl,fun _=>rfl,fun _=>rfl,fun _=>rfl,fun _=>rfl,fun _=>rfl,fun _=>rfl,fun _=>rfl⟩) fun i j ex ey hf=>by
 subst ex ey; cases hf;exact ⟨_,_,rfl,rfl,q _ H S (Ext.refl sub) (.bl _)⟩
theorem Xl:OpT X (compareOp .Gt) gtT:=Oz a9a fun S as x y t u w ht hu hf H Q sub q =>
 Bl (g:=gtT) ht hu hf (fun u=>⟨rfl,fun _=>rfl,fun _=>rfl,fun _=>rfl,fun _=>rfl,fun _=>rfl,fun _=>rfl,fun _=>rfl⟩) (fun i=>⟨rfl,fun _=>rfl,fun _=>rfl,fun _=>rfl,fun _=>rfl,fun _=>rfl,fun _=>rfl,fun _=>rfl⟩) fun i j ex ey hf=>by
 subst ex ey; cases hf;exact ⟨_,_,rfl,rfl,q _ H S (Ext.refl sub) (.bl _)⟩
theorem a1g:OpT X (compareOp .GtE) geT:=Oz a9c fun S as x y t u w ht hu hf H Q sub q =>
 Bl (g:=geT) ht hu hf (fun u=>⟨rfl,fun _=>rfl,fun _=>rfl,fun _=>rfl,fun _=>rfl,fun _=>rfl,fun _=>rfl,fun _=>rfl⟩) (fun i=>⟨rfl,fun _=>rfl,fun _=>rfl,fun _=>rfl,fun _=>rfl,fun _=>rfl,fun _=>rfl,fun _=>rfl⟩) fun i j ex ey hf=>by
 subst ex ey; cases hf;exact ⟨_,_,rfl,rfl,q _ H S (Ext.refl sub) (.bl _)⟩
theorem Dy:UnT X (unaryOp .USub) Gg:=by
 intro pins s σ H x v Q I rx z8;obtain ⟨S,as,t,w,sub,ht,hf,q⟩:=z8;cases ht <;> simp only [Gg,reduceCtorEq] at hf
 cases hf;exact a6s pins s σ H _ v Q I rx ⟨_,rfl,q _ H S (Ext.refl sub) (.int _)⟩
noncomputable def aa1 (K:PySem.W.Frag):R2:=fun x y H Q=>∃ l b xs zs,x=.ref l/\y=.ref b/\SqL K H l xs/\SqL K H b zs/\xs.length+zs.length<=sizeLine/\∀ p,H p=none->Q (.ref p) (upd H p (.lst (xs++zs)))
theorem Uq:OpR X (binaryOp .Add) (aa1 X.K):=by
 intro pins s σ H x y v u Q I rx ry h;obtain ⟨l,b,xs,zs,rfl,rfl,hH,hB,hz,q⟩:=h;cases rx;cases ry;obtain ⟨af,r,p1,hl⟩:=I.list hH;obtain ⟨its2,r2,p2,eD⟩:=I.list hB;obtain ⟨⟨cls,dd,data,sl⟩,n,ho,hc,eB,hd⟩:=id p1;obtain ⟨⟨cls2,dd2,data2,sl2⟩,n2,ho2,hc2,hd02,hd2⟩:=id p2;simp only at hc hd hc2 hd2;subst hc hd hc2 hd2
 refine concat_meets ⟨_,ho,rfl⟩ ⟨_,ho2,rfl⟩ noFill_list_add seq_list_add PySem.F.slot_list_add PySem.F.entry_list_add (PySem.F.args_list_add_2 _ _)
   (list_addW l b af.toArray its2.toArray n n2 dd dd2 sl sl2 (by rw [List.size_toArray,List.size_toArray,<- r.length,<- r2.length]; exact hz)) ⟨ho,ho2,?_⟩
 have ea:af.toArray++its2.toArray=(af++its2).toArray:=by simp
 rw [ea];exact ⟨.ref _,_,I.aaz (t':=s.toks) (r.append r2) (by rw [List.length_append]; exact hz),rfl,q _ I.fresh⟩
noncomputable def a78 (K:PySem.W.Frag):R2:=fun x y H Q=>∃ a b ys,x=.ref a/\y=.ref b/\SqT K H a []/\SqT K H b ys/\Q (.ref b) H
theorem Zz:OpR X (binaryOp .Add) (a78 X.K):=by
 intro pins s σ H x y v u Q I rx ry h;obtain ⟨a,b,ys,rfl,rfl,ha,hb,q⟩:=h;cases rx;cases ry;obtain ⟨af,r1,p1,_⟩:=I.tuple ha;obtain ⟨its2,r2,p2,_⟩:=I.tuple hb;cases r1;obtain ⟨⟨cls,dd,data,sl⟩,ho,hc,n,hd⟩:=id p1;obtain ⟨⟨cls2,dd2,data2,sl2⟩,ho2,hc2,n2,hd2⟩:=id p2;simp only at hc hd hc2 hd2;subst hc hd hc2 hd2
 exact concat_meets ⟨_,ho,rfl⟩ ⟨_,ho2,rfl⟩ noFill_tuple_add seq_tuple_add PySem.F.slot_tuple_add PySem.F.entry_tuple_add (PySem.F.args_tuple_add_2 _ _)
   (tuple_addW0 a b _ its2.toArray n n2 dd dd2 sl sl2 (by rfl)) ⟨ho,ho2,⟨.ref b,H,I,rfl,q⟩⟩
theorem gq:OpT X (binaryOp .Add) jt:=by
 intro pins s σ H x y v u Q I rx ry z8;obtain ⟨S,as,t,t2,w,sub,ht,hu,hf,q⟩:=z8;cases ht <;> first | exact nomatch (show none=some w from hf) | cases hu <;> first | exact nomatch (show none=some w from hf) | simp only [jt] at hf
 ·cases hf;exact a74 pins s σ H _ _ v u Q I rx ry ⟨_,_,rfl,rfl,q _ H S (Ext.refl sub) (.int _)⟩
 ·split at hf
  ·rename_i hl; cases hf;exact Sv pins s σ H _ _ v u Q I rx ry ⟨_,_,rfl,rfl,Nat.le_trans (Nat.le_of_lt hl) jo,q _ H S (Ext.refl sub) (.str _)⟩
  ·cases hf
 ·rename_i a vs ts hs hr b ws us bB bK;split at hf
  ·rename_i hl; cases hf;have hz:vs.length+ws.length<=sizeLine:=by rw [hr.length,bK.length]; exact Nat.le_trans (Nat.le_of_lt hl) jo
   cases hr with
   | nil=>exact Zz pins s σ H _ _ v u Q I rx ry ⟨_,_,_,rfl,rfl,qd sub hs,qd sub bB,q _ H S (Ext.refl sub) (.tup bB bK)⟩
   | @cons v0 t0 vs0 ts0 h1 h2 =>
    refine a3h pins s σ H _ _ v u Q I rx ry ⟨_,_,_,_,rfl,rfl,qd sub hs,qd sub bB,by simp,hz,fun z=>?_,fun z p hp=>?_⟩
    ·subst z;cases bK;rw [List.append_nil] at q;exact q _ H S (Ext.refl sub) (.tup hs (.cons h1 h2))
    ·have x:=Ext.laid sub hp (.tup ((v0::vs0)++ws));exact q _ _ _ x (.tup (SqT.of dj) (((qg.cons h1 h2).append bK).mono x.s nol))
  ·cases hf
 ·rename_i a vs ts hs hr b ws us bB bK;split at hf
  ·rename_i hl; cases hf;have hz:vs.length+ws.length<=sizeLine:=by rw [hr.length,bK.length]; exact Nat.le_trans (Nat.le_of_lt hl) jo
   refine Uq pins s σ H _ _ v u Q I rx ry ⟨_,_,_,_,rfl,rfl,lg sub hs,lg sub bB,hz,fun p hp=>?_⟩;have x:=Ext.laid sub hp (.lst (vs++ws));exact q _ _ _ x (.lst (SqL.of dj) ((hr.append bK).mono x.s nol))
  ·cases hf
theorem Xo (x:Str) (n:Int) (h:0<=n):Txt.mul x n=⟨((List.replicate n.toNat x.cps.toList).flatten).toArray⟩:=by
 have key:∀ (k:Nat) (acc:Array Nat),(List.replicate k x.cps).foldl (· ++ ·) acc=acc++((List.replicate k x.cps.toList).flatten).toArray:=by
  intro k
  induction k with
  | zero=>intro acc; simp
  | succ k ih =>
   intro acc;rw [List.replicate_succ,List.foldl_cons,ih,List.replicate_succ,List.flatten_cons];apply Array.ext';simp
 unfold Txt.mul
 by_cases h1:n<1
 ·have:n=0:=by omega
  subst this;rw [if_pos h1]; rfl
 ·rw [if_neg h1]
  by_cases h2:(n==1||x.length==0)=true
  ·rw [if_pos h2];rw [Bool.or_eq_true] at h2;rcases h2 with h2 | h2
   ·have:n=1:=by simpa using h2
    subst this;cases x; simp
   ·have h3:x.cps.size=0:=by simpa [Str.length] using h2
    obtain ⟨c⟩:=x;have h4:c = #[]:=Array.eq_empty_of_size_eq_zero h3;subst h4;congr 1;apply Array.ext';simp
  ·rw [if_neg h2,key];congr 1;apply Array.ext';simp
theorem Nx:OpT X (binaryOp .Mult) a0v:=by
 intro pins s σ H x y v u Q I rx ry z8;obtain ⟨S,as,t,t2,w,sub,ht,hu,hf,q⟩:=z8;cases ht <;> first | exact nomatch (show none=some w from hf) | cases hu <;> first | exact nomatch (show none=some w from hf) | simp only [a0v] at hf
 ·split at hf
  ·rename_i hb; cases hf;refine a5w pins s σ H _ _ v u Q I rx ry ⟨_,_,rfl,rfl,?_,q _ H S (Ext.refl sub) (.int _)⟩;rw [Bool.or_eq_true] at hb;rcases hb with h | h
   ·exact .inl (of_decide_eq_true h)
   ·exact .inr (of_decide_eq_true h)
  ·cases hf
 ·rename_i z j;split at hf
  ·rename_i hb; cases hf;obtain ⟨t',rfl⟩:=rx;obtain ⟨t2',rfl⟩:=ry;refine SB.mul ⟨?_,fun _ _=>?_,fun _ _=>?_⟩ fun t3 k=>⟨.str (Txt.mul z j),H,I.tok _,⟨_,rfl⟩,?_⟩
   ·have h1:¬ j < -(2 ^ 63:Int):=by omega
    have h2:¬ j >= 2 ^ 63:=by omega
    rw [decide_eq_false h1,decide_eq_false h2]; rfl
   ·have h1:(z.length:Int)<=100:=by omega
    have h2:(100:Int)<=(2 ^ 63 - 1) / j:=by
     have hj:0<j:=by
      rcases Int.lt_or_le 0 j with h | h
      ·exact h
      ·exfalso;have:j=0:=by omega
       subst this;rename_i a _; exact a (by decide)
     exact (Int.le_ediv_iff_mul_le hj).mpr (by omega)
    omega
   ·have h3:z.length * j.toNat<=100 * 1000:=Nat.mul_le_mul hb.2.2 (by omega);unfold Builtin.Str.tooLong;rw [sizeLine_eq];exact decide_eq_false (by omega)
   ·rw [Xo z j hb.1]; exact q _ H S (Ext.refl sub) (.str _)
  ·cases hf
end
section
variable {X:Cx} {B:Bas} {a b c e o:Expr} {m m1 m2:M T} {pos p:Pos}
theorem J7 (n:Nat) (i:Int):ixI n i=ixN n i:=rfl
theorem a5y {K:PySem.W.Frag} {S:Hp} {as:List Addr} {y:V} {t:T} {q:L2.Key} (r:Rep K S as y t) (h:keyOf t=some q):y=kV q:=by
 cases r <;> simp only [keyOf,reduceCtorEq] at h <;> (cases h; rfl)
def a9d:R2:=fun x y H Q=>∃ a v,x=.ref a/\a5p H a y (some v)/\Q v H
theorem a4m (hu:X.A.units+1<cLine):IxR X a9d:=by
 intro value slice pins s σ H x y v u Q I rx ry z8 hs;obtain ⟨a,w,ex,g,q⟩:=z8;subst ex;cases rx;refine tail_any (Oe I g) slot_dict_getitem.lookup (W4 hu I g ry fun w' s' I' r'=>⟨w,H,I',r',q⟩) hs
theorem Yc (hu:X.A.units+1<cLine):IxR X (r2 X.K gb):=by
 intro value slice pins s σ H x y v u Q I rx ry z8 hs;obtain ⟨S,as,t,t2,w,sub,ht,hu2,hf,q⟩:=z8;cases ht with
 | @tup a vs ts h1 h2 =>
  cases hu2 <;> first | exact jm hf | skip
  rename_i i;obtain ⟨j,e1,e2⟩:=Option.bind_eq_some_iff.mp hf;obtain ⟨z,hz,rz⟩:=h2.get e2;refine a7b value slice pins s σ H _ _ v u Q I rx ry ⟨a,vs,i,z,rfl,rfl,qd sub h1,?_,q z H S (Ext.refl sub) rz⟩ hs;rw [J7,<- h2.length] at e1;unfold atI; rw [e1]; exact hz
 | @lst a vs ts h1 h2 =>
  cases hu2 <;> first | exact jm hf | skip
  rename_i i;obtain ⟨j,e1,e2⟩:=Option.bind_eq_some_iff.mp hf;obtain ⟨z,hz,rz⟩:=h2.get e2;refine Oa value slice pins s σ H _ _ v u Q I rx ry ⟨a,vs,i,z,rfl,rfl,lg sub h1,?_,q z H S (Ext.refl sub) rz⟩ hs;rw [J7,<- h2.length] at e1;unfold atI; rw [e1]; exact hz
 | str z =>
  cases hu2 <;> first | exact jm hf | skip
  rename_i i;obtain ⟨hl,hf⟩:=Du hf;obtain ⟨j,e1,e2⟩:=Option.bind_eq_some_iff.mp hf;obtain ⟨cc,e3,e4⟩:=Option.map_eq_some_iff.mp e2;subst e4;refine a73 value slice pins s σ H _ _ v u Q I rx ry ⟨z,i,cc,rfl,rfl,Nat.le_trans (Nat.le_of_lt hl) jo,?_,q _ H S (Ext.refl sub) (.str _)⟩ hs;rw [J7] at e1;unfold atI; rw [e1]; exact e3
 | @dic a aw ts h1 h2 =>
  obtain ⟨k,e1,e2⟩:=Option.bind_eq_some_iff.mp hf;have ey:=a5y hu2 e1;subst ey;rcases h2.get k with ⟨z,t',a1,a2,a3⟩ | ⟨_,a2⟩
  ·rw [e2] at a2; cases a2;exact a4m hu value slice pins s σ H _ _ v u Q I rx ry ⟨a,z,rfl,.inl ⟨aw,k,yj sub h1,rfl,a1.symm⟩,q z H S (Ext.refl sub) a3⟩ hs
  ·rw [e2] at a2; cases a2
 | _=>exact jm hf
theorem n8 (hu:X.A.units+1<cLine) (ha:PE X a (tOf X.K B m1)) (hb:PE X b (tOf X.K B m2)) (hs:K7 b):PE X (.Subscript a b pos) (tOf X.K B (mOp gb m1 m2)):=Qn (a3r (Yc hu) ha hb hs)
theorem j7:Xn X (.builtin "len") vf:=by
 intro pins s σ H xs us Q I rs z8;obtain ⟨S,as,ts,w,sub,hr,hf,q⟩:=z8;cases hr with
 | nil=>simp only [vf,reduceCtorEq] at hf
 | @cons x t xs' ts' h1 h2 =>
  cases h2 with
  | cons h3 h4=>simp only [vf,reduceCtorEq] at hf
  | nil =>
   cases h1 with
   | tup g1 g2=>simp only [vf] at hf; cases hf; exact zx pins s σ H _ us Q I rs ⟨_,_,rfl,.inr (qd sub g1),by rw [g2.length]; exact q _ H S (Ext.refl sub) (.int _)⟩
   | lst g1 g2=>simp only [vf] at hf; cases hf; exact zx pins s σ H _ us Q I rs ⟨_,_,rfl,.inl (lg sub g1),by rw [g2.length]; exact q _ H S (Ext.refl sub) (.int _)⟩
   | str z =>
    simp only [vf] at hf;split at hf
    ·rename_i hl; cases hf; exact M4 pins s σ H _ us Q I rs ⟨_,rfl,Nat.le_trans (Nat.le_of_lt hl) jo,q _ H S (Ext.refl sub) (.int _)⟩
    ·cases hf
   | @dic a aw ts g1 g2 =>
    simp only [vf] at hf; cases hf;obtain ⟨u,rfl,ru⟩:=rs.one;cases ru;exact a7y I (yj sub g1) fun t s' I'=>⟨.int aw.length,H,I',⟨t,rfl⟩,by rw [g2.length]; exact q _ H S (Ext.refl sub) (.int _)⟩
   | _=>simp only [vf,reduceCtorEq] at hf
theorem Ea:Xn X (.type "tuple") Dl:=by
 intro pins s σ H xs us Q I rs z8;obtain ⟨S,as,ts,w,sub,hr,hf,q⟩:=z8;cases hr with
 | nil=>simp only [Dl,reduceCtorEq] at hf
 | @cons x t xs' ts' h1 h2 =>
  cases h2 with
  | cons h3 h4=>simp only [Dl,reduceCtorEq] at hf
  | nil =>
   cases h1 with
   | @tup a vs ts g1 g2=>simp only [Dl] at hf; cases hf; exact Br pins s σ H _ us Q I rs ⟨_,_,rfl,.inr ⟨qd sub g1,q _ H S (Ext.refl sub) (.tup g1 g2)⟩⟩
   | @lst a vs ts g1 g2 =>
    simp only [Dl] at hf; cases hf;refine Br pins s σ H _ us Q I rs ⟨_,_,rfl,.inl ⟨lg sub g1,fun p hp=>?_⟩⟩;have x:=Ext.laid sub hp (.tup vs);exact q _ _ _ x (.tup (SqT.of dj) (g2.mono x.s nol))
   | _=>simp only [Dl,reduceCtorEq] at hf
end
theorem O9 {i:Nat} {s s':Sta} {t:T} (h:yp i s=some (t,s')):s'=s/\((∃ xs f,s.env[i]? = some (some (.lst xs,f))/\t=.int xs.length)\/(∃ xs f,s.env[i]? = some (some (.dic xs,f))/\t=.int xs.length)):=by
 unfold yp at h;split at h
 ·rename_i xs f e; cases h; exact ⟨rfl,.inl ⟨xs,f,e,rfl⟩⟩
 ·rename_i xs f e; cases h; exact ⟨rfl,.inr ⟨xs,f,e,rfl⟩⟩
 ·cases h
section
variable {K:PySem.W.Frag} {B:Bas} {st:Sta} {σ:L2.St} {H S:Hp} {ps:List (V × T)} {as:List Addr}
theorem Rel.dictAt (r:Rel K B st σ H ps S as) {i:Nat} {aw:List (L2.Key × T)} {f:Bool} (e:st.env[i]? = some (some (.dic aw,f))):∃ p vs,σ[i]? = some (some (.ref p))/\Rd H p (.dK vs)/\Gb K S as vs aw:=by
 obtain ⟨v,h1,h2,h3⟩:=r.slots i _ f e;cases f with
 | false =>
  have h:=h2 rfl;cases h with
  | dic a b=>exact ⟨_,_,h1,yj r.sub a,b⟩
 | true =>
  obtain ⟨p,rfl,o⟩:=h3 rfl;obtain ⟨vs,h,q⟩:=o.own;exact ⟨p,vs,h1,.inl h,q⟩
end
section
variable {X:Cx} {B:Bas} {a b c e o k d:Expr} {m mo mk md mv:M T} {pos p:Pos}
theorem Fp {i:Nat} {s:Sta} (h:Aj i s=true):∃ aw f,s.env[i]? = some (some (.lst aw,f)):=by
 unfold Aj at h;split at h
 ·rename_i aw f e; exact ⟨aw,f,e⟩
 ·cases h
end
theorem jw {ms:M (List T)} {n:Nat} (h:∀ st ts aa,ms st=some (ts,aa)->ts.length<=n) (hn:n<=1000):∀ st ts aa,ms st=some (ts,aa)->ts.length<=1000:=fun st ts aa e=>Nat.le_trans (h st ts aa e) hn
theorem Qg {m:M T}:∀ st ts aa,Nf m st=some (ts,aa)->ts.length<=sizeLine:=fun st ts aa e=>by
 unfold Nf at e;split at e
 ·split at e
  ·rename_i h; cases e; exact Nat.le_trans (Nat.le_of_lt h) jo
  ·cases e
 ·split at e
  ·rename_i h; cases e; exact Nat.le_trans (Nat.le_of_lt h) jo
  ·cases e
 ·cases e
theorem Jm {m:M T}:∀ st ts aa,Ay m st=some (ts,aa)->ts.length<=sizeLine:=fun st ts aa e=>by
 obtain ⟨n,_,h,rfl⟩:=Jj e;unfold rangeT;rw [List.length_map,List.length_range];refine Nat.le_trans ?_ jo;show n.toNat<=1000000;omega
def yc (P:Program) (w:World) (K:PySem.W.Frag) (mg:Str->Option Value) (base:Heap) (x:Str) (k:Nat) (ps:List Str) (F:Fn):Prop :=
 ∃ f fd,Bj P w K mg base CX0 k f fd ps (spF K ps.length F)/\Binds K fd ps []/\PySem.W.keepIn K (.ref f)=true/\mg x=some (.ref f)
theorem yc.mono {P:Program} {w:World} {K:PySem.W.Frag} {mg:Str->Option Value} {base:Heap} {x:Str} {j k:Nat} {ps:List Str} {F:Fn} (d:yc P w K mg base x j ps F) (h:j<=k):yc P w K mg base x k ps F:=by
 obtain ⟨f,fd,h1,h2⟩:=d;exact ⟨f,fd,h1.mono h,h2⟩
section
variable {X:Cx} {B:Bas} {a b c e o k:Expr} {m m1 m2:M T} {pos p:Pos} {es:List Expr} {ms:M (List T)} {F:Fn} {x:Str} {n:Nat} {pn:List Str}
theorem dw (D:yc X.prog X.w X.K X.mg X.base x n pn F) (hr:Ab n X.A) (hg:Gl X x)
  (ha:PA X (e::es) (aOf X.K B ms)) (hl:∀ st ts aa,ms st=some (ts,aa)->ts.length=pn.length) (aP:(x==("__debug__" : Str))=false:=by decide)
  (he:starEach (e::es) X.env=(false,eval e X.env)::starEach es X.env:=by rfl) (aI:(backTo pos (starEach es X.env)).any (·.1)=false:=by rfl) :
  PE X (.Call (.Name x p) (e::es) [] pos) (tOf X.K B (fj F ms)):=by
 obtain ⟨f,fd,h1,h2,h3,h4⟩:=D;exact a5j h1 hr hg h4 h3 h2 ha hl aP he aI
theorem Rp (h:PA X es (aOf X.K B ms)) (hm:∀ st ts aa,ms st=some (ts,aa)->ts.length<=1000):PE X (.List es pos) (fOf X.K B (j5 (fun l=>some (.lst l)) ms)) :=
 (Xf h).imp fun σ H Q z9=>by
  obtain ⟨st,ps,S,as,R,t,aa,e,q⟩:=z9;obtain ⟨ts,e1,e2⟩:=Ei e;cases e2;refine ⟨st,ps,S,as,R,ts,aa,e1,fun vs H1 S1 ag R1 rs=>⟨?_,fun p hp=>?_⟩⟩
  ·rw [rs.length]; exact Nat.le_of_lt (Ck (hm _ _ _ e1))
  ·obtain ⟨bD,sD,nD,no⟩:=R1.fresh hp;exact q p _ S1 ag (R1.a8a bD sD nD no) ⟨⟨vs,dj,rs⟩,sD,nD,bD⟩ no
theorem Rel.listAt {K:PySem.W.Frag} {B:Bas} {st:Sta} {σ:L2.St} {H S:Hp} {ps:List (V × T)} {as:List Addr} (r:Rel K B st σ H ps S as) {i:Nat} {xs:List T} {f:Bool} (e:st.env[i]? = some (some (.lst xs,f))):∃ p vs,σ[i]? = some (some (.ref p))/\SqL K H p vs/\qg K S as vs xs:=by
 obtain ⟨v,h1,h2,h3⟩:=r.slots i _ f e;cases f with
 | false =>
  have h:=h2 rfl;cases h with
  | lst a b=>exact ⟨_,_,h1,lg r.sub a,b⟩
 | true =>
  obtain ⟨p,rfl,o⟩:=h3 rfl;obtain ⟨vs,h,q⟩:=o.own;exact ⟨p,vs,h1,SqL.of h,q⟩
theorem Hl (i:Nat) {st:Stmt} (h:PS X st (Wc (tBM X.K "list" Ht (Y7 i) (Sw (tOf X.K B m) a3g)))):PS X st (sOf X.K B (v7 i m)):=h.imp fun D σ H z9=>by
 obtain ⟨st,ps,S,as,R,fl,aa,e,q⟩:=z9;obtain ⟨hd,t,s1,xs,e1,e2,hl,rfl,rfl⟩:=Oc e;obtain ⟨xs0,f0,e0⟩:=Fp hd;obtain ⟨p0,vs0,s0,q0,_⟩:=R.listAt e0;refine ⟨_,s0,.inl ⟨rfl,_,q0⟩,st,ps,S,as,R,t,s1,e1,fun v H1 S1 ag R1=>?_⟩;obtain ⟨w,h1,_,h3⟩:=R1.slots i _ true e2;rw [s0] at h1; cases h1;obtain ⟨p',ep,ow⟩:=h3 rfl;cases ep;obtain ⟨vs,hH,h4⟩:=ow.own;exact ⟨p0,vs,v,rfl,rfl,hH,by rw [h4.length]; exact Nat.lt_of_lt_of_le hl jo,q _ _ S1 ag (R1.drop.turn e2 s0 ⟨_,dj,h4.append (.cons R1.top .nil)⟩)⟩
end
section
variable {X:Cx} {B:Bas} {a b c e o k:Expr} {m m1 m2:M T} {pos p:Pos}
theorem J9 {K:PySem.W.Frag} {S:Hp} {as:List Addr}:∀ {vs:List V} {ts:List T} {l:List Bool},qg K S as vs ts->G9 ts=some l->vs=l.map V.bl
 | _,_,l,.nil,h=>by cases h; rfl
 | _,_,l,.cons (t:=t) h1 h2,h=>by
  cases h1 <;> first | exact jm h | skip
  obtain ⟨l',e1,e2⟩:=Option.map_eq_some_iff.mp h;subst e2;rw [J9 h2 e1]; rfl
theorem Wv {l:List Bool} {us:List Value} (r:Vals (l.map V.bl) us) {i:Nat} {v:Value} (h:us.toArray[i]? = some v):v=.bool (l.getD i true):=by
 rw [List.getElem?_toArray] at h;have hi:i<(l.map V.bl).length:=by rw [r.length]; exact (List.getElem?_eq_some_iff.mp h).1
 rw [List.length_map] at hi;have e:(l.map V.bl)[i]? = some (.bl l[i]):=by rw [List.getElem?_map,List.getElem?_eq_getElem hi]; rfl
 obtain ⟨u,h1,h2⟩:=r.get e;rw [h] at h1; cases h1;rw [h2,List.getD_eq_getElem?_getD,List.getElem?_eq_getElem hi]; rfl
theorem Inv.Aj {pins:List (Addr × Obj)} {σ:L2.St} {H:Hp} {s:Shared} {a:Addr} {xs:List V} (I:L2.Inv X pins σ H s) (h:SqL X.K H a xs):a<s.heap.objs.size:=by
 obtain ⟨af,_,⟨o,n,h1,_⟩,_⟩:=I.list h;exact Heap.lt_size h1
theorem all_range (l:List Bool) (d:Bool):((List.range l.length).all fun i=>l.getD i d)=l.all id:=by
 induction l with
 | nil=>rfl
 | cons x r ih =>
  rw [List.length_cons,List.range_succ_eq_map,List.all_cons,List.all_map,List.all_cons,<- ih];rfl
theorem Lr (hc:X.calm=true):Xn X (.builtin "all") a71:=by
 intro pins s σ H xs us Q I rs z8;obtain ⟨S,as,ts,w,sub,hr,hf,q⟩:=z8;cases hr with
 | nil=>exact jm hf
 | @cons x t xs' ts' h1 h2 =>
  cases h2 with
  | cons h3 h4=>cases h1 <;> exact jm hf
  | nil =>
   cases h1 with
   | @lst a vs ts g1 g2 =>
    obtain ⟨l,e1,e2⟩:=Option.map_eq_some_iff.mp hf;subst e2;have ev:=J9 g2 e1;subst ev;obtain ⟨u,rfl,ru⟩:=rs.one;cases ru;obtain ⟨af,r,p,hz⟩:=I.list (lg sub g1);have aW:=Inv.Aj I (lg sub g1);refine call_all_walk (wpAny_pyIter_list p.isList ?_);refine ⟨_,_,_,_,_,_,fun i=>l.getD i true,rfl,Walks.list (A:=X.A.in1) (show X.A.in1.handled=none from I.ok.hd hc) s.heap.objs.size a (Nat.ne_of_lt aW) af.toArray,And.intro ⟨_,Heap.get?_push_size _ rfl,rfl,rfl⟩ (PlainL.keeps p fun b o e=>Heap.get?_push_of_some _ e).isList,fun i v s Q E hv hq=>?_,fun h' tk hk=>?_⟩
    ·have e:=Wv r hv;subst e;exact wpAny_truthy_bool hq
    ·have hl:af.toArray.size=l.length:=by rw [List.size_toArray,<- r.length,List.length_map]
     rw [hl,all_range];exact ⟨.bl (l.all id),H,I.kept (h':=h') (t':=tk) fun b u e=>hk b u (by simp; exact Nat.ne_of_lt (Heap.lt_size e)) (Heap.get?_push_of_some _ e),rfl,q _ H S (Ext.refl sub) (.bl _)⟩
   | _=>exact jm hf
example (K:PySem.W.Frag):PySem.W.kitOne K (.type "bool") (.type "int")=some true:=by rfl
example (K:PySem.W.Frag):PySem.W.kitOne K (.type "str") (.type "int")=some false:=by rfl
end
section
variable {X:Cx} {B:Bas} {m:M T}
end
theorem Rel.newObj {K:PySem.W.Frag} {B:Bas} {st:Sta} {σ:L2.St} {H S:Hp} {ps:List (V × T)} {as:List Addr} {p:Addr} {ob:HO} {so:SO} (r:Rel K B st σ H ps S as) (hp:H p=none) (h:a1k K S (as++[p]) (upd H p ob) p so) :
  Rel K B { st with sto:=st.sto++[so] } σ (upd H p ob) ((.ref p,.obj st.sto.length)::ps) S (as++[p]):=by
 obtain ⟨bD,sD,nD,no⟩:=r.fresh hp;have mo:∃ l,as++[p]=as++l:=⟨[p],rfl⟩;have other:∀ q,q≠p->H q=upd H p ob q:=fun q n=>(g8 n).symm;refine Rel.push (st:={ st with sto:=st.sto++[so] }) (H:=upd H p ob) (v:=.ref p) (t:=.obj st.sto.length) ⟨fun b u e=>?_,⟨r.grow.same,?_,fun q o a b c=>?_⟩,fun i t f e=>?_,r.apart,⟨?_,?_,fun n cO e=>?_⟩,fun q hq=>(r.pend q hq).mono (Same.refl _) mo,r.len⟩ (.obj ?_)
 ·rw [g8 (fun z=>by subst z; rw [sD] at e; cases e)]; exact r.sub _ _ e
 ·obtain ⟨l,e⟩:=r.grow.more;exact ⟨l++[p],by rw [e,List.append_assoc]⟩
 ·obtain ⟨x,y,z⟩:=r.grow.keep q o a b c;have n:q≠p:=fun w=>by subst w; rw [bD] at a; cases a
  refine ⟨by rw [g8 n]; exact x,y,fun m=>?_⟩;rcases List.mem_append.mp m with m | m
  ·exact z m
  ·exact n (List.mem_singleton.mp m)
 ·obtain ⟨v,h1,h2,h3⟩:=r.slots i t f e;refine ⟨v,h1,fun z=>(h2 z).mono (Same.refl _) mo,fun z=>?_⟩;obtain ⟨q,rfl,o⟩:=h3 z;have n:q≠p:=fun w=>by subst w; subst z; exact no i t e h1
  refine ⟨q,rfl,o.own.more (Same.refl _) mo (other q n),o.out,fun m=>?_,o.new⟩;rcases List.mem_append.mp m with m | m
  ·exact o.nas m
  ·exact n (List.mem_singleton.mp m)
 ·show (as++[p]).length=(st.sto++[so]).length;rw [List.length_append,List.length_append,r.sto.len]; rfl
 ·refine List.nodup_append.mpr ⟨r.sto.nd,by simp,fun a ha b hb=>?_⟩;rw [List.mem_singleton.mp hb];intro z; subst z; exact nD ha
 ·have e:(st.sto++[so])[n]? = some cO:=e
  by_cases hn:n<st.sto.length
  ·rw [List.getElem?_append_left hn] at e;obtain ⟨a,h1,h2,h3⟩:=r.sto.at' n cO e;have na:a≠p:=fun z=>by subst z; exact nD (List.mem_of_getElem? h1)
   refine ⟨a,Wb h1,h2,?_⟩;cases cO with
   | dic ts=>obtain ⟨vs,x,y⟩:=h3; exact ⟨vs,by rw [g8 na]; exact x,y.mono (Same.refl _) mo⟩
   | lst ts=>obtain ⟨vs,x,y⟩:=h3; exact ⟨vs,by rw [g8 na]; exact x,y.mono (Same.refl _) mo⟩
   | dit ts=>obtain ⟨vs,x,y⟩:=h3; exact ⟨vs,by rw [g8 na]; exact x,y.mono (Same.refl _) mo⟩
   | exc C f t=>obtain ⟨dx,v,x,g,y⟩:=h3; exact ⟨dx,v,by rw [g8 na]; exact x,g,y.mono (Same.refl _) mo⟩
   | ins C fs=>obtain ⟨dx,vs,x,y⟩:=h3; exact ⟨dx,vs,by rw [g8 na]; exact x,y.mono (Same.refl _) mo⟩
   | fdc ts=>obtain ⟨vs,x,y⟩:=h3; exact ⟨vs,by rw [g8 na]; exact x,y.mono (Same.refl _) mo⟩
  ·rw [List.getElem?_append_right (Nat.le_of_not_lt hn)] at e
   have fG:n - st.sto.length=0:=by
    have:=(List.getElem?_eq_some_iff.mp e).1;simp at this; omega
   rw [fG] at e; cases e;have bH:n=as.length:=by rw [r.sto.len]; omega
   subst bH;exact ⟨p,by rw [List.getElem?_append_right (Nat.le_refl _),Nat.sub_self]; rfl,sD,h⟩
 ·rw [<- r.sto.len,List.getElem?_append_right (Nat.le_refl _),Nat.sub_self]; rfl
def PN (X:Cx) (e:Expr) (N:L2.St->V->Prop):Prop:=PE X e (fun σ H Q=>∃ v,N σ v/\Q v H)
def MN (K:PySem.W.Frag) (m:M T) (N:L2.St->V->Prop):Prop:=∀ (B:Bas) (st:Sta) (σ:L2.St) (H:Hp) (ps:List (V × T)) (S:Hp) (as:List Addr) (t:T) (aa:Sta),Rel K B st σ H ps S as->m st=some (t,aa)->aa=st/\∃ v,N σ v/\Rep K S as v t
structure PM (X:Cx) (e:Expr) (m:M T) (N:L2.St->V->Prop):Prop where
 p:PN X e N
 m:MN X.K m N
section
variable {X:Cx} {B:Bas} {a b e e1 e2:Expr} {m m1 m2:M T} {N N1 N2:L2.St->V->Prop} {pos p:Pos}
end
inductive Za:List Expr->List Str->Prop where
 | nil:Za [] []
 | cons {x:Str} {k:Nat} {q:Pos} {es:List Expr} {xs:List Str}:Za es xs->Za (.Constant (.str x) k q::es) (x::xs)
theorem Ci {X:Cx} {B:Bas}:∀ {es:List Expr} {xs:List Str},Za es xs->PA X es (aOf X.K B (Bv xs))
 | _,_,.nil=>cj
 | _,_,.cons h=>aq dz (Ci h)
theorem len_strs:∀ (xs:List Str) (st:Sta) (ts:List T) (aa:Sta),Bv xs st=some (ts,aa)->ts.length<=xs.length
 | [],st,ts,aa,e=>jk st ts aa e
 | _::xs,st,ts,aa,e=>d8 (len_strs xs) st ts aa e
section
variable {X:Cx} {B:Bas} {a b c e o k:Expr} {m m1 m2:M T} {pos p p2:Pos}
theorem Mg (i:Nat) (hm:X.mg "len" = none) {es:Expr} (hg:Gl X "len") (h:PE X es (Y7 i)) (he:starEach [es] X.env=(false,eval es X.env)::starEach [] X.env:=by rfl) (aI:(backTo pos (starEach [] X.env)).any (·.1)=false:=by rfl) :
  PE X (.Call (.Name "len" p) [es] [] pos) (tOf X.K B (yp i)):=by
 have hc:Iz X (.builtin "len") (fun xs H Q=>∃ q,xs=[.ref q]/\((∃ ys,SqL X.K H q ys/\Q (.int ys.length) H)\/(∃ aw,Rd H q (.dK aw)/\Q (.int aw.length) H))):=by
  intro pins s σ H xs us Q I rs z8;obtain ⟨q,ex,h⟩:=z8;rcases h with ⟨ys,h1,h2⟩ | ⟨aw,h1,h2⟩
  ·exact zx pins s σ H xs us Q I rs ⟨q,ys,ex,.inl h1,h2⟩
  ·subst ex;obtain ⟨u,rfl,ru⟩:=rs.one;cases ru;exact a7y I h1 fun t s' I'=>⟨.int aw.length,H,I',⟨t,rfl⟩,h2⟩
 refine (j6 hc hg hm PySem.boot_len (nu h v9 he) (by decide) (by decide) he aI).imp fun σ H Q z0=>?_;obtain ⟨st,ps,S,as,R,t,aa,e,q⟩:=z0;obtain ⟨rfl,h⟩:=O9 e;rcases h with ⟨xs,f,e1,rfl⟩ | ⟨xs,f,e1,rfl⟩
 ·obtain ⟨p0,vs,s0,h1,h2⟩:=R.listAt e1;exact ⟨_,s0,p0,rfl,.inl ⟨vs,h1,by rw [h2.length]; exact q _ H S as (R.push (.int _))⟩⟩
 ·obtain ⟨p0,vs,s0,h1,h2⟩:=R.dictAt e1;exact ⟨_,s0,p0,rfl,.inr ⟨vs,h1,by rw [h2.length]; exact q _ H S as (R.push (.int _))⟩⟩
end
section
variable {X:Cx} {pins:List (Addr × Obj)} {σ:L2.St} {H S:Hp} {s:Shared} {as:List Addr}
theorem Wh (I:L2.Inv X pins σ H s) (sub:Same S H):(∀ {v:V} {t:T},Rep X.K S as v t->∀ {d:PyData} {u:Value},dat t=some d->RelV v u->∃ bs,Reads s.heap u d bs)/\∀ {vs:List V} {ts:List T},qg X.K S as vs ts->∀ {ds:List PyData} {us:List Value},Ku ts=some ds->Vals vs us->∃ bs,ReadsAll s.heap us ds bs:=by
 have tp:∀ {a:Addr} {vs:List V} {ts:List T},SqT X.K S a vs->qg X.K S as vs ts->(∀ {ds:List PyData} {us:List Value},Ku ts=some ds->Vals vs us->∃ bs,ReadsAll s.heap us ds bs)->∀ {d:PyData} {u:Value},dat (.tup ts)=some d->RelV (.ref a) u->∃ bs,Reads s.heap u d bs:=by
  intro a vs ts h _ q d u e r;simp only [dat] at e;obtain ⟨l,e1,e2⟩:=Option.map_eq_some_iff.mp e;subst e2;cases r;obtain ⟨af,rv,⟨o,h1,h2,n,h3⟩,_⟩:=I.tuple (qd sub h);obtain ⟨bs,rb⟩:=q e1 rv;exact ⟨_,.tuple h1 h2 h3 rb⟩
 have ls:∀ {a:Addr} {vs:List V} {ts:List T},SqL X.K S a vs->qg X.K S as vs ts->(∀ {ds:List PyData} {us:List Value},Ku ts=some ds->Vals vs us->∃ bs,ReadsAll s.heap us ds bs)->∀ {d:PyData} {u:Value},dat (.lst ts)=some d->RelV (.ref a) u->∃ bs,Reads s.heap u d bs:=by
  intro a vs ts h _ q d u e r;simp only [dat] at e;obtain ⟨l,e1,e2⟩:=Option.map_eq_some_iff.mp e;subst e2;cases r;obtain ⟨af,rv,⟨o,n,h1,h2,_,h3⟩,_⟩:=I.list (lg sub h);obtain ⟨bs,rb⟩:=q e1 rv;exact ⟨_,.list h1 h2 h3 rb⟩
 have st:∀ (x:Str) {d:PyData} {u:Value},dat (.str x)=some d->RelV (.str x) u->∃ bs,Reads s.heap u d bs:=by
  intro x d u e r;simp only [dat] at e;split at e
  ·cases e; obtain ⟨t,rfl⟩:=r; exact ⟨_,.str x t⟩
  ·cases e
 have cn:∀ {v:V} {t:T} {vs:List V} {ts:List T},Rep X.K S as v t->qg X.K S as vs ts->(∀ {d:PyData} {u:Value},dat t=some d->RelV v u->∃ bs,Reads s.heap u d bs)->(∀ {ds:List PyData} {us:List Value},Ku ts=some ds->Vals vs us->∃ bs,ReadsAll s.heap us ds bs)->∀ {ds:List PyData} {us:List Value},Ku (t::ts)=some ds->Vals (v::vs) us->∃ bs,ReadsAll s.heap us ds bs:=by
  intro v t vs ts _ _ h q ds us e r;obtain ⟨a,l,e1,e2,e3⟩:=Y0 e;subst e3;cases r with
  | cons r1 r2 =>
   obtain ⟨b1,x1⟩:=h e1 r1;obtain ⟨b2,x2⟩:=q e2 r2;exact ⟨_,.cons x1 x2⟩
 have nl:∀ {ds:List PyData} {us:List Value},Ku []=some ds->Vals [] us->∃ bs,ReadsAll s.heap us ds bs:=by
  intro ds us e r; simp only [Ku] at e; cases e; cases r; exact ⟨_,.nil⟩
 have no:∀ {d:PyData} {u:Value},dat .non=some d->RelV .non u->∃ bs,Reads s.heap u d bs:=by
  intro d u e r; simp only [dat] at e; cases e; cases r; exact ⟨_,.none⟩
 have bo:∀ (b:Bool) {d:PyData} {u:Value},dat (.bl b)=some d->RelV (.bl b) u->∃ bs,Reads s.heap u d bs:=by
  intro b d u e r; simp only [dat] at e; cases e; cases r; exact ⟨_,.bool b⟩
 have it:∀ (i:Int) {d:PyData} {u:Value},dat (.int i)=some d->RelV (.int i) u->∃ bs,Reads s.heap u d bs:=by
  intro i d u e r; simp only [dat] at e; cases e; obtain ⟨t,rfl⟩:=r; exact ⟨_,.int i t⟩
 have di:∀ {a:Addr} {ts:List (L2.Key × T)} {d:PyData} {u:Value},dat (.dic ts)=some d->RelV (.ref a) u->∃ bs,Reads s.heap u d bs:=by
  intro a ts d u e; simp only [dat] at e; cases e
 have ob:∀ {a:Addr} {n:Nat} {d:PyData} {u:Value},dat (.obj n)=some d->RelV (.ref a) u->∃ bs,Reads s.heap u d bs:=by
  intro a n d u e; simp only [dat] at e; cases e
 have ad:∀ (a:Addr) {d:PyData} {u:Value},dat (.adr a)=some d->RelV (.ref a) u->∃ bs,Reads s.heap u d bs:=by
  intro a d u e; simp only [dat] at e; cases e
 exact ⟨fun h=>Rep.rec (motive_1:=fun v t _=>∀ {d:PyData} {u:Value},dat t=some d->RelV v u->∃ bs,Reads s.heap u d bs) (motive_2:=fun vs ts _=>∀ {ds:List PyData} {us:List Value},Ku ts=some ds->Vals vs us->∃ bs,ReadsAll s.heap us ds bs) (motive_3:=fun _ _ _=>True) no bo it st tp ls (fun _ _ _=>di) (fun _=>ob) ad nl cn trivial (fun _ _ _ _=>trivial) h,
  fun h=>qg.rec (motive_1:=fun v t _=>∀ {d:PyData} {u:Value},dat t=some d->RelV v u->∃ bs,Reads s.heap u d bs) (motive_2:=fun vs ts _=>∀ {ds:List PyData} {us:List Value},Ku ts=some ds->Vals vs us->∃ bs,ReadsAll s.heap us ds bs) (motive_3:=fun _ _ _=>True) no bo it st tp ls (fun _ _ _=>di) (fun _=>ob) ad nl cn trivial (fun _ _ _ _=>trivial) h⟩
theorem Rep.reads (I:L2.Inv X pins σ H s) (sub:Same S H) {v:V} {t:T} (h:Rep X.K S as v t) {d:PyData} {u:Value} (e:dat t=some d) (r:RelV v u):∃ bs,Reads s.heap u d bs:=(Wh I sub).1 h e r
theorem a1n (I:L2.Inv X pins σ H s) (sub:Same S H) {x y:V} {t u:T} {v w:Value} {b:Bool} {A:Around} (hx:Rep X.K S as x t) (hy:Rep X.K S as y u) (rx:RelV x v) (ry:RelV y w) (e:eqD t u=some b) (hu:A.units+40<cLine):SeqAt.EqAt A s v w b:=by
 obtain ⟨dx,dy,e1,e2,hd,rfl⟩:=Nm e;obtain ⟨b1,x1⟩:=hx.reads I sub e1 rx;obtain ⟨b2,x2⟩:=hy.reads I sub e2 ry;exact SeqAt.eqAt_reads dx dy A s v w b1 b2 x1 x2 (Cq _ e1) (Cq _ e2) (by have:=Nat.min_le_left dx.depth dy.depth; omega)
theorem Wy (I:L2.Inv X pins σ H s) (sub:Same S H) {A:Around} (hu:A.units+40<cLine) {kb:List (L2.Key × V)} {ub:List (L2.Key × T)} {wb:List (L2.Key × Value)} (rb:Gb X.K S as kb ub) (vb:KV kb wb) :
  ∀ {ka:List (L2.Key × V)} {ua:List (L2.Key × T)} {wa:List (L2.Key × Value)} {r:Bool},Gb X.K S as ka ua->KV ka wa->a5q ua ub=some r->PySem.W.KeqHits A s wb wa r
 | _,[],_,_,h0,va,e=>by
  cases h0;simp only [a5q] at e; cases e;cases va;exact .nil
 | _,(k,_)::_,_,_,h0,va,e=>by
  cases h0 with | cons h q=>?_
  simp only [a5q] at e;cases va with
  | @cons _ p2 _ _ hp hr =>
   obtain ⟨pk,pv⟩:=p2;obtain ⟨ek,rv⟩:=hp;dsimp only at ek rv;subst ek;rcases rb.get k with ⟨z,t',a1,a2,a3⟩ | ⟨a1,a2⟩
   ·rw [a2] at e;dsimp only at e;have rel:=KV.val vb k;rw [a1] at rel;obtain ⟨w',hw,rw'⟩:=Kw.some_of rel;split at e
    ·rename_i eb he;obtain ⟨b',e1,e2⟩:=Option.map_eq_some_iff.mp e;subst e2;exact .hit hw (a1n I sub h a3 rv rw' he hu) (Wy I sub hu rb vb q hr e1)
    ·cases e
   ·rw [a2] at e;cases e;have rel:=KV.val vb k;rw [a1] at rel;exact .miss (Kw.none_of rel)
end
section
variable {X:Cx}
theorem Lw {op:CmpOp} {neg:Bool} (b8:(op=.Eq/\neg=false)\/(op=.NotEq/\neg=true)) {g:T->T->Option T} (hg:∀ t u w,g t u=some w->∃ b,eqT t u=some b/\w=.bl (xor neg b)) (hu:X.A.units+64<cLine):OpT X (compareOp op) g:=by
 intro pins s σ H x y v u Q I rx ry z8;obtain ⟨S,as,t,t2,w,sub,ht,hu2,hf,q⟩:=z8;obtain ⟨b,e,rfl⟩:=hg _ _ _ hf;have fin:EP X pins σ Q (.bool (xor neg b)) s:=⟨.bl (xor neg b),H,I,rfl,q _ H S (Ext.refl sub) (.bl _)⟩;rcases a4j e with ⟨xs,ys,rfl,rfl,hd⟩ | he
 ·cases ht with
  | @dic a aw _ g1 g2 =>
   cases hu2 with
   | @dic a' kvs' _ k1 k2 =>
    cases rx;cases ry;obtain ⟨z,hs,vs,rel,dd⟩:=Pu I.hok (yj sub g1);obtain ⟨z',bE,vs',rel',dd'⟩:=Pu I.hok (yj sub k1);have l1:vs.length=xs.length:=by rw [<- rel.length]; exact g2.length
    have l2:vs'.length=ys.length:=by rw [<- rel'.length]; exact k2.length
    have dv:X.A.in1.units+40<cLine:=by show X.A.units+1+40<cLine; omega
    rcases hd with ⟨hl,eb⟩ | ⟨hl,rfl⟩
    ·have hits:vs.length=vs'.length->PySem.W.KeqHits X.A.in1 s vs' vs b:=fun _=>Wy I sub dv k2 rel' g2 rel eb;have el:(vs.length==vs'.length)=true:=by rw [l1,l2,hl]; exact beq_self_eq_true _
     rcases b8 with ⟨rfl,rfl⟩ | ⟨rfl,rfl⟩
     ·refine PySem.W.keq_eq hs bE dd dd' (by omega) hits ?_;rw [el]; simpa using fin
     ·refine PySem.W.keq_ne hs bE dd dd' (by omega) hits ?_;rw [el]; simpa using fin
    ·have hits:vs.length=vs'.length->PySem.W.KeqHits X.A.in1 s vs' vs true:=fun h=>absurd (by rw [<- l1,<- l2]; exact h) hl;have el:(vs.length==vs'.length)=false:=by rw [l1,l2]; exact beq_eq_false_iff_ne.mpr hl
     rcases b8 with ⟨rfl,rfl⟩ | ⟨rfl,rfl⟩
     ·refine PySem.W.keq_eq hs bE dd dd' (by omega) hits ?_;rw [el]; simpa using fin
     ·refine PySem.W.keq_ne hs bE dd dd' (by omega) hits ?_;rw [el]; simpa using fin
 ·obtain ⟨dx,dy,e1,e2,hd,rfl⟩:=Nm he;obtain ⟨b1,x1⟩:=ht.reads I sub e1 rx;obtain ⟨b2,x2⟩:=hu2.reads I sub e2 ry;have hm:X.A.units+min dx.depth dy.depth<cLine:=by have:=Nat.min_le_left dx.depth dy.depth; omega
  rcases b8 with ⟨rfl,rfl⟩ | ⟨rfl,rfl⟩
  ·exact SeqAt.compareEq_reads x1 x2 (Cq _ e1) (Cq _ e2) hm (by simpa using fin)
  ·exact SeqAt.compareNe_reads x1 x2 (Cq _ e1) (Cq _ e2) hm (by simpa using fin)
theorem jg (hu:X.A.units+64<cLine):OpT X (compareOp .Eq) eqO:=Lw (.inl ⟨rfl,rfl⟩) (fun t u w h=>by
 unfold eqO at h;split at h
 ·rename_i b e; cases h; exact ⟨b,e,by simp⟩
 ·cases h) hu
theorem Qa (hu:X.A.units+64<cLine):OpT X (compareOp .NotEq) neO:=Lw (.inr ⟨rfl,rfl⟩) (fun t u w h=>by
 unfold neO at h;split at h
 ·rename_i b e; cases h; exact ⟨b,e,by simp⟩
 ·cases h) hu
open Classical in
noncomputable def a1u (h:Heap) (dx:PyData) (y:Value):Bool:=if e:∃ d bs,Reads h y d bs/\d.canLay0=true then PyData.eqv (Classical.choose e) dx else false
theorem a1y {h:Heap} {dx d:PyData} {y:Value} {bs:List Addr} (r:Reads h y d bs) (l:d.canLay0=true):a1u h dx y=PyData.eqv d dx:=by
 have e:∃ d bs,Reads h y d bs/\d.canLay0=true:=⟨d,bs,r,l⟩;unfold a1u;rw [dif_pos e];obtain ⟨bs',r',l'⟩:=Classical.choose_spec e;rw [SeqAt.Reads.unique _ _ _ _ _ l' r' r]
theorem Vq {pins:List (Addr × Obj)} {σ:L2.St} {H S:Hp} {s:Shared} {as:List Addr} {A:Around} (I:L2.Inv X pins σ H s) (sub:Same S H) (hu:A.units+40<cLine) {x:V} {t:T} {v:Value} {dx:PyData} (hx:Rep X.K S as x t) (rx:RelV x v) (ex:dat t=some dx) :
  ∀ {vs:List V} {ts:List T} {us:List Value} {b:Bool},qg X.K S as vs ts->Vals vs us->inL t ts=some b->(∀ y∈us,SeqAt.EqAt A s y v (a1u s.heap dx y))/\us.any (a1u s.heap dx)=b
 | _,[],_,_,h0,r,e=>by cases h0; simp only [inL] at e; cases e; cases r; exact ⟨fun y h=>(nomatch h),rfl⟩
 | _,_::_,_,_,h0,r,e=>by
  cases h0 with | cons h q=>?_
  simp only [inL] at e;cases r with
  | @cons _ u1 _ us1 r1 r2 =>
   split at e
   ·rename_i eb he;obtain ⟨b',e1,e2⟩:=Option.map_eq_some_iff.mp e;subst e2;obtain ⟨i1,i2⟩:=Vq I sub hu hx rx ex q r2 e1;obtain ⟨dy,dx',f1,f2,hd,rfl⟩:=Nm he;rw [ex] at f2; cases f2;obtain ⟨b1,x1⟩:=h.reads I sub f1 r1;have hb:=a1y (dx:=dx) x1 (Cq _ f1);refine ⟨fun y hy=>?_,by rw [List.any_cons,i2,hb]⟩;rcases List.mem_cons.mp hy with rfl | hy
    ·rw [hb]; exact a1n I sub h hx r1 rx he hu
    ·exact i1 y hy
   ·cases e
theorem a3k {t u w:T} (h:inT t u=some w):(∃ ys b,(u=.tup ys\/u=.lst ys)/\inL t ys=some b/\(dat t).isSome=true/\w=.bl b)\/(∃ aw q,u=.dic aw/\keyOf t=some q/\w=.bl (Y6 q aw).isSome):=by
 unfold inT at h;split at h
 ·obtain ⟨q,e1,e2⟩:=Option.map_eq_some_iff.mp h;exact .inr ⟨_,q,rfl,e1,e2.symm⟩
 ·split at h
  ·rename_i hd;split at h
   ·obtain ⟨b,e1,e2⟩:=Option.map_eq_some_iff.mp h; exact .inl ⟨_,b,.inl rfl,e1,hd,e2.symm⟩
   ·obtain ⟨b,e1,e2⟩:=Option.map_eq_some_iff.mp h; exact .inl ⟨_,b,.inr rfl,e1,hd,e2.symm⟩
   ·cases h
  ·cases h
theorem Vj {op:CmpOp} {neg:Bool} (b8:(op=.In/\neg=false)\/(op=.NotIn/\neg=true)) {g:T->T->Option T} (hg:∀ t u w,g t u=some w->∃ w',inT t u=some w'/\∃ b,w'=.bl b/\w=.bl (xor neg b)) (hu:X.A.units+64<cLine):OpT X (compareOp op) g:=by
 intro pins s σ H x y v u Q I rx ry z8;obtain ⟨S,as,t,t2,w,sub,ht,hu2,hf,q⟩:=z8;obtain ⟨w',ei,b0,rfl,rfl⟩:=hg _ _ _ hf;rcases a3k ei with ⟨ys,b,hy,e,hdt,eb⟩ | ⟨aw,qk,rfl,ek,eb⟩
 ·cases eb;obtain ⟨dx,ex⟩:=Option.isSome_iff_exists.mp hdt;have fin:EP X pins σ Q (.bool (xor neg b0)) s:=⟨.bl (xor neg b0),H,I,rfl,q _ H S (Ext.refl sub) (.bl _)⟩;have dv:X.A.in1.units+40<cLine:=by show X.A.units+1+40<cLine; omega
  rcases hy with rfl | rfl
  ·cases hu2 with
   | @tup a vs _ g1 g2 =>
    cases ry;obtain ⟨af,r,p,hz⟩:=I.tuple (qd sub g1);obtain ⟨i1,i2⟩:=Vq I sub dv ht rx ex g2 r e;have he:∀ y,y∈af.toArray->SeqAt.EqAt X.A.in1 s y v (a1u s.heap dx y):=fun y hy=>i1 y (by simpa using hy);have ha:af.toArray.any (a1u s.heap dx)=b0:=by rw [<- i2]; simp
    rcases b8 with ⟨rfl,rfl⟩ | ⟨rfl,rfl⟩
    ·exact SeqAt.in_tupleAt _ (show s.heap.IsTuple a af.toArray from p) he (by rw [ha]; simpa using fin)
    ·exact SeqAt.notIn_tupleAt _ (show s.heap.IsTuple a af.toArray from p) he (by rw [ha]; simpa using fin)
  ·cases hu2 with
   | @lst a vs _ g1 g2 =>
    cases ry;obtain ⟨af,r,p,hz⟩:=I.list (lg sub g1);obtain ⟨i1,i2⟩:=Vq I sub dv ht rx ex g2 r e;have he:∀ y,y∈af.toArray->SeqAt.EqAt X.A.in1 s y v (a1u s.heap dx y):=fun y hy=>i1 y (by simpa using hy);have ha:af.toArray.any (a1u s.heap dx)=b0:=by rw [<- i2]; simp
    rcases b8 with ⟨rfl,rfl⟩ | ⟨rfl,rfl⟩
    ·exact SeqAt.in_listAt _ p.isList he (by rw [ha]; simpa using fin)
    ·exact SeqAt.notIn_listAt _ p.isList he (by rw [ha]; simpa using fin)
 ·cases eb;cases hu2 with
  | @dic a kv _ g1 g2 =>
   cases ry;have ey:=a5y ht ek;subst ey
   have hs:(Y6 qk aw).isSome=(Qw kv qk).isSome:=by
    rcases g2.get qk with ⟨z,t',a1,a2,_⟩ | ⟨a1,a2⟩
    ·simp [a1,a2]
    ·simp [a1,a2]
   rw [hs] at q;have gd:a5p H a (kV qk) (Qw kv qk):=.inl ⟨kv,qk,yj sub g1,rfl,rfl⟩;rcases b8 with ⟨rfl,rfl⟩ | ⟨rfl,rfl⟩
   ·exact abm (by omega) I gd rx fun s' I'=>⟨.bl _,H,I',rfl,by simpa using q _ H S (Ext.refl sub) (.bl _)⟩
   ·exact a4s (by omega) I gd rx fun s' I'=>⟨.bl _,H,I',rfl,by simpa using q _ H S (Ext.refl sub) (.bl _)⟩
theorem Vp (hu:X.A.units+64<cLine):OpT X (compareOp .NotIn) Ky:=Vj (.inr ⟨rfl,rfl⟩) (fun t u w h=>by
 unfold Ky at h;split at h
 ·rename_i b e;cases h;exact ⟨_,e,b,rfl,by simp⟩
 ·cases h) hu
end
section
variable {X:Cx} {B:Bas} {a b c e:Expr} {m m1 m2:M T} {pos p:Pos} {u v:S} {es:List Expr} {ms:M (List T)} {k n:Nat} {f:Addr} {fd:FuncData} {pn:List Str} {F:Fn} {x:Str}
end
section
variable {X:Cx} {B:Bas} {a b c e:Expr} {m m1 m2:M T} {pos p:Pos} {es:List Expr} {ms:M (List T)} {n:Nat} {pn:List Str} {F:Fn} {x:Str}
end
section
variable {P:Program} {w:World} {K:PySem.W.Frag} {mg:Str->Option Value} {base:Heap}
end
section
variable {X:Cx} {B:Bas} {a b c e:Expr} {m m1 m2:M T} {pos p p2 fU:Pos}
end
end C
namespace C
open PySem PySem.Spec PyProof.Rows L2
section
variable {X:Cx} {B:Bas} {a b c e lo hi:Expr} {m m1 m2 ml mh:M T} {pos p p2:Pos}
end
theorem Tt {o k:M T} {s s':Sta} {t:T} (h:nj o k s=some (t,s')):∃ n s1 i xs j,o s=some (.obj n,s1)/\k s1=some (.int i,s')/\s'.sto[n]? = some (.lst xs)/\ixI xs.length i=some j/\xs[j]? = some t:=by
 unfold nj at h;split at h
 ·rename_i n s1 e1;split at h
  ·rename_i i s2 e2;split at h
   ·rename_i xs e3;split at h
    ·rename_i t' e4;cases h;obtain ⟨j,e5,e6⟩:=Option.bind_eq_some_iff.mp e4;exact ⟨n,s1,i,xs,j,e1,e2,e3,e5,e6⟩
    ·cases h
   ·cases h
  ·cases h
 ·cases h
theorem Ow {o:M T} {s s':Sta} {t:T} (h:Dw o s=some (t,s')):∃ n xs,o s=some (.obj n,s')/\s'.sto[n]? = some (.lst xs)/\t=.int xs.length:=by
 unfold Dw at h;split at h
 ·rename_i n s1 e1;split at h
  ·rename_i xs e3; cases h; exact ⟨n,xs,e1,e3,rfl⟩
  ·cases h
 ·cases h
theorem Ph {a:M (List T)} {s s':Sta} {t:T} (h:uh a s=some (t,s')):∃ ts s1,a s=some (ts,s1)/\t=.obj s1.sto.length/\s' = { s1 with sto:=s1.sto++[.lst ts] }:=by
 unfold uh at h;split at h
 ·rename_i ts s1 e1; cases h; exact ⟨ts,s1,e1,rfl,rfl⟩
 ·cases h
theorem Tn {o k v:M T} {s s':Sta} {fl:Flow} (h:Hg o k v s=some (fl,s')) :
  ∃ t s1 n s2 i s3 xs j,v s=some (t,s1)/\o s1=some (.obj n,s2)/\k s2=some (.int i,s3)/\s3.sto[n]? = some (.lst xs)/\ixI xs.length i=some j/\fl=.next/\s' = { s3 with sto:=s3.sto.set n (.lst (xs.set j t)) }:=by
 unfold Hg at h;split at h
 ·rename_i t s1 e;split at h
  ·rename_i n s2 eo;split at h
   ·rename_i i s3 ek;split at h
    ·rename_i xs ex;split at h
     ·rename_i j ej; cases h; exact ⟨t,s1,n,s2,i,s3,xs,j,e,eo,ek,ex,ej,rfl,rfl⟩
     ·cases h
    ·cases h
   ·cases h
  ·cases h
 ·cases h
theorem Oi {i:Nat} {v:M T} {s s':Sta} {fl:Flow} (h:Dv i v s=some (fl,s')) :
  ∃ n ys t s1 xs,s.env[i]? = some (some (.obj n,false))/\s.sto[n]? = some (.lst ys)/\v s=some (t,s1)/\s1.sto[n]? = some (.lst xs)/\xs.length<lim/\fl=.next/\s' = { s1 with sto:=s1.sto.set n (.lst (xs++[t])) }:=by
 unfold Dv at h;split at h
 ·rename_i n e;split at h
  ·rename_i ys ey;split at h
   ·rename_i t s1 fN;split at h
    ·rename_i xs ex;split at h
     ·rename_i hl; cases h; exact ⟨n,ys,t,s1,xs,e,ey,fN,ex,hl,rfl,rfl⟩
     ·cases h
    ·cases h
   ·cases h
  ·cases h
 ·cases h
theorem qg.set {K:PySem.W.Frag} {S:Hp} {as:List Addr} {v:V} {t:T} (h:Rep K S as v t):∀ {vs:List V} {ts:List T} (j:Nat),qg K S as vs ts->qg K S as (vs.set j v) (ts.set j t)
 | _,_,_,.nil=>.nil
 | _,_,0,.cons _ r=>.cons h r
 | _,_,j+1,.cons q r=>.cons q (qg.set h j r)
section
variable {X:Cx} {B:Bas} {a b c e o k:Expr} {m mo mk mv:M T} {pos p:Pos}
theorem Ba (ho:PE X o (tOf X.K B mo)) (hk:PE X k (tOf X.K B mk)) (hs:K7 k):PE X (.Subscript o k pos) (tOf X.K B (nj mo mk)):=(a3r Oa ho hk hs).imp fun σ H Q z9=>by
 obtain ⟨st,ps,S,as,R,t,aa,e,q⟩:=z9;obtain ⟨n,s1,i,xs,j,e1,e2,e3,e4,e5⟩:=Tt e;refine ⟨st,ps,S,as,R,_,s1,e1,fun v H1 S1 ag R1=>⟨s1,_,S1,ag,R1,_,aa,e2,fun u H2 S2 aD R2=>?_⟩⟩;have t2:=R2.top2;cases R2.top;cases t2 with
 | @obj _ a ha =>
  obtain ⟨a',h1,h2,vs,h3,h4⟩:=R2.sto.at' n _ e3;rw [ha] at h1; cases h1;obtain ⟨z,hz,rz⟩:=h4.get e5;refine ⟨a,vs,i,z,rfl,rfl,SqL.of h3,?_,q z H2 S2 aD (R2.drop.drop.push rz)⟩;rw [J7,<- h4.length] at e4;unfold atI; rw [e4]; exact hz
theorem Wn (hg:Gl X "len") (hm:X.mg "len" = none) (ho:PE X o (tOf X.K B mo)) (he:starEach [o] X.env=(false,eval o X.env)::starEach [] X.env:=by rfl) (aI:(backTo pos (starEach [] X.env)).any (·.1)=false:=by rfl) :
  PE X (.Call (.Name "len" p) [o] [] pos) (tOf X.K B (Dw mo)):=(j6 zx hg hm PySem.boot_len (nu ho v9 he) (by decide) (by decide) he aI).imp fun σ H Q z9=>by
 obtain ⟨st,ps,S,as,R,t,aa,e,q⟩:=z9;obtain ⟨n,xs,e1,e2,rfl⟩:=Ow e;refine ⟨st,ps,S,as,R,_,aa,e1,fun v H1 S1 ag R1=>?_⟩;have t1:=R1.top;cases t1 with
 | @obj _ a ha =>
  obtain ⟨a',h1,h2,vs,h3,h4⟩:=R1.sto.at' n _ e2;rw [ha] at h1; cases h1;exact ⟨a,vs,rfl,.inl (SqL.of h3),by rw [h4.length]; exact q _ H1 S1 ag (R1.drop.push (.int _))⟩
theorem Eu {es:List Expr} {ms:M (List T)} (h:PA X es (aOf X.K B ms)) (hm:∀ st ts aa,ms st=some (ts,aa)->ts.length<=1000):PE X (.List es pos) (tOf X.K B (uh ms)) :=
 (Xf h).imp fun σ H Q z9=>by
  obtain ⟨st,ps,S,as,R,t,aa,e,q⟩:=z9;obtain ⟨ts,s1,e1,rfl,rfl⟩:=Ph e;refine ⟨st,ps,S,as,R,ts,s1,e1,fun vs H1 S1 ag R1 rs=>⟨?_,fun p hp=>?_⟩⟩
  ·rw [rs.length]; exact Nat.le_of_lt (Ck (hm _ _ _ e1))
  ·exact q _ _ _ _ (R1.newObj hp ⟨vs,dj,rs.mono (Same.refl _) ⟨[p],rfl⟩⟩)
theorem Qh {st:Stmt} (h:PS X st (a6d (tOf X.K B mv) (aah (tOf X.K B mo) (tOf X.K B mk) a65))):PS X st (sOf X.K B (Hg mo mk mv)):=h.imp fun D σ H z9=>by
 obtain ⟨st,ps,S,as,R,fl,aa,e,q⟩:=z9;obtain ⟨t,s1,n,s2,i,s3,xs,j,e1,e2,e3,e4,e5,rfl,rfl⟩:=Tn e;refine ⟨st,ps,S,as,R,t,s1,e1,fun v H1 S1 ag R1=>⟨s1,_,S1,ag,R1,_,s2,e2,fun x H2 S2 aD R2=>⟨s2,_,S2,aD,R2,_,s3,e3,fun y H3 S3 aO R3=>?_⟩⟩⟩;have t2:=R3.top2;cases R3.top;cases t2 with
 | @obj _ a ha =>
  obtain ⟨a',h1,h2,vs,h3,h4⟩:=R3.sto.at' n _ e4;rw [ha] at h1; cases h1;have tv:Rep X.K S3 aO v t:=R3.pend _ (List.mem_cons_of_mem _ (List.mem_cons_of_mem _ List.mem_cons_self));rw [J7,<- h4.length] at e5;exact ⟨a,vs,i,j,rfl,rfl,h3,e5,q _ _ S3 aO (R3.drop.drop.drop.Qc e4 ha ⟨_,dj,qg.set tv j h4⟩)⟩
theorem Xz (i:Nat) {st:Stmt} (h:PS X st (Wc (tBM X.K "list" Ht (Y7 i) (Sw (tOf X.K B mv) a3g)))):PS X st (sOf X.K B (Dv i mv)):=h.imp fun D σ H z9=>by
 obtain ⟨st,ps,S,as,R,fl,aa,e,q⟩:=z9;obtain ⟨n,ys,t,s1,xs,e0,ey,e1,e2,hl,rfl,rfl⟩:=Oi e;obtain ⟨w,h1,h2,_⟩:=R.slots i _ false e0;have r0:=h2 rfl;cases r0 with
 | @obj _ a ha =>
  obtain ⟨a0,l0,_,vs0,l1,_⟩:=R.sto.at' n _ ey;rw [ha] at l0; cases l0;refine ⟨_,h1,.inl ⟨rfl,_,SqL.of l1⟩,st,(.ref a,.obj n)::ps,S,as,R.push (h2 rfl),t,s1,e1,fun v H1 S1 ag R1=>?_⟩;have t2:=R1.top2;cases t2 with
  | @obj _ a2 ha2 =>
   obtain ⟨a',k1,k2,vs,k3,k4⟩:=R1.sto.at' n _ e2;rw [ha2] at k1; cases k1;exact ⟨a,vs,v,rfl,rfl,k3,by rw [k4.length]; exact Nat.lt_of_lt_of_le hl jo,q _ _ S1 ag (R1.drop.drop.Qc e2 ha2 ⟨_,dj,k4.append (.cons R1.top .nil)⟩)⟩
end
section
variable {X:Cx} {B:Bas} {pins:List (Addr × Obj)} {σ:L2.St} {H S:Hp} {s:Shared} {as:List Addr} {Q:VK}
theorem Gb.keys {K:PySem.W.Frag} {S:Hp} {as:List Addr}:∀ {aw:List (L2.Key × V)} {ts:List (L2.Key × T)},Gb K S as aw ts->aw.map (·.1)=ts.map (·.1)
 | _,_,.nil=>rfl
 | _,_,.cons h q=>by rw [List.map_cons,List.map_cons,Gb.keys q]
end
section
variable {prog:Program} {w:World} {A:Around} {E:Value->Shared->Prop} {s:Shared}
end
section
variable {prog:Program} {w:World} {A:Around} {R:Result->Shared->Prop} {I:Addr} {fp wr:List Addr} {G:Array GenState->Array GenState->Prop} {n:Nat} {P:Nat->Value->Prop} {St:Nat->Shared->Prop} {κ:Type} [DecidableEq κ] {knd:PySem.KeyKind prog w κ}
end
section
variable {prog:Program} {w:World} {A:Around} {E:Value->Shared->Prop} {s:Shared} {κ:Type} [DecidableEq κ] {knd:PySem.KeyKind prog w κ}
end
section
variable {X:Cx} {pins:List (Addr × Obj)} {σ:L2.St} {H S:Hp} {s:Shared} {as:List Addr}
inductive Ir (h:Heap) (prog:Program) (w:World):List Value->List L2.Key->List Value->Prop where
 | nil:Ir h prog w [] [] []
 | cons {t:Addr} {kx wv:Value} {o:Obj} {n:Nat} {q:L2.Key} {us:List Value} {qs:List L2.Key} {ws:List Value}:h.get? t=some o->o.cls=.type "tuple" -> o.data=.seq #[kx,wv] n->(yq prog w).is q kx=true ->
   Ir h prog w us qs ws->Ir h prog w (.ref t::us) (q::qs) (wv::ws)
theorem Ir.len {h:Heap} {prog:Program} {w:World}:∀ {us:List Value} {qs:List L2.Key} {ws:List Value},Ir h prog w us qs ws->us.length=qs.length/\us.length=ws.length:=by
 intro us qs ws h
 induction h with
 | nil=>exact ⟨rfl,rfl⟩
 | cons _ _ _ _ _ ih=>exact ⟨congrArg (· + 1) ih.1,congrArg (· + 1) ih.2⟩
end
section
variable {X:Cx} {B:Bas} {a:Expr} {m:M T} {pos p:Pos}
end
theorem yc.zero {P:Program} {w:World} {K:PySem.W.Frag} {mg:Str->Option Value} {base:Heap} {x qual:Str} {st:Stmt} {f:Addr} {fd:FuncData} {ps:List Str} {k:Nat} (F:Fun K x qual st f fd) (h:mg x=some (.ref f)) (b:Binds K fd ps []):yc P w K mg base x k ps (fun _ _=>none):=by
 have no:∀ vs H Q E,¬ spF K ps.length (fun _ _=>none) vs H Q E:=fun vs H Q E z=>by
  obtain ⟨S,as,sto,ts,t,ae,_,_,_,_,e,_⟩:=z;cases e
 exact ⟨f,fd,⟨fun vs H Q E z=>absurd z (no vs H Q E),fun A outer s H args us vs Q E _ _ _ _ z=>absurd z (no vs H Q E)⟩,b,F.kp,h⟩
end C
end
section
namespace C
open PySem
noncomputable def u9:Nat->M Bool->S->S
 | 0,_,_=>fun _=>none
 | n+1,c,b=>fun s=>match c s with
  | some (false,s1)=>some (.next,s1)
  | some (true,s1)=>match b s1 with
   | some (.next,s2)=>u9 n c b s2
   | some (.cont,s2)=>u9 n c b s2
   | some (.brk,s2)=>some (.next,s2)
   | some (.ret v,s2)=>some (.ret v,s2)
   | none=>none
  | none=>none
end C
end
section
namespace C
open PySem PySem.Spec PyProof.Rows L2
theorem Uc {n:Nat} {c:M Bool} {b:S} {s s':Sta} {fl:Flow} (h:u9 (n+1) c b s=some (fl,s')):(∃ s1,c s=some (false,s1)/\fl=.next/\s'=s1) \/
  ∃ s1 fb s2,c s=some (true,s1)/\b s1=some (fb,s2)/\(match fb with | .next=>u9 n c b s2=some (fl,s') | .cont=>u9 n c b s2=some (fl,s') | .brk=>fl=.next/\s'=s2 | .ret v=>fl=.ret v/\s'=s2):=by
 rw [u9] at h;dsimp only at h;split at h
 ·rename_i s1 e1; cases h; exact .inl ⟨_,e1,rfl,rfl⟩
 ·rename_i s1 e1;split at h
  ·rename_i s2 e2; exact .inr ⟨s1,.next,s2,e1,e2,h⟩
  ·rename_i s2 e2; exact .inr ⟨s1,.cont,s2,e1,e2,h⟩
  ·rename_i s2 e2; cases h; exact .inr ⟨s1,.brk,_,e1,e2,rfl,rfl⟩
  ·rename_i v s2 e2; cases h; exact .inr ⟨s1,.ret v,_,e1,e2,rfl,rfl⟩
  ·cases h
 ·cases h
theorem qg.dropLast {K:PySem.W.Frag} {S:Hp} {as:List Addr}:∀ {vs:List V} {ts:List T},qg K S as vs ts->qg K S as vs.dropLast ts.dropLast
 | _,_,.nil=>.nil
 | _,_,.cons h .nil=>.nil
 | _,_,.cons h (.cons h2 r)=>.cons h (qg.dropLast (.cons h2 r))
section
variable {X:Cx} {B:Bas} {c e:Expr} {m:M T} {pos p:Pos} {u:S} {body:List Stmt}
theorem a0b (n:Nat) {mc:M Bool} (hp:PassesOwn (model X.prog X.w) X.A X.env X.xe) (hc:PT X c (cOf X.K B mc)) (hb:PSs X body (sOf X.K B u)):PS X (.While c body [] pos) (sOf X.K B (u9 n mc u)):=(Rn hp hc hb).imp fun D σ H z9=>by
 obtain ⟨st,ps,S,as,R,fl,aa,e,q⟩:=z9;refine ⟨fun k σ H=>∃ aG Si aE,Rel X.K B aG σ H ps Si aE/\u9 k mc u aG=some (fl,aa),⟨n,st,S,as,R,e⟩,?_⟩;rintro k bp H2 ⟨aG,Si,aE,Ri,ei⟩;cases k with
 | zero=>rw [u9] at ei; cases ei
 | succ k =>
  rcases Uc ei with ⟨s1,e1,rfl,rfl⟩ | ⟨s1,fb,s2,e1,e2,er⟩
  ·exact ⟨aG,ps,Si,aE,Ri,false,_,e1,fun H3 S3 aO R3=>Vk (q bp H3 S3 aO R3)⟩
  ·refine ⟨aG,ps,Si,aE,Ri,true,s1,e1,fun H3 S3 aO R3=>Wk ⟨fun ah H'=>∃ aG Si aE,Rel X.K B aG ah H' ps Si aE/\u9 k mc u aG=some (fl,aa),fun ah H' h=>⟨k,Nat.lt_succ_self _,h⟩,s1,ps,S3,aO,R3,fb,s2,e2,?_⟩⟩;cases fb with
   | next=>exact fun ah H' S' ai R'=>⟨s2,S',ai,R',er⟩
   | cont=>exact fun ah H' S' ai R'=>⟨s2,S',ai,R',er⟩
   | brk =>
    obtain ⟨rfl,rfl⟩:=er;exact fun ah H' S' ai R'=>q ah H' S' ai R'
   | ret v =>
    obtain ⟨rfl,rfl⟩:=er;exact fun v ah H' S' ai R'=>q v ah H' S' ai R'
end
section
variable {X:Cx} {B:Bas} {e st:Expr} {te:TE} {m:M T} {pos p2 p3 p4:Pos} {j:Nat}
end
end C
end
section
namespace C
open PySem
noncomputable def sIx (n d:Nat):Option Int->Nat
 | none=>d
 | some v=>if v<0 then (v+(n:Int)).toNat else min v.toNat n
noncomputable def a0j (xs:List T) (lo hi:Option Int):List T:=(xs.drop (sIx xs.length 0 lo)).take (sIx xs.length xs.length hi - sIx xs.length 0 lo)
def a2o (lo hi:Option Int):T->Option T
 | .lst xs=>some (.lst (a0j xs lo hi))
 | _=>none
def m6:M (Option Int):=fun s=>some (none,s)
noncomputable def oh (e:M T):M (Option Int):=fun s=>match e s with
 | some (.int i,s1)=>some (some i,s1)
 | _=>none
noncomputable def ni (m:M T) (lo hi:M (Option Int)):M T:=fun s=>match m s with
 | some (t,s1)=>match lo s1 with
  | some (l,s2)=>match hi s2 with
   | some (h,s3)=>match a2o l h t with
    | some u=>some (u,s3)
    | none=>none
   | none=>none
  | none=>none
 | none=>none
noncomputable def vo (i:Nat) (k:M T):M T:=fun s=>if Aj i s then (match k s with
 | some (.int j,s1)=>match s1.env[i]? with
  | some (some (.lst xs,_))=>match (ixI xs.length j).bind (xs[·]?) with
   | some t=>some (t,s1)
   | none=>none
  | _=>none
 | _=>none) else none
end C
end
section
namespace C
open PySem PySem.Spec PyProof.Rows L2
section
variable {X:Cx} {B:Bas} {a b:Expr} {m m1 m2:M T} {pos p:Pos} {elts:List Expr} {x1:Nat} {aM:Pos}
end
section
variable {X:Cx}
variable {B:Bas} {o e:Expr} {m1 m2:M T} {apos ay:Pos}
end
theorem a0r (n d:Nat) (o:Option Int):sIx n d o=HT.sIx n d o:=by cases o <;> rfl
inductive oOf (K:PySem.W.Frag) (B:Bas) (m:M (Option Int)) (σ:L2.St) (H:Hp) (Q:Option Int->Hp->Prop):Prop
 | mk (st:Sta) (ps:List (V × T)) (S:Hp) (as:List Addr) (R:Rel K B st σ H ps S as) (o:Option Int) (aa:Sta) (e:m st=some (o,aa)) (q:∀ H' S' ai,Rel K B aa σ H' ps S' ai->Q o H')
section
variable {X:Cx} {B:Bas} {a e:Expr} {m:M T} {ml mh:M (Option Int)} {lo hi:Option Expr} {pos p2:Pos}
theorem wu:PO X none (oOf X.K B m6):=fun pins s σ H Q I ⟨st,ps,S,as,R,o,aa,e,q⟩=>a3p pins s σ H Q I (by cases e; exact q H S as R)
theorem wj (h:PE X e (tOf X.K B m)):PO X (some e) (oOf X.K B (oh m)):=fun pins s σ H Q I z9=>a4d h pins s σ H Q I (by
 obtain ⟨st,ps,S,as,R,o,aa,eo,q⟩:=z9;unfold oh at eo;split at eo
 ·rename_i i s1 e1;cases eo;refine ⟨st,ps,S,as,R,.int i,_,e1,fun v H1 S1 ag R1=>?_⟩;cases R1.top;exact ⟨i,rfl,q H1 S1 ag R1.drop⟩
 ·cases eo)
theorem U5 {s s':Sta} {v:T} (h:ni m ml mh s=some (v,s')):∃ t s1 l s2 u,m s=some (t,s1)/\ml s1=some (l,s2)/\mh s2=some (u,s')/\a2o l u t=some v:=by
 unfold ni at h;split at h
 ·rename_i t s1 e1;split at h
  ·rename_i l s2 e2;split at h
   ·rename_i u s3 e3;split at h
    ·rename_i w e4; cases h; exact ⟨t,s1,l,s2,u,e1,e2,e3,e4⟩
    ·cases h
   ·cases h
  ·cases h
 ·cases h
theorem qg.takes {K:PySem.W.Frag} {S:Hp} {as:List Addr}:∀ (n:Nat) {vs:List V} {ts:List T},qg K S as vs ts->qg K S as (vs.take n) (ts.take n)
 | 0,_,_,_=>.nil
 | _+1,_,_,.nil=>.nil
 | n+1,_,_,.cons h r=>.cons h (qg.takes n r)
theorem Z6 {K:PySem.W.Frag} {S:Hp} {as:List Addr} {vs:List V} {ts:List T} (r:qg K S as vs ts) (lo hi:Option Int):qg K S as (a2v vs lo hi) (a0j ts lo hi):=by
 unfold a2v a0j;rw [a0r,a0r,r.length];exact qg.takes _ (r.drop _)
theorem Bc (ha:PE X a (tOf X.K B m)) (hl:PO X lo (oOf X.K B ml)) (hh:PO X hi (oOf X.K B mh)):PE X (.Subscript a (.Slice lo hi none p2) pos) (tOf X.K B (ni m ml mh)) :=
 (Qt a2m ha hl hh).imp fun σ H Q z9=>by
  obtain ⟨st,ps,S,as,R,t,aa,e,q⟩:=z9;obtain ⟨t1,s1,l,s2,u,e1,e2,e3,e4⟩:=U5 e;refine ⟨st,ps,S,as,R,t1,s1,e1,fun v H1 S1 ag R1=>⟨s1,_,S1,ag,R1,l,s2,e2,fun H2 S2 aD R2=>⟨s2,_,S2,aD,R2,u,aa,e3,fun H3 S3 aO R3=>?_⟩⟩⟩;have top:=R3.top;cases top with
  | @lst b vs ts g1 g2 =>
   simp only [a2o] at e4; cases e4;refine ⟨b,vs,rfl,lg R3.sub g1,fun p hp=>?_⟩;have x:=Ext.laid R3.sub hp (.lst (a2v vs l u));exact q _ _ _ _ ((R3.drop.ext x).push (.lst (SqL.of dj) ((Z6 g2 l u).mono x.s nol)))
  | _=>exact jm e4
end
section
variable {prog:Program} {w:World} {A:Around} {E:Value->Shared->Prop} {s:Shared}
end
section
variable {X:Cx} {B:Bas} {e:Expr} {te:TE} {m m1 m2:M T} {pos p p2 p3 p4:Pos} {j:Nat}
theorem Gj {x:Str} {i:Int} (hg:Gl X x) (h:∃ tk,X.mg x=some (.int i tk)) (hd:(x==("__debug__" : Str))=false:=by decide):PE X (.Name x pos) (tOf X.K B (ak (.int i))):=by
 obtain ⟨tk,h⟩:=h;exact Cz (v:=.int i) (Bp hg h (show RelV (.int i) _ from ⟨tk,rfl⟩) hd) fun _ _=>.int i
theorem Tv {i:Nat} {k:M T} {s s':Sta} {t:T} (h:vo i k s=some (t,s')):Aj i s=true/\∃ j xs f n,k s=some (.int j,s')/\s'.env[i]? = some (some (.lst xs,f))/\ixI xs.length j=some n/\xs[n]? = some t:=by
 unfold vo at h;split at h
 ·rename_i hd;refine ⟨hd,?_⟩;split at h
  ·rename_i j s1 e1;split at h
   ·rename_i xs f e2;split at h
    ·rename_i u e3;cases h;obtain ⟨n,h1,h2⟩:=Option.bind_eq_some_iff.mp e3;exact ⟨j,xs,f,n,e1,e2,h1,h2⟩
    ·cases h
   ·cases h
  ·cases h
 ·cases h
theorem Gw (i:Nat) {o k:Expr} {mk:M T} (ho:PE X o (Y7 i)) (hk:PE X k (tOf X.K B mk)) (hs:K7 k):PE X (.Subscript o k pos) (tOf X.K B (vo i mk)):=(a3r Oa ho hk hs).imp fun σ H Q z9=>by
 obtain ⟨st,ps,S,as,R,t,aa,e,q⟩:=z9;obtain ⟨hd,j,xs,f,n,e1,e2,e3,e4⟩:=Tv e;obtain ⟨xs0,f0,e0⟩:=Fp hd;obtain ⟨p0,vs0,s0,_⟩:=R.listAt e0;refine ⟨_,s0,st,ps,S,as,R,.int j,aa,e1,fun u H2 S2 aD R2=>?_⟩;cases R2.top;obtain ⟨p1,vs1,s1,rd1,h4⟩:=R2.listAt e2;rw [s0] at s1; cases s1;obtain ⟨z,hz,rz⟩:=h4.get e4;refine ⟨p0,vs1,j,z,rfl,rfl,rd1,?_,q z H2 S2 aD (R2.drop.push rz)⟩;rw [J7,<- h4.length] at e3;unfold atI; rw [e3]; exact hz
end
end C
end
section
end
section
namespace C
open PySem PySem.Spec L2
def Held (K:PySem.W.Frag) (u:Value) (t:T):Prop:=∃ v,RelV v u/\∀ S as,Rep K S as v t
def ur (K:PySem.W.Frag) (us:List Value) (ts:List T):Prop:=∃ vs,Vals vs us/\∀ S as,qg K S as vs ts
section
variable {K:PySem.W.Frag}
theorem Held.str {x:Str} {tk:Tok}:Held K (.str x tk) (.str x):=⟨.str x,⟨tk,rfl⟩,fun _ _=>.str x⟩
theorem ur.nil:ur K [] []:=⟨[],.nil,fun _ _=>.nil⟩
theorem ur.cons {u:Value} {t:T} {us:List Value} {ts:List T} (h:Held K u t) (hs:ur K us ts):ur K (u::us) (t::ts):=by
 obtain ⟨v,r,e⟩:=h;obtain ⟨vs,rs,es⟩:=hs;exact ⟨v::vs,.cons r rs,fun S as=>.cons (e S as) (es S as)⟩
theorem Held.tup {a:Addr} {us:List Value} {n:Nat} {sl:Array (Option Value)} {ts:List T} (h:K.lookup a=some ⟨.type "tuple",none,.seq us.toArray n,sl⟩) (hz:us.length<=1000) (hs:ur K us ts):Held K (.ref a) (.tup ts):=by
 obtain ⟨vs,rs,es⟩:=hs;refine ⟨.ref a,rfl,fun S as=>.tup (.inr ⟨_,us.toArray,n,h,rfl,rfl,rfl,?_,?_⟩) (es S as)⟩
 ·rw [List.size_toArray,sizeLine_eq]; omega
 ·exact rs
end
section
variable {X:Cx} {B:Bas} {pos:Pos}
theorem Gx {x:Str} {t:T} (hg:Gl X x) (h:∃ u,X.mg x=some u/\Held X.K u t) (hd:(x==("__debug__" : Str))=false:=by decide):PE X (.Name x pos) (tOf X.K B (ak t)):=by
 obtain ⟨u,h,v,r,e⟩:=h;exact Cz (v:=v) (Bp hg h r hd) e
end
end C
end
section
namespace C
open PySem PySem.Spec PyProof.Rows
section
variable {prog:Program} {w:World} {A:Around} {E:Value->Shared->Prop} {s:Shared}
end
section
variable {prog:Program} {w:World} {A:Around} {R:Result->Shared->Prop} {I:Addr} {fp wr:List Addr} {G:Array GenState->Array GenState->Prop} {n:Nat} {P:Nat->Value->Prop} {St:Nat->Shared->Prop}
end
section
variable {prog:Program} {w:World} {A:Around} {E:Value->Shared->Prop} {s:Shared}
end
section
variable {prog:Program} {w:World} {A:Around} {E:Value->Shared->Prop} {s:Shared}
end
section
variable {prog:Program} {w:World} {A:Around} {E:Value->Shared->Prop} {s:Shared}
end
section
variable {prog:Program} {w:World} {A:Around} {E:Value->Shared->Prop} {s:Shared} {I a:Addr} {i n ep:Nat} {o:Obj} {es:Array (Int × Value)} {t:SetTable} {Q:Option Value->Shared->Prop}
end
section
variable {prog:Program} {w:World} {A:Around} {E:Value->Shared->Prop} {s:Shared} {I a q:Addr} {i n ep:Nat} {o:Obj} {es:Array (Int × Value)} {t:SetTable} {Q:Option Value->Shared->Prop} {ps:List Nat}
end
section
variable {prog:Program} {w:World} {A:Around} {E:Value->Shared->Prop} {s:Shared} {I a q:Addr} {n ep:Nat} {o:Obj} {es:Array (Int × Value)} {t:SetTable} {ps:List Nat}
end
section
variable {prog:Program} {w:World} {A:Around} {E:Value->Shared->Prop} {s:Shared} {a:Addr} {o:Obj} {l:List Str}
end
section
variable {prog:Program} {w:World} {A:Around} {E:Value->Shared->Prop} {s:Shared} {a:Addr} {o:Obj} {l:List Str}
end
end C
end
section
namespace C
open PySem PySem.Spec PyProof.Rows L2
section
variable {X:Cx} {B:Bas} {e:Expr} {m1:M T} {p1 p2 p3 p4:Pos}
end
open AutoSeq1 (wpAny_loadPart') -- here
open MeetsSeq MeetsSeq2 MeetsSeq3 -- here
section
variable {prog:Program} {w:World}
end
section
variable {X:Cx} {pins:List (Addr × Obj)} {σ:L2.St} {H S:Hp} {s:Shared} {as:List Addr}
end
end C
end
section
namespace C
open PySem PySem.Spec PyProof.Rows L2
theorem a5e {K:PySem.W.Frag} {F:Fn} {H:Hp} {a:Addr} {ns:List Int} (hS:SqL K H a (ns.map V.int)) (hE:∃ st,F [.lst (ns.map T.int)] []=some (.bl true,st)):spF K 1 F [.ref a] H (fun v _=>v=.bl true) fun _ _ _=>False:=by
 obtain ⟨st,hF⟩:=hE
 have dP:∀ (S:Hp) (l:List Int),qg K S [] (l.map V.int) (l.map T.int):=fun S l=>by
  induction l with
  | nil=>exact .nil
  | cons x l ih=>exact .cons (.int x) ih
 let S:Hp:=fun p=>if p=a then H p else none
 have sa:S a=H a:=if_pos rfl
 have sub:Same S H:=fun p u h=>by
  by_cases e:p=a
  ·subst e; rw [<- sa]; exact h
  ·have:S p=none:=if_neg e;rw [this] at h; cases h
 have sq:SqL K S a (ns.map V.int):=by
  rcases hS with h | h
  ·refine .inl ?_;unfold Rd at h ⊢;rw [sa]; exact h
  ·exact .inr h
 refine ⟨S,[],[],[.lst (ns.map T.int)],.bl true,st,sub,⟨rfl,.nil,fun n so e=>by simp at e⟩,.cons (.lst sq (dP S ns)) .nil,rfl,hF,fun v H' S' ai _ _ _ r=>?_⟩;cases r;rfl
end C
end
section
namespace C
open PySem
abbrev FnX:=List T->List SO->Option ((T ⊕ T) × List SO)
abbrev SX:=Sta->Option ((Flow ⊕ T) × Sta)
def lx (u:S):SX:=fun s=>match u s with
 | some (fl,s1)=>some (.inl fl,s1)
 | none=>none
def vq (a b:SX):SX:=fun s=>match a s with
 | some (.inl .next,s1)=>b s1
 | r=>r
noncomputable def xIf (c:M Bool) (a b:SX):SX:=fun s=>match c s with
 | some (true,s1)=>a s1
 | some (false,s1)=>b s1
 | none=>none
def Ig (m:M T):SX:=fun s=>match m s with
 | some (t,s1)=>some (.inr t,s1)
 | none=>none
noncomputable def rm (n:Nat) (b:SX):FnX:=fun ts sto=>match b ⟨ts.map (fun t=>some (t,false))++List.replicate (n - ts.length) none,sto⟩ with
 | some (.inl (.ret t),s)=>some (.inl t,s.sto)
 | some (.inl .next,s)=>some (.inl .non,s.sto)
 | some (.inr t,s)=>some (.inr t,s.sto)
 | _=>none
def norm (F:FnX):Fn:=fun ts sto=>match F ts sto with
 | some (.inl t,s)=>some (t,s)
 | _=>none
def clr (i:Nat) (s:Sta):Sta:={ s with env:=s.env.set i none }
noncomputable def mXf (c:Nat) (f:Str) (m:M T):M T:=fun s=>match m s with
 | some (.obj n,s1)=>match s1.sto[n]? with
  | some (.exc d g t)=>if d=c/\g=f then some (t,s1) else none
  | _=>none
 | _=>none
noncomputable def Gf (tb:List (Nat × Str × Bool)) (m:M T):M T:=fun s=>match m s with
 | some (.obj n,s1)=>match s1.sto[n]? with
  | some (.exc d g _)=>match tb.find? (fun p=>p.1==d&&p.2.1==g) with
   | some p=>some (.bl p.2.2,s1)
   | none=>none
  | _=>none
 | _=>none
end C
end
section
namespace My
open PySem PySem.W PySem.Calls PyProof.Rows PySem.Spec
abbrev vB:List Value:=[.type "ValueError",.type "Exception",.type "BaseException",.type "object"]
theorem a9w {K:Frag} {h:Heap} {D:Addr} {newId:String} (X:K.In h) (q:excIn K D vB newId=true):OwnTail h vB (.ref D::vB):=by
 refine tail_of_in X ?_;unfold excIn at q;unfold tailIn;split at q
 ·rename_i dd cd sl ho;split at q
  ·simp only [Bool.and_eq_true] at q;dsimp only;rw [ho];dsimp only;rw [q.1.2,q.2];have z:tailIn K vB vB=true:=by unfold tailIn; rfl
   rw [z];simp
  ·cases q
 ·cases q
abbrev V4 (C t:Addr):Obj:={ cls:=.ref C,data:=.fields #[.ref t,.none,.none,.none,.bool false,.none] }
abbrev a1i (vs:List Value):Obj:={ cls:=.type "tuple",data:=.seq vs.toArray }
section
variable {prog:Program} {w:World} {A:Around} {E:Value->Shared->Prop} {s:Shared} {h₀:Heap} {L:Addr} {m:Str->Option Value} {news:List (Addr × Obj)} {K:Frag}
variable {nm q:Str} {C D Na:Addr} {bs:List Value} {hdct:Bool} {sn:List Str} {sub:List Value} {ab:Bool} {col:Option Bool} {dd:Option Addr} {k0 k1 k2 k3 k5:Option Value}
theorem J3 {h:Heap} {g:Array GenState} {d:Drawn} {t:Nat} {os:OsState} {rest:List Value} {fI:Addr} {R:Fin->Shared->Prop} (X:K.In h)
  (hC:h.get? C=some (excClassObj nm q C Na bs (.ref D::vB) hdct sn sub ab col dd k0 k1 k2 k3 k5 "ValueError.__new__")) (T:OwnTail h vB (.ref D::vB))
  (hi:findIn K (.ref C) "__init__" = some (some (.ref fI))) (hf:typeIn K (.ref fI)=some (.type "function"))
  (hq:wpAny (model prog w) A (call (.ref fI) (.ref (h.objs.size+1)::rest)) (fun r s'=>r=.none/\R (.done (.ret (.ref (h.objs.size+1)))) s') E ⟨(h.push (a1i rest)).push (V4 C h.objs.size),g,d,t,os⟩) (cK:rest.length<=sizeLine) :
  wpAny (model prog w) A (Builtin.«type.__call__» ⟨.ref C::rest,[]⟩) R E ⟨h,g,d,t,os⟩:=by
 have Fv:=PySem.F.excBase_ValueError;have hv:vB.contains (.type "ValueError")=true:=by decide
 repeat (first | with_reducible refine wpAny_loadPart_at hC ?_ | with_reducible refine wpAny_madeBy_exc hC ?_ | wp_step) -- here
 refine codeAny_call_builtin_code (Code.quiet_builtin _ Fv.quiet) (wpAny_check_new_subU Fv hv T hC ?_);refine codeAny_exc_new_subU Fv hv Fv T hC ?_ cK;show wpAny _ _ _ _ _ _;have kp:∀ b o,h.get? b=some o->((h.push (a1i rest)).push (V4 C h.objs.size)).get? b=some o:=fun b o e=>Heap.get?_push_of_some _ (Heap.get?_push_of_some _ e);have X1:=X.keeps kp;have dU:((h.push (a1i rest)).push (V4 C h.objs.size)).get? (h.objs.size+1)=some (V4 C h.objs.size):=by heap_get
 have fg:(Value.ref C :: .ref D::vB).contains (.ref C)=true:=by simp
 have fJ:=kp _ _ hC;unfold isInstance
 repeat (first | with_reducible refine wpAny_loadPart_at dU ?_ | (with_reducible refine wpAny_isSubtype_exc fJ ?_; rw [fg]) | wp_step)
 show wpAny _ _ (typeLookup (.ref C) _) _ _ _;refine looks_findIn X1 hi _ _ _ _ (fun _ _ e=>e) ?_;refine wpAny_holding (wpAny_bind ?_);refine bind_fn X1 _ hf _ _ _ _ (fun _ _ e=>e) ?_;refine wpAny_bind (wpAny_mono hq (fun r s' hr=>?_) fun _ _ x=>x);obtain ⟨rfl,hQ⟩:=hr
 wp_walk
 exact hQ
end
end My
end
section
namespace My
open PySem PySem.W PySem.Calls PyProof.Rows PySem.Spec Builtin.ObjectAttr
abbrev Yq (C t dx:Addr):Obj:={ cls:=.ref C,dict:=some dx,data:=.fields #[.ref t,.none,.none,.none,.bool false,.none] }
theorem a9h (self:Value):refuseLoop self "__setattr__" vB=pure ():=by kernel_rfl
section
variable {prog:Program} {w:World} {A:Around} {E:Value->Shared->Prop} {s:Shared} {h₀:Heap} {L:Addr} {m:Str->Option Value} {news:List (Addr × Obj)} {K:Frag} {x C D t:Addr} {cd:ClassData} {name:Str} {v:Value} {g:Obj->List (Addr × Obj)}
end
theorem Qf:builtinKind "BaseException.__getattribute__" = some .slot:=by decide +kernel
theorem Mw:splitId "BaseException.__getattribute__" = some ("BaseException","__getattribute__"):=by decide +kernel
section
variable {prog:Program} {w:World} {A:Around} {E:Value->Shared->Prop} {s:Shared} {K:Frag} {x C:Addr} {ox:Obj} {od:Option Obj} {name:Str} {v:Value} {expr:Bool}
theorem a02 {Q:Value->Shared->Prop} (X:K.In s.heap) (I:InstAt s.heap x ox C od) (cC:findIn K (.ref C) "__getattribute__" = some (some (.builtin "BaseException.__getattribute__")))
  (bU:findIn K (.ref C) "__getattr__" = some none) (hb:mroIn K C (.type "BaseException")=some true) (hf:findObj K C od name=some (.value v)) (hh:handedIn v=true) (h:Q v { s with toks:=s.toks+1 }) :
  wpAny (model prog w) A (getAttr (.ref x) name expr) Q E s:=by
 obtain ⟨hp,g,d,tk,os⟩:=s;have FB:=PySem.F.excAttr_ValueError;have f3:=FB.ga.bind (.ref x);have L0:=I.type (M:=model prog w);have L1:=looks_findIn (M:=model prog w) X cC;have L2:=looks_findIn (M:=model prog w) X bU;have L3:=looks_find (M:=model prog w) X I hf;have L4:Looks (model prog w) hp (isInstance (.ref x) (.type "BaseException")) true:=I.type.andThen (looks_mroIn X hb);have dI:(expr&&onTheHeap (Value.builtin "BaseException.__getattribute__"))=false:=by cases expr <;> rfl
 have dY:(Value.builtin "BaseException.__getattribute__" == Value.builtin "object.__getattribute__")=false:=by decide +kernel
 unfold getAttr getAttrBy;refine wpAny_bind (wpAny_mkText (wpAny_holding (wpAny_bind (L0.at (wpAny_bind (L1.at ?_))))));dsimp only;rw [dY,Bool.and_false];rw [if_neg (by decide)];unfold getAttrByItsOwn;have LH:Looks (model prog w) hp (hookBefore (.ref C)) none:=looks_hook (mc:=.ref C) X (by rw [if_pos (show onTheHeap (.ref C)=true from rfl)]; exact bU);refine wpAny_bind (LH.at (wpAny_bind (wpAny_attempt (wpAny_holding ?_))));unfold callGetattribute;rw [dI,if_neg (by decide)];unfold boundAndCalled;rw [f3];refine wpAny_bind (wpAny_pure ?_);show wpAny _ _ (call (.builtin "BaseException.__getattribute__") [.ref x,.str name tk]) _ _ _;refine wpAny_call (codeAny_call_builtin FB.ga.plain PySem.F.entry_bexc_ga (@check_slot (model prog w) _ _ _ "BaseException.__getattribute__" "BaseException" "__getattribute__" (.ref x) [.str name tk] [] _ Qf Mw L4 (PySem.F.args_bexc_ga (.ref x) (.str name tk)) ?_));unfold Builtin.«object.__getattribute__»;refine wpAny_bind (wpAny_pure (wpAny_bind (wpAny_pure (wpAny_bind (L0.at (wpAny_bind (L3.at ?_)))))));refine wpAny_pure ?_;show wpAny _ _ (handedOut v) _ _ _;rw [handedOut_of hh];exact wpAny_pure h
end
section
variable {prog:Program} {w:World} {A:Around} {E:Value->Shared->Prop} {s:Shared} {K:Frag} {x C:Addr} {ox od:Obj} {name:Str} {tk:Tok} {v:Value} {fill expr:Bool}
theorem W2 {Q:Value->Shared->Prop} (X:K.In s.heap) (I:InstAt s.heap x ox C (some od)) (cC:findIn K (.ref C) "__getattribute__" = some (some (.builtin "BaseException.__getattribute__")))
  (bU:findIn K (.ref C) "__getattr__" = some none) (hb:mroIn K C (.type "BaseException")=some true)
  (h:∀ A',wpAny (model prog w) A' (Builtin.«object.__getattribute__» ⟨[.ref x,.str name tk],[]⟩) (fun fin s'=>∃ v,fin=.done (.ret v)/\handedIn v=true/\Q v s') (fun _ _=>False) s) :
  wpAny (model prog w) A (getAttrBy (.ref x) (.str name tk) fill expr) Q E s:=by
 obtain ⟨hp,g,d,tt,os⟩:=s;have FB:=PySem.F.attr_ValueError;have f3:=FB.ga.bind (.ref x);have L0:=I.type (M:=model prog w);have L1:=looks_findIn (M:=model prog w) X cC;have L4:Looks (model prog w) hp (isInstance (.ref x) (.type "BaseException")) true:=I.type.andThen (looks_mroIn X hb);have dI:(expr&&onTheHeap (Value.builtin "BaseException.__getattribute__"))=false:=by cases expr <;> rfl
 have dY:(Value.builtin "BaseException.__getattribute__" == Value.builtin "object.__getattribute__")=false:=by decide +kernel
 unfold getAttrBy;refine wpAny_holding (wpAny_bind (L0.at (wpAny_bind (L1.at ?_))));dsimp only;rw [dY,Bool.and_false,if_neg (by decide)];unfold getAttrByItsOwn;have LH:Looks (model prog w) hp (hookBefore (.ref C)) none:=looks_hook (mc:=.ref C) X (by rw [if_pos (show onTheHeap (.ref C)=true from rfl)]; exact bU);refine wpAny_bind (LH.at (wpAny_bind (wpAny_attempt (wpAny_holding ?_))));unfold callGetattribute;rw [dI,if_neg (by decide)];unfold boundAndCalled;rw [f3];refine wpAny_bind (wpAny_pure ?_);show wpAny _ _ (call (.builtin "BaseException.__getattribute__") [.ref x,.str name tk]) _ _ _;refine wpAny_call (codeAny_call_builtin FB.ga.plain PySem.F.entry_bexc_ga (@check_slot (model prog w) _ _ _ "BaseException.__getattribute__" "BaseException" "__getattribute__" (.ref x) [.str name tk] [] _ Qf Mw L4 (PySem.F.args_bexc_ga (.ref x) (.str name tk)) ?_));refine wpAny_mono (h _) (fun fin s' z=>?_) fun _ _ z=>z.elim;obtain ⟨v,rfl,hh,q⟩:=z;show wpAny _ _ (handedOut v) _ _ _;rw [handedOut_of hh];exact wpAny_pure q
theorem Va {Q:Option Value->Shared->Prop} (X:K.In s.heap) (I:InstAt s.heap x ox C (some od)) (cC:findIn K (.ref C) "__getattribute__" = some (some (.builtin "BaseException.__getattribute__")))
  (bU:findIn K (.ref C) "__getattr__" = some none) (hb:mroIn K C (.type "BaseException")=some true) (hh:hasDictIn K C=true)
  (ha:findIn K (.ref C) "__class__" = some (some (.builtin "object.__class__"))) (hn:specialIn K (.builtin "object.__class__") "__get__" = some (some (.builtin "getset_descriptor.__get__"))) (ht:takesIn K (.builtin "object.__class__")=some true)
  (hm:mroIn K C (.type "object")=some true) (h:Q (some (.ref C)) { s with toks:=s.toks+1 }):wpAny (model prog w) A (getAttr? (.ref x) "__class__") Q E s:=by
 unfold getAttr?;refine wpAny_bind (wpAny_mkText ?_);unfold getAttrBy?;refine wpAny_bind (wpAny_attempt (W2 (s:={ s with toks:=s.toks+1 }) X I cC bU hb fun A'=>?_));have L0:=I.type (M:=model prog w);have L3:=looks_find (M:=model prog w) X I (name := "__class__") (findObj_data (by obtain ⟨cd,hc,_⟩:=any_some hh; rw [hc]; rfl) ha hn ht);unfold Builtin.«object.__getattribute__»;refine wpAny_bind (wpAny_pure (wpAny_bind (wpAny_pure (wpAny_bind (L0 _ _ _ _ (fun _ _ e=>e) (wpAny_bind (L3 _ _ _ _ (fun _ _ e=>e) ?_)))))));dsimp only;unfold bindTo;refine wpAny_bind (wpAny_holding (wpAny_call (class_get (ox:=ox) (od:=some od) X I hm (wpAny_pure ⟨_,rfl,rfl,wpAny_pure h⟩))))
theorem Z8 (cC:findIn K (.ref C) "__getattribute__" = some (some (.builtin "BaseException.__getattribute__")))
  (bU:findIn K (.ref C) "__getattr__" = some none) (hb:mroIn K C (.type "BaseException")=some true) (hh:hasDictIn K C=true)
  (ha:findIn K (.ref C) "__class__" = some (some (.builtin "object.__class__"))) (hn:specialIn K (.builtin "object.__class__") "__get__" = some (some (.builtin "getset_descriptor.__get__"))) (ht:takesIn K (.builtin "object.__class__")=some true)
  (hm:mroIn K C (.type "object")=some true):KitX K (.ref x) (.ref C) (fun h=>InstAt h x ox C (some od)) where
 ty:=fun _ _ _ I=>I.type
 it:=fun _ _ X _=>by
  obtain ⟨cd0,hc0,_⟩:=any_some hh;unfold clsIn at hc0;split at hc0
  ·rename_i ho;intro A' Q' E' s' k q;unfold isType loadHead;exact wpAny_bind (wpAny_loadPart (k _ _ (X _ _ ho)) (wpAny_pure q))
  ·cases hc0
 ne:=fun h tp dd af n sl X ft=>by
  obtain ⟨cd0,hc0,_⟩:=any_some hh;refine Bool.eq_false_iff.mpr fun q=>?_;have e:C=tp:=Value.ref.inj (beq_iff_eq.mp q);subst e;unfold clsIn at hc0;split at hc0
  ·rename_i ho;cases (X _ _ ho).symm.trans ft
  ·cases hc0
 ca:=fun X I k=>Va X I cC bU hb hh ha hn ht hm k
end
end My
end
section
namespace L2
open PySem PySem.Spec PyProof.Rows
abbrev Om (C dx:Addr) (vs:Array Value):Obj:={ cls:=.ref C,dict:=some dx,data:=.fields vs }
structure XAt (h:Heap) (e C dx T:Addr) (fl:Value):Prop where
 ne:T≠e
 at_:∃ vs,h.get? e=some (Om C dx vs)/\vs[1]? = some (.ref T)
 tb:∃ o ts,h.get? T=some o/\o.data=.fields ts/\ts[3]? = some fl
structure Kp (fs ch:List Addr) (h h':Heap):Prop where
 keep:∀ b o,h.get? b=some o->b∉fs->b∉ch->h'.get? b=some o
 slot:∀ b o,h.get? b=some o->b∉ch->∃ sl,h'.get? b=some { o with slots:=sl }
 there:∀ b o,h.get? b=some o->∃ o',h'.get? b=some o'
 size:h.objs.size<=h'.objs.size
theorem Kp.trans {fs ch:List Addr} {h h1 h2:Heap} (a:Kp fs ch h h1) (b:Kp fs ch h1 h2):Kp fs ch h h2 where
 keep:=fun c o q n m=>b.keep c o (a.keep c o q n m) n m
 slot:=fun c o q m=>by
  obtain ⟨sl,e1⟩:=a.slot c o q m;obtain ⟨bX,e2⟩:=b.slot c _ e1 m;exact ⟨bX,e2⟩
 there:=fun c o q=>by
  obtain ⟨o',e1⟩:=a.there c o q;exact b.there c o' e1
 size:=Nat.le_trans a.size b.size
theorem Kp.mono {fs ch cP ch':List Addr} {h h':Heap} (a:Kp fs ch h h') (hf:∀ b∈fs,b∈cP) (hc:∀ b∈ch,b∈ch'):Kp cP ch' h h' where
 keep:=fun c o q n m=>a.keep c o q (fun z=>n (hf _ z)) fun z=>m (hc _ z)
 slot:=fun c o q m=>a.slot c o q fun z=>m (hc _ z)
 there:=a.there
 size:=a.size
theorem Kp.slots {fs:List Addr} {h h':Heap} (x:Heap.SlotsOnly fs h h'):Kp fs [] h h' where
 keep:=fun b o q n _=>(x.2.1 b n).trans q
 slot:=fun b o q _=>x.2.2 b o q
 there:=fun b o q=>let ⟨sl,e⟩:=x.2.2 b o q; ⟨_,e⟩
 size:=Nat.le_of_eq x.1.symm
theorem Kp.pushed {fs ch:List Addr} {h:Heap} (o:Obj):Kp fs ch h (h.push o) where
 keep:=fun b u q _ _=>Heap.get?_push_of_some _ q
 slot:=fun b u q _=>⟨u.slots,Heap.get?_push_of_some _ q⟩
 there:=fun b u q=>⟨u,Heap.get?_push_of_some _ q⟩
 size:=by rw [Heap.size_push]; exact Nat.le_succ _
theorem Kp.field {fs:List Addr} {h:Heap} {e:Addr} {o:Obj} {vs:Array Value} (he:h.get? e=some o) (hd:o.data=.fields vs) (f:Array Value->Array Value):Kp fs [e] h (h.update e (Obj.mapFields f)) where
 keep:=fun b u q _ m=>by rw [Heap.get?_update_other _ _ (fun z=>m (by simp [z]))]; exact q
 slot:=fun b u q m=>⟨u.slots,by rw [Heap.get?_update_other _ _ (fun z=>m (by simp [z]))]; exact q⟩
 there:=fun b u q=>by
  by_cases z:e=b
  ·subst z; exact ⟨_,Heap.get?_update_self _ he (Obj.isFreed_of_fields (Obj.data_mapFields hd f))⟩
  ·exact ⟨u,by rw [Heap.get?_update_other _ _ z]; exact q⟩
 size:=Nat.le_of_eq (Heap.size_after_update ..).symm
section
variable {M:Model} {A:Around} {E:Value->Shared->Prop} {s:Shared} {base:Heap} {env:Env} {outer:List Env} {L e C dx T:Addr} {fl:Value} {vs:Array Value} {Q:Unit->Shared->Prop}
theorem Fx {head:Value} {hn:Bool} (hfr:A.frames=some (env::outer)) (hl:s.heap.FunFrames base (env::outer)) (hf:env.frame=some L) (he:s.heap.get? e=some (Om C dx vs)) (h1:1<vs.size)
  (cq:e∉frs (env::outer))
  (h:∀ h' T,s.heap.objs.size<=T->Kp (frs (env::outer)) [e] s.heap h'->XAt h' e C dx T (rawInt L)->Q () { s with heap:=h' }) :
  wpAny M A (frameOf env >>= fun a=>entryPlaceOf L hn >>= fun pl=>EntryCells.newEntry head a .none (rawInt L) .none pl >>= fun b=>setField (.ref e) 1 b) Q E s:=by
 refine wpAny_bind (wpAny_frameOf_fun hfr hl hf fun cF hs=>?_);refine wpAny_bind (wpAny_entryPlaceOf fun pl aI=>?_);unfold EntryCells.newEntry newFields;have e1:cF.get? e=some (Om C dx vs):=(hs.2.1 e cq).trans he;refine wpAny_bind (wpAny_newObj_type ?_ (aI.sizeOk5 _ _ _ _ _));refine wpAny_setField (Heap.get?_push_of_some _ e1) rfl h1 ?_;have ne:cF.objs.size≠e:=Nat.ne_of_gt (Heap.lt_size e1);refine h _ cF.objs.size (Nat.le_of_eq hs.1.symm) ?_ ⟨ne,⟨vs.setIfInBounds 1 (.ref cF.objs.size),?_,by simp [h1]⟩,?_⟩
 ·exact (((Kp.slots hs).mono (ch':=[e]) (fun _ z=>z) (fun _ z=>nomatch z)).trans (Kp.pushed _)).trans (Kp.field (Heap.get?_push_of_some _ e1) rfl _)
 ·exact Heap.get?_update_self _ (Heap.get?_push_of_some _ e1) rfl
 ·refine ⟨_,_,(Heap.get?_update_other _ _ (Ne.symm ne)).trans (Heap.get?_push_size _ rfl),rfl,?_⟩;rcases aI with rfl | ⟨_,_,_,_,_,_,_,rfl⟩ <;> simp
theorem Tc (hfr:A.frames=some (env::outer)) (hl:s.heap.FunFrames base (env::outer)) (hf:env.frame=some L) (he:s.heap.get? e=some (Om C dx vs)) (h1:vs[1]? = some .none) (cq:e∉frs (env::outer))
  (h:∀ h' T,s.heap.objs.size<=T->Kp (frs (env::outer)) [e] s.heap h'->XAt h' e C dx T (rawInt L)->Q () { s with heap:=h' }):wpAny M A (noteFrame (.ref e) env) Q E s:=by
 unfold noteFrame;simp only [hf];refine wpAny_bind (wpAny_field he rfl h1 ?_);rw [if_neg (by decide)];exact Fx hfr hl hf he (Array.getElem?_eq_some_iff.mp h1).1 cq h
theorem Tg (hf:env.frame=some L) (x:XAt s.heap e C dx T (rawInt L)) (h:Q () s):wpAny M A (noteFrame (.ref e) env) Q E s:=by
 obtain ⟨ne,⟨vs,he,h1⟩,o,ts,hT,hd,h3⟩:=x;unfold noteFrame;simp only [hf];refine wpAny_bind (wpAny_field he rfl h1 ?_);rw [if_pos (show (Value.ref T != Value.none)=true from by simp)];refine wpAny_bind (wpAny_field hT hd h3 ?_);rw [if_pos (show (rawInt L==rawInt L)=true from by simp)];exact wpAny_pure h
theorem M6 (hfr:A.frames=some (env::outer)) (hl:s.heap.FunFrames base (env::outer)) (hf:env.frame=some L) (x:XAt s.heap e C dx T .none) (cq:e∉frs (env::outer)) (fe:T∉frs (env::outer))
  (h:∀ h' T',s.heap.objs.size<=T'->Kp (frs (env::outer)) [e,T] s.heap h'->XAt h' e C dx T' (rawInt L)->Q () { s with heap:=h' }):wpAny M A (noteFrame (.ref e) env) Q E s:=by
 obtain ⟨ne,⟨vs,he,h1⟩,o,ts,hT,hd,h3⟩:=x;have k1:Kp (frs (env::outer)) [T] s.heap (s.heap.update T (Obj.mapFields (·.setIfInBounds 3 Value.none))):=Kp.field hT hd _;unfold noteFrame;simp only [hf];refine wpAny_bind (wpAny_field he rfl h1 ?_);rw [if_pos (show (Value.ref T != Value.none)=true from by simp)];refine wpAny_bind (wpAny_field hT hd h3 ?_);rw [if_neg (show ¬ ((Value.none==rawInt L)=true) from by simp [rawInt])];refine wpAny_bind (wpAny_setField hT hd (Array.getElem?_eq_some_iff.mp h3).1 ?_);have bT:(s.heap.update T (Obj.mapFields (·.setIfInBounds 3 Value.none))).get? e=some (Om C dx vs):=(Heap.get?_update_other _ _ ne).trans he;refine Fx (base:=base) hfr (hl.of_keeps fun b u q nf=>?_) hf bT (Array.getElem?_eq_some_iff.mp h1).1 cq fun h' T' hz k2 x=>h h' T' (Nat.le_trans k1.size hz) ((k1.mono (fun _ z=>z) (by simp)).trans (k2.mono (fun _ z=>z) (by simp))) x;refine ⟨u,?_,rfl⟩;have:T≠b:=fun z=>by subst z; rw [hT] at q; cases q; exact nf ts hd
 rw [Heap.get?_update_other _ _ this]; exact q
theorem Ai (x:XAt s.heap e C dx T fl) (h:∀ h',Kp [] [T] s.heap h'->XAt h' e C dx T .none->Q () { s with heap:=h' }):wpAny M A (setFlight (.ref e) none) Q E s:=by
 obtain ⟨ne,⟨vs,he,h1⟩,o,ts,hT,hd,h3⟩:=x;have z3:=(Array.getElem?_eq_some_iff.mp h3).1;unfold setFlight;refine wpAny_bind (wpAny_field he rfl h1 ?_);rw [if_pos (show (Value.ref T != Value.none)=true from by simp)];refine wpAny_setField hT hd z3 (h _ (Kp.field hT hd _) ⟨ne,⟨vs,(Heap.get?_update_other _ _ ne).trans he,h1⟩,_,_,Heap.get?_update_self _ hT (Obj.isFreed_of_fields (Obj.data_mapFields hd _)),Obj.data_mapFields hd _,by simp [z3]⟩)
end
end L2
end
section
namespace My
open PySem PySem.W PySem.Calls PyProof.Rows PySem.Spec Builtin.ObjectAttr
section
variable {prog:Program} {w:World} {A:Around} {E:Value->Shared->Prop} {s:Shared} {K:Frag} {x C D t:Addr} {cd:ClassData} {name:Str} {v:Value}
theorem Yr {Q:Unit->Shared->Prop} (X:K.In s.heap) (hx:s.heap.get? x=some (V4 C t))
  (hs:findIn K (.ref C) "__setattr__" = some (some (.builtin "object.__setattr__"))) (hc:clsIn K C=some cd) (hm:cd.mro=.ref C :: .ref D::vB) (hd:cd.hasDict=true)
  (ho:mroIn K C (.type "object")=some true) (ha:findIn K (.ref C) name=some none)
  (h:∀ h',(∀ b o,b≠x->s.heap.get? b=some o->h'.get? b=some o)->h'.get? x=some (Yq C t s.heap.objs.size)->h'.get? s.heap.objs.size=some (dictOf [⟨PyData.keyHash w.params name,.str name (s.toks+1),v⟩] 1)->Q () { s with heap:=h',toks:=s.toks+2 }) :
  wpAny (model prog w) A (setAttr (.ref x) name v) Q E s:=by
 have I:InstAt s.heap x (V4 C t) C none:=⟨hx,rfl,rfl,trivial⟩;refine set_plain X I hs ?_;have SF:=PySem.F.store_object;have sub:Looks (model prog w) s.heap (isInstance (.ref x) (.type "object")) true:=I.type.andThen (looks_mroIn X ho);refine codeAny_call_builtin SF.slot.plain SF.entry (@check_slot (model prog w) _ _ _ "object.__setattr__" "object" "__setattr__" (.ref x) [.str name s.toks,v] [] _ SF.kind SF.split sub (SF.args (.ref x) (.str name s.toks) v) ?_);have fB:Looks (model prog w) s.heap (mroOf (.ref C)) cd.mro:=(looks_clsIn X hc).andThen .now;rw [osa_eq,refuse_eq];refine wpAny_bind (wpAny_bind (I.type _ _ _ _ (fun _ _ e=>e) (wpAny_bind (fB _ _ _ _ (fun _ _ e=>e) ?_))));rw [hm,refuseLoop_ref,refuseLoop_ref,a9h];refine wpAny_pure (wpAny_bind (I.type _ _ _ _ (fun _ _ e=>e) (wpAny_bind (looks_findIn X ha _ _ _ _ (fun _ _ e=>e) (wpAny_bind (wpAny_pure ?_))))));dsimp only;refine wpAny_bind (wpAny_pure (wpAny_bind (wpAny_bind (wpAny_loadPart hx (wpAny_bind (looks_clsIn X hc _ _ _ _ (fun _ _ e=>e) ?_))))));rw [hd];show wpAny _ _ (alloc { cls:=.type "dict",data:=.dict #[] } >>= fun dx=>update x (fun o=>{ o with dict:=some dx }) >>= fun _=>dictMade (.ref C) x dx) _ _ _;have lx:x<s.heap.objs.size:=Heap.lt_size hx;have g1:=Heap.get?_push_of_some (h:=s.heap) (dictOf [] 0) hx;have g2:((s.heap.push (dictOf [] 0)).update x (fun o=>{ o with dict:=some s.heap.objs.size })).get? x=some (Yq C t s.heap.objs.size):=Heap.get?_update_self _ g1 rfl;have g3:((s.heap.push (dictOf [] 0)).update x (fun o=>{ o with dict:=some s.heap.objs.size })).get? s.heap.objs.size=some (dictOf [] 0):=(Heap.get?_update_other _ _ (Nat.ne_of_lt lx)).trans (Heap.get?_push_size _ rfl);refine wpAny_bind (wpAny_alloc (wpAny_bind (wpAny_update g1 ?_)));refine wpAny_pure (a:=some s.heap.objs.size) (wpAny_bind (wpAny_pure (wpAny_bind ?_)));unfold nsSet;refine wpAny_bind (wpAny_bind (wpAny_askSetting (wpAny_pure (wpAny_bind (wpAny_mkText (wpAny_bind (wpAny_loadPart g3 ?_)))))));have c:aRefKeyMayBeTheName name [].toArray=false:=by rw [aRefKeyMayBeTheName_at]; simp
 show wpAny _ _ (if aRefKeyMayBeTheName name [].toArray=true then _ else _) _ _ _;rw [c];refine wpAny_updatePart g3 ?_;have g4:=Heap.get?_update_self (Obj.putName name (PyData.keyHash w.params name) (.str name (s.toks+1)) v) g3 (by rw [putName_dict]; rfl);refine wpAny_bind (wpAny_lookBehind g4 (pastItsLine_dict (by rw [List.size_toArray,sizeLine_eq]; show 1<=_; decide)) ?_);refine wpAny_pure (h _ (fun b o nb q=>?_) ?_ ?_)
 ·have l:=Heap.lt_size q;rw [Heap.get?_update_other _ _ (Nat.ne_of_gt l),Heap.get?_update_other _ _ (Ne.symm nb)];exact Heap.get?_push_of_some _ q
 ·rw [Heap.get?_update_other _ _ (Nat.ne_of_gt lx)]; exact g2
 ·exact g4
end
end My
end
section
namespace L2
open PySem PySem.Spec PyProof.Rows
structure XC (K:PySem.W.Frag) (C D fI:Addr) (f:Str):Prop where
 lk:∃ nm q Na bs sn sub ab col dd k0 k1 k2 k3 k5,K.lookup C=some (excClassObj nm q C Na bs (.ref D::My.vB) true sn sub ab col dd k0 k1 k2 k3 k5 "ValueError.__new__")
 base:PySem.W.excIn K D My.vB "ValueError.__new__" = true
 init:PySem.W.findIn K (.ref C) "__init__" = some (some (.ref fI))
 fn:PySem.W.isFn K (.ref fI)=true
 sa:PySem.W.findIn K (.ref C) "__setattr__" = some (some (.builtin "object.__setattr__"))
 ob:PySem.W.mroIn K C (.type "object")=some true
 na:PySem.W.findIn K (.ref C) f=some none
 kp:PySem.W.keepIn K (.ref C)=true
def a8i (e C t:Addr):HO:=.ext fun h=>h.get? e=some (My.V4 C t)
def Vz (e C t dx:Addr):HO:=.ext fun h=>h.get? e=some (My.Yq C t dx)
noncomputable def Bg (dx:Addr) (f:Str) (v:V):HO:=.ext fun h=>∃ hs tk u,RelV v u/\h.get? dx=some (PySem.W.dictOf [⟨hs,.str f tk,u⟩] 1)
theorem a0w {P:Program} {w:World} {H:Hp} {h:Heap} {a:Addr} {o:Obj} (e:h.get? a=some o):yg P w H h a (.ext fun h=>h.get? a=some o):=⟨e,⟨_,e⟩,fun _ _ q k=>k _ q⟩
theorem Yl {P:Program} {w:World} {H:Hp} {h:Heap} {dx:Addr} {f:Str} {v:V} {hs:Int} {tk:Tok} {u:Value} (r:RelV v u) (e:h.get? dx=some (PySem.W.dictOf [⟨hs,.str f tk,u⟩] 1)):yg P w H h dx (Bg dx f v) :=
 ⟨⟨hs,tk,u,r,e⟩,⟨_,e⟩,fun _ _ ⟨a,b,c,r,q⟩ k=>⟨a,b,c,r,k _ q⟩⟩
section
variable {X:Cx} {pins:List (Addr × Obj)} {σ:St} {H:Hp} {s:Shared} {e C D fI t:Addr} {f:Str} {v:V} {u:Value} {A:Around} {E:Value->Shared->Prop}
theorem Inv.a7z {h':Heap} {dx:Addr} {o p:HO} {t':Nat} (I:Inv X pins σ H s) (he:Mut (H e)) (hz:s.heap.objs.size<=dx) (k:∀ b u,b≠e->s.heap.get? b=some u->h'.get? b=some u) (fy:∃ u,h'.get? e=some u)
  (n1:∀ H',yg X.prog X.w H' h' e o) (n2:∀ H',yg X.prog X.w H' h' dx p):Inv X pins σ (upd (upd H dx p) e o) { s with heap:=h',toks:=t' }:=by
 have eK:H dx=none:=I.hok.fresh hz;have ne:dx≠e:=fun z=>by subst z; rw [eK] at he; exact he
 have nb:∀ b,H b=none->b≠e:=fun b n z=>by subst z; rw [n] at he; exact he
 have ns:∀ b u,s.heap.get? b=some u->b≠dx:=fun b u q z=>by subst z; exact absurd (Nat.lt_of_lt_of_le (Heap.lt_size q) hz) (Nat.lt_irrefl _)
 have nm:∀ b u,H b=some u->¬ Mut (some u)->b≠e/\b≠dx:=fun b u q n=>⟨fun z=>by subst z; rw [q] at he; exact n he,fun z=>by subst z; rw [eK] at q; cases q⟩;have up:∀ b,b≠e->b≠dx->upd (upd H dx p) e o b=H b:=fun b n m=>by rw [g8 n,g8 m]
 refine I.un (t':=t') ⟨fun b u q n _ _=>k b u (nb b n) q,fun b u q n _ _=>⟨u.slots,k b u (nb b n) q⟩,fun b u q n _=>by rw [up b (nb b n) (ns b u q)]; exact n,fun b u q _=>?_,
  fun b xs q=>?_,fun b u xs q=>?_,fun b ps q=>⟨#[],?_⟩⟩ fun b u q=>?_
 ·by_cases z:b=e
  ·subst z; exact fy
  ·exact ⟨u,k b u z q⟩
 ·obtain ⟨a,c⟩:=nm b _ q fun z=>z;rw [up b a c]; exact q
 ·obtain ⟨a,c⟩:=nm b _ q fun z=>z;rw [up b a c]; exact q
 ·obtain ⟨a,c⟩:=nm b _ q fun z=>z;rw [up b a c,q]; simp
 ·by_cases z:b=e
  ·subst z; rw [dj] at q; cases q; exact n1 _
  ·rw [g8 z] at q
   by_cases y:b=dx
   ·subst y; rw [dj] at q; cases q; exact n2 _
   ·rw [g8 y] at q;refine (I.hok b u q).stay (fun c w hc r=>k c w ?_ r) (fun c r=>?_) fun c xs r=>?_
    ·rcases hc with hc | hc
     ·rw [hc]; exact z
     ·exact (nm c _ hc fun z=>z).1
    ·obtain ⟨a,d⟩:=nm c _ r fun z=>z;rw [up c a d]; exact r
    ·obtain ⟨a,d⟩:=nm c _ r fun z=>z;rw [up c a d]; exact r
theorem Ww {Q:Unit->Shared->Prop} (c:XC X.K C D fI f) (I:Inv X pins σ H s) (e0:H e=some (a8i e C t)) (r:RelV v u)
  (h:∀ s' dx,H dx=none->dx≠e->Inv X pins σ (upd (upd H dx (Bg dx f v)) e (Vz e C t dx)) s'->Q () s'):wpAny (model X.prog X.w) A (setAttr (.ref e) f u) Q E s:=by
 obtain ⟨nm,q,Na,bs,sn,sub,ab,col,dd,k0,k1,k2,k3,k5,lk⟩:=c.lk;have hx:s.heap.get? e=some (My.V4 C t):=(I.hok e _ e0).1;refine My.Yr (cd:={ name:=nm,bases:=bs,mro:=.ref C :: .ref D::My.vB,ns:=Na,qualname:=q,hasDict:=true,slotNames:=sn,subclasses:=sub,abstract:=ab,collection:=col,hasDel:=false }) I.kIn hx c.sa (by unfold PySem.W.clsIn; rw [lk]) rfl rfl c.ob c.na fun h' k g1 g2=>h _ s.heap.objs.size (I.hok.fresh (Nat.le_refl _)) (Nat.ne_of_gt (Heap.lt_size hx)) ?_;exact I.a7z (by rw [e0]; exact True.intro) (Nat.le_refl _) k ⟨_,g1⟩ (fun _=>a0w g1) fun _=>Yl r g2
end
noncomputable def a9l (C:Addr) (f:Str) (ta tv:TE):TS:=fun D σ H=>tv σ H fun v H1=>ta σ H1 fun x H2=>∃ e t,x=.ref e/\H2 e=some (a8i e C t)/\∀ dx,H2 dx=none->dx≠e->D.nx σ (upd (upd H2 dx (Bg dx f v)) e (Vz e C t dx))
noncomputable def Le (C:Addr) (f:Str):Sp:=fun vs H Q _=>∃ e t v,vs=[.ref e,v]/\H e=some (a8i e C t)/\∀ dx,H dx=none->dx≠e->Q .non (upd (upd H dx (Bg dx f v)) e (Vz e C t dx))
section
variable {X:Cx} {o value:Expr} {ta tv:TE} {f:Str} {pos pos':Pos} {C D fI:Addr}
theorem a2e (c:XC X.K C D fI f) (ha:PE X o ta) (hv:PE X value tv) (hs:swapsWith value (some (.Attribute o f pos')) pos.line X.env=pure false):PS X (.Assign [.Attribute o f pos'] value pos) (a9l C f ta tv):=by
 intro pins s σ H D I h;refine plainObj_wpAny_Assign_Attribute (thn (hv pins s σ H _ I h) fun u s1 ⟨y,H1,I1,ry,q⟩=>thn (ha pins s1 σ H1 _ I1 q) fun ov s2 ⟨x,H2,I2,rx,e,t,ex,e0,q2⟩=>?_) hs;subst ex;obtain rfl:ov=Value.ref e:=rx;exact Ww c I2 e0 ry fun s3 dx h1 h2 I3=>⟨σ,_,I3,q2 dx h1 h2⟩
end
section
variable {P:Program} {w:World} {K:PySem.W.Frag} {mg:Str->Option Value} {base:Heap}
theorem a5g {qual p f:Str} {st:Stmt} {C D fI:Addr} {fd:FuncData} {q1 q2 q3 q4:Pos} (c:XC K C D fI f) (F:Fun K "__init__" qual st fI fd) (S:Ad ["self",p] ["self",p] (gn st))
  (hb:v8 st=[.Assign [.Attribute (.Name "self" q1) f q2] (.Name p q3) q4]) (h1:(gn st).names.lookup ("self" : Str)=some .local) (h2:(gn st).names.lookup p=some .local) (hp:("self" : Str)≠p) (hd:(p==("__debug__" : Str))=false) (a7:(p==("__classdict__" : Str))=false)
  (cB:∀ env:Env,swapsWith (.Name p q3) (some (.Attribute (.Name "self" q1) f q2)) q4.line env=pure false) :
  Bj P w K mg base CX0 1 fI fd ["self",p] (Le C f):=by
 refine F.ok S (fun vs H Q E ⟨e,t,v,h,_⟩=>by rw [h]; rfl) fun aC A outer s H vs Q E hr ⟨e,t,v,h,h0,h3⟩=>?_;subst h;rw [hb];refine ⟨_,Nt (a2e (C:=C) (D:=D) (fI:=fI) c (Vv (i:=0) rfl (.inl h1)) (Vv (i:=1) rfl (.inl h2) hd a7) (cB _)),?_⟩;exact ⟨v,rfl,.ref e,rfl,e,t,rfl,h0,h3⟩
end
section
variable {X:Cx} {pins:List (Addr × Obj)} {σ:St} {H:Hp} {s:Shared} {C D fI:Addr} {f p:Str} {v:V} {u:Value} {E:Value->Shared->Prop} {fd:FuncData}
theorem a3n {Q:Value->Shared->Prop} (c:XC X.K C D fI f) (F:Bj X.prog X.w X.K X.mg X.base CX0 1 fI fd ["self",p] (Le C f)) (hr:Ab 2 X.A) (hb:Binds X.K fd ["self",p] []) (I:Inv X pins σ H s) (r:RelV v u)
  (h:∀ s' e t dx,H e=none->H dx=none->dx≠e->s.heap.objs.size<=e->Inv X pins σ (upd (upd H dx (Bg dx f v)) e (Vz e C t dx)) s'->Q (.ref e) s'):wpAny (model X.prog X.w) X.A (call (.ref C) [u]) Q E s:=by
 obtain ⟨nm,q,Na,bs,sn,sub,ab,col,dd,k0,k1,k2,k3,k5,lk⟩:=c.lk;have hC:=I.kIn _ _ lk;have f1:=tc_lookup;have f2:=tc_bind (.ref C);have I1:Inv X pins σ H { s with heap:=s.heap.push (My.a1i [u]) }:=I.kept (t':=s.toks) fun b o z=>Heap.get?_push_of_some _ z;have z1:(s.heap.push (My.a1i [u])).objs.size=s.heap.objs.size+1:=Heap.size_push ..
 have g1:((s.heap.push (My.a1i [u])).push (My.V4 C s.heap.objs.size)).get? (s.heap.objs.size+1)=some (My.V4 C s.heap.objs.size):=by
  rw [<- z1]; exact Heap.get?_push_size _ rfl
 have I2:Inv X pins σ (upd H (s.heap.objs.size+1) (a8i (s.heap.objs.size+1) C s.heap.objs.size)) { s with heap:=(s.heap.push (My.a1i [u])).push (My.V4 C s.heap.objs.size) } :=
  I1.laid (t':=s.toks) (fun b o z=>Heap.get?_push_of_some _ z) (by show (s.heap.push (My.a1i [u])).objs.size<=_; rw [z1]; exact Nat.le_refl _) (a0w g1)
 have hE:H (s.heap.objs.size+1)=none:=I.hok.fresh (Nat.le_succ _);have r2:Vals [V.ref (s.heap.objs.size+1),v] [Value.ref (s.heap.objs.size+1),u]:=.cons rfl (.cons r .nil);obtain ⟨hh,g,d,tk,os⟩:=s;have hT:(⟨hh,g,d,tk,os⟩:Shared).TypeIs (.ref C) "type" := ⟨_,hC,rfl⟩;refine wpAny_call (codeAny_of_tree ?_);show wpAny _ _ (callAny (.ref C) _) _ _ _
 repeat (any_goals (first | assumption | with_reducible refine wpAny_loadPart_at hC ?_ | wp_step)) -- here
 refine ⟨rfl,?_⟩
 refine codeAny_call_builtin_at (Code.quiet_builtin _ (by decide +kernel)) entry_typeCall (wpAny_check_type_call_sub hC (My.J3 I.kIn hC (My.a9w I.kIn c.base) c.init (beq_iff_eq.mp c.fn) (wpAny_call (codeAny_mono
  (F.run _ X.stack _ _ ⟨[Value.ref (hh.objs.size+1),u],[]⟩ [Value.ref (hh.objs.size+1),u] _ (fun w H'=>w=.non/\∃ dx,H dx=none/\dx≠hh.objs.size+1/\H'=upd (upd H dx (Bg dx f v)) (hh.objs.size+1) (Vz (hh.objs.size+1) C hh.objs.size dx)) (fun _ _ _=>False) (hr.make C [u] []) (I2.env0.make C [u] [])
   (hb _ [Value.ref (hh.objs.size+1),u] I2.kIn rfl) r2 ⟨_,_,v,rfl,dj,fun dx h1 h2=>⟨rfl,dx,by rw [g8 h2] at h1; exact h1,h2,?_⟩⟩) fun r s' hq=>?_)) (by show 1<=sizeLine; rw [sizeLine_eq]; decide)))
 ·funext b
  by_cases e1:b=hh.objs.size+1
  ·subst e1; rw [dj,dj]
  ·rw [g8 e1,g8 e1]
   by_cases e2:b=dx
   ·subst e2; rw [dj,dj]
   ·rw [g8 e2,g8 e2,g8 e1]
 ·cases r with
  | error e=>exact False.elim hq
  | ok fl =>
   cases fl with
   | ret u' =>
    obtain ⟨v',H',I3,rv,⟨ev,dx,h1,h2,e3⟩⟩:=I2.after hq;subst ev;subst e3;exact ⟨rv,h s' _ _ dx hE h1 h2 (Nat.le_succ _) I3⟩
   | next=>exact False.elim hq
   | brk=>exact False.elim hq
   | cont=>exact False.elim hq
end
noncomputable def CXx (P:Program) (w:World):CXT:=fun outer H s E e s'=>∃ a C dx T H',e=.ref a/\s.heap.objs.size<=a/\s.heap.objs.size<=T/\XAt s'.heap a C dx T .none/\H' a=none/\H' T=none /\
 s'.os=s.os/\AllBare s'.gens/\Un (frs outer) [] H H' s.heap s'.heap/\HOk P w H' s'.heap/\E (.ref C) (some dx) H'
section
variable {X:Cx} {pins:List (Addr × Obj)} {σ:St} {H:Hp} {s:Shared}
theorem Inv.noted {h':Heap} {ch:List Addr} (I:Inv X pins σ H s) (k:Kp (frs X.stack) ch s.heap h') (hn:∀ b∈ch,H b=none)
  (a9:∀ b∈ch,(b∈X.ex\/X.s₀.heap.objs.size<=b)/\b≠X.env.locals/\(∀ x c,X.env.cells.lookup x=some c->c≠b)/\∀ p∈X.pn++pins,p.1≠b):Inv X pins σ H { s with heap:=h' }:=by
 refine I.step (g':=s.gens) (d':=s.drawn) (t':=s.toks) (ch:=ch) a9 (fun b o hL hb hc e n=>k.keep b o e (fun z=>(List.mem_cons.mp (I.Mx b z)).elim hL hb) hc) (fun b o _ _ hc e _=>k.slot b o e hc) (fun _ _ _ _ n=>n)
  (fun b o _ e=>k.there b o e) (fun _ _ e=>e) (fun _ _ _ e=>e) (fun b ps e=>⟨#[],by rw [e]; simp⟩) (fun m hm=>?_) (fun b u e=>?_) I.bare
 ·obtain ⟨o,es,ep,ho,r⟩:=hm;obtain ⟨sl,q⟩:=k.slot _ o ho fun z=>(a9 _ z).2.1 rfl;exact ⟨_,es,ep,q,r⟩
 ·have tr:∀ c x,H c=some x->c∉frs X.stack/\c∉ch:=fun c x q=>⟨(fun z=>by rw [I.Nh c z] at q; cases q),(fun z=>by rw [hn c z] at q; cases q)⟩;refine (I.hok b u e).stay (fun c v hc q=>?_) (fun _ q=>q) fun _ _ q=>q;rcases hc with hc | hc
  ·subst hc; exact k.keep c v q (tr c u e).1 (tr c u e).2
  ·exact k.keep c v q (tr c _ hc).1 (tr c _ hc).2
theorem Inv.Bu {e:Addr} {o:Obj} {vs:Array Value} (I:Inv X pins σ H s) (he:s.heap.get? e=some o) (hd:o.data=.fields vs):e≠X.env.locals/\(∀ x c,X.env.cells.lookup x=some c->c≠e)/\e∉frs X.stack:=by
 refine ⟨fun z=>?_,fun x c q z=>?_,fun z=>?_⟩
 ·obtain ⟨m,⟨o',es,ep,aV,hd',_⟩,_⟩:=I.loc;rw [<- z,he] at aV; cases aV; rw [hd'] at hd; cases hd
 ·obtain ⟨v,o',aV,hd'⟩:=I.cell x c q;rw [z,he] at aV; cases aV; rw [hd'] at hd; cases hd
 ·obtain ⟨_,o',aV,hnf⟩:=I.stack.mem z;rw [he] at aV; cases aV; exact hnf vs hd
end
section
variable {P:Program} {w:World} {K:PySem.W.Frag} {mg:Str->Option Value} {base:Heap} {N:List Str} {qual:Str} {scope:Scope} {f:Addr} {cd:Value} {A:Around} {outer:List Env} {s₀ s:Shared} {H₀ H:Hp} {E:XK} {pins:List (Addr × Obj)} {σ:St} {e C dx:Addr} {vs:Array Value}
theorem Yu (I:Inv (M7 (CXx P w) P w K mg base N qual scope f cd A outer s₀ H₀ E) pins σ H s) (he:s.heap.get? e=some (Om C dx vs)) (h1:vs[1]? = some .none) (hn:H e=none) (hz:s₀.heap.objs.size<=e) (hE:E (.ref C) (some dx) H) :
  (M7 (CXx P w) P w K mg base N qual scope f cd A outer s₀ H₀ E).xe (.ref e) s:=by
 have I0:=I.Bk (pins':=[]) (fun p hp=>nomatch hp);have ne:=I0.Bu he rfl;show wpAny _ _ (leaving _ _) _ _ _;unfold leaving;refine wpAny_bind (Tc (L:=s₀.heap.objs.size) (base:=base) I0.ok.frames I0.stack rfl he h1 ne.2.2 fun h' T hT k x=>?_)
 have I1:=I0.noted k (fun b hb=>by rw [List.mem_singleton.mp hb]; exact hn) fun b hb=>by
  obtain rfl:=List.mem_singleton.mp hb;exact ⟨.inr hz,ne.1,ne.2.1,fun p hp=>nomatch hp⟩
 have eS:H T=none:=I0.hok.fresh hT;obtain ⟨oT,tsT,gT,dT,_⟩:=x.tb;have neT:=I1.Bu (s:={ s with heap:=h' }) gT dT;have sz:s₀.heap.objs.size<=T:=Nat.le_trans I0.sz hT;refine Ai (s:={ s with heap:=h' }) x fun h2 k2 x2=>?_
 have I2:=I1.noted (h':=h2) (k2.mono (fun _ z=>nomatch z) (fun _ z=>z)) (fun b hb=>by rw [List.mem_singleton.mp hb]; exact eS) fun b hb=>by
  obtain rfl:=List.mem_singleton.mp hb;exact ⟨.inr sz,neT.1,neT.2.1,fun p hp=>nomatch hp⟩
 exact ⟨e,C,dx,T,H,rfl,hz,sz,x2,hn,eS,I2.os,I2.bare,I2.base,I2.hok,hE⟩
end
section
variable {X:Cx} {pins:List (Addr × Obj)} {σ:St} {H:Hp} {s:Shared} {e:Addr}
theorem Inv.a4r {φ:Heap->Prop} (I:Inv X pins σ (upd H e (.ext φ)) s) (hn:H e=none):Inv X pins σ H s:=by
 have ne:∀ b u,upd H e (.ext φ) b=some u->(∀ ψ,u≠.ext ψ)->b≠e/\H b=some u:=fun b u q n=>by
  by_cases z:b=e
  ·subst z; rw [dj] at q; cases q; exact absurd rfl (n _)
  ·rw [g8 z] at q; exact ⟨z,q⟩
 have fr:∀ b,upd H e (.ext φ) b=none->H b=none:=fun b q=>by
  by_cases z:b=e
  ·subst z; exact hn
  ·rw [g8 z] at q; exact q
 refine I.step (g':=s.gens) (d':=s.drawn) (t':=s.toks) (h':=s.heap) (ch:=[]) (fun _ z=>nomatch z) (fun b o _ _ _ q _=>q) (fun b o _ _ _ q _=>⟨o.slots,q⟩) (fun b o _ _ n=>fr b n) (fun b o _ q=>⟨o,q⟩)
  (fun b xs q=>(ne b _ q (fun _=>by intro z; cases z)).2) (fun b o u q=>(ne b _ q (fun _=>by intro z; cases z)).2) (fun b ps q=>⟨#[],by rw [(ne b _ q (fun _=>by intro z; cases z)).2]; simp⟩) (fun _ hm=>hm) (fun b u q=>?_) I.bare
 have z:b≠e:=fun z=>by subst z; rw [hn] at q; cases q
 refine (I.hok b u (by rw [g8 z]; exact q)).stay (fun _ _ _ r=>r) (fun c r=>(ne c _ r (fun _=>by intro z; cases z)).2) fun c xs r=>(ne c _ r (fun _=>by intro z; cases z)).2
end
def XW (X:Cx) (E:XK):Prop:=∀ (pins:List (Addr × Obj)) (σ:St) (H:Hp) (s:Shared) (e C dx:Addr) (vs:Array Value),Inv X pins σ H s->s.heap.get? e=some (Om C dx vs)->vs[1]? = some .none->H e=none->X.s₀.heap.objs.size<=e->E (.ref C) (some dx) H->X.xe (.ref e) s
theorem a7d {P:Program} {w:World} {K:PySem.W.Frag} {mg:Str->Option Value} {base:Heap} {N:List Str} {qual:Str} {scope:Scope} {f:Addr} {cd:Value} {A:Around} {outer:List Env} {s₀:Shared} {H₀:Hp} {E:XK} :
  XW (M7 (CXx P w) P w K mg base N qual scope f cd A outer s₀ H₀ E) E:=fun _ _ _ _ _ _ _ _ I he h1 hn hz hE=>Yu I he h1 hn hz hE
section
variable {M:Model} {A:Around} {E:Value->Shared->Prop} {env:Env}
variable {nm q:Str} {C N:Addr} {bs bm:List Value} {hdct:Bool} {sn:List Str} {sub:List Value} {ab:Bool} {col:Option Bool} {dd:Option Addr} {k0 k1 k2 k3 k5:Option Value} {newId:String}
theorem Xj {s:Shared} {x:Sem Value} {Q:Flow->Shared->Prop} (aJ:bm.contains (.type "BaseException")=true) (hh:A.handled=none)
  (h:wpAny M A x (fun v s1=>∃ e dx vs,v=.ref e/\s1.heap.get? C=some (excClassObj nm q C N bs bm hdct sn sub ab col dd k0 k1 k2 k3 k5 newId)/\s1.heap.get? e=some (Om C dx vs)/\vs[1]? = some .none/\E (.ref e) s1) E s) :
  wpAny M A (raiseStmt env (some x) none) Q E s:=by
 have fv:(Value.ref C::bm).contains (.type "BaseException")=true:=by rw [List.contains_cons,aJ,Bool.or_true]
 unfold raiseStmt;refine wpAny_bind (wpAny_mono h (fun v s1 h1=>?_) fun _ _ x=>x);obtain ⟨e,dx,vs,rfl,hC,he,hv,hE⟩:=h1;obtain ⟨hp,g,d,tk,os⟩:=s1
 repeat (first | with_reducible refine wpAny_loadPart_at he ?_ | with_reducible refine wpAny_loadPart_at hC ?_ | (with_reducible refine wpAny_isSubtype_exc hC ?_; rw [fv]) | wp_step)
 rw [hv];exact wpAny_pure (wpAny_pure (wpAny_raiseNew_none hh hE))
end
noncomputable def sRz (C:Addr) (f:Str) (E:XK) (te:TE):TS:=fun _ σ H=>te σ H fun v H1=>∀ dx,H1 dx=none->E (.ref C) (some dx) (upd H1 dx (Bg dx f v))
section
variable {X:Cx} {E:XK} {C D fI:Addr} {f p x:Str} {fd:FuncData} {arg:Expr} {te:TE} {np ay pos:Pos}
theorem a09 (W:XW X E) (c:XC X.K C D fI f) (F:Bj X.prog X.w X.K X.mg X.base CX0 1 fI fd ["self",p] (Le C f)) (hr:Ab 2 X.A) (hb:Binds X.K fd ["self",p] []) (hg:Gl X x) (hm:X.mg x=some (.ref C)) (ha:PE X arg te)
  (aP:(x==("__debug__" : Str))=false:=by decide) (he:starEach [arg] X.env=[(false,eval arg X.env)]:=by rfl) :
  PS X (.Raise (some (.Call (.Name x np) [arg] [] ay)) none pos) (sRz C f E te):=by
 intro pins s σ H Dn I h;obtain ⟨nm,q,Na,bs,sn,sub,ab,col,dd,k0,k1,k2,k3,k5,lk⟩:=c.lk;rw [arm_exec_Raise];refine wpAny_bind (wpAny_standAt ?_);show wpAny _ _ (raiseStmt X.env (some (eval (.Call (.Name x np) [arg] [] ay) X.env >>= fun v=>standAt pos >>= fun _=>pure v)) none) _ _ _;refine Xj (C:=C) (nm:=nm) (q:=q) (N:=Na) (bs:=bs) (bm:=.ref D::My.vB) (hdct:=true) (sn:=sn) (sub:=sub) (ab:=ab) (col:=col) (dd:=dd) (k0:=k0) (k1:=k1) (k2:=k2) (k3:=k3) (k5:=k5) (newId := "ValueError.__new__") (by simp) hr.hd ?_;refine wpAny_bind (wpAny_mono (Q:=fun v s1=>∃ e dx vs,v=.ref e/\s1.heap.get? C=some (excClassObj nm q C Na bs (.ref D::My.vB) true sn sub ab col dd k0 k1 k2 k3 k5 "ValueError.__new__")/\s1.heap.get? e=some (Om C dx vs)/\vs[1]? = some .none/\X.xe (.ref e) s1) ?_ (fun v s1 h1=>wpAny_bind (wpAny_standAt (wpAny_pure h1))) fun _ _ z=>z);refine wpAny_Call_Name_kw (Io I hg hm ?_ aP);refine PySem.W.callWith_K (h₀:=X.base) I.ok.mod.kin c.kp (thn (nu ha v9 (by rw [he]; rfl) ay pins s σ H (fun vs H1=>match vs with | [v]=>∀ dx,H1 dx=none->E (.ref C) (some dx) (upd H1 dx (Bg dx f v)) | _=>False) I h) fun us s1 ⟨vs,H1,I1,r,q⟩=>⟨I1.kIn,?_⟩) he rfl
 obtain ⟨v,ev,hE⟩:∃ v,vs=[v]/\∀ dx,H1 dx=none->E (.ref C) (some dx) (upd H1 dx (Bg dx f v)):=by
  match vs,q with
  | [v],q=>exact ⟨v,rfl,q⟩
 subst ev;obtain ⟨u,eu,rv⟩:=r.one;subst eu
 exact a3n c F hr hb I1 rv fun s' e t dx h1 h2 h3 h4 I2=>by
  have e0:upd H1 dx (Bg dx f v) e=none:=by rw [g8 (Ne.symm h3)]; exact h1
  have bT:s'.heap.get? e=some (My.Yq C t dx):=(I2.hok e _ dj).1;have I3:=I2.a4r e0;exact ⟨e,dx,_,rfl,I3.kIn _ _ lk,bT,rfl,W pins σ _ s' e C dx _ I3 bT rfl e0 (Nat.le_trans I1.sz h4) (hE dx h2)⟩
end
def Off (X:Cx) (pins:List (Addr × Obj)) (b:Addr):Prop:=(b∈X.ex\/X.s₀.heap.objs.size<=b)/\b≠X.env.locals/\(∀ x c,X.env.cells.lookup x=some c->c≠b)/\∀ p∈X.pn++pins,p.1≠b
section
variable {X:Cx} {pins:List (Addr × Obj)} {σ:St} {H:Hp} {s:Shared}
theorem Inv.off {b:Addr} (I:Inv X pins σ H s) (h:s.heap.objs.size<=b):Off X pins b:=by
 refine ⟨.inr (Nat.le_trans I.sz h),fun z=>?_,fun x c q z=>?_,fun p hp z=>?_⟩
 ·subst z; exact absurd (Nat.lt_of_lt_of_le I.lt h) (Nat.lt_irrefl _)
 ·obtain ⟨v,o,ho,_⟩:=I.cell x c q;subst z; exact absurd (Nat.lt_of_lt_of_le (Heap.lt_size ho) h) (Nat.lt_irrefl _)
 ·have:=(I.pin p hp).1;rw [z] at this;exact absurd (Nat.lt_of_lt_of_le (Heap.lt_size this) h) (Nat.lt_irrefl _)
def XP (X:Cx) (CX:CXT) (pins:List (Addr × Obj)) (σ:St) (E:XK) (e:Value) (s':Shared):Prop:=∃ H1 s1,Inv X pins σ H1 s1/\CX X.stack H1 s1 E e s'
structure Lies (X:Cx) (pins:List (Addr × Obj)) (σ:St) (H:Hp) (s:Shared) (a C dx T:Addr):Prop where
 inv:Inv X pins σ H s
 at_:XAt s.heap a C dx T .none
 ha:H a=none
 hT:H T=none
 oa:Off X pins a
 oT:Off X pins T
theorem XP.lies {E:XK} {e:Value} (h:XP X (CXx X.prog X.w) pins σ E e s):∃ a C dx T H',e=.ref a/\Lies X pins σ H' s a C dx T/\E (.ref C) (some dx) H':=by
 obtain ⟨H1,s1,I,a,C,dx,T,H',rfl,za,zT,x,na,nT,os,ba,un,hok,hE⟩:=h;exact ⟨a,C,dx,T,H',rfl,⟨I.call' (ch:=[]) os un hok ba (fun b z=>nomatch z),x,na,nT,I.off za,I.off zT⟩,hE⟩
end
section
variable {X:Cx} {CX:CXT} {k:Nat} {f:Addr} {fd:FuncData} {ps:List Str} {sp:Sp} {x:Str} {p pos:Pos} {e:Expr} {es:List Expr} {t:TA}
theorem a4z (F:Bj X.prog X.w X.K X.mg X.base CX k f fd ps sp) (hr:Ab k X.A) (hg:Gl X x) (hm:X.mg x=some (.ref f)) (hk:PySem.W.keepIn X.K (.ref f)=true) (hb:Binds X.K fd ps []) (ha:PA X.nox (e::es) t)
  (aP:(x==("__debug__" : Str))=false:=by decide) (he:starEach (e::es) X.env=(false,eval e X.env)::starEach es X.env:=by rfl) (aI:(backTo pos (starEach es X.env)).any (·.1)=false:=by rfl)
  (pins:List (Addr × Obj)) (s:Shared) (σ:St) (H:Hp) (Q:VK) (E:XK) (I:Inv X pins σ H s) (h:t σ H fun vs H1=>sp vs H1 Q E) :
  wpAny (model X.prog X.w) X.A (eval (.Call (.Name x p) (e::es) [] pos) X.env) (EP X pins σ Q) (XP X CX pins σ E) s:=by
 refine wpAny_Call_Name_kw (Io I hg hm ?_ aP);refine PySem.W.callWith_K (h₀:=X.base) I.ok.mod.kin hk (wpAny_mono (ha pos pins s σ H _ (I.wish _) h) (fun us s1 z0=>?_) fun _ _ z=>False.elim z) he aI;obtain ⟨vs,H1,I1',r,q⟩:=z0;have I1:=I1'.Bx;refine ⟨I1.kIn,?_⟩;have r2:Vals vs (us++[]):=by rw [List.append_nil]; exact r
 have hl:(us++[]).length=ps.length:=by rw [<- r2.length]; exact F.len _ _ _ _ q
 refine wpAny_call (codeAny_mono (F.run X.A X.stack s1 H1 ⟨us,[]⟩ (us++[]) vs Q E hr I1.env0 (hb s1 us I1.kIn hl) r2 q) fun r s' hq=>?_);cases r with
 | error e=>exact ⟨H1,s1,I1,hq⟩
 | ok fl =>
  cases fl with
  | ret u=>exact I1.after hq
  | next=>exact False.elim hq
  | brk=>exact False.elim hq
  | cont=>exact False.elim hq
end
abbrev Cx.mk' (X:Cx) (a:Addr):Cx:={ X with A:=X.A.mark (some (.ref a)),calm:=false,xe:=fun _ _=>False }
section
variable {X:Cx} {pins:List (Addr × Obj)} {σ:St} {H:Hp} {s:Shared} {a:Addr}
theorem Inv.mk' (I:Inv X pins σ H s) (a:Addr):Inv (X.mk' a) pins σ H s :=
 ⟨⟨I.ok.mod,I.ok.kind,I.ok.glob,I.ok.blt,I.ok.above,I.ok.inj,I.ok.has,I.ok.cab,(fun z=>nomatch z),I.ok.frames,I.ok.stk,I.ok.exf,I.ok.bs,I.ok.bsz,I.ok.noex,I.ok.exfs,I.ok.Pr,I.ok.frf⟩,I.os,I.bare,I.base,I.loc,I.cell,I.free,I.freeC,I.pin,I.hok,I.len⟩
theorem Inv.a8k (I:Inv (X.mk' a) pins σ H s) (hd:X.calm=true->X.A.handled=none):Inv X pins σ H s :=
 ⟨⟨I.ok.mod,I.ok.kind,I.ok.glob,I.ok.blt,I.ok.above,I.ok.inj,I.ok.has,I.ok.cab,hd,I.ok.frames,I.ok.stk,I.ok.exf,I.ok.bs,I.ok.bsz,I.ok.noex,I.ok.exfs,I.ok.Pr,I.ok.frf⟩,I.os,I.bare,I.base,I.loc,I.cell,I.free,I.freeC,I.pin,I.hok,I.len⟩
theorem name_goes {M:Model} {A:Around} {E:Value->Shared->Prop} {Q:Unit->Shared->Prop} {i:Nat} {n:Str} {pos:Pos} (I:Inv X pins σ H s) (hN:X.N.Nodup) (hi:X.N[i]? = some n) (hx:X.env.scope.names.lookup n=some .local)
  (h:∀ s',Inv X pins (σ.set i none) H s'->Q () s'):wpAny M A (do bindName X.env n .none; unbindBehindTheSuite X.env n pos) Q E s:=by
 obtain ⟨m,hn,hl⟩:=id I.loc;have cf:(X.env.scope.kind == .class||(X.env.scope.kind == .module&&X.env.locals != X.env.globals))=false:=by rw [I.ok.kind]; rfl
 have bP:i<σ.length:=by rw [I.len]; exact (List.getElem?_eq_some_iff.mp hi).1
 obtain ⟨oL,_,_,hoL,_⟩:=id hn;refine wpAny_nameGoes_keeps hx hn cf fun h' v dE hs=>h _ ?_;have nL:∀ b o,X.s₀.heap.get? b=some o->b≠X.env.locals:=fun b o e=>Nat.ne_of_lt (Nat.lt_of_lt_of_le (Heap.lt_size e) I.ok.above);refine ⟨I.ok,I.os,I.bare,⟨fun b o e n hb hx=>(hs.2 b (nL b o e)).trans (I.base.keep b o e n hb hx),fun b o e n hb hx=>?_,I.base.free,fun b o e hx=>?_,I.base.tups,I.base.frzs,I.base.tbls⟩,⟨_,dE,fun j y v' e1 e2 e3=>?_⟩,fun y c e=>?_,I.free,I.freeC,fun p hp=>?_,fun b u e=>?_,by rw [List.length_set]; exact I.len⟩
 ·obtain ⟨sl,e1⟩:=I.base.slot b o e n hb hx;exact ⟨sl,(hs.2 b (nL b o e)).trans e1⟩
 ·obtain ⟨o',e1⟩:=I.base.there b o e hx;exact ⟨o',(hs.2 b (nL b o e)).trans e1⟩
 ·by_cases hj:j=i
  ·subst hj;rw [List.getElem?_set_self bP] at e2; cases e2
  ·rw [List.getElem?_set_ne (Ne.symm hj)] at e2;obtain ⟨u',r',q⟩:=hl j y v' e1 e2 e3;refine ⟨u',r',?_⟩;rcases q with ⟨k,e⟩ | ⟨k,c,e,z⟩
   ·have:y≠n:=fun e=>hj (Jq hN e1 (e ▸ hi));exact .inl ⟨k,by simp [this,e]⟩
   ·exact .inr ⟨k,c,e,z.sameBut hs (I.cne y c e)⟩
 ·obtain ⟨w',z⟩:=I.cell y c e;exact ⟨w',z.sameBut hs (I.cne y c e)⟩
 ·obtain ⟨e,n,ne,nf,d⟩:=I.pin p hp;exact ⟨(hs.2 p.1 ne).trans e,n,ne,nf,d⟩
 ·have tr:∀ c x,H c=some x->c≠X.env.locals:=fun c x q z=>by rw [z,I.free] at q; cases q
  refine (I.hok b u e).stay (fun c w hc q=>(hs.2 c ?_).trans q) (fun _ q=>q) fun _ _ q=>q;rcases hc with hc | hc
  ·subst hc; exact tr c u e
  ·exact tr c _ hc
end
def XCl (K:PySem.W.Frag) (C:Addr) (bm:List Value):Prop:=bm.contains (.type "BaseException")=true/\∃ nm q Na bs hdct sn sub ab col dd k0 k1 k2 k3 k5,K.lookup C=some (excClassObj nm q C Na bs bm hdct sn sub ab col dd k0 k1 k2 k3 k5 "ValueError.__new__")
section
variable {M:Model} {A:Around} {E:Value->Shared->Prop} {K:PySem.W.Frag} {C C1 C2 C3:Addr} {bm cX f7 fV:List Value} {Q:Bool->Shared->Prop}
theorem Wm {s:Shared} {a:Addr} {o:Obj} (X:K.In s.heap) (c:XCl K C bm) (c1:XCl K C1 cX) (he:s.heap.get? a=some o) (hc:o.cls=.ref C) (h:Q ((Value.ref C::bm).contains (.ref C1)) s):wpAny M A (excMatches (.ref a) (.ref C1)) Q E s:=by
 obtain ⟨_,nm,q,Na,bs,hdct,sn,sub,ab,col,dd,k0,k1,k2,k3,k5,lk⟩:=c;obtain ⟨b1,nm',q',Na',bs',hdct',sn',sub',ab',col',dd',k0',k1',k2',k3',k5',lk'⟩:=c1;obtain ⟨hp,g,d,tk,os⟩:=s;have hC:=X _ _ lk;have h1:=X _ _ lk';have e1:(Value.ref C1::cX).contains (.type "BaseException")=true:=by rw [List.contains_cons,b1,Bool.or_true]
 have f:=tc_notTuple;unfold excMatches
 repeat (first | (with_reducible refine wpAny_loadPart_at he ?_; rw [hc]) | with_reducible refine wpAny_loadPart_at h1 ?_ | (with_reducible refine wpAny_isSubtype_exc h1 ?_; rw [e1]) | with_reducible refine wpAny_isSubtype_exc hC ?_ | wp_step)
 cases hb:(Value.ref C::bm).contains (.ref C1) <;> (rw [hb] at h; wp_walk; exact h)
end
section
variable {X:Cx} {pins:List (Addr × Obj)} {σ:St} {H:Hp} {s:Shared} {a C dx T:Addr}
theorem Lies.mk' (L:Lies X pins σ H s a C dx T) (b:Addr):Lies (X.mk' b) pins σ H s a C dx T:=⟨L.inv.mk' b,L.at_,L.ha,L.hT,L.oa,L.oT⟩
theorem Lies.eval {e:Expr} {te:TE} {Q:VK} (L:Lies X pins σ H s a C dx T) (he:PE X e te) (h:te σ H Q) :
  wpAny (model X.prog X.w) X.A (eval e X.env) (fun u s'=>∃ v H1,Lies X pins σ H1 s' a C dx T/\RelV v u/\Q v H1) X.xe s:=by
 obtain ⟨ne,⟨vs,g1,v1⟩,o,ts,g2,d2,t3⟩:=L.at_
 have fs:∀ b,b∉frs X.stack->b≠X.env.locals->b∉X.fs:=fun b h1 _ z=>by
  rcases L.inv.ok.stk with q | ⟨q,_⟩
  ·rw [q] at h1; exact h1 z
  ·rw [q] at h1;refine h1 ?_;unfold frs;rw [List.filterMap_cons];split
   ·exact z
   ·exact List.mem_cons_of_mem _ z
 have n1:=L.inv.Bu g1 rfl;have n2:=L.inv.Bu g2 d2
 have I:=L.inv.Bk (pins':=(a,Om C dx vs)::(T,o)::pins) fun p hp=>by
  rcases List.mem_cons.mp hp with rfl | hp
  ·exact ⟨g1,L.ha,n1.1,fs a n1.2.2 n1.1,fun v q=>by cases q⟩
  ·rcases List.mem_cons.mp hp with rfl | hp
   ·exact ⟨g2,L.hT,n2.1,fs T n2.2.2 n2.1,fun v q=>by rw [d2] at q; cases q⟩
   ·exact L.inv.pin p (List.mem_append_right _ hp)
 refine thn (he _ s σ H Q I h) fun u s1 z0=>?_;obtain ⟨v,H1,I1,r,q⟩:=z0;obtain ⟨e1,z1,_⟩:=I1.pin (a,Om C dx vs) (List.mem_append_right _ List.mem_cons_self);obtain ⟨e2,z2,_⟩:=I1.pin (T,o) (List.mem_append_right _ (List.mem_cons_of_mem _ List.mem_cons_self));refine ⟨v,H1,⟨I1.Bk fun p hp=>I1.pin p (List.mem_append_right _ (List.mem_cons_of_mem _ (List.mem_cons_of_mem _ hp))),⟨ne,⟨vs,e1,v1⟩,o,ts,e2,d2,t3⟩,z1,z2,L.oa,L.oT⟩,r,q⟩
end
def PHs (X:Cx) (hs:List ExceptHandler) (C:Addr) (t:Addr->TS):Prop :=
 ∀ (pins:List (Addr × Obj)) (s:Shared) (σ:St) (H:Hp) (D:Ends) (a dx T:Addr),Lies X pins σ H s a C dx T->t dx D σ H->wpAny (model X.prog X.w) X.A (handleBy (.ref a) X.env hs) (SP X pins D) X.xe s
section
variable {X:Cx} {rest:List ExceptHandler} {C C1 C2 C3:Addr} {bm cX f7 fV:List Value} {t:Addr->TS} {x1 x2 x3:Str} {p1 p2 p3 pt pos:Pos} {nm:Option Str} {body:List Stmt} {ec:Nat}
end
def O7 (a C dx:Addr):HO:=.ext fun h=>∃ vs,h.get? a=some (Om C dx vs)
section
variable {X:Cx} {pins:List (Addr × Obj)} {σ:St} {H:Hp} {s:Shared} {a C dx T:Addr}
theorem Lies.seen (L:Lies X pins σ H s a C dx T):Inv X pins σ (upd H a (O7 a C dx)) s:=by
 have I:=L.inv;obtain ⟨_,⟨vs,ga,_⟩,_⟩:=L.at_;have ne:∀ b u,H b=some u->b≠a:=fun b u q=>um q L.ha
 refine I.step (g':=s.gens) (d':=s.drawn) (t':=s.toks) (h':=s.heap) (ch:=[a]) (fun b hb=>?_) (fun b o _ _ _ q _=>q) (fun b o _ _ _ q _=>⟨o.slots,q⟩) (fun b o hb _ n=>by rw [g8 (fun z=>hb (by simp [z]))]; exact n) (fun b o _ q=>⟨o,q⟩)
  (fun b xs q=>by rw [g8 (ne b _ q)]; exact q) (fun b o u q=>by rw [g8 (ne b _ q)]; exact q) (fun b ps q=>⟨#[],by rw [g8 (ne b _ q),q]; simp⟩) (fun _ hm=>hm) (fun b u q=>?_) I.bare
 ·obtain rfl:=List.mem_singleton.mp hb;exact L.oa
 ·by_cases z:b=a
  ·subst z; rw [dj] at q; cases q;exact ⟨⟨vs,ga⟩,⟨_,ga⟩,fun h1 h2 ⟨ws,e⟩ k=>⟨ws,k _ e⟩⟩
  ·rw [g8 z] at q;exact (I.hok b u q).stay (fun _ _ _ r=>r) (fun c r=>by rw [g8 (ne c _ r)]; exact r) fun c xs r=>by rw [g8 (ne c _ r)]; exact r
theorem Lies.flight {M:Model} {A:Around} {E:Value->Shared->Prop} {Q:Unit->Shared->Prop} (L:Lies X pins σ H s a C dx T) (h:∀ s',Lies X pins σ H s' a C dx T->Q () s'):wpAny M A (setFlight (.ref a) none) Q E s :=
 Ai L.at_ fun h' k x=>h _ ⟨L.inv.noted (k.mono (fun _ z=>nomatch z) (fun _ z=>z)) (fun b hb=>by rw [List.mem_singleton.mp hb]; exact L.hT) (fun b hb=>by rw [List.mem_singleton.mp hb]; exact L.oT),x,L.ha,L.hT,L.oa,L.oT⟩
theorem Lies.note {A:Around} {E:Value->Shared->Prop} {Q:Unit->Shared->Prop} (hst:X.stack=X.env::X.outer) (hfr:X.env.frame=some X.env.locals) (hA:A.frames=some X.stack) (L:Lies X pins σ H s a C dx T) (h:∀ s' T',Lies X pins σ H s' a C dx T'->Q () s') :
  wpAny (model X.prog X.w) A (noteFrame (.ref a) X.env) (fun _ s2=>wpAny (model X.prog X.w) A (setFlight (.ref a) none) Q E s2) E s:=by
 obtain ⟨ne,⟨vs,ga,v1⟩,o,ts,gT,dT,t3⟩:=id L.at_;have n1:=L.inv.Bu ga rfl;have n2:=L.inv.Bu gT dT;have fr:=L.inv.stack;rw [hst] at hA n1 n2 fr;refine M6 (L:=X.env.locals) (base:=X.base) hA fr hfr L.at_ n1.2.2 n2.2.2 fun h' T' bG k x=>?_;rw [<- hst] at k
 have I1:=L.inv.noted k (fun b hb=>by
  rcases List.mem_cons.mp hb with rfl | hb -- here
  ·exact L.ha
  ·rw [List.mem_singleton.mp hb]; exact L.hT) (fun b hb=>by
  rcases List.mem_cons.mp hb with rfl | hb -- here
  ·exact L.oa
  ·rw [List.mem_singleton.mp hb]; exact L.oT)
 refine Ai (s:={ s with heap:=h' }) x fun h2 k2 x2=>h _ T' ⟨I1.noted (h':=h2) (k2.mono (fun _ z=>nomatch z) (fun _ z=>z)) (fun b hb=>by rw [List.mem_singleton.mp hb]; exact L.inv.hok.fresh bG) (fun b hb=>by rw [List.mem_singleton.mp hb]; exact L.inv.off bG),x2,L.ha,L.inv.hok.fresh bG,L.oa,L.inv.off bG⟩
end
noncomputable def a6p (i:Nat) (D:Ends):Ends where
 nx:=fun σ H=>D.nx (σ.set i none) H
 rt:=D.rt
 bk:=fun σ H=>D.bk (σ.set i none) H
 ct:=fun σ H=>D.ct (σ.set i none) H
section
variable {X:Cx} {rest:List ExceptHandler} {C C1:Addr} {bm cX:List Value} {t:Addr->TS} {x1 n:Str} {p1 pos:Pos} {c6:Stmt} {bW:List Stmt} {ts:TS} {i:Nat}
theorem a2i (hd:X.calm=true->X.A.handled=none) (hN:X.N.Nodup) (hi:X.N[i]? = some n) (hn:X.env.scope.names.lookup n=some .local) (c:XCl X.K C bm) (c1:XCl X.K C1 cX) (y:(Value.ref C::bm).contains (.ref C1)=true) (g1:Gl X x1) (m1:X.mg x1=some (.ref C1))
  (hS:∀ a,PSs (X.mk' a) (c6::bW) ts) (d1:(x1==("__debug__" : Str))=false:=by decide) :
  PHs X (.ExceptHandler (some (.Name x1 p1)) (some n) (c6::bW) pos::rest) C fun dx D σ H=>∀ a,H a=none->i<σ.length->ts (a6p i D) (σ.set i (some (.ref a))) (upd H a (O7 a C dx)):=by
 intro pins s σ H D a dx T L hq;refine wpAny_handleBy_cons (codeAny_handlers_test ?_) (by intro q; cases q);have pe:PE (X.mk' a) (.Name x1 p1) (tC (.ref C1)):=Bp g1 m1 rfl d1;refine wpAny_mono ((L.mk' a).eval (Q:=fun v H1=>v=.ref C1/\H1=H) pe ⟨rfl,rfl⟩) (fun u s1 z0=>?_) fun _ _ z=>False.elim z;obtain ⟨v,H1,L1,r,ev,eH⟩:=z0;subst ev;subst eH;obtain rfl:u=Value.ref C1:=r;obtain ⟨_,⟨vs,ga,_⟩,_⟩:=L1.at_;refine Wm L1.inv.kIn c c1 ga rfl ?_;rw [y];refine codeAny_handlers_suite_as ?_;refine L1.flight fun s2 L2=>?_;refine Ke (X:=X.mk' a) (v:=.ref a) L2.seen hN hi (.inl hn) rfl (fun s3 I3=>?_) (.inr hn);refine wpAny_mono (hS a pins s3 _ _ _ I3 (hq a L.ha (by rw [L.inv.len]; exact (List.getElem?_eq_some_iff.mp hi).1))) (fun fl s4 h4=>?_) fun _ _ z=>False.elim z;cases fl with
 | next =>
  obtain ⟨ah,H',I4,q⟩:=h4;exact name_goes (I4.a8k hd) hN hi hn fun s5 I5=>⟨_,H',I5,q⟩
 | brk =>
  obtain ⟨ah,H',I4,q⟩:=h4;exact name_goes (I4.a8k hd) hN hi hn fun s5 I5=>⟨_,H',I5,q⟩
 | cont =>
  obtain ⟨ah,H',I4,q⟩:=h4;exact name_goes (I4.a8k hd) hN hi hn fun s5 I5=>⟨_,H',I5,q⟩
 | ret u =>
  obtain ⟨v,ah,H',I4,r,q⟩:=h4;exact name_goes (I4.a8k hd) hN hi hn fun s5 I5=>⟨v,_,H',I5,r,q⟩
end
abbrev TB:=Ends->XK->St->Hp->Prop
def PB (X:Cx) (st:List Stmt) (t:TB):Prop :=
 ∀ (pins:List (Addr × Obj)) (s:Shared) (σ:St) (H:Hp) (D:Ends) (E:XK),Inv X pins σ H s->t D E σ H->wpAny (model X.prog X.w) X.A (execs st X.env) (SP X pins D) (XP X (CXx X.prog X.w) pins σ E) s
noncomputable def a97 (C:Addr) (tb:TB) (th:Addr->TS):TS:=fun D σ H=>tb D (fun cls dx H'=>∃ d,cls=.ref C/\dx=some d/\th d D σ H') σ H
section
variable {X:Cx} {body:List Stmt} {h₀:ExceptHandler} {hs:List ExceptHandler} {C:Addr} {tb:TB} {th:Addr->TS} {pos:Pos}
theorem a77 (hst:X.stack=X.env::X.outer) (hfr:X.env.frame=some X.env.locals) (hb:PB X body tb) (hh:PHs X (h₀::hs) C th):PS X (.Try body (h₀::hs) [] [] pos) (a97 C tb th):=by
 intro pins s σ H D I h;refine wpAny_Try_except (wpAny_mono (hb pins s σ H D _ I h) (fun f s1 q=>?_) fun e s1 q=>?_)
 ·cases f with
  | next=>exact wpAny_execs_nil q
  | brk=>exact q
  | cont=>exact q
  | ret u=>exact q
 ·obtain ⟨a,C',dx,T,H',rfl,L,d,e1,e2,q⟩:=q.lies;cases e1;cases e2;exact L.note hst hfr L.inv.ok.frames fun s2 T' L2=>hh pins s2 σ H' D a dx T' L2 q
end
end L2
end
section
namespace C
open PySem PySem.Spec PyProof.Rows L2
def aao (K:PySem.W.Frag) (B:Bas) (Cl:Addr) (f:Str) (E:XK) (D:Ends) (ps:List (V × T)):Flow ⊕ T->Sta->Prop
 | .inl fl,aa=>Fin K B D ps fl aa
 | .inr t,aa=>∀ v dx ah H' S' ai,Rel K B aa ah H' ((v,t)::ps) S' ai->S' dx=some (Bg dx f v)->E (.ref Cl) (some dx) H'
noncomputable def J4 (K:PySem.W.Frag) (B:Bas) (Cl:Addr) (f:Str) (E:XK) (s:SX):TS:=fun D σ H=>∃ st ps S as,Rel K B st σ H ps S as/\∃ fl aa,s st=some (fl,aa)/\aao K B Cl f E D ps fl aa
theorem Ext.beside {S H:Hp} {p:Addr} (h:Same S H) (n:H p=none) (o:HO):Ext S H S (upd H p o) :=
 ⟨Same.refl _,Same.upd n o,fun b u q=>by rw [g8 (um (h _ _ q) n)]; exact h _ _ q,fun _ q=>.inl q⟩
section
variable {K:PySem.W.Frag} {B:Bas} {st:Sta} {σ ah:L2.St} {H S:Hp} {ps:List (V × T)} {as:List Addr}
theorem Rel.clr {i:Nat} (r:Rel K B st σ H ps S as) (h:∀ k,k≠i->ah[k]? = σ[k]?) (hl:ah.length=σ.length):Rel K B (clr i st) ah H ps S as:=by
 have key:∀ (k:Nat) t f,(st.env.set i none)[k]? = some (some (t,f))->k≠i/\st.env[k]? = some (some (t,f)):=fun k t f e=>by
  by_cases z:i=k
  ·subst z
   by_cases q:i<st.env.length
   ·rw [List.getElem?_set_self q] at e; cases e
   ·rw [List.getElem?_eq_none (by rw [List.length_set]; exact Nat.le_of_not_lt q)] at e; cases e
  ·rw [List.getElem?_set_ne z] at e; exact ⟨Ne.symm z,e⟩
 refine ⟨r.sub,r.grow,fun k t f e=>?_,fun a b t u p ea eb sa sb=>?_,r.sto,r.pend,by rw [hl,r.len]; exact (List.length_set ..).symm⟩
 ·obtain ⟨n,e'⟩:=key k t f e;rw [h k n]; exact r.slots k t f e'
 ·obtain ⟨na,ea'⟩:=key a t true ea;obtain ⟨nb,eb'⟩:=key b u true eb;rw [h a na] at sa;rw [h b nb] at sb;exact r.apart a b t u p ea' eb' sa sb
end
section
variable {X:Cx} {B:Bas} {c:Expr} {pos:Pos} {u v:SX} {Cl:Addr} {f:Str} {E:XK}
theorem sy {st:Stmt} {w:S} (h:PS X st (sOf X.K B w)):PS X st (J4 X.K B Cl f E (lx w)):=h.imp fun D σ H z9=>by
 obtain ⟨st,ps,S,as,R,fl,aa,e,q⟩:=z9;unfold lx at e;cases z:w st with
 | none=>rw [z] at e; cases e
 | some p=>obtain ⟨cy,s'⟩:=p; rw [z] at e; cases e; exact ⟨st,ps,S,as,R,cy,_,z,q⟩
theorem zy {st:List Stmt} {w:S} (h:PSs X st (sOf X.K B w)):PSs X st (J4 X.K B Cl f E (lx w)):=fun pins s σ H D I z9=>by
 obtain ⟨st,ps,S,as,R,fl,aa,e,q⟩:=z9;unfold lx at e;cases z:w st with
 | none=>rw [z] at e; cases e
 | some p=>obtain ⟨cy,s'⟩:=p; rw [z] at e; cases e; exact h pins s σ H D I ⟨st,ps,S,as,R,cy,_,z,q⟩
theorem su {st:Stmt} (h1:PS X st (J4 X.K B Cl f E u)):PSs X [st] (J4 X.K B Cl f E u):=Nt h1
theorem a05 {st aa:Sta} {fl:Flow ⊕ T} (h:vq u v st=some (fl,aa)):(∃ s1,u st=some (.inl .next,s1)/\v s1=some (fl,aa))\/(u st=some (fl,aa)/\fl≠.inl .next):=by
 unfold vq at h;split at h
 ·rename_i s1 e; exact .inl ⟨s1,e,h⟩
 ·rename_i r hn;refine .inr ⟨h,fun z=>?_⟩;subst z;exact hn _ h
theorem iw {st:Stmt} {rest:List Stmt} (h1:PS X st (J4 X.K B Cl f E u)) (h2:PSs X rest (J4 X.K B Cl f E v)):PSs X (st::rest) (J4 X.K B Cl f E (vq u v)):=(Q7 h1 h2).imp fun D σ H z9=>by
 obtain ⟨st,ps,S,as,R,fl,aa,e,q⟩:=z9;rcases a05 e with ⟨s1,e1,e2⟩ | ⟨e1,hn⟩
 ·exact ⟨st,ps,S,as,R,.inl .next,s1,e1,fun ah H' S' ai R'=>⟨s1,ps,S',ai,R',fl,aa,e2,q⟩⟩
 ·refine ⟨st,ps,S,as,R,fl,aa,e1,?_⟩;cases fl with
  | inr t=>exact q
  | inl fl =>
   cases fl with
   | next=>exact absurd rfl hn
   | ret t=>exact q
   | brk=>exact q
   | cont=>exact q
theorem M5 {c1:M Bool} {sa sb:List Stmt} (hc:PT X c (cOf X.K B c1)) (ha:PSs X sa (J4 X.K B Cl f E u)) (hb:PSs X sb (J4 X.K B Cl f E v)):PS X (.If c sa sb pos) (J4 X.K B Cl f E (xIf c1 u v)):=(a83 hc ha hb).imp fun D σ H z9=>by
 obtain ⟨st,ps,S,as,R,fl,aa,e,q⟩:=z9;unfold xIf at e;split at e
 ·rename_i s1 e1;exact ⟨st,ps,S,as,R,true,s1,e1,fun H1 S1 ag R1=>Wk ⟨s1,ps,S1,ag,R1,fl,aa,e,q⟩⟩
 ·rename_i s1 e1;exact ⟨st,ps,S,as,R,false,s1,e1,fun H1 S1 ag R1=>Vk ⟨s1,ps,S1,ag,R1,fl,aa,e,q⟩⟩
 ·cases e
theorem Yt {D fI:Addr} {p x:Str} {fd:FuncData} {arg:Expr} {m:M T} {np ay:Pos} (W:XW X E) (c:XC X.K Cl D fI f) (F:Bj X.prog X.w X.K X.mg X.base CX0 1 fI fd ["self",p] (Le Cl f)) (hr:Ab 2 X.A) (hb:Binds X.K fd ["self",p] []) (hg:Gl X x) (hm:X.mg x=some (.ref Cl)) (ha:PE X arg (tOf X.K B m))
  (aP:(x==("__debug__" : Str))=false:=by decide) (he:starEach [arg] X.env=[(false,eval arg X.env)]:=by rfl) :
  PS X (.Raise (some (.Call (.Name x np) [arg] [] ay)) none pos) (J4 X.K B Cl f E (Ig m)):=(a09 W c F hr hb hg hm ha aP he).imp fun D σ H z9=>by
 obtain ⟨st,ps,S,as,R,fl,aa,e,q⟩:=z9;unfold Ig at e;split at e
 ·rename_i t s1 e1;cases e;exact ⟨st,ps,S,as,R,t,_,e1,fun v H1 S1 ag R1 dx hn=>q v dx σ _ _ ag (R1.ext (Ext.laid R1.sub hn _)) dj⟩
 ·cases e
end
def ab6 (K:PySem.W.Frag) (B:Bas) (Cl:Addr) (f:Str) (ae:List SO) (Q:VK) (E:XK):T ⊕ T->Prop
 | .inl t=>∀ v H' S' ai,a7c B S' ai H'->Same S' H'->Fq K S' ai H' ae->Rep K S' ai v t->Q v H'
 | .inr t=>∀ v dx H' S' ai,a7c B S' ai H'->Same S' H'->Fq K S' ai H' ae->Rep K S' ai v t->S' dx=some (Bg dx f v)->E (.ref Cl) (some dx) H'
noncomputable def spX (K:PySem.W.Frag) (ar:Nat) (Cl:Addr) (f:Str) (F:FnX):Sp:=fun vs H Q E=>∃ S as sto ts r ae,Same S H/\Fq K S as H sto/\qg K S as vs ts/\ts.length=ar/\F ts sto=some (r,ae)/\ab6 K ⟨S,as,H⟩ Cl f ae Q E r
section
variable {P:Program} {w:World} {K:PySem.W.Frag} {mg:Str->Option Value} {base:Heap}
theorem Qx {x qual:Str} {st:Stmt} {a Cl:Addr} {f:Str} {fd:FuncData} {N ps:List Str} {k:Nat} {b:SX} (F:Fun K x qual st a fd) (Sc:Ad N ps (gn st)) (hN:ps.length<=N.length)
  (hb:∀ (aC:Value) (A:Around) (outer:List Env) (s:Shared) (H:Hp) (E:XK) (B:Bas),Ab k (A.deeper (envOfC qual (gn st) s.heap.objs.size a aC)) ->
   PSs (M7 (CXx P w) P w K mg base N qual (gn st) a aC A outer s H E) (v8 st) (J4 K B Cl f E b)):Bj P w K mg base (CXx P w) (k+1) a fd ps (spX K ps.length Cl f (rm N.length b)):=by
 obtain ⟨oc,od,kV,doc,pm,an,aC,ct,bA,rfl,lk,a7⟩:=F.ex;refine a5u lk a7 Sc (fun vs H Q E ⟨S,as,sto,ts,t,ae,h1,h2,h3,h4,_⟩=>by rw [h3.length,h4]) fun A outer s H vs Q E hr h=>?_;obtain ⟨S,as,sto,ts,r,ae,h1,h2,h3,h4,h5,q⟩:=h;refine ⟨_,hb aC A outer s H E ⟨S,as,H⟩ hr,?_⟩;have R:Rel K ⟨S,as,H⟩ ⟨ts.map (fun t=>some (t,false))++List.replicate (N.length - ts.length) none,sto⟩ (L2.start N vs) H [] S as:=Mp h1 h2 h3 (by rw [h4]; exact hN);unfold rm at h5;split at h5
 ·rename_i t' s' e;cases h5;exact ⟨_,[],S,as,R,.inl (.ret _),s',e,fun v ah H' S' ai R'=>q v H' S' ai R'.grow R'.sub R'.sto R'.top⟩
 ·rename_i s' e;cases h5;exact ⟨_,[],S,as,R,.inl .next,s',e,fun ah H' S' ai R'=>q .non H' S' ai R'.grow R'.sub R'.sto .non⟩
 ·rename_i t' s' e;cases h5;exact ⟨_,[],S,as,R,.inr _,s',e,fun v dx ah H' S' ai R' hd=>q v dx H' S' ai R'.grow R'.sub R'.sto R'.top hd⟩
 ·cases h5
theorem a4h {a Cl:Addr} {f:Str} {fd:FuncData} {ps:List Str} {k:Nat} {F:FnX} (G:Bj P w K mg base (CXx P w) k a fd ps (spX K ps.length Cl f F)):Bj P w K mg base CX0 k a fd ps (spF K ps.length (norm F)):=by
 refine ⟨fun vs H Q E ⟨S,as,sto,ts,t,ae,h1,h2,h3,h4,_⟩=>by rw [h3.length,h4],fun A outer s H args us vs Q E hr he hb hv h=>?_⟩;obtain ⟨S,as,sto,ts,t,ae,h1,h2,h3,h4,h5,q⟩:=h;unfold norm at h5;split at h5
 ·rename_i t1 s1 e;cases h5;refine codeAny_mono (G.run A outer s H args us vs Q (fun _ _ _=>False) hr he hb hv ⟨S,as,sto,ts,.inl _,_,h1,h2,h3,h4,e,q⟩) fun r s' hq=>?_;cases r with
  | ok fl=>cases fl <;> exact hq
  | error e =>
   obtain ⟨_,_,_,_,_,_,_,_,_,_,_,_,_,_,_,z⟩:=hq;exact z
 ·cases h5
end
section
variable {X:Cx} {B:Bas} {e:Expr} {es:List Expr} {ms:M (List T)} {pos p q1 q2 aM:Pos} {k:Nat} {a Cl:Addr} {f x:Str} {fd:FuncData} {pn:List Str} {F:FnX} {h₀:ExceptHandler} {hs:List ExceptHandler} {th:Addr->TS} {i j:Nat} {hv:T->Option T}
theorem a2x (G:Bj X.prog X.w X.K X.mg X.base (CXx X.prog X.w) k a fd pn (spX X.K pn.length Cl f F)) (hr:Ab k X.A) (hg:Gl X x) (hm:X.mg x=some (.ref a)) (hk:PySem.W.keepIn X.K (.ref a)=true) (hb:Binds X.K fd pn [])
  (ha:PA X.nox (e::es) (aOf X.K B ms)) (aP:(x==("__debug__" : Str))=false:=by decide)
  (he:starEach (e::es) X.env=(false,eval e X.env)::starEach es X.env:=by rfl) (aI:(backTo pos (starEach es X.env)).any (·.1)=false:=by rfl) (cB:swapsWith (.Call (.Name x p) (e::es) [] pos) none q1.line X.env=pure false:=by rfl) :
  PB X [.Expr (.Call (.Name x p) (e::es) [] pos) q1] fun D E σ H=>aOf X.K B ms σ H fun vs H1=>spX X.K pn.length Cl f F vs H1 (fun _ H2=>D.nx σ H2) E:=by
 intro pins s σ H D E I h;refine wpAny_execs_cons (wpAny_mono (wpAny_Expr_any (Q:=SP X pins D) (thn (a4z G hr hg hm hk hb ha aP he aI pins s σ H (fun _ H2=>D.nx σ H2) E I h) fun v s1 z7=>by obtain ⟨y,H1,I1,r1,q1⟩:=z7; exact ⟨σ,H1,I1,q1⟩) I.quiet cB) (fun fl s1 hq=>?_) fun _ _ z=>z);cases fl with
 | next=>exact wpAny_execs_nil hq
 | brk=>exact hq
 | cont=>exact hq
 | ret u=>exact hq
end
end C
end
section
namespace L2
open PySem PySem.Spec PyProof.Rows
structure XG (K:PySem.W.Frag) (C:Addr) (f:Str):Prop where
 ga:PySem.W.findIn K (.ref C) "__getattribute__" = some (some (.builtin "BaseException.__getattribute__"))
 gt:PySem.W.findIn K (.ref C) "__getattr__" = some none
 bx:PySem.W.mroIn K C (.type "BaseException")=some true
 dc:PySem.W.hasDictIn K C=true
 na:PySem.W.findIn K (.ref C) f=some none
 cl:PySem.W.findIn K (.ref C) "__class__" = some (some (.builtin "object.__class__"))
 cg:PySem.W.specialIn K (.builtin "object.__class__") "__get__" = some (some (.builtin "getset_descriptor.__get__"))
 ct:PySem.W.takesIn K (.builtin "object.__class__")=some true
 ob:PySem.W.mroIn K C (.type "object")=some true
 ve:PySem.W.kitOne K (.ref C) (.type "ValueError")=some true
theorem Pg {v:V} {u:Value} (r:RelV v u):PySem.W.handedIn u=true:=by
 cases v with
 | non=>cases r; rfl
 | bl b=>cases r; rfl
 | int i=>obtain ⟨t,rfl⟩:=r; rfl
 | str x=>obtain ⟨t,rfl⟩:=r; rfl
 | byt b=>obtain ⟨t,rfl⟩:=r; rfl
 | flt b=>obtain ⟨t,rfl⟩:=r; rfl
 | ref a=>cases r; rfl
 | ty n=>cases r; rfl
section
variable {X:Cx} {e:Expr} {C:Addr} {f:Str} {i:Nat} {pos p:Pos}
end
end L2
namespace C
open PySem PySem.Spec PyProof.Rows L2
section
variable {K:PySem.W.Frag} {B:Bas} {f:Str} {i j:Nat} {hv:T->Option T} {th:Addr->TS} {Cl:Addr} {te:TE}
end
structure XR (P:Program) (w:World) (K:PySem.W.Frag) (mg:Str->Option Value) (base:Heap) (x:Str) (Cl:Addr) (f p:Str):Prop where
 ex:∃ D fI fd,XC K Cl D fI f/\Bj P w K mg base CX0 1 fI fd ["self",p] (Le Cl f)/\Binds K fd ["self",p] []
 m:mg x=some (.ref Cl)
def w6 (P:Program) (w:World) (K:PySem.W.Frag) (mg:Str->Option Value) (base:Heap) (x:Str) (n:Nat) (ps:List Str) (Cl:Addr) (f:Str) (F:FnX):Prop :=
 ∃ (a:Addr) (fd:FuncData),Bj P w K mg base (CXx P w) n a fd ps (spX K ps.length Cl f F)/\Binds K fd ps []/\PySem.W.keepIn K (.ref a)=true/\mg x=some (.ref a)
theorem w6.norm {P:Program} {w:World} {K:PySem.W.Frag} {mg:Str->Option Value} {base:Heap} {x:Str} {n:Nat} {ps:List Str} {Cl:Addr} {f:Str} {F:FnX} (D:w6 P w K mg base x n ps Cl f F):yc P w K mg base x n ps (C.norm F) :=
 let ⟨a,fd,h1,h2,h3,h4⟩:=D; ⟨a,fd,a4h h1,h2,h3,h4⟩
def aaw (K:PySem.W.Frag) (mg:Str->Option Value) (x:Str) (Cl:Addr) (bm:List Value):Prop:=XCl K Cl bm/\mg x=some (.ref Cl)
section
variable {X:Cx} {B:Bas} {e:Expr} {es:List Expr} {ms:M (List T)} {pos p q1 q2 aM:Pos} {k:Nat} {Cl:Addr} {f x:Str} {pn:List Str} {F:FnX} {h₀:ExceptHandler} {hs:List ExceptHandler} {th:Addr->TS} {i j:Nat} {hv:T->Option T}
theorem Ld {E:XK} {pr:Str} {arg:Expr} {m:M T} {np ay:Pos} (R:XR X.prog X.w X.K X.mg X.base x Cl f pr) (W:XW X E) (hr:Ab 2 X.A) (hg:Gl X x) (ha:PE X arg (tOf X.K B m))
  (aP:(x==("__debug__" : Str))=false:=by decide) (he:starEach [arg] X.env=[(false,eval arg X.env)]:=by rfl) :
  PS X (.Raise (some (.Call (.Name x np) [arg] [] ay)) none pos) (J4 X.K B Cl f E (Ig m)):=by
 obtain ⟨⟨D,fI,fd,h1,h2,h3⟩,m⟩:=R;exact Yt W h1 h2 hr h3 hg m ha aP he
end
end C
end
section
namespace C
open PySem
noncomputable def m7:Nat->M Bool->SX->SX
 | 0,_,_=>fun _=>none
 | n+1,c,b=>fun s=>match c s with
  | some (false,s1)=>some (.inl .next,s1)
  | some (true,s1)=>match b s1 with
   | some (.inl .next,s2)=>m7 n c b s2
   | some (.inl .cont,s2)=>m7 n c b s2
   | some (.inl .brk,s2)=>some (.inl .next,s2)
   | some (.inl (.ret v),s2)=>some (.inl (.ret v),s2)
   | some (.inr v,s2)=>some (.inr v,s2)
   | none=>none
  | none=>none
end C
end
section
namespace L2
open PySem PySem.Spec PyProof.Rows
section
variable {P:Program} {w:World} {K:PySem.W.Frag} {mg:Str->Option Value} {base:Heap} {N:List Str} {qual:Str} {scope:Scope} {f:Addr} {cd:Value} {A:Around} {outer:List Env} {s₀:Shared} {H₀:Hp} {E:XK}
theorem jx:Passes (CXx P w) (M7 (CXx P w) P w K mg base N qual scope f cd A outer s₀ H₀ E) E:=by
 intro pins σ H s e s' I h;have I0:=I.Bk (pins':=[]) (fun p hp=>nomatch hp);obtain ⟨a,C,dx,T,H',rfl,L,hE⟩:=XP.lies (X:=M7 (CXx P w) P w K mg base N qual scope f cd A outer s₀ H₀ E) ⟨H,s,I0,h⟩;show wpAny _ _ (leaving _ _) _ _ _;unfold leaving;refine wpAny_bind (L.note rfl rfl L.inv.ok.frames fun s2 T' L2=>?_);have za:s₀.heap.objs.size<=a:=L2.oa.1.elim (fun z=>nomatch z) id;have zT:s₀.heap.objs.size<=T':=L2.oT.1.elim (fun z=>nomatch z) id;exact ⟨a,C,dx,T',H',rfl,za,zT,L2.at_,L2.ha,L2.hT,L2.inv.os,L2.inv.bare,L2.inv.base,L2.inv.hok,hE⟩
end
end L2
namespace C
open PySem PySem.Spec PyProof.Rows L2
section
variable {X:Cx} {B:Bas} {c e:Expr} {es:List Expr} {ms:M (List T)} {pos p q1 aM:Pos} {u:SX} {Cl a:Addr} {f x y:Str} {E:XK} {fd:FuncData} {pn:List Str} {F:FnX} {k i:Nat}
theorem Rw {n:Nat} {mc:M Bool} {b:SX} {s s':Sta} {fl:Flow ⊕ T} (h:m7 (n+1) mc b s=some (fl,s')):(∃ s1,mc s=some (false,s1)/\fl=.inl .next/\s'=s1) \/
  ∃ s1 fb s2,mc s=some (true,s1)/\b s1=some (fb,s2)/\(match fb with | .inl .next=>m7 n mc b s2=some (fl,s') | .inl .cont=>m7 n mc b s2=some (fl,s') | .inl .brk=>fl=.inl .next/\s'=s2 | .inl (.ret v)=>fl=.inl (.ret v)/\s'=s2 | .inr v=>fl=.inr v/\s'=s2):=by
 rw [m7] at h;dsimp only at h;split at h
 ·rename_i s1 e1; cases h; exact .inl ⟨_,e1,rfl,rfl⟩
 ·rename_i s1 e1;split at h
  ·rename_i s2 e2; exact .inr ⟨s1,.inl .next,s2,e1,e2,h⟩
  ·rename_i s2 e2; exact .inr ⟨s1,.inl .cont,s2,e1,e2,h⟩
  ·rename_i s2 e2; cases h; exact .inr ⟨s1,.inl .brk,_,e1,e2,rfl,rfl⟩
  ·rename_i v s2 e2; cases h; exact .inr ⟨s1,.inl (.ret v),_,e1,e2,rfl,rfl⟩
  ·rename_i v s2 e2; cases h; exact .inr ⟨s1,.inr v,_,e1,e2,rfl,rfl⟩
  ·cases h
 ·cases h
theorem Rv (n:Nat) {mc:M Bool} {body:List Stmt} (hp:PassesOwn (model X.prog X.w) X.A X.env X.xe) (hc:PT X c (cOf X.K B mc)) (hb:PSs X body (J4 X.K B Cl f E u)):PS X (.While c body [] pos) (J4 X.K B Cl f E (m7 n mc u)):=(Rn hp hc hb).imp fun D σ H z9=>by
 obtain ⟨st,ps,S,as,R,fl,aa,e,q⟩:=z9;refine ⟨fun k σ H=>∃ aG Si aE,Rel X.K B aG σ H ps Si aE/\m7 k mc u aG=some (fl,aa),⟨n,st,S,as,R,e⟩,?_⟩;rintro k bp H2 ⟨aG,Si,aE,Ri,ei⟩;cases k with
 | zero=>rw [m7] at ei; cases ei
 | succ k =>
  rcases Rw ei with ⟨s1,e1,rfl,rfl⟩ | ⟨s1,fb,s2,e1,e2,er⟩
  ·exact ⟨aG,ps,Si,aE,Ri,false,_,e1,fun H3 S3 aO R3=>Vk (q bp H3 S3 aO R3)⟩
  ·refine ⟨aG,ps,Si,aE,Ri,true,s1,e1,fun H3 S3 aO R3=>Wk ⟨fun ah H'=>∃ aG Si aE,Rel X.K B aG ah H' ps Si aE/\m7 k mc u aG=some (fl,aa),fun ah H' h=>⟨k,Nat.lt_succ_self _,h⟩,s1,ps,S3,aO,R3,fb,s2,e2,?_⟩⟩;cases fb with
   | inr v =>
    obtain ⟨rfl,rfl⟩:=er;exact fun w dx ah H' S' ai R' hd=>q w dx ah H' S' ai R' hd
   | inl fb =>
    cases fb with
    | next=>exact fun ah H' S' ai R'=>⟨s2,S',ai,R',er⟩
    | cont=>exact fun ah H' S' ai R'=>⟨s2,S',ai,R',er⟩
    | brk =>
     obtain ⟨rfl,rfl⟩:=er;exact fun ah H' S' ai R'=>q ah H' S' ai R'
    | ret v =>
     obtain ⟨rfl,rfl⟩:=er;exact fun v ah H' S' ai R'=>q v ah H' S' ai R'
end
end C
end
section
namespace L2
open PySem PySem.Spec PyProof.Rows
section
variable {X:Cx} {pins:List (Addr × Obj)} {σ:St} {H:Hp} {s:Shared} {e:Addr}
end
section
variable {X:Cx} {C D fI:Addr} {f p x:Str} {fd:FuncData} {arg:Expr} {te:TE} {np ay pos:Pos}
end
section
variable {X:Cx} {e:Expr} {C:Addr} {f:Str} {te:TE} {pos p:Pos}
theorem a2z (g:XG X.K C f) (he:PE X e te) (hb:attributeBase e f X.env (eval e X.env)=eval e X.env) :
  PE X (.Attribute e f pos) fun σ H Q=>te σ H fun x H1=>∃ a dx v,x=.ref a/\H1 a=some (O7 a C dx)/\H1 dx=some (Bg dx f v)/\Q v H1:=by
 intro pins s σ H Q I h;refine Xc hb (thn (he pins s σ H _ I h) fun u s1 z0=>?_);obtain ⟨x,H1,I1,rx,a,dx,v,ex,e2,e3,q⟩:=z0;subst ex;obtain rfl:u=Value.ref a:=rx;obtain ⟨⟨vs,ga⟩,_⟩:=I1.hok a _ e2;obtain ⟨⟨hs,tk,u,r,gd⟩,_⟩:=I1.hok dx _ e3;refine My.a02 (ox:=Om C dx vs) (od:=some (PySem.W.dictOf [⟨hs,.str f tk,u⟩] 1)) I1.kIn ⟨ga,rfl,rfl,gd⟩ g.ga g.gt g.bx (PySem.W.findObj_own g.dc g.na rfl ?_) (Pg r) ⟨v,H1,I1.tok _,r,q⟩;rw [PySem.W.lookIn_dict];simp [PySem.W.getL,Value.isStr]
theorem Yj {cv:V} {cw:Value} (ef:∀ u,RelV cv u->u=cw):Iz X (.builtin "isinstance") (fun xs H Q=>∃ a dx v C f b,xs=[.ref a,cv]/\H a=some (O7 a C dx)/\H dx=some (Bg dx f v)/\XG X.K C f/\PySem.W.kitOne X.K (.ref C) cw=some b/\Q (.bl b) H):=by
 intro pins s σ H xs us Q I rs z8;obtain ⟨a,dx,v,C,f,b,ex,e2,e3,g,hk,q⟩:=z8;subst ex;obtain ⟨u1,u2,rfl,r1,r2⟩:=rs.two;obtain rfl:u1=Value.ref a:=r1;obtain rfl:=ef u2 r2;obtain ⟨⟨vs,ga⟩,_⟩:=I.hok a _ e2;obtain ⟨⟨hs,tk,u,r,gd⟩,_⟩:=I.hok dx _ e3;exact PySem.W.kia_one (My.Z8 (ox:=Om C dx vs) (od:=PySem.W.dictOf [⟨hs,.str f tk,u⟩] 1) g.ga g.gt g.bx g.dc g.cl g.cg g.ct g.ob) I.kIn ⟨ga,rfl,rfl,gd⟩ hk (by intro q; cases q) fun t=>⟨.bl b,H,I.tok t,rfl,q⟩
end
end L2
namespace C
open PySem PySem.Spec PyProof.Rows L2
section
variable {X:Cx} {B:Bas} {Cl D fI:Addr} {f p x:Str} {fd:FuncData} {arg:Expr} {m:M T} {np ay pos:Pos}
theorem a1s {st:Sta} {σ:L2.St} {H S:Hp} {ps:List (V × T)} {as:List Addr} {v:V} {n:Nat} {c:Nat} {g:Str} {t:T} (R:Rel X.K B st σ H ((v,.obj n)::ps) S as) (e:st.sto[n]? = some (.exc c g t)) :
  ∃ a dx w,v=.ref a/\H a=some (O7 a c dx)/\H dx=some (Bg dx g w)/\Rep X.K S as w t:=by
 have tp:=R.top;cases tp with
 | @obj _ a ha =>
  obtain ⟨a0,l0,_,dx,w,h1,h2,h3⟩:=R.sto.at' n _ e;rw [ha] at l0; cases l0;exact ⟨a,dx,w,rfl,h1,R.sub _ _ h2,h3⟩
theorem a9g {e:Expr} (g:XG X.K Cl f) (he:PE X e (tOf X.K B m)) (hb:attributeBase e f X.env (eval e X.env)=eval e X.env:=by rfl):PE X (.Attribute e f pos) (tOf X.K B (mXf Cl f m)):=(a2z g he hb).imp fun σ H Q z9=>by
 obtain ⟨st,ps,S,as,R,t,aa,e,q⟩:=z9;unfold mXf at e;split at e
 ·rename_i n s1 e1;split at e
  ·rename_i d g' t' e2;split at e
   ·rename_i hc;obtain ⟨hc1,hc2⟩:=hc;subst hc1 hc2;cases e;refine ⟨st,ps,S,as,R,_,_,e1,fun v H1 S1 ag R1=>?_⟩;obtain ⟨a,dx,w,ev,h1,h2,h3⟩:=a1s R1 e2;exact ⟨a,dx,w,ev,h1,h2,q _ _ _ _ (R1.drop.push h3)⟩
   ·cases e
  ·cases e
 ·cases e
theorem Il {e d:Expr} {cv:V} {cw:Value} {tb:List (Nat × Str × Bool)} (ef:∀ u,RelV cv u->u=cw) (hd:PE X d (tC cv)) (hg:Gl X "isinstance") (hm:X.mg "isinstance" = none) (he:PE X e (tOf X.K B m))
  (ht:∀ p∈tb,XG X.K p.1 p.2.1/\PySem.W.kitOne X.K (.ref p.1) cw=some p.2.2) (hs:starEach [e,d] X.env=(false,eval e X.env)::starEach [d] X.env:=by rfl) (bB:starEach [d] X.env=(false,eval d X.env)::starEach [] X.env:=by rfl) (aI:(backTo pos (starEach [d] X.env)).any (·.1)=false:=by rfl) :
  PE X (.Call (.Name "isinstance" np) [e,d] [] pos) (tOf X.K B (Gf tb m)):=(j6 (Yj ef) hg hm PyProof.Rows.boot_isinstance (nu he (nu hd v9 bB) hs) (by decide) (by decide) hs aI).imp fun σ H Q z9=>by
 obtain ⟨st,ps,S,as,R,t,aa,e,q⟩:=z9;unfold Gf at e;split at e
 ·rename_i n s1 e1;split at e
  ·rename_i d g t' e2;split at e
   ·rename_i pp e3;cases e;have hp:=List.mem_of_find?_eq_some e3;have hf:=List.find?_some e3;rw [Bool.and_eq_true] at hf;have f1:pp.1=d:=eq_of_beq hf.1;have f2:pp.2.1=g:=eq_of_beq hf.2;obtain ⟨k1,k2⟩:=ht pp hp;rw [f1,f2] at k1;rw [f1] at k2;refine ⟨st,ps,S,as,R,_,_,e1,fun v H1 S1 ag R1=>?_⟩;obtain ⟨a,dx,w,ev,h1,h2,h3⟩:=a1s R1 e2;exact ⟨a,dx,w,d,g,_,by rw [ev],h1,h2,k1,k2,q _ _ _ _ (R1.drop.push (.bl _))⟩
   ·cases e
  ·cases e
 ·cases e
end
section
variable {K:PySem.W.Frag} {B:Bas} {f:Str} {i j:Nat} {th:Addr->TS} {Cl:Addr}
end
section
variable {X:Cx} {B:Bas} {e:Expr} {es:List Expr} {ms:M (List T)} {pos p q1 q2 aM:Pos} {k:Nat} {a Cl:Addr} {f x:Str} {fd:FuncData} {pn:List Str} {F:FnX} {h₀:ExceptHandler} {hs:List ExceptHandler} {th:Addr->TS} {i j:Nat}
end
end C
end
section
namespace C
open PySem
noncomputable def mj (i:Nat) (m:M T):M T:=fun s=>if Aj i s then (match m s with
 | some (.lst ys,s1)=>match s1.env[i]? with
  | some (some (.lst xs,_))=>if xs.length+ys.length<lim then some (.lst (xs++ys),s1) else none
  | _=>none
 | _=>none) else none
def Gh:List T->Option T
 | [.int i]=>if Jw i then some (.str (toString i)) else none
 | _=>none
noncomputable def Ae:T->T->Option T
 | .str sep,.lst ts=>match Pa ts with
  | some l=>if (l.map (·.length)).sum+l.length * sep.length<lim then some (.str (Str.join sep l)) else none
  | none=>none
 | _,_=>none
noncomputable def a9y (k:List Key):List (List Key × T)->Option T
 | []=>none
 | (q,t)::r=>if q=k then some t else a9y k r
end C
end
section
namespace C
open PySem PySem.W PyProof.Rows
end C
end
section
namespace C
open PySem
end C
end
section
namespace C
open PySem PySem.Spec PyProof.Rows L2
section
variable {K:PySem.W.Frag} {S S':Hp} {as:List Addr}
end
section
variable {X:Cx} {scope:Scope} {N:List Str} {B:Bas} {nv:Nat} {aA:List Nat} {g:G} {c:M Bool} {e:M T} {tg iter elt:Expr} {ifs:List Expr} {pos:Pos} {i:Nat}
end
section
end
section
variable {K:PySem.W.Frag} {B:Bas} {st:Sta} {σ:L2.St} {H S:Hp} {ps:List (V × T)} {as:List Addr}
end
section
variable {X:Cx} {B:Bas} {a b c e o k d:Expr} {m mo mk md mv:M T} {pos p:Pos}
end
section
variable {K:PySem.W.Frag} {S:Hp} {as:List Addr}
end
section
variable {X:Cx} {B:Bas} {a b e:Expr} {m m2:M T} {pos p1:Pos} {es:List Expr} {ms:M (List T)}
theorem Rel.base {K:PySem.W.Frag} {B:Bas} {st:Sta} {σ:L2.St} {H S:Hp} {ps:List (V × T)} {as:List Addr} (r:Rel K B st σ H ps S as):Rel K ⟨S,as,B.H⟩ st σ H ps S as :=
 ⟨r.sub,⟨Same.refl _,nol,fun p o h1 h2 h3=>by
  change S p=none at h2
  have b2:B.S p=none:=by
   cases q:B.S p with
   | none=>rfl
   | some u=>have:=r.grow.same _ _ q; rw [h2] at this; cases this
  have b3:p∉B.as:=fun q=>by obtain ⟨l,e⟩:=r.grow.more; exact h3 (by show p∈as; rw [e]; exact List.mem_append_left _ q)
  exact ⟨(r.grow.keep p o h1 b2 b3).1,h2,h3⟩⟩,fun i t f e=>by
   obtain ⟨v,h1,h2,h3⟩:=r.slots i t f e;exact ⟨v,h1,h2,fun q=>by obtain ⟨p,ep,o⟩:=h3 q; exact ⟨p,ep,o.own,o.out,o.nas,o.new⟩⟩,r.apart,r.sto,r.pend,r.len⟩
end
end C
end
section
namespace C
open PySem L2
section
variable {K:PySem.W.Frag} {S S':Hp} {as:List Addr}
end
section
variable {X:Cx} {B:Bas} {e:Expr}
end
section
variable {X:Cx} {B:Bas} {e:Expr}
end
end C
end
section
namespace C
open PySem PySem.Spec PyProof.Rows L2
section
variable {X:Cx} {B:Bas} {a b c e o k d:Expr} {m mo mk md mv:M T} {pos p:Pos}
theorem qg.erase {K:PySem.W.Frag} {S:Hp} {as:List Addr}:∀ {vs:List V} {ts:List T} (n:Nat),qg K S as vs ts->qg K S as (vs.eraseIdx n) (ts.eraseIdx n)
 | _,_,_,.nil=>.nil
 | _,_,0,.cons _ r=>r
 | _,_,n+1,.cons h r=>.cons h (qg.erase n r)
end
section
variable {X:Cx} {B:Bas} {m gs gz:M T}
end
section
variable {K:PySem.W.Frag} {S:Hp} {as:List Addr}
end
section
variable {X:Cx} {pins:List (Addr × Obj)} {σ:L2.St} {H:Hp} {s:Shared} {a b:Addr} {u:Value} {v:V} {A:Around} {E:Value->Shared->Prop}
end
section
variable {X:Cx} {B:Bas} {o k e:Expr} {es:List Expr} {mo mk mv:M T} {ms:M (List T)} {td ty:TE} {i:Expr} {pos pos' p2:Pos} {j:Nat}
end
section
variable {X:Cx} {B:Bas} {a b c e:Expr} {m:M T} {pos p:Pos} {u v:S}
end
end C
end
section
namespace HT
open PySem PyProof.Rows
section
variable {prog:Program} {w:World} {A:Around} {E:Value->Shared->Prop} {s:Shared}
end
end HT
namespace C
open PySem PySem.Spec PyProof.Rows L2
section
variable {X:Cx} {B:Bas} {a:Expr} {m:M T} {ml mh:M (Option Int)} {lo hi:Option Expr} {pos p2:Pos}
end
end C
end
section
namespace C
open PySem PySem.Spec
section
variable {prog:Program} {w:World} {A:Around} {E:Value->Shared->Prop} {s:Shared} {it l:Addr} {xs:Array Value}
end
end C
end
section
namespace C
open PySem PySem.Spec PyProof.Rows L2
section
variable {X:Cx} {B:Bas} {a b e e1 e2:Expr} {m m1 m2:M T} {pos p1 p2 p3 p4:Pos} {lo hi:Option Expr} {ml mh:M (Option Int)}
theorem O2 {i:Nat} {s s':Sta} {t:T} (h:mj i m s=some (t,s')):Aj i s=true/\∃ xs f ys,m s=some (.lst ys,s')/\s'.env[i]? = some (some (.lst xs,f))/\xs.length+ys.length<lim/\t=.lst (xs++ys):=by
 unfold mj at h;split at h
 ·rename_i hd;refine ⟨hd,?_⟩;split at h
  ·rename_i ys s1 e1;split at h
   ·rename_i xs f e2;split at h
    ·rename_i hl;cases h;exact ⟨xs,f,ys,e1,e2,hl,rfl⟩
    ·cases h
   ·cases h
  ·cases h
 ·cases h
theorem vp (i:Nat) (hi:PE X a (Y7 i)) (hb:PE X b (tOf X.K B m)):PE X (.BinOp a .Add b pos) (fOf X.K B (mj i m)):=(a1x Uq hi hb).imp fun σ H Q z9=>by
 obtain ⟨st,ps,S,as,R,t,aa,ev,q⟩:=z9;obtain ⟨hd,xs,f,ys,e1,e2,hl,rfl⟩:=O2 ev;obtain ⟨xs0,f0,e0⟩:=Fp hd;obtain ⟨p0,vs0,s0,_⟩:=R.listAt e0;refine ⟨_,s0,st,ps,S,as,R,.lst ys,aa,e1,fun u H2 S2 aD R2=>?_⟩;have tp:=R2.top;cases tp with
 | @lst c vs ts g1 g2 =>
  obtain ⟨q1,vs1,s1,rd1,h4⟩:=R2.listAt e2;rw [s0] at s1; cases s1;refine ⟨p0,c,vs1,vs,rfl,rfl,rd1,lg R2.sub g1,?_,fun l eD=>?_⟩
  ·rw [h4.length,g2.length]; exact Nat.le_trans (Nat.le_of_lt hl) jo
  ·obtain ⟨bD,sD,nD,no⟩:=R2.fresh eD;exact q l _ S2 aD (R2.drop.a8a bD sD nD (fun j w e1 e2=>no j w e1 e2)) ⟨⟨vs1++vs,dj,h4.append g2⟩,sD,nD,bD⟩ (fun j w e1 e2=>no j w e1 e2)
end
section
variable {X:Cx} {B:Bas} {a:Expr} {m:M T} {pos p:Pos} {elts:List Expr} {x1:Nat} {aM:Pos}
end
end C
end
section
namespace C
open PySem L2
section
variable {X:Cx} {B:Bas} {a b tg:Expr} {m1 m2:M T} {pos p:Pos}
end
end C
end
section
namespace C
open PySem
noncomputable def Z1 (f:Str) (t:T):List (Str × T)->List (Str × T)
 | []=>[(f,t)]
 | (k,x)::r=>if k=f then (k,t)::r else (k,x)::Z1 f t r
noncomputable def P0 (C:Nat) (n:Nat) (sto:List SO):Option (List (Str × T)):=match sto[n]? with
 | some (.ins D fs)=>if D=C then some fs else none
 | _=>none
noncomputable def J5 (C:Nat) (f:Str) (o:M T):M T:=fun s=>match o s with
 | some (.obj n,s1)=>match P0 C n s1.sto with
  | some fs=>match fs.lookup f with
   | some t=>some (t,s1)
   | none=>none
  | none=>none
 | _=>none
noncomputable def yh (C:Nat) (f:Str) (o v:M T):S:=fun s=>match v s with
 | some (t,s1)=>match o s1 with
  | some (.obj n,s2)=>match P0 C n s2.sto with
   | some fs=>if fs.length<100 then some (.next,{ s2 with sto:=s2.sto.set n (.ins C (Z1 f t fs)) }) else none
   | none=>none
  | _=>none
 | none=>none
noncomputable def Pb (C:Nat) (F:Fn) (a:M (List T)):M T:=fun s=>match a s with
 | some (ts,s1)=>match F (.obj s1.sto.length::ts) (s1.sto++[.ins C []]) with
  | some (.non,sto)=>some (.obj s1.sto.length,{ s1 with sto:=sto })
  | _=>none
 | none=>none
noncomputable def a3x (n:Nat) (g:G) (c:M Bool) (e:M T):Nat->Nat->Sta->List T->Option (List T × Sta)
 | 0,_,_,_=>none
 | k+1,i,s,acc=>match s.sto[n]? with
  | some (.lst xs)=>match xs[i]? with
   | none=>some (acc,s)
   | some t=>match g t s with
    | some s1=>match c s1 with
     | some (true,s2)=>match e s2 with
      | some (u,s3)=>if acc.length<lim then a3x n g c e k (i+1) (je s3) (acc++[u]) else none
      | none=>none
     | some (false,s2)=>a3x n g c e k (i+1) (je s2) acc
     | none=>none
    | none=>none
  | _=>none
end C
namespace C
open PySem
end C
end
section
namespace C
open PySem PySem.Spec PyProof.Rows L2
theorem Fe {Cl n:Nat} {sto:List SO} {fs:List (Str × T)} (h:P0 Cl n sto=some fs):sto[n]? = some (.ins Cl fs):=by
 unfold P0 at h;split at h
 ·rename_i D cP e
  by_cases z:D=Cl
  ·rw [if_pos z] at h; cases h; rw [<- z]; exact e
  ·rw [if_neg z] at h; cases h
 ·cases h
theorem Zv {Cl:Nat} {f:Str} {o:M T} {s s':Sta} {t:T} (h:J5 Cl f o s=some (t,s')):∃ n fs,o s=some (.obj n,s')/\s'.sto[n]? = some (.ins Cl fs)/\fs.lookup f=some t:=by
 unfold J5 at h;split at h
 ·rename_i n s1 e1;split at h
  ·rename_i fs e2;split at h
   ·rename_i t' e3;cases h; exact ⟨n,fs,e1,Fe e2,e3⟩
   ·cases h
  ·cases h
 ·cases h
theorem Ol {Cl:Nat} {f:Str} {o v:M T} {s s':Sta} {fl:Flow} (h:yh Cl f o v s=some (fl,s')):∃ t s1 n s2 fs,v s=some (t,s1)/\o s1=some (.obj n,s2)/\s2.sto[n]? = some (.ins Cl fs)/\fs.length<100/\fl=.next/\s' = { s2 with sto:=s2.sto.set n (.ins Cl (Z1 f t fs)) }:=by
 unfold yh at h;split at h
 ·rename_i t s1 e1;split at h
  ·rename_i n s2 e2;split at h
   ·rename_i fs e3;obtain ⟨hl,h⟩:=Du h;cases h; exact ⟨t,s1,n,s2,fs,e1,e2,Fe e3,hl,rfl,rfl⟩
   ·cases h
  ·cases h
 ·cases h
theorem W7 {Cl:Nat} {F:Fn} {a:M (List T)} {s s':Sta} {t:T} (h:Pb Cl F a s=some (t,s')):∃ ts s1 sto,a s=some (ts,s1)/\F (.obj s1.sto.length::ts) (s1.sto++[.ins Cl []])=some (.non,sto)/\t=.obj s1.sto.length/\s' = { s1 with sto:=sto }:=by
 unfold Pb at h;split at h
 ·rename_i ts s1 e1;split at h
  ·rename_i sto e2;cases h; exact ⟨ts,s1,sto,e1,e2,rfl,rfl⟩
  ·cases h
 ·cases h
section
variable {K:PySem.W.Frag} {S:Hp} {as:List Addr}
theorem Qs.get {f:Str} {vs:List (Str × V)} {ts:List (Str × T)} (h:Qs K S as vs ts):(∀ t,ts.lookup f=some t->∃ v,vs.lookup f=some v/\Rep K S as v t)/\(ts.lookup f=none->vs.lookup f=none):=by
 induction h with
 | nil=>exact ⟨fun t z=>(by cases z),fun _=>rfl⟩
 | @cons k v t vs ts r _ ih =>
  rw [List.lookup_cons,List.lookup_cons];cases hk:f==k with
  | true=>exact ⟨fun u z=>(by cases z; exact ⟨v,rfl,r⟩),fun z=>(by cases z)⟩
  | false=>exact ih
theorem Qs.length {vs:List (Str × V)} {ts:List (Str × T)} (h:Qs K S as vs ts):vs.length=ts.length:=by
 induction h with
 | nil=>rfl
 | cons _ _ ih=>exact congrArg (· + 1) ih
theorem Qs.put {f:Str} {v:V} {t:T} (r:Rep K S as v t) {vs:List (Str × V)} {ts:List (Str × T)} (h:Qs K S as vs ts):Qs K S as (K5 f v vs) (Z1 f t ts):=by
 induction h with
 | nil=>exact .cons r .nil
 | @cons k v' t' vs ts r' h' ih =>
  rw [show K5 f v ((k,v')::vs)=(if k=f then (k,v)::vs else (k,v')::K5 f v vs) from rfl,show Z1 f t ((k,t')::ts)=(if k=f then (k,t)::ts else (k,t')::Z1 f t ts) from rfl]
  by_cases hk:k=f
  ·rw [if_pos hk,if_pos hk]; exact .cons r h'
  ·rw [if_neg hk,if_neg hk]; exact .cons r' ih
end
section
variable {X:Cx} {B:Bas} {o e v:Expr} {es:List Expr} {mo mv m1:M T} {ms:M (List T)} {pos p apos:Pos} {Cl:Addr} {f m x:Str} {k:Nat} {g:Addr} {fd:FuncData} {pn:List Str} {F:Fn}
theorem Fb (c:Cls X.K Cl) (n:Dm X.K Cl f) (ho:PE X o (tOf X.K B mo)) (hb:attributeBase o f X.env (eval o X.env)=eval o X.env:=by rfl):PE X (.Attribute o f pos) (tOf X.K B (J5 Cl f mo)):=(a7e ho hb).imp fun σ H Q z9=>by
 obtain ⟨st,ps,S,as,R,t,aa,e,q⟩:=z9;obtain ⟨k,fs,e1,e2,e3⟩:=Zv e;refine ⟨st,ps,S,as,R,_,aa,e1,fun v H1 S1 ag R1=>?_⟩;have t1:=R1.top;cases t1 with
 | @obj _ a ha =>
  obtain ⟨a',h1,_,dx,vs,h3,h4⟩:=R1.sto.at' k _ e2;rw [ha] at h1; cases h1;obtain ⟨w,hw,rw'⟩:=(h4.get (f:=f)).1 t e3;exact ⟨a,Cl,dx,vs,w,rfl,h3,c,n,hw,q w H1 S1 ag (R1.drop.push rw')⟩
theorem Ik {pos':Pos} (c:Cls X.K Cl) (n:Dm X.K Cl f) (ho:PE X o (tOf X.K B mo)) (hv:PE X v (tOf X.K B mv)) (hs:swapsWith v (some (.Attribute o f pos')) pos.line X.env=pure false:=by rfl):PS X (.Assign [.Attribute o f pos'] v pos) (sOf X.K B (yh Cl f mo mv)):=(a66 ho hv hs).imp fun D σ H z9=>by
 obtain ⟨st,ps,S,as,R,fl,aa,e,q⟩:=z9;obtain ⟨t,s1,k,s2,fs,e1,e2,e3,hl,rfl,rfl⟩:=Ol e;refine ⟨st,ps,S,as,R,t,s1,e1,fun v H1 S1 ag R1=>⟨s1,_,S1,ag,R1,_,s2,e2,fun x H2 S2 aD R2=>?_⟩⟩;have t1:=R2.top;cases t1 with
 | @obj _ a ha =>
  obtain ⟨a',h1,_,dx,vs,h3,h4⟩:=R2.sto.at' k _ e3;rw [ha] at h1; cases h1;exact ⟨a,Cl,dx,vs,rfl,h3,c,n,by rw [h4.length]; omega,q _ _ S2 aD (R2.drop.drop.Qc e3 ha ⟨dx,_,dj,h4.put R2.top2⟩)⟩
structure a3v (P:Program) (w:World) (K:PySem.W.Frag) (mg:Str->Option Value) (base:Heap) (Cl:Addr) (m:Str) (k:Nat) (ps:List Str) (F:Fn):Prop where
 ex:∃ g fd,Meth K Cl m g/\Bj P w K mg base CX0 k g fd ps (spF K ps.length F)/\Binds K fd ps []
 c:Cls K Cl
theorem a3v.mono {P:Program} {w:World} {K:PySem.W.Frag} {mg:Str->Option Value} {base:Heap} {Cl:Addr} {m:Str} {j k:Nat} {ps:List Str} {F:Fn} (h:a3v P w K mg base Cl m j ps F) (l:j<=k):a3v P w K mg base Cl m k ps F:=by
 obtain ⟨⟨g,fd,a,b,d⟩,c⟩:=h;exact ⟨⟨g,fd,a,b.mono l,d⟩,c⟩
structure a82 (P:Program) (w:World) (K:PySem.W.Frag) (mg:Str->Option Value) (base:Heap) (x:Str) (Cl:Addr) (k:Nat) (ps:List Str) (F:Fn):Prop where
 ex:∃ g fd,Mk K Cl g/\Bj P w K mg base CX0 k g fd ps (spF K ps.length F)/\Binds K fd ps []
 m:mg x=some (.ref Cl)
theorem a82.mono {P:Program} {w:World} {K:PySem.W.Frag} {mg:Str->Option Value} {base:Heap} {x:Str} {Cl:Addr} {j k:Nat} {ps:List Str} {F:Fn} (h:a82 P w K mg base x Cl j ps F) (l:j<=k):a82 P w K mg base x Cl k ps F:=by
 obtain ⟨⟨g,fd,a,b,d⟩,c⟩:=h;exact ⟨⟨g,fd,a,b.mono l,d⟩,c⟩
theorem a5m (h:a82 X.prog X.w X.K X.mg X.base x Cl k pn F) (hr:Ab (k+1) X.A) (hg:Gl X x) (ha:PA X (e::es) (aOf X.K B ms)) (hl:∀ st ts aa,ms st=some (ts,aa)->ts.length+1=pn.length) (aP:(x==("__debug__" : Str))=false:=by decide)
  (he:starEach (e::es) X.env=(false,eval e X.env)::starEach es X.env:=by rfl) (aI:(backTo pos (starEach es X.env)).any (·.1)=false:=by rfl) :
  PE X (.Call (.Name x p) (e::es) [] pos) (tOf X.K B (Pb Cl F ms)):=by
 obtain ⟨⟨g,fd,hM,G,hb⟩,hm⟩:=h;refine (a3y hM G hr hg hm hb .nil a79 ha aP he aI).imp fun σ H Q z0=>?_;obtain ⟨st,ps,S,as,R,t,aa,e,q⟩:=z0;obtain ⟨ts,s1,sto,e1,e2,rfl,rfl⟩:=W7 e;refine ⟨st,ps,S,as,R,ts,s1,e1,fun us H1 S1 ag R1 rs y dx hy hd ne=>?_⟩;have R2:=R1.ext (Ext.beside R1.sub hd (.own y));have gc:upd H1 dx (.own y) y=none:=by rw [g8 (Ne.symm ne)]; exact hy
 have R3:=R2.newObj (ob:=.ins Cl dx []) (so:=.ins Cl []) gc ⟨dx,[],dj,.nil⟩;show spF X.K pn.length F (.ref y::(us++[])) _ _ E0;rw [List.append_nil];refine ⟨S1,ag++[y],s1.sto++[.ins Cl []],.obj s1.sto.length::ts,.non,sto,R3.sub,R3.sto,.cons R3.top (rs.mono (Same.refl _) ⟨[y],rfl⟩),hl _ _ _ e1,e2,fun v H3 S3 aO g sub so r=>?_⟩;cases r;exact ⟨rfl,q _ H3 S3 aO (R3.call g sub so)⟩
end
section
variable {X:Cx} {B:Bas} {tg iter:Expr} {mo:M T} {g:G} {u:S} {body:List Stmt} {pos:Pos}
end
section
variable {X:Cx} {scope:Scope} {N:List Str}
inductive CIO (K:PySem.W.Frag) (B:Bas) (n:Nat) (g:G) (c:M Bool) (e:M T) (us:List T) (env:List Slot) (s2:Sta) (σ:L2.St) (pp:List (V × T)) (D:Addr) (i m:Nat) (ah:L2.St) (H':Hp):Prop where
 | mk (aG:Sta) (Si:Hp) (aE:List Addr) (acc:List T) (aH:List V) (Ri:Rel K ⟨Si,aE,H'⟩ aG ah H' [] Si aE) (no:Px aG) (Ro:Rel K B ⟨env,aG.sto⟩ σ H' pp Si aE) (hD:H' D=some (.lst aH)) (sD:Si D=none) (nD:D∉aE) (rA:qg K Si aE aH acc) (ei:a3x n g c e m i aG acc=some (us,s2)):CIO K B n g c e us env s2 σ pp D i m ah H'
variable {B:Bas} {nv:Nat} {aA:List Nat} {g:G} {mo:M T} {c:M Bool} {e:M T} {tg iter elt:Expr} {ifs:List Expr} {pos:Pos}
end
end C
end
section
namespace L2
open PySem PySem.Spec
open Sem (wp)
open Builtin
end L2
namespace C
open PySem PySem.Spec PyProof.Rows L2
section
variable {X:Cx} {B:Bas} {a b c e o k d v:Expr} {m m1 m2 mo mk md mv:M T} {pos p apos:Pos} {i:Nat}
end
section
variable {prog:Program} {w:World} {A:Around} {E:Value->Shared->Prop} {s:Shared}
end
section
variable {X:Cx} {B:Bas} {e l:Expr} {es elts:List Expr} {mo:M T} {ms:M (List T)} {body:List Stmt} {pos p q1 aM apos ay:Pos} {x1:Nat} {Cl:Addr} {f x:Str} {E:XK} {pn:List Str} {F:FnX} {k:Nat} {g:G} {u:S}
end
end C
end
section
namespace C
open PySem L2
section
variable {X:Cx} {B:Bas} {pos:Pos}
theorem a4k {ms:M (List T)} {n:Nat} (h:∀ st ts aa,ms st=some (ts,aa)->ts.length=n):∀ st ts aa,ms st=some (ts,aa)->ts.length+1=n+1:=fun st ts aa e=>congrArg (· + 1) (h st ts aa e)
end
end C
end
section
namespace C
open PySem
abbrev MX:=Sta->Option ((T ⊕ T) × Sta)
abbrev MXs:=Sta->Option ((List T ⊕ T) × Sta)
def Di (m:M T):MX:=fun s=>match m s with
 | some (t,s1)=>some (.inl t,s1)
 | none=>none
noncomputable def ig (F:FnX) (a:M (List T)):MX:=fun s=>match a s with
 | some (ts,s1)=>match F ts s1.sto with
  | some (r,st)=>some (r,{ s1 with sto:=st })
  | none=>none
 | none=>none
def n6:MXs:=fun s=>some (.inl [],s)
noncomputable def gj (m:MX) (l:MXs):MXs:=fun s=>match m s with
 | some (.inl t,s1)=>(match l s1 with
  | some (.inl ts,s2)=>some (.inl (t::ts),s2)
  | some (.inr x,s2)=>some (.inr x,s2)
  | none=>none)
 | some (.inr x,s1)=>some (.inr x,s1)
 | none=>none
noncomputable def mq (C:Nat) (m:Str) (F:FnX) (o:M T) (a:MXs):MX:=fun s=>match o s with
 | some (.obj n,s1)=>(match P0 C n s1.sto with
  | some fs=>if fs.lookup m=none then (match a s1 with
   | some (.inl ts,s2)=>(match F (.obj n::ts) s2.sto with
    | some (r,st)=>some (r,{ s2 with sto:=st })
    | none=>none)
   | some (.inr x,s2)=>some (.inr x,s2)
   | none=>none) else none
  | none=>none)
 | _=>none
noncomputable def Iv (i:Nat) (m:MX):SX:=fun s=>match m s with
 | some (.inl t,s1)=>some (.inl .next,jr i t false s1)
 | some (.inr x,s1)=>some (.inr x,s1)
 | none=>none
noncomputable def yw (m:MX):SX:=fun s=>match m s with
 | some (.inl _,s1)=>some (.inl .next,s1)
 | some (.inr x,s1)=>some (.inr x,s1)
 | none=>none
noncomputable def Lg (m:MX):SX:=fun s=>match m s with
 | some (.inl t,s1)=>some (.inl (.ret t),s1)
 | some (.inr x,s1)=>some (.inr x,s1)
 | none=>none
end C
end
section
namespace C
open PySem PySem.Spec PyProof.Rows L2
def FinE (K:PySem.W.Frag) (B:Bas) (Cl:Addr) (f:Str) (E:XK) (σ:L2.St) (ps:List (V × T)) (Q:VK):T ⊕ T->Sta->Prop
 | .inl t,aa=>∀ v H' S' ai,Rel K B aa σ H' ((v,t)::ps) S' ai->Q v H'
 | .inr t,aa=>∀ v dx H' S' ai,Rel K B aa σ H' ((v,t)::ps) S' ai->S' dx=some (Bg dx f v)->E (.ref Cl) (some dx) H'
noncomputable def Iw (K:PySem.W.Frag) (B:Bas) (Cl:Addr) (f:Str) (E:XK) (m:MX):TE:=fun σ H Q=>∃ st ps S as,Rel K B st σ H ps S as/\∃ r aa,m st=some (r,aa)/\FinE K B Cl f E σ ps Q r aa
def FinA (K:PySem.W.Frag) (B:Bas) (Cl:Addr) (f:Str) (E:XK) (σ:L2.St) (ps:List (V × T)) (Q:List V->Hp->Prop):List T ⊕ T->Sta->Prop
 | .inl ts,aa=>∀ vs H' S' ai,Rel K B aa σ H' ps S' ai->qg K S' ai vs ts->Q vs H'
 | .inr t,aa=>∀ v dx H' S' ai,Rel K B aa σ H' ((v,t)::ps) S' ai->S' dx=some (Bg dx f v)->E (.ref Cl) (some dx) H'
noncomputable def a5r (K:PySem.W.Frag) (B:Bas) (Cl:Addr) (f:Str) (E:XK) (m:MXs):TA:=fun σ H Q=>∃ st ps S as,Rel K B st σ H ps S as/\∃ r aa,m st=some (r,aa)/\FinA K B Cl f E σ ps Q r aa
section
variable {X:Cx} {B:Bas} {e o:Expr} {es:List Expr} {m:M T} {mo:M T} {mx:MX} {ms:M (List T)} {bF:MXs} {pos p q1 aM apos:Pos} {Cl a:Addr} {f x y mn:Str} {E:XK} {fd:FuncData} {pn:List Str} {F:FnX} {k i:Nat} {Co:Addr}
theorem xr (h:PE X e (tOf X.K B m)):PE X e (Iw X.K B Cl f E (Di m)):=h.imp fun σ H Q z9=>by
 obtain ⟨st,ps,S,as,R,r,aa,ev,q⟩:=z9;unfold Di at ev;split at ev
 ·rename_i t s1 e1; cases ev; exact ⟨st,ps,S,as,R,t,_,e1,q⟩
 ·cases ev
theorem U8 {st aa:Sta} {r:T ⊕ T} (h:ig F ms st=some (r,aa)):∃ ts s1 sto,ms st=some (ts,s1)/\F ts s1.sto=some (r,sto)/\aa = { s1 with sto:=sto }:=by
 unfold ig at h;split at h
 ·rename_i ts s1 e1;split at h
  ·rename_i r sto e2; cases h; exact ⟨ts,s1,sto,e1,e2,rfl⟩
  ·cases h
 ·cases h
theorem lq (hx:Passes (CXx X.prog X.w) X E) (D:w6 X.prog X.w X.K X.mg X.base x k pn Cl f F) (hr:Ab k X.A) (hg:Gl X x)
  (ha:PA X (e::es) (aOf X.K B ms)) (hl:∀ st ts aa,ms st=some (ts,aa)->ts.length=pn.length) (aP:(x==("__debug__" : Str))=false:=by decide)
  (he:starEach (e::es) X.env=(false,eval e X.env)::starEach es X.env:=by rfl) (aI:(backTo pos (starEach es X.env)).any (·.1)=false:=by rfl) :
  PE X (.Call (.Name x p) (e::es) [] pos) (Iw X.K B Cl f E (ig F ms)):=by
 obtain ⟨a,fd,h1,h2,h3,h4⟩:=D;refine (Vn h1 hr hg h4 h3 h2 .nil hx ha aP he aI).imp fun σ H Q z0=>?_;obtain ⟨st,ps,S,as,R,r,aa,ev,q⟩:=z0;obtain ⟨ts,s1,sto,e1,e2,rfl⟩:=U8 ev;refine ⟨st,ps,S,as,R,ts,s1,e1,fun vs H1 S1 ag R1 rs=>?_⟩;show spX _ _ _ _ _ (vs++[]) _ _ _;rw [List.append_nil];refine ⟨S1,ag,s1.sto,ts,r,sto,R1.sub,R1.sto,rs,hl _ _ _ e1,e2,?_⟩;cases r with
 | inl t=>exact fun v H2 S2 aD g sub so r=>q v H2 S2 aD ((R1.call g sub so).push r)
 | inr t=>exact fun v dx H2 S2 aD g sub so r hd=>q v dx H2 S2 aD ((R1.call g sub so).push r) hd
theorem p7:PA X [] (a5r X.K B Cl f E n6):=v9.imp fun σ H Q z9=>by
 obtain ⟨st,ps,S,as,R,r,aa,ev,q⟩:=z9;cases ev;exact q [] H S as R .nil
theorem iu (ha:PE X e (Iw X.K B Cl f E mx)) (hr:PA X es (a5r X.K B Cl f E bF)) (hs:starEach (e::es) X.env=(false,eval e X.env)::starEach es X.env:=by rfl):PA X (e::es) (a5r X.K B Cl f E (gj mx bF)) :=
 (nu ha hr hs).imp fun σ H Q z9=>by
  obtain ⟨st,ps,S,as,R,r,aa,ev,q⟩:=z9;unfold gj at ev;split at ev
  ·rename_i t s1 e1;split at ev
   ·rename_i ts s2 e2;cases ev;exact ⟨st,ps,S,as,R,_,s1,e1,fun v H1 S1 ag R1=>⟨s1,_,S1,ag,R1,_,_,e2,fun vs H2 S2 aD R2 rs=>q (v::vs) H2 S2 aD R2.drop (.cons R2.top rs)⟩⟩
   ·rename_i x s2 e2;cases ev;exact ⟨st,ps,S,as,R,_,s1,e1,fun v H1 S1 ag R1=>⟨s1,_,S1,ag,R1,_,_,e2,fun w dx H2 S2 aD R2 hd=>q w dx H2 S2 aD (R2.drop.drop.push R2.top) hd⟩⟩
   ·cases ev
  ·rename_i x s1 e1;cases ev;exact ⟨st,ps,S,as,R,_,_,e1,q⟩
  ·cases ev
structure Qm (P:Program) (w:World) (K:PySem.W.Frag) (mg:Str->Option Value) (base:Heap) (Co:Addr) (m:Str) (k:Nat) (ps:List Str) (Cl:Addr) (f:Str) (F:FnX):Prop where
 ex:∃ g fd,Meth K Co m g/\Bj P w K mg base (CXx P w) k g fd ps (spX K ps.length Cl f F)/\Binds K fd ps []
 c:Cls K Co
theorem Je {st aa:Sta} {r:T ⊕ T} (h:mq Co mn F mo bF st=some (r,aa)):∃ n s1 fs ra s2,mo st=some (.obj n,s1)/\s1.sto[n]? = some (.ins Co fs)/\fs.lookup mn=none/\bF s1=some (ra,s2)/\(match ra with
  | .inl ts=>∃ sto,F (.obj n::ts) s2.sto=some (r,sto)/\aa = { s2 with sto:=sto }
  | .inr x=>r=.inr x/\aa=s2):=by
 unfold mq at h;split at h
 ·rename_i n s1 e1;split at h
  ·rename_i fs e2;split at h
   ·rename_i e3;split at h
    ·rename_i ts s2 e4;split at h
     ·rename_i r sto e5; cases h; exact ⟨n,s1,fs,_,s2,e1,Fe e2,e3,e4,sto,e5,rfl⟩
     ·cases h
    ·rename_i x s2 e4; cases h; exact ⟨n,s1,fs,_,_,e1,Fe e2,e3,e4,rfl,rfl⟩
    ·cases h
   ·cases h
  ·cases h
 ·cases h
theorem vd {pl:Sem Bool} (h:Qm X.prog X.w X.K X.mg X.base Co mn k pn Cl f F) (hx:Passes (CXx X.prog X.w) X E) (hr:Ab k X.A) (ho:PE X o (tOf X.K B mo)) (ha:PA X (e::es) (a5r X.K B Cl f E bF)) (hl:∀ st ts aa,bF st=some (.inl ts,aa)->ts.length+1=pn.length)
  (hst:starEach (e::es) X.env=(false,eval e X.env)::starEach es X.env:=by rfl) (aI:(backTo pos (starEach es X.env)).any (·.1)=false:=by rfl)
  (ht:eval (.Call (.Attribute o mn apos) (e::es) [] pos) X.env=(do
   let ov <- eval o X.env
   standAt apos.atName
   let (f,first) <- holding [ov] (getMethod ov mn pl)
   callWith pos f first (backTo pos (starEach (e::es) X.env)) (backToKw pos (keywordEach [] X.env))):=by rfl) :
  PE X (.Call (.Attribute o mn apos) (e::es) [] pos) (Iw X.K B Cl f E (mq Co mn F mo bF)):=by
 obtain ⟨⟨g,fd,hm,G,hb⟩,c⟩:=h;refine (a3a (pl:=pl) ho c hm G hr hb .nil hx ha hst aI ht).imp fun σ H Q z0=>?_;obtain ⟨st,ps,S,as,R,r,aa,ev,q⟩:=z0;obtain ⟨n,s1,fs,ra,s2,e1,e2,hn,e3,e4⟩:=Je ev;refine ⟨st,ps,S,as,R,_,s1,e1,fun v H1 S1 ag R1=>?_⟩;have t1:=R1.top;cases t1 with
 | @obj _ a ha =>
  obtain ⟨a',h1,_,dx,vs,h3,h4⟩:=R1.sto.at' n _ e2;rw [ha] at h1; cases h1;refine ⟨a,dx,vs,rfl,h3,(h4.get (f:=mn)).2 hn,s1,_,S1,ag,R1,ra,s2,e3,?_⟩;cases ra with
  | inr x =>
   obtain ⟨rfl,rfl⟩:=e4;exact fun w dx H2 S2 aD R2 hd=>q w dx H2 S2 aD (R2.drop.drop.push R2.top) hd
  | inl ts =>
   obtain ⟨sto,e5,rfl⟩:=e4;intro us H2 S2 aD R2 rs;show spX X.K pn.length Cl f F (.ref a::(us++[])) H2 Q E;rw [List.append_nil];have r0:Rep X.K S2 aD (.ref a) (.obj n):=R2.top;refine ⟨S2,aD,s2.sto,.obj n::ts,r,sto,R2.sub,R2.sto,.cons r0 rs,hl _ _ _ e3,e5,?_⟩;cases r with
   | inl t=>exact fun v H3 S3 aO g sub so r=>q v H3 S3 aO ((R2.drop.call g sub so).push r)
   | inr t=>exact fun v dx H3 S3 aO g sub so r hd=>q v dx H3 S3 aO ((R2.drop.call g sub so).push r) hd
end
section
variable {X:Cx} {B:Bas} {e o:Expr} {es:List Expr} {m:M T} {mo:M T} {mx:MX} {ms:M (List T)} {bF:MXs} {pos p q1 aM apos:Pos} {Cl a:Addr} {f x y mn:Str} {E:XK} {fd:FuncData} {pn:List Str} {F:Fn} {k i:Nat} {Co:Addr}
theorem ux (he:PE X e (Iw X.K B Cl f E mx)) (hs:swapsWith e none pos.line X.env=pure false:=by rfl):PS X (.Expr e pos) (J4 X.K B Cl f E (yw mx)):=(Ds he hs).imp fun D σ H z9=>by
 obtain ⟨st,ps,S,as,R,fl,aa,ev,q⟩:=z9;unfold yw at ev;split at ev
 ·rename_i t s1 e1; cases ev; exact ⟨st,ps,S,as,R,_,_,e1,fun v H1 S1 ag R1=>q σ H1 S1 ag R1.drop⟩
 ·rename_i t s1 e1; cases ev; exact ⟨st,ps,S,as,R,_,_,e1,fun v dx H1 S1 ag R1 hd=>q v dx σ H1 S1 ag R1 hd⟩
 ·cases ev
theorem Cu (he:PE X e (Iw X.K B Cl f E mx)):PS X (.Return (some e) pos) (J4 X.K B Cl f E (Lg mx)):=(a1a he).imp fun D σ H z9=>by
 obtain ⟨st,ps,S,as,R,fl,aa,ev,q⟩:=z9;unfold Lg at ev;split at ev
 ·rename_i t s1 e1; cases ev; exact ⟨st,ps,S,as,R,_,_,e1,fun v H1 S1 ag R1=>q v σ H1 S1 ag R1⟩
 ·rename_i t s1 e1; cases ev; exact ⟨st,ps,S,as,R,_,_,e1,fun v dx H1 S1 ag R1 hd=>q v dx σ H1 S1 ag R1 hd⟩
 ·cases ev
theorem Hi (hN:X.N.Nodup) (hi:X.N[i]? = some y) (hy:Loc X.env.scope y) (he:PE X e (Iw X.K B Cl f E mx)) (cB:swapsWith e (some (.Name y aM)) q1.line X.env=pure false:=by rfl)
  (hf:X.fn y=true\/X.env.scope.names.lookup y=some .local:=by first | exact .inl rfl | exact .inr rfl | assumption):PS X (.Assign [.Name y aM] e q1) (J4 X.K B Cl f E (Iv i mx)):=(Av hN hi hy he cB hf).imp fun D σ H z9=>by
 obtain ⟨st,ps,S,as,R,fl,aa,ev,q⟩:=z9;unfold Iv at ev;split at ev
 ·rename_i t s1 e1; cases ev; exact ⟨st,ps,S,as,R,_,_,e1,fun v H1 S1 ag R1=>q _ H1 S1 ag (R1.drop.put R1.top)⟩
 ·rename_i t s1 e1; cases ev; exact ⟨st,ps,S,as,R,_,_,e1,fun v dx H1 S1 ag R1 hd=>q v dx σ H1 S1 ag R1 hd⟩
 ·cases ev
end
end C
end
section
namespace C
open PySem
end C
end
section
namespace C
open PySem PySem.Spec PyProof.Rows L2
section
variable {X:Cx} {B:Bas} {o k v e:Expr} {mo mk mv:M T} {mx:MX} {pos pos':Pos} {Cl:Addr} {f:Str} {E:XK}
end
theorem Uj.has {K:PySem.W.Frag} {S:Hp} {as:List Addr} (k:List L2.Key):∀ {vs:List (List L2.Key × V)} {ts:List (List L2.Key × T)},Uj K S as vs ts->(Qw vs k).isSome=(a9y k ts).isSome
 | _,_,.nil=>rfl
 | _,_,.cons (k:=q) (vs:=vs) (ts:=ts) a b=>by
  unfold a9y
  by_cases e:q=k
  ·rw [if_pos e,Gv e]; rfl
  ·rw [if_neg e,Gq e]; exact Uj.has k b
section
variable {X:Cx} {B:Bas} {e o:Expr} {mx mo:M T} {pos:Pos}
end
section
variable {X:Cx} {B:Bas} {l:Expr} {elts:List Expr} {mo:M T} {body:List Stmt} {pos aM apos ay:Pos} {x1:Nat} {Co:Addr} {f:Str} {jh jl jp jd:Nat}
end
end C
end
section
namespace L2
open PySem PySem.Spec PyProof.Rows
section
variable {M:Model} {A:Around} {E:Value->Shared->Prop} {s:Shared} {base:Heap} {env en:Env} {outer:List Env} {L e C dx T:Addr} {fl:Value} {Q:Unit->Shared->Prop}
theorem S7 (hfr:A.frames=some (env::outer)) (hl:s.heap.FunFrames base (env::outer)) (hf:env.frame=some L) (x:XAt s.heap e C dx T fl) (cH:fl≠rawInt L) (cq:e∉frs (env::outer)) (fe:T∉frs (env::outer))
  (h:∀ h' T',s.heap.objs.size<=T'->Kp (frs (env::outer)) [e,T] s.heap h'->XAt h' e C dx T' (rawInt L)->Q () { s with heap:=h' }):wpAny M A (noteFrame (.ref e) env) Q E s:=by
 obtain ⟨ne,⟨vs,he,h1⟩,o,ts,hT,hd,h3⟩:=x;have k1:Kp (frs (env::outer)) [T] s.heap (s.heap.update T (Obj.mapFields (·.setIfInBounds 3 Value.none))):=Kp.field hT hd _;unfold noteFrame;simp only [hf];refine wpAny_bind (wpAny_field he rfl h1 ?_);rw [if_pos (show (Value.ref T != Value.none)=true from by simp)];refine wpAny_bind (wpAny_field hT hd h3 ?_);rw [if_neg (show ¬ ((fl==rawInt L)=true) from fun z=>cH (eq_of_beq z))];refine wpAny_bind (wpAny_setField hT hd (Array.getElem?_eq_some_iff.mp h3).1 ?_);have bT:(s.heap.update T (Obj.mapFields (·.setIfInBounds 3 Value.none))).get? e=some (Om C dx vs):=(Heap.get?_update_other _ _ ne).trans he;refine Fx (base:=base) hfr (hl.of_keeps fun b u q nf=>?_) hf bT (Array.getElem?_eq_some_iff.mp h1).1 cq fun h' T' hz k2 x=>h h' T' (Nat.le_trans k1.size hz) ((k1.mono (fun _ z=>z) (by simp)).trans (k2.mono (fun _ z=>z) (by simp))) x;refine ⟨u,?_,rfl⟩;have:T≠b:=fun z=>by subst z; rw [hT] at q; cases q; exact nf ts hd
 rw [Heap.get?_update_other _ _ this]; exact q
theorem T4 (fr:Option Addr) (x:XAt s.heap e C dx T fl) (h:∀ h' cy,Kp [] [T] s.heap h'->XAt h' e C dx T cy->Q () { s with heap:=h' }):wpAny M A (setFlight (.ref e) fr) Q E s:=by
 obtain ⟨ne,⟨vs,he,h1⟩,o,ts,hT,hd,h3⟩:=x;have z3:=(Array.getElem?_eq_some_iff.mp h3).1;unfold setFlight;refine wpAny_bind (wpAny_field he rfl h1 ?_);rw [if_pos (show (Value.ref T != Value.none)=true from by simp)];refine wpAny_setField hT hd z3 (h _ _ (Kp.field hT hd _) ⟨ne,⟨vs,(Heap.get?_update_other _ _ ne).trans he,h1⟩,_,_,Heap.get?_update_self _ hT (Obj.isFreed_of_fields (Obj.data_mapFields hd _)),Obj.data_mapFields hd _,by simp [z3]; rfl⟩)
theorem V1 (h:en.frame=env.frame) (v:Value):noteFrame v en=noteFrame v env:=by
 unfold noteFrame PySem.frameOf;rw [h]
end
section
variable {X:Cx} {pins:List (Addr × Obj)} {σ:St} {H:Hp} {s:Shared} {a C dx T:Addr} {fl:Value}
theorem a01 {A:Around} {E:Value->Shared->Prop} {Q:Unit->Shared->Prop} (hst:X.stack=X.env::X.outer) (hfr:X.env.frame=some X.env.locals) (hA:A.frames=some X.stack) (I:Inv X pins σ H s) (x:XAt s.heap a C dx T fl) (ha:H a=none) (hT:H T=none) (oa:Off X pins a) (oT:Off X pins T)
  (h:∀ s' T',Lies X pins σ H s' a C dx T'->Q () s') :
  wpAny (model X.prog X.w) A (noteFrame (.ref a) X.env) (fun _ s2=>wpAny (model X.prog X.w) A (setFlight (.ref a) none) Q E s2) E s:=by
 by_cases hf:fl=rawInt X.env.locals
 ·subst hf;refine Tg hfr x (Ai x fun h2 k2 x2=>h _ T ⟨I.noted (h':=h2) (k2.mono (fun _ z=>nomatch z) (fun _ z=>z)) (fun b hb=>by rw [List.mem_singleton.mp hb]; exact hT) (fun b hb=>by rw [List.mem_singleton.mp hb]; exact oT),x2,ha,hT,oa,oT⟩)
 ·obtain ⟨ne,⟨vs,ga,v1⟩,o,ts,gT,dT,t3⟩:=id x;have n1:=I.Bu ga rfl;have n2:=I.Bu gT dT;have fr:=I.stack;rw [hst] at hA n1 n2 fr;refine S7 (L:=X.env.locals) (base:=X.base) hA fr hfr x hf n1.2.2 n2.2.2 fun h' T' bG k x=>?_;rw [<- hst] at k
  have I1:=I.noted k (fun b hb=>by
   rcases List.mem_cons.mp hb with rfl | hb -- here
   ·exact ha
   ·rw [List.mem_singleton.mp hb]; exact hT) (fun b hb=>by
   rcases List.mem_cons.mp hb with rfl | hb -- here
   ·exact oa
   ·rw [List.mem_singleton.mp hb]; exact oT)
  refine Ai (s:={ s with heap:=h' }) x fun h2 k2 x2=>h _ T' ⟨I1.noted (h':=h2) (k2.mono (fun _ z=>nomatch z) (fun _ z=>z)) (fun b hb=>by rw [List.mem_singleton.mp hb]; exact I.hok.fresh bG) (fun b hb=>by rw [List.mem_singleton.mp hb]; exact I.off bG),x2,ha,I.hok.fresh bG,oa,I.off bG⟩
end
structure XA (X:Cx) (E:XK):Prop where
 hst:X.stack=X.env::X.outer
 hfr:X.env.frame=some X.env.locals
 go:∀ (σ:St) (H:Hp) (s:Shared) (a C dx T:Addr) (fl:Value),Inv X [] σ H s->XAt s.heap a C dx T fl->H a=none->H T=none->Off X [] a->Off X [] T->E (.ref C) (some dx) H->X.xe (.ref a) s
theorem a2t {P:Program} {w:World} {K:PySem.W.Frag} {mg:Str->Option Value} {base:Heap} {N:List Str} {qual:Str} {scope:Scope} {f:Addr} {cd:Value} {A:Around} {outer:List Env} {s₀:Shared} {H₀:Hp} {E:XK} :
  XA (M7 (CXx P w) P w K mg base N qual scope f cd A outer s₀ H₀ E) E:=⟨rfl,rfl,fun σ H s a C dx T fl I x ha hT oa oT hE=>by
 show wpAny _ _ (leaving _ _) _ _ _;unfold leaving;refine wpAny_bind (a01 rfl rfl I.ok.frames I x ha hT oa oT fun s2 T' L2=>?_);have za:s₀.heap.objs.size<=a:=L2.oa.1.elim (fun z=>nomatch z) id;have zT:s₀.heap.objs.size<=T':=L2.oT.1.elim (fun z=>nomatch z) id;exact ⟨a,C,dx,T',H,rfl,za,zT,L2.at_,L2.ha,L2.hT,L2.inv.os,L2.inv.bare,L2.inv.base,L2.inv.hok,hE⟩⟩
def xeX (X:Cx) (E:XK):Value->Shared->Prop:=fun e s'=>∃ a C dx T H' pins σ,e=.ref a/\Lies X pins σ H' s' a C dx T/\X.s₀.heap.objs.size<=a/\X.s₀.heap.objs.size<=T/\E (.ref C) (some dx) H'
theorem Hq {X:Cx} {E:XK}:Passes (CXx X.prog X.w) (X.wish (xeX X E)) E:=fun pins σ H s e s' I h=>by
 obtain ⟨a,C,dx,T,H',rfl,za,zT,x,na,nT,os,ba,un,hok,hE⟩:=h;have I0:Inv X pins σ H s:=I.Bx;exact ⟨a,C,dx,T,H',pins,σ,rfl,⟨I0.call' (ch:=[]) os un hok ba (fun b z=>nomatch z),x,na,nT,I0.off za,I0.off zT⟩,Nat.le_trans I0.sz za,Nat.le_trans I0.sz zT,hE⟩
section
variable {pr:Program} {wd:World} {Ar:Around} {Rs:Result->Shared->Prop} {s:Shared}
end
def Ks (X:Cx) (scope:Scope) (N:List Str) (g:TG) (te:TE) (σ:St) (J:It) (H1:Hp) (Q:VK):Prop:=∀ D,H1 D=none->∃ aT:St,aT.length=N.length /\
 (∀ (i:Nat) (v:V) (x:Str),aT[i]? = some (some v)->N[i]? = some x->Vis (relabel scope X.env) x->∃ k:Nat,X.N[k]? = some x/\σ[k]? = some (some v)/\a0t X scope x) /\
 ∃ W:Nat->Nat->St->Hp->Prop,(∃ m,W 0 m aT (upd H1 D (.lst [])))/\∀ i m ah H',W i m ah H' ->
  (J.stop i H'/\Q (.ref D) H')\/(J.go i H'/\∀ x H2,J.yld i H' x H2->g x ah H2 fun bp H4=>te bp H4 fun y H5=>∃ l,H5 D=some (.lst l)/\l.length<sizeLine/\∃ m',m'<m/\W (i+1) m' bp (upd H5 D (.lst (l++[y]))))
noncomputable def a87 (X:Cx) (scope:Scope) (N:List Str) (wi:TI) (g:TG) (te:TE):TE:=fun σ H Q=>wi σ H fun J H1=>Ks X scope N g te σ J H1 Q
section
variable {X:Cx} {scope:Scope} {N:List Str}
variable {tg iter elt:Expr} {pos:Pos} {g:TG} {te:TE}
theorem Pq {Ex:XK} (sc:Es X scope N) (calm:X.calm=true) (hst:X.stack=X.env::X.outer) (hfr:X.env.frame=some X.env.locals)
  (hg:∀ C s₀ H₀ ex pn,PG (jj X scope N C s₀ H₀ ex pn) tg g) (he:∀ C s₀ H₀ ex pn,PE ((jj X scope N C s₀ H₀ ex pn).wish (xeX (jj X scope N C s₀ H₀ ex pn) Ex)) elt te)
  {pins:List (Addr × Obj)} {σ:St} {H1:Hp} {aB:Shared} {it:Addr} {fp:List Addr} {tn:Nat->Heap->Prop} {J:It} {Q:VK} {E:Value->Shared->Prop} {RR:Value->Addr->Result->Shared->Prop}
  (I:Inv X pins σ H1 aB) (T:Turn X.prog X.w X.K tg J fp it tn) (aQ:tn 0 aB.heap) (f2:∀ b∈fp,Kq X pins H1 b) (q:Ks X scope N g te σ J H1 Q)
  (de:∀ D ax H3 ah H' s',Inv X pins σ H3 ax->(∀ b∈fp,Kq X pins H3 b)->Inv (jj X scope N ax.heap.objs.size ax H3 fp (X.pn++pins)) [] ah H' s'->Q (.ref D) H'->RR (.ref D) ax.heap.objs.size (.ok .next) s')
  (d4:∀ D ax H3 ah H' s' a C dx T fl,Inv X pins σ H3 ax->(∀ b∈fp,Kq X pins H3 b)->Inv (jj X scope N ax.heap.objs.size ax H3 fp (X.pn++pins)) [] ah H' s'->XAt s'.heap a C dx T fl->H' a=none->H' T=none->ax.heap.objs.size<=a->ax.heap.objs.size<=T->Ex (.ref C) (some dx) H'->RR (.ref D) ax.heap.objs.size (.error (.ref a)) s') :
  wpAny (model X.prog X.w) X.A (newList []) (fun acc ax=>wpAny (model X.prog X.w) X.A (newFunctionEnv scope X.env.globals (Ob X.env scope.names []) [] X.env.qual none .none (some X.env)) (fun aZ aY =>
   codeAny (model X.prog X.w) X.A (.compStart (.ListComp elt [⟨tg,iter,[],0⟩] scope pos) 0 (.ref it) acc { aZ with scope:=relabel scope X.env }) (RR acc aZ.locals) aY) E ax) E aB:=by
 refine Ip (Ex:=fun Y=>xeX Y Ex) (ifs:=[]) (tc:=fun _ H Q=>Q true H) sc calm hg (fun _ _ _ _ _=>Vt) he I T aQ f2 q de ?_;rintro D ax H3 e eV I3 f3 ⟨a,C,dx,Tb,H',pins',ah,rfl,Ls,za,zT,hE⟩;obtain ⟨ne,⟨vs,ga,v1⟩,o,ts,gT,dT,t3⟩:=id Ls.at_;have n1:=Ls.inv.Bu ga rfl;have n2:=Ls.inv.Bu gT dT;have fr:=Ls.inv.stack;have eT:=Ls.inv.ok.frames;rw [show (jj X scope N ax.heap.objs.size ax H3 fp (X.pn++pins)).stack=X.env::X.outer from hst] at eT n1 n2 fr;unfold notedBy;rw [V1 (env:=X.env) (show (jj X scope N ax.heap.objs.size ax H3 fp (X.pn++pins)).env.frame=X.env.frame from rfl)];refine M6 (L:=X.env.locals) (base:=(jj X scope N ax.heap.objs.size ax H3 fp (X.pn++pins)).base) eT fr hfr Ls.at_ n1.2.2 n2.2.2 fun h' T' bG k x=>?_;rw [<- hst] at k
 have I1:=(Ls.inv.noted k (fun b hb=>by
  rcases List.mem_cons.mp hb with rfl | hb -- here
  ·exact Ls.ha
  ·rw [List.mem_singleton.mp hb]; exact Ls.hT) (fun b hb=>by
  rcases List.mem_cons.mp hb with rfl | hb -- here
  ·exact Ls.oa
  ·rw [List.mem_singleton.mp hb]; exact Ls.oT)).Bk (pins':=[]) (fun p hp=>nomatch hp)
 exact d4 _ ax _ ah H' _ a C dx T' _ I3 f3 I1 x Ls.ha (Ls.inv.hok.fresh bG) za (Nat.le_trans zT (Nat.le_trans (Nat.le_of_lt (Heap.lt_size gT)) bG)) hE
end
end L2
end
section
namespace C
open PySem
noncomputable def Cj (g:G) (e:MX):List T->Sta->List T->Option ((List T ⊕ T) × Sta)
 | [],s,acc=>some (.inl acc,s)
 | t::r,s,acc=>match g t s with
  | some s1=>match e s1 with
   | some (.inl u,s2)=>if acc.length<lim then Cj g e r (je s2) (acc++[u]) else none
   | some (.inr x,s2)=>some (.inr x,s2)
   | none=>none
  | none=>none
noncomputable def Eh (nv:Nat) (aA:List Nat) (g:G) (it:M (List T)) (e:MX):MX:=fun s=>match it s with
 | some (ts,s1)=>match Cj g e ts ⟨List.replicate nv none++aA.map (fun i=>((j8 aA s1.env)[i]?).getD none),s1.sto⟩ [] with
  | some (.inl us,s2)=>some (.inl (.lst us),⟨j8 aA s1.env,s2.sto⟩)
  | some (.inr x,s2)=>some (.inr x,⟨j8 aA s1.env,s2.sto⟩)
  | none=>none
 | none=>none
end C
end
section
namespace C
open PySem PySem.Spec PyProof.Rows L2
def aax (K:PySem.W.Frag) (B:Bas) (Cl:Addr) (f:Str) (E:XK) (σ:L2.St) (pp:List (V × T)) (env:List Slot) (Q:VK):List T ⊕ T->Sta->Prop
 | .inl us,s2=>∀ D H' S' ai,Rel K B ⟨env,s2.sto⟩ σ H' pp S' ai->T5 K B S' ai H' D (.lst us)->Gy ⟨env,s2.sto⟩ σ D->Q (.ref D) H'
 | .inr t,s2=>∀ v dx H' S' ai,Rel K B ⟨env,s2.sto⟩ σ H' ((v,t)::pp) S' ai->S' dx=some (Bg dx f v)->E (.ref Cl) (some dx) H'
noncomputable def eX (K:PySem.W.Frag) (Cl:Addr) (f:Str) (E:XK) (e:MX):TE:=fun σ H Q=>∃ B,Iw K B Cl f E e σ H Q
theorem peX {X:Cx} {e:Expr} {m:MX} {Cl:Addr} {f:Str} {E:XK} (h:∀ B,PE X e (Iw X.K B Cl f E m)):PE X e (eX X.K Cl f E m):=fun pins s σ H Q I ⟨B,q⟩=>h B pins s σ H Q I q
theorem T9 {g:G} {e:MX} {t:T} {ts acc:List T} {s s':Sta} {r:List T ⊕ T} (h:Cj g e (t::ts) s acc=some (r,s')):∃ s1 w s2,g t s=some s1/\e s1=some (w,s2) /\
  (match w with | .inl u=>acc.length<lim/\Cj g e ts (je s2) (acc++[u])=some (r,s') | .inr x=>r=.inr x/\s'=s2):=by
 rw [Cj] at h;split at h
 ·rename_i s1 e1;split at h
  ·rename_i u s2 e2;split at h
   ·rename_i hl; exact ⟨s1,.inl u,s2,e1,e2,hl,h⟩
   ·cases h
  ·rename_i x s2 e2; cases h; exact ⟨s1,.inr x,_,e1,e2,rfl,rfl⟩
  ·cases h
 ·cases h
section
variable {X:Cx} {scope:Scope} {N:List Str}
inductive CIX (K:PySem.W.Frag) (B:Bas) (g:G) (e:MX) (ts:List T) (r:List T ⊕ T) (env:List Slot) (s2:Sta) (σ:L2.St) (pp:List (V × T)) (D:Addr) (i m:Nat) (ah:L2.St) (H':Hp):Prop where
 | mk (aG:Sta) (Si:Hp) (aE:List Addr) (acc:List T) (aH:List V) (hm:m=ts.length - i) (hi:i<=ts.length) (Ri:Rel K ⟨Si,aE,H'⟩ aG ah H' [] Si aE) (no:Px aG) (Ro:Rel K B ⟨env,aG.sto⟩ σ H' pp Si aE) (hD:H' D=some (.lst aH)) (sD:Si D=none) (nD:D∉aE) (rA:qg K Si aE aH acc) (ei:Cj g e (ts.drop i) aG acc=some (r,s2)):CIX K B g e ts r env s2 σ pp D i m ah H'
theorem U6 {Cl:Addr} {f:Str} {E:XK} {B:Bas} {nv:Nat} {aA:List Nat} {g:G} {e:MX} {ts:List T} {r:List T ⊕ T} {env:List Slot} {aU:List SO} {s2:Sta} {σ:L2.St} {H1 S1:Hp} {ag:List Addr} {ps aX:List (V × T)} {J:It} {Q:VK}
  (hN:N.length=nv+aA.length) (hv:∀ i x,i<nv->N[i]? = some x->True)
  (aR:∀ (j k:Nat),aA[j]? = some k->∃ x,N[nv+j]? = some x/\X.N[k]? = some x/\a0t X scope x)
  (R1:Rel X.K B ⟨env,aU⟩ σ H1 (aX++ps) S1 ag) (bY:∀ k∈aA,∀ t,env[k]?≠some (some (t,true)))
  (facts:∀ S as H,Same B.S S->(∃ l,as=B.as++l)->(∀ p∈aX,Rep X.K S as p.1 p.2)->Same S H->Fy X.K S as H J ts)
  (hc:Cj g e ts ⟨List.replicate nv none++aA.map (fun i=>(env[i]?).getD none),aU⟩ []=some (r,s2))
  (fin:aax X.K B Cl f E σ (aX++ps) env Q r s2) :
  Ks X scope N (gE X.K g) (eX X.K Cl f E e) σ J H1 Q:=by
 intro D hD;obtain ⟨bD,sD1,nD1,noD⟩:=R1.fresh hD;obtain ⟨aT,z1,z2,z3,z4,z5⟩:=Lx hN aR R1 bY hD;refine ⟨aT,z1,z2,fun i m ah H'=>CIX X.K B g e ts r env s2 σ (aX++ps) D i m ah H',⟨ts.length,.mk _ S1 ag [] [] (by simp) (Nat.zero_le _) z3 z4 z5 dj sD1 nD1 .nil hc⟩,?_⟩;rintro i m ah H' ⟨aG,Si,aE,acc,aH,rfl,hi,Ri,no,Ro,hD',sD,nD,rA,ei⟩;have F:=facts Si aE H' Ro.grow.same Ro.grow.more (fun p hp=>Ro.pend p (List.mem_append_left _ hp)) Ri.sub
 by_cases aW:i<ts.length
 ·rw [List.drop_eq_getElem_cons aW] at ei;obtain ⟨s3,w,s5,eg,ee,er⟩:=T9 ei;have ht:ts[i]? = some ts[i]:=List.getElem?_eq_getElem aW;refine .inr ⟨(F.go i _ ht).1,fun x H2 y=>?_⟩;obtain ⟨S2,ex,rx⟩:=(F.go i _ ht).2 x H2 y;refine ⟨⟨Si,aE,H'⟩,aG,[],S2,aE,_,(Ri.ext ex).push rx,s3,eg,fun bu H3 S3 aO R3=>⟨⟨Si,aE,H'⟩,s3,[],S3,aO,R3,w,s5,ee,?_⟩⟩;cases w with
  | inr t =>
   obtain ⟨rfl,rfl⟩:=er;exact fun v dx H5 S5 c9 R5 hd=>fin v dx H5 S5 c9 ((Ro.call R5.grow R5.sub R5.sto).push R5.top) hd
  | inl w =>
   obtain ⟨hlen,erest⟩:=er;intro y H5 S5 c9 R5;obtain ⟨S6,R6⟩:=R5.je;obtain ⟨k1,k2,k3⟩:=R6.grow.keep D _ hD' sD nD;have df:=Ro.call R6.grow R6.sub R6.sto;refine ⟨aH,k1,?_,ts.length - (i+1),by omega,.mk (je s5) S6 c9 (acc++[w]) (aH++[y]) rfl aW (R6.drop.a4w (uq _) k2 k3) (uq _) (df.a8a bD k2 k3 noD) dj k2 k3 ((rA.mono R6.grow.same R6.grow.more).append (.cons R6.top .nil)) erest⟩;rw [rA.length]; exact Nat.lt_of_lt_of_le hlen jo
 ·have cW:i=ts.length:=by omega
  subst cW;rw [List.drop_length] at ei;cases ei;exact .inl ⟨F.stop _ (Nat.le_refl _),fin D H' Si aE Ro ⟨⟨aH,hD',rA⟩,sD,nD,bD⟩ noD⟩
variable {B:Bas} {nv:Nat} {aA:List Nat} {g:G} {it:M (List T)} {e:MX} {tg iter elt:Expr} {pos:Pos} {Cl:Addr} {f:Str} {E:XK}
theorem Ry {s s':Sta} {v:T ⊕ T} (h:Eh nv aA g it e s=some (v,s')):∃ ts s1 r s2,it s=some (ts,s1) /\
  Cj g e ts ⟨List.replicate nv none++aA.map (fun i=>((j8 aA s1.env)[i]?).getD none),s1.sto⟩ []=some (r,s2)/\(match r with | .inl us=>v=.inl (.lst us) | .inr x=>v=.inr x)/\s'=⟨j8 aA s1.env,s2.sto⟩:=by
 unfold Eh at h;split at h
 ·rename_i ts s1 e1;split at h
  ·rename_i us s2 e2; cases h; exact ⟨ts,s1,.inl us,s2,e1,e2,rfl,rfl⟩
  ·rename_i x s2 e2; cases h; exact ⟨ts,s1,.inr x,s2,e1,e2,rfl,rfl⟩
  ·cases h
 ·cases h
end
end C
end
section
namespace C
open PySem
end C
end
section
namespace C
open PySem PySem.Spec PyProof.Rows L2
section
variable {X:Cx} {B:Bas} {tg iter:Expr} {mo:M T} {g:G} {u:SX} {body:List Stmt} {pos:Pos} {Cl:Addr} {f:Str} {E:XK}
end
theorem vg:∀ st ts aa,n6 st=some (.inl ts,aa)->ts.length=0:=fun st ts aa e=>by cases e; rfl
theorem qz {m:MX} {r:MXs} {n:Nat} (h:∀ st ts aa,r st=some (.inl ts,aa)->ts.length=n):∀ st ts aa,gj m r st=some (.inl ts,aa)->ts.length=n+1:=fun st ts aa e=>by
 unfold gj at e;split at e
 ·rename_i t s1 e1;split at e
  ·rename_i us s2 e2; cases e; exact congrArg (· + 1) (h _ _ _ e2)
  ·cases e
  ·cases e
 ·cases e
 ·cases e
theorem qx {ms:MXs} {n:Nat} (h:∀ st ts aa,ms st=some (.inl ts,aa)->ts.length=n):∀ st ts aa,ms st=some (.inl ts,aa)->ts.length+1=n+1:=fun st ts aa e=>congrArg (· + 1) (h st ts aa e)
theorem w6.zero {P:Program} {w:World} {K:PySem.W.Frag} {mg:Str->Option Value} {base:Heap} {x qual:Str} {st:Stmt} {f:Addr} {fd:FuncData} {ps:List Str} {k:Nat} {Cl:Addr} {fl:Str} (F:Fun K x qual st f fd) (h:mg x=some (.ref f)) (b:Binds K fd ps []):w6 P w K mg base x k ps Cl fl (fun _ _=>none):=by
 have no:∀ vs H Q E,¬ spX K ps.length Cl fl (fun _ _=>none) vs H Q E:=fun vs H Q E z=>by
  obtain ⟨S,as,sto,ts,t,ae,_,_,_,_,e,_⟩:=z;cases e
 exact ⟨f,fd,⟨fun vs H Q E z=>absurd z (no vs H Q E),fun A outer s H args us vs Q E _ _ _ _ z=>absurd z (no vs H Q E)⟩,b,F.kp,h⟩
section
variable {X:Cx} {B:Bas} {e a b c:Expr} {m m1 m2 m3:M T} {pos p1 p2 p3 p4:Pos}
theorem a84 {i:Int} (h:Jw i=true):i.natAbs.log2<1920:=by
 unfold Jw at h;rw [decide_eq_true_eq] at h;have h2:(2:Int) ^ 64=((2 ^ 64:Nat):Int):=by decide
 have h1:i.natAbs<2 ^ 64:=by omega
 by_cases z:i.natAbs=0
 ·rw [z]; decide
 ·exact Nat.lt_trans ((Nat.log2_lt z).mpr h1) (by decide)
theorem Cd (hg:Gl X "str") (hm:X.mg "str" = none) (ha:PE X e (tOf X.K B m)) (he:starEach [e] X.env=(false,eval e X.env)::starEach [] X.env:=by rfl) (aI:(backTo pos (starEach [] X.env)).any (·.1)=false:=by rfl) :
  PE X (.Call (.Name "str" p3) [e] [] pos) (tOf X.K B (j5 Gh (ao m cu))):=by
 refine (Am Mj hg hm (by rfl) (nu ha v9 he) (by decide) (by decide) he aI).imp fun σ H Q z0=>?_;obtain ⟨st,ps,S,as,R,t,aa,ev,q⟩:=z0;obtain ⟨ts,e1,e2⟩:=Ei ev;obtain ⟨t1,s1,us,ea,en,rfl⟩:=Fd e1;cases en;refine ⟨st,ps,S,as,R,t1,_,ea,fun v H1 S1 ag R1=>?_⟩;cases t1 <;> simp only [Gh,reduceCtorEq] at e2
 rename_i i;split at e2
 ·rename_i hb;cases e2;have tp:=R1.top;cases tp;exact ⟨i,rfl,a84 hb,q _ _ _ _ (R1.drop.push (.str _))⟩
 ·cases e2
theorem Lp:∀ {l:List Str} {af:List Value},Vals (l.map V.str) af->∃ l':List (Str × Tok),af=strValues l'/\l'.map (·.1)=l
 | [],_,.nil=>⟨[],rfl,rfl⟩
 | x::l,_,.cons h r=>by
  obtain ⟨t,rfl⟩:=h;obtain ⟨l',rfl,e⟩:=Lp r;exact ⟨(x,t)::l',rfl,by simp [e]⟩
theorem Ve:MtR X "str.join" (fun x xs H Q=>∃ sep p l,x=.str sep/\xs=[.ref p]/\SqL X.K H p (l.map V.str)/\(l.map (·.length)).sum+l.length * sep.length<lim/\(Str.join sep l).length<lim/\Q (.str (Str.join sep l)) H):=by
 intro pins s σ H x xs v us Q I rx rv h;obtain ⟨sep,p,l,rfl,rfl,hq,hz,hj,q⟩:=h;obtain ⟨t,rfl⟩:=rx;obtain ⟨u,rfl,ru⟩:=rv.one;cases ru;obtain ⟨af,r,pl,_⟩:=I.list hq;obtain ⟨l',rfl,e⟩:=Lp r
 have tl:Builtin.Str.tooLong ((l'.map (·.1)).toArray.foldl (· + ·.length+sep.length) 0)=false:=by
  rw [StrLaws.joinTotal,e];have:=jo;unfold Builtin.Str.tooLong;exact decide_eq_false (by omega)
 refine call_meets F.slot_str_join (typeIs_str _ _ _) F.entry_str_join (F.args_str_join_2 _ _) (meets_str_join_list sep t p l' tl) ⟨pl.isList,?_⟩
 have big:(Made.str (Builtin.Str.glued sep (l'.map (·.1)))).post (fun v s'=>EP X pins σ Q v s') s:=by
  rw [StrLaws.glued_eq_join,e];exact ⟨Nat.le_trans (Nat.le_of_lt hj) jo,.str _,H,I.tok _,⟨_,rfl⟩,q⟩
 match l',e,big with
 | [],_,b=>exact b
 | [w],e,_ =>
  refine ⟨.str w.1,H,I,⟨_,rfl⟩,?_⟩;have:l=[w.1]:=by rw [<- e]; rfl
  subst this;exact q
 | _::_::_,_,b=>exact b
theorem G7:∀ {ts:List T} {l:List Str},Pa ts=some l->ts=l.map T.str
 | [],_,h=>by simp only [Pa] at h; cases h; rfl
 | t::ts,l,h=>by
  cases t <;> simp only [Pa,reduceCtorEq] at h
  rename_i x;obtain ⟨l',e,rfl⟩:=Option.map_eq_some_iff.mp h;rw [List.map_cons,<- G7 e]
theorem Hj {K:PySem.W.Frag} {S:Hp} {as:List Addr}:∀ {l:List Str} {vs:List V},qg K S as vs (l.map T.str)->vs=l.map V.str
 | [],_,.nil=>rfl
 | x::l,_,.cons h r=>by
  cases h;rw [List.map_cons,Hj r]
theorem Cy (sep:Str):∀ l:List Str,(Str.join sep l).length<=(l.map (·.length)).sum+l.length * sep.length
 | []=>by simp [Str.join,Str.empty,Str.length]
 | [x]=>by simp [Str.join]
 | x::y::l=>by
  have ih:=Cy sep (y::l);show (x++sep++Str.join sep (y::l)).length<=_;rw [Str.length_append,Str.length_append];simp only [List.map_cons,List.sum_cons,List.length_cons,Nat.add_mul,Nat.one_mul] at ih ⊢;omega
theorem Ft {apos ay:Pos} (h1:PE X a (tOf X.K B m1)) (h2:PE X b (tOf X.K B m2))
  (aJ:attributeBase a "join" X.env (eval a X.env)=eval a X.env:=by rfl)
  (bt:((backTo ay (starEach [b] X.env)).all (fun x=>!x.1)&&(backToKw ay (keywordEach [] X.env)).all (fun x=>x.1.isSome)
   && decide (([b]:List Expr).length+([]:List Keyword).length+(if ([]:List Keyword).isEmpty then 0 else 1)<30))=true:=by rfl)
  (aN:(apos.endLine==ay.line)=true:=by rfl) (hs:starEach [b] X.env=(false,eval b X.env)::starEach [] X.env:=by rfl) (aL:(backTo ay (starEach [] X.env)).any (·.1)=false:=by rfl) :
  PE X (.Call (.Attribute a "join" apos) [b] [] ay) (tOf X.K B (mOp Ae m1 m2)) :=
 (Kl PySem.F.plainAttrs_str PySem.F.slot_str_join PySem.F.type_str_join Ve h1 (nu h2 v9 hs) aJ bt aN hs aL).imp fun σ H Q z9=>by
  obtain ⟨st,ps,S,as,R,t,aa,ev,q⟩:=z9;obtain ⟨t1,s1,t2,e1,e2,e3⟩:=Ii ev;unfold Ae at e3;split at e3
  ·rename_i sep ts;split at e3
   ·rename_i l hl;split at e3
    ·rename_i hz;cases e3;obtain rfl:=G7 hl;refine ⟨st,ps,S,as,R,_,s1,e1,fun v H1 S1 ag R1=>?_⟩;have tp:=R1.top;cases tp;refine ⟨rfl,s1,_,S1,ag,R1,_,aa,e2,fun v2 H2 S2 aD R2=>?_⟩;have da:=R2.top;cases da with
     | @lst p vs _ g1 g2 =>
      obtain rfl:=Hj g2;exact ⟨sep,p,l,rfl,rfl,lg R2.sub g1,hz,Nat.lt_of_le_of_lt (Cy sep l) hz,q _ _ _ _ (R2.drop.drop.push (.str _))⟩
    ·cases e3
   ·cases e3
  ·cases e3
end
structure abg (P:Program) (w:World) (K:PySem.W.Frag) (mg:Str->Option Value) (base:Heap) (x:Str) (Co:Addr) (k:Nat) (ps:List Str) (Cl:Addr) (f:Str) (F:FnX):Prop where
 ex:∃ g fd,Mk K Co g/\Bj P w K mg base (CXx P w) k g fd ps (spX K ps.length Cl f F)/\Binds K fd ps []
 m:mg x=some (.ref Co)
section
variable {X:Cx} {B:Bas} {e:Expr} {es:List Expr} {ms:M (List T)} {pos p:Pos} {k:Nat} {Co Cl:Addr} {f x:Str} {pn:List Str} {F:FnX} {E:XK}
variable {o:Expr} {mo:M T} {mn:Str} {apos:Pos}
theorem Rm {pl:Sem Bool} (h:Qm X.prog X.w X.K X.mg X.base Co mn k pn Cl f F) (hx:Passes (CXx X.prog X.w) X E) (hr:Ab k X.A) (ho:PE X o (tOf X.K B mo)) (hl:pn.length=1)
  (ht:eval (.Call (.Attribute o mn apos) [] [] pos) X.env=(do
   let ov <- eval o X.env
   standAt apos.atName
   let (f,first) <- holding [ov] (getMethod ov mn pl)
   callWith pos f first (backTo pos (starEach [] X.env)) (backToKw pos (keywordEach [] X.env))):=by rfl) :
  PE X (.Call (.Attribute o mn apos) [] [] pos) (Iw X.K B Cl f E (mq Co mn F mo n6)):=by
 obtain ⟨⟨g,fd,hm,G,hb⟩,c⟩:=h;refine (Ys (pl:=pl) ho c hm G hr hb .nil hx ht).imp fun σ H Q z0=>?_;obtain ⟨st,ps,S,as,R,r,aa,ev,q⟩:=z0;obtain ⟨n,s1,fs,ra,s2,e1,e2,hn,e3,e4⟩:=Je ev;cases e3;obtain ⟨sto,e5,rfl⟩:=e4;refine ⟨st,ps,S,as,R,_,s1,e1,fun v H1 S1 ag R1=>?_⟩;have t1:=R1.top;cases t1 with
 | @obj _ a ha =>
  obtain ⟨a',h1,_,dx,vs,h3,h4⟩:=R1.sto.at' n _ e2;rw [ha] at h1; cases h1;refine ⟨a,dx,vs,rfl,h3,(h4.get (f:=mn)).2 hn,?_⟩;show spX X.K pn.length Cl f F [.ref a] H1 Q E;refine ⟨S1,ag,s1.sto,[.obj n],r,sto,R1.sub,R1.sto,.cons R1.top .nil,hl.symm,e5,?_⟩;cases r with
  | inl t=>exact fun v H3 S3 aO g sub so r=>q v H3 S3 aO ((R1.drop.call g sub so).push r)
  | inr t=>exact fun v dx H3 S3 aO g sub so r hd=>q v dx H3 S3 aO ((R1.drop.call g sub so).push r) hd
end
noncomputable def wz (g:List T->Option T) (a:MXs):MX:=fun s=>match a s with
 | some (.inl ts,s1)=>(match g ts with
  | some t=>some (.inl t,s1)
  | none=>none)
 | some (.inr x,s1)=>some (.inr x,s1)
 | none=>none
noncomputable def a1e (g:T->T->Option T) (a b:MX):MX:=fun s=>match a s with
 | some (.inl x,s1)=>(match b s1 with
  | some (.inl y,s2)=>(match g x y with
   | some w=>some (.inl w,s2)
   | none=>none)
  | some (.inr x,s2)=>some (.inr x,s2)
  | none=>none)
 | some (.inr x,s1)=>some (.inr x,s1)
 | none=>none
theorem Lq {g:List T->Option T} {a:MXs} {s s':Sta} {r:T ⊕ T} (h:wz g a s=some (r,s')):∃ ra,a s=some (ra,s')/\((∃ ts t,ra=.inl ts/\g ts=some t/\r=.inl t)\/∃ x,ra=.inr x/\r=.inr x):=by
 unfold wz at h;split at h
 ·rename_i ts s1 e1;split at h
  ·rename_i t e2; cases h; exact ⟨_,e1,.inl ⟨ts,t,rfl,e2,rfl⟩⟩
  ·cases h
 ·rename_i x s1 e1; cases h; exact ⟨_,e1,.inr ⟨x,rfl,rfl⟩⟩
 ·cases h
section
variable {X:Cx} {B:Bas} {e:Expr} {es:List Expr} {bF:MXs} {m1 m2:MX} {pos:Pos} {Cl:Addr} {f:Str} {E:XK} {g:T->T->Option T}
theorem Et {k:Nat} (h:PA X es (a5r X.K B Cl f E bF)) (hm:∀ st ts aa,bF st=some (.inl ts,aa)->ts.length<=1000):PE X (.Tuple es k pos) (Iw X.K B Cl f E (wz (fun l=>some (.tup l)) bF)) :=
 (a0x h).imp fun σ H Q z9=>by
  obtain ⟨st,ps,S,as,R,r,aa,e,q⟩:=z9;obtain ⟨ra,e1,e2⟩:=Lq e;rcases e2 with ⟨ts,t,rfl,e3,rfl⟩ | ⟨x,rfl,rfl⟩
  ·cases e3;refine ⟨st,ps,S,as,R,_,aa,e1,fun vs H1 S1 ag R1 rs=>⟨?_,fun p hp=>?_⟩⟩
   ·rw [rs.length]; exact Nat.le_of_lt (Ck (hm _ _ _ e1))
   ·have x:=Ext.laid R1.sub hp (.tup vs);exact q _ _ _ _ ((R1.ext x).push (.tup (SqT.of dj) (rs.mono x.s nol)))
  ·exact ⟨st,ps,S,as,R,_,aa,e1,q⟩
theorem Yy {e:Expr} (h:PE X e (tOp (r2 X.K g) (Iw X.K B Cl f E m1) (Iw X.K B Cl f E m2))):PE X e (Iw X.K B Cl f E (a1e g m1 m2)) :=
 h.imp fun σ H Q z9=>by
  obtain ⟨st,ps,S,as,R,r,aa,e,q⟩:=z9;unfold a1e at e;split at e
  ·rename_i x s1 e1;split at e
   ·rename_i y s2 e2;split at e
    ·rename_i w e3;cases e;refine ⟨st,ps,S,as,R,_,s1,e1,fun v H1 S1 ag R1=>⟨s1,_,S1,ag,R1,_,_,e2,fun u H2 S2 aD R2=>?_⟩⟩;exact ⟨S2,aD,x,y,w,R2.sub,R2.top2,R2.top,e3,fun w H3 S3 x r=>q w H3 S3 aD ((R2.drop.drop.ext x).push r)⟩
    ·cases e
   ·rename_i y s2 e2;cases e;exact ⟨st,ps,S,as,R,_,s1,e1,fun v H1 S1 ag R1=>⟨s1,_,S1,ag,R1,_,_,e2,fun w dx H2 S2 aD R2 hd=>q w dx H2 S2 aD (R2.drop.drop.push R2.top) hd⟩⟩
   ·cases e
  ·rename_i y s1 e1;cases e;exact ⟨st,ps,S,as,R,_,_,e1,q⟩
  ·cases e
theorem a9f {op:Operator} {a b:Expr} (ho:OpT X (binaryOp op) g) (ha:PE X a (Iw X.K B Cl f E m1)) (hb:PE X b (Iw X.K B Cl f E m2)):PE X (.BinOp a op b pos) (Iw X.K B Cl f E (a1e g m1 m2)):=Yy (a1x ho ha hb)
end
section
variable {X:Cx} {B:Bas} {o v:Expr} {mo:M T} {mv:MX} {pos pos':Pos} {Co Cl:Addr} {f g:Str} {E:XK}
end
noncomputable def Cm (i:Nat) (e:MX):SX:=fun s=>if Aj i s then (match e s with
 | some (.inl t,s1)=>(match s1.env[i]? with
  | some (some (.lst xs,true))=>if xs.length<lim then some (.inl .next,jr i (.lst (xs++[t])) true s1) else none
  | _=>none)
 | some (.inr x,s1)=>some (.inr x,s1)
 | none=>none) else none
section
variable {X:Cx} {B:Bas} {mv:MX} {Cl:Addr} {f:Str} {E:XK}
theorem Xg (i:Nat) {st:Stmt} (h:PS X st (Wc (tBM X.K "list" Ht (Y7 i) (Sw (Iw X.K B Cl f E mv) a3g)))):PS X st (J4 X.K B Cl f E (Cm i mv)):=h.imp fun D σ H z9=>by
 obtain ⟨st,ps,S,as,R,fl,aa,e,q⟩:=z9;unfold Cm at e;obtain ⟨hd,e⟩:=Du e;obtain ⟨xs0,f0,e0⟩:=Fp hd;obtain ⟨p0,vs0,s0,q0,_⟩:=R.listAt e0;split at e
 ·rename_i t s1 e1;split at e
  ·rename_i xs e2;obtain ⟨hl,e⟩:=Du e;cases e;refine ⟨_,s0,.inl ⟨rfl,_,q0⟩,st,ps,S,as,R,_,s1,e1,fun v H1 S1 ag R1=>?_⟩;obtain ⟨w,h1,_,h3⟩:=R1.slots i _ true e2;rw [s0] at h1; cases h1;obtain ⟨p',ep,ow⟩:=h3 rfl;cases ep;obtain ⟨vs,hH,h4⟩:=ow.own;exact ⟨p0,vs,v,rfl,rfl,hH,by rw [h4.length]; exact Nat.lt_of_lt_of_le hl jo,q _ _ S1 ag (R1.drop.turn e2 s0 ⟨_,dj,h4.append (.cons R1.top .nil)⟩)⟩
  ·cases e
 ·rename_i t s1 e1;cases e;exact ⟨_,s0,.inl ⟨rfl,_,q0⟩,st,ps,S,as,R,_,_,e1,fun v dx H1 S1 ag R1 hd=>q v dx σ H1 S1 ag R1 hd⟩
 ·cases e
variable {es:List Expr} {bF:MXs} {i:Nat} {y:Str} {pos pos' p2:Pos}
end
noncomputable def inS:T->T->Option T
 | .str x,.str y=>some (.bl (!(Builtin.Str.occurrences y x 0 y.length 1).isEmpty))
 | _,_=>none
section
variable {X:Cx}
theorem Od:OpT X (compareOp .In) inS:=by
 intro pins s σ H x y v u Q I rx ry z8;obtain ⟨S,as,t,t2,w,sub,ht,hu2,hf,q⟩:=z8;cases ht <;> first | (cases hf; done) | skip
 all_goals (cases hu2 <;> first | (cases hf; done) | skip)
 cases hf;obtain ⟨t1,rfl⟩:=rx;obtain ⟨t2,rfl⟩:=ry;exact PySem.P.in_str ⟨.bl _,H,I,rfl,q _ H S (Ext.refl sub) (.bl _)⟩
end
noncomputable def Ss (x:Str) (lo hi:Option Int):Str:=⟨((x.cps.toList.drop (HT.sIx x.length 0 lo)).take (HT.sIx x.length x.length hi - HT.sIx x.length 0 lo)).toArray⟩
theorem Ja (lo hi:Option Int) (n:Nat):Builtin.Str.strSliceIndices lo hi 1 n=(List.range (HT.sIx n n hi - HT.sIx n 0 lo)).map (HT.sIx n 0 lo + ·):=by
 have e:∀ (o:Option Int) (d:Nat),(match o with | none=>(d:Int) | some i=>let i:=if i<0 then i+(n:Int) else i; if (1:Int) > 0 then max 0 (min i n) else max (-1) (min i (n - 1)))=((HT.sIx n d o:Nat):Int):=fun o d=>by
  cases o with
  | none=>rfl
  | some i =>
   simp only [HT.sIx,show (1:Int) > 0 by decide,if_true]
   by_cases h:i<0
   ·simp only [h,if_true]; omega
   ·simp only [h,if_false]; omega
 rw [<- sliceRange_one,<- e lo 0,<- e hi n];rfl
theorem Z2 (x:Str) (lo hi:Option Int):(Ss x lo hi).length<=x.length:=by
 show (((x.cps.toList.drop _).take _).toArray).size<=x.cps.size;rw [List.size_toArray,List.length_take,List.length_drop,Array.length_toList];omega
theorem a08 (x:Str) (lo hi:Option Int):(⟨((Builtin.Str.strSliceIndices lo hi 1 x.length).filterMap (x.cps[·]?)).toArray⟩:Str)=Ss x lo hi:=by
 rw [Ja,pick_run]; rfl
theorem W9 (x:Str) (lo hi:Option Int) (h:(Builtin.Str.strSliceIndices lo hi 1 x.length).length=x.length):Ss x lo hi=x:=by
 rw [Ja,List.length_map,List.length_range] at h
 have a0:HT.sIx x.length x.length hi<=x.length:=by
  cases hi with
  | none=>exact Nat.le_refl _
  | some i=>simp only [HT.sIx]; split <;> omega
 have a1:HT.sIx x.length 0 lo=0\/x.length=0:=by omega
 have hx:x.cps.toList.length=x.length:=Array.length_toList;unfold Ss;rcases a1 with a1 | a1
 ·rw [a1,List.drop_zero,Nat.sub_zero,List.take_of_length_le (by rw [hx]; omega)]
 ·have:x.cps.toList=[]:=List.eq_nil_of_length_eq_zero (by rw [hx,a1]);rw [this];cases x with
  | mk cps=>simp at this; subst this; simp
def ab0:V->Option Int->Option Int->Hp->VK->Prop:=fun x lo hi H Q=>∃ y:Str,x=.str y/\y.length<=sizeLine/\Q (.str (Ss y lo hi)) H
section
variable {X:Cx}
theorem part_of {v:Value} {o:Option Int} (h:IsPart v o):∃ l:Option (Int × Tok),v=partValue l/\l.map (·.1)=o:=by
 cases h with
 | none=>exact ⟨none,rfl,rfl⟩
 | int i t=>exact ⟨some (i,t),rfl,rfl⟩
theorem a5v:SlR X ab0:=by
 intro pins s σ H x v vl vu lo hi sl Q I rx hs pl pu h;obtain ⟨y,rfl,hy,q⟩:=h;obtain ⟨t,rfl⟩:=rx;obtain ⟨l,rfl,rfl⟩:=part_of pl;obtain ⟨u,rfl,rfl⟩:=part_of pu;refine ⟨"str",_,F.slot_str_getitem.lookup,typeIs_str _ _ _,wpAny_getItem_str_slice (l:=l) (u:=u) (st:=none) hs rfl ?_⟩;unfold sliceMade slicePicked;split
 ·rename_i hw;have fX:(Builtin.Str.strSliceIndices (l.map (·.1)) (u.map (·.1)) 1 y.length).length=y.length:=by simpa using hw
  rw [W9 y _ _ fX] at q;exact ⟨.str y,H,I,⟨t,rfl⟩,q⟩
 ·rw [show ((Option.map (fun x:Int × Tok=>x.1) (none:Option (Int × Tok))).getD 1)=1 from rfl,a08];refine ⟨Nat.le_trans (Z2 _ _ _) hy,?_⟩;exact ⟨.str _,H,I.tok _,⟨_,rfl⟩,q⟩
end
noncomputable def S8 (lo hi:Option Int):T->Option T
 | .str x=>if x.length<lim then some (.str (Ss x lo hi)) else none
 | _=>none
noncomputable def lu (m:M T) (lo hi:M (Option Int)):M T:=fun s=>match m s with
 | some (t,s1)=>match lo s1 with
  | some (l,s2)=>match hi s2 with
   | some (u,s3)=>match S8 l u t with
    | some v=>some (v,s3)
    | none=>none
   | none=>none
  | none=>none
 | none=>none
theorem Ot {m:M T} {ml mh:M (Option Int)} {s s':Sta} {v:T} (h:lu m ml mh s=some (v,s')):∃ t s1 l s2 u,m s=some (t,s1)/\ml s1=some (l,s2)/\mh s2=some (u,s')/\S8 l u t=some v:=by
 unfold lu at h;split at h
 ·rename_i t s1 e1;split at h
  ·rename_i l s2 e2;split at h
   ·rename_i u s3 e3;split at h
    ·rename_i w e4; cases h; exact ⟨t,s1,l,s2,u,e1,e2,e3,e4⟩
    ·cases h
   ·cases h
  ·cases h
 ·cases h
section
variable {X:Cx} {B:Bas} {a:Expr} {m:M T} {ml mh:M (Option Int)} {lo hi:Option Expr} {pos p2:Pos}
theorem Ce (ha:PE X a (tOf X.K B m)) (hl:PO X lo (oOf X.K B ml)) (hh:PO X hi (oOf X.K B mh)):PE X (.Subscript a (.Slice lo hi none p2) pos) (tOf X.K B (lu m ml mh)) :=
 (Qt a5v ha hl hh).imp fun σ H Q z9=>by
  obtain ⟨st,ps,S,as,R,t,aa,e,q⟩:=z9;obtain ⟨t1,s1,l,s2,u,e1,e2,e3,e4⟩:=Ot e;refine ⟨st,ps,S,as,R,t1,s1,e1,fun v H1 S1 ag R1=>⟨s1,_,S1,ag,R1,l,s2,e2,fun H2 S2 aD R2=>⟨s2,_,S2,aD,R2,u,aa,e3,fun H3 S3 aO R3=>?_⟩⟩⟩;have top:=R3.top;cases top with
  | str =>
   simp only [S8] at e4;split at e4
   ·rename_i gh;cases e4;exact ⟨_,rfl,Nat.le_trans (Nat.le_of_lt gh) jo,q _ _ _ _ (R3.drop.push (.str _))⟩
   ·cases e4
  | _=>exact jm e4
end
noncomputable def aa3 (x:Str):It where
 go:=fun i _=>i<x.cps.size
 yld:=fun i H v H'=>H'=H/\∃ c,x.cps[i]? = some c/\v=.str ⟨#[c]⟩
 stop:=fun i _=>x.cps.size<=i
theorem Yn {P:Program} {w:World} {K:PySem.W.Frag} {tg:Expr} (x:Str) (t:Tok) (it:Addr):Turn P w K tg (aa3 x) [it] it (fun i h=>h.IsStrIter it "str_ascii_iterator" x t i) where
 mem:=by simp
 obj:=fun i h st b hb=>by
  have e:b=it:=by simpa using hb
  subst e;obtain ⟨o,e,c,d⟩:=st;exact ⟨o,e,fun v z=>by rw [d] at z; cases z⟩
 keep:=fun i h h' st k=>by
  obtain ⟨o,e,c,d⟩:=st;exact ⟨o,k it (by simp) o e,c,d⟩
 item:=by
  intro X hP hw hK hc i pins s σ H E I hf st hg;subst hP hw hK;have hg:i<x.cps.size:=hg;obtain ⟨f0,f1,f2,f3,f4,f5⟩:=hf it (by simp);refine wpAny_pyNext_ascii_item st (c:=x.cps[i]) (by simp [hg]) fun h' aa sb=>?_;have I1:Inv X pins σ H { s with heap:=h',toks:=s.toks+1 }:=I.turned (t':=s.toks+1) (fun b o hb e=>(sb.2 b hb).trans e) f0 f1 f3 f4 f5;obtain ⟨o,e,c,d⟩:=id aa;exact ⟨_,rfl,Yk (s:={ s with heap:=h',toks:=s.toks+1 }) e c d (by decide) ⟨.str ⟨#[x.cps[i]]⟩,H,I1,⟨_,rfl⟩,⟨rfl,_,by simp [hg],rfl⟩,aa,fun b hb=>(hf b hb).1⟩⟩
 done:=by
  intro X hP hw hK hc i pins s σ H E I hf st hg;subst hP hw hK;have hg:x.cps.size<=i:=hg;obtain ⟨f0,f1,f2,f3,f4,f5⟩:=hf it (by simp);exact wpAny_pyNext_ascii_end (I.ok.hd hc) st (by simp [hg]) fun h' eb=>⟨rfl,I.turned (t':=s.toks) (fun b o hb e=>eb b o hb e) f0 f1 f3 f4 f5⟩
 self:=fun _ _ _ _ _ st h=>wpAny_pyIter_striter_ascii st h
def signs (x:Str):List T:=x.cps.toList.map fun c=>.str ⟨#[c]⟩
noncomputable def Er (a:M T):M (List T):=fun s=>match a s with
 | some (.str x,s1)=>if x.length<lim/\x.cps.all (· < 128)=true then some (signs x,s1) else none
 | _=>none
section
variable {X:Cx} {B:Bas} {tg iter:Expr} {m:M T}
theorem aat {K:PySem.W.Frag} {S:Hp} {as:List Addr} {H:Hp} {x:Str} (sub:Same S H):Fy K S as H (aa3 x) (signs x) where
 go:=fun i t e=>by
  unfold signs at e;rw [List.getElem?_map] at e
  have hi:i<x.cps.size:=by
   rcases Nat.lt_or_ge i x.cps.size with h | h
   ·exact h
   ·rw [List.getElem?_eq_none (by rw [Array.length_toList]; exact h)] at e; cases e
  refine ⟨hi,fun v H' y=>⟨S,by rw [y.1]; exact Ext.refl sub,?_⟩⟩;obtain ⟨_,c,hc,rfl⟩:=y;rw [Array.getElem?_toList,hc] at e;cases e;exact .str _
 stop:=fun i hi=>by
  unfold signs at hi;rw [List.length_map,Array.length_toList] at hi;exact hi
theorem Ql (h:PE X iter (tOf X.K B m)):PI X tg iter (iOf X.K B (Er m)):=by
 intro pins s σ H R I hw;obtain ⟨st,ps,S,as,Rl,ts,aa,e,hz,q⟩:=hw;unfold Er at e;split at e
 ·rename_i x s1 e1;split at e
  ·rename_i hl;cases e;refine thn (h pins s σ H _ I ⟨st,ps,S,as,Rl,_,_,e1,fun v H1 S1 ag R1=>(⟨S1,ag,R1⟩:∃ S1 ag,Rel X.K B aa σ H1 ((v,.str x)::ps) S1 ag)⟩) fun v s1 z0=>?_;obtain ⟨y,H1,I1,r1,S1,ag,R1⟩:=z0;have top:=R1.top;cases top;obtain ⟨t,rfl⟩:=r1;refine wpAny_pyIter_ascii hl.2 ?_;refine ⟨s1.heap.objs.size,[s1.heap.objs.size],_,_,H1,rfl,I1.kept (t':=s1.toks) fun b o e=>Heap.get?_push_of_some _ e,Yn x t _,⟨_,Heap.get?_push_size _ rfl,rfl,rfl⟩,fun b hb=>?_,q _ H1 S1 ag [(.str x,.str x)] R1 fun S2 aD H2 hp hh=>aat hh⟩;have e:b=s1.heap.objs.size:=by simpa using hb
   subst e;exact I1.a8j (Nat.le_refl _) (I1.hok.fresh (Nat.le_refl _))
  ·cases e
 ·cases e
theorem Q0 {m:M T}:∀ st ts aa,Er m st=some (ts,aa)->ts.length<=sizeLine:=fun st ts aa e=>by
 unfold Er at e;split at e
 ·split at e
  ·rename_i hl;cases e;unfold signs;rw [List.length_map,Array.length_toList];exact Nat.le_trans (Nat.le_of_lt hl.1) jo
  ·cases e
 ·cases e
end
noncomputable def a8b:List T->Option T
 | [.str x]=>if x.length<=640 then (intText? x).map .int else none
 | _=>none
section
variable {X:Cx}
theorem T8:Xn X (.type "int") a8b:=by
 intro pins s σ H xs us Q I rs z8;obtain ⟨S,as,ts,w,sub,hr,hf,q⟩:=z8;cases hr with
 | nil=>exact jm hf
 | @cons x t xs' ts' h1 h2 =>
  cases h2 with
  | cons h3 h4=>cases h1 <;> exact jm hf
  | nil =>
   cases h1 <;> first | exact jm hf | skip
   obtain ⟨u,rfl,ru⟩:=rs.one;obtain ⟨t,rfl⟩:=ru;rename_i x;have dH:(if x.length<=640 then (intText? x).map T.int else none)=some w:=hf;split at dH
   ·rename_i hl;obtain ⟨n,hn,rfl⟩:=Option.map_eq_some_iff.mp dH;exact PySem.W.KIN.call_text hn hl ⟨.int n,H,I.tok _,⟨_,rfl⟩,q _ H S (Ext.refl sub) (.int _)⟩
   ·cases dH
end
noncomputable def Im (f g:T->T->Option T) (a b c:M T):M T:=fun s=>match a s with
 | some (x,s1)=>match b s1 with
  | some (y,s2)=>match f x y with
   | some (.bl true)=>(match c s2 with
    | some (z,s3)=>(match g y z with
     | some w=>some (w,s3)
     | none=>none)
    | none=>none)
   | some (.bl false)=>some (.bl false,s2)
   | _=>none
  | none=>none
 | none=>none
theorem T3 {f g:T->T->Option T} {a b c:M T} {s s':Sta} {w:T} (h:Im f g a b c s=some (w,s')):∃ x s1 y s2,a s=some (x,s1)/\b s1=some (y,s2) /\
  ((f x y=some (.bl true)/\∃ z,c s2=some (z,s')/\g y z=some w)\/(f x y=some (.bl false)/\w=.bl false/\s'=s2)):=by
 unfold Im at h;split at h
 ·rename_i x s1 e1;split at h
  ·rename_i y s2 e2;split at h
   ·rename_i e3;split at h
    ·rename_i z s3 e4;split at h
     ·rename_i w' e5;cases h;exact ⟨x,s1,y,s2,e1,e2,.inl ⟨e3,z,e4,e5⟩⟩
     ·cases h
    ·cases h
   ·rename_i e3;cases h;exact ⟨x,s1,y,_,e1,e2,.inr ⟨e3,rfl,rfl⟩⟩
   ·cases h
  ·cases h
 ·cases h
section
variable {X:Cx} {B:Bas} {a b c:Expr} {m1 m2 m3:M T} {pos:Pos} {op bI:CmpOp} {f g:T->T->Option T}
theorem Z9 {σ:L2.St} {H:Hp} {Q:VK} (h:tOf X.K B (Im f g m1 m2 m3) σ H Q):a0y (r2 X.K f) (r2 X.K g) (tOf X.K B m1) (tOf X.K B m2) (tOf X.K B m3) σ H Q:=by
 obtain ⟨st,ps,S,as,R,t,aa,e,q⟩:=h;obtain ⟨x,s1,y,s2,e1,e2,e3⟩:=T3 e;refine ⟨st,ps,S,as,R,x,s1,e1,fun v H1 S1 ag R1=>⟨s1,_,S1,ag,R1,y,s2,e2,fun u H2 S2 aD R2=>?_⟩⟩;rcases e3 with ⟨f1,z,f2,f3⟩ | ⟨f1,rfl,rfl⟩
 ·refine ⟨S2,aD,x,y,_,R2.sub,R2.top2,R2.top,f1,fun w H3 S3 xt r=>⟨true,by cases r; rfl,Wk ?_⟩⟩;have R3:=R2.ext xt;refine ⟨s2,_,S3,aD,R3,z,aa,f2,fun w4 H4 S4 dk R4=>?_⟩;exact ⟨S4,dk,y,z,t,R4.sub,R4.top2,R4.top,f3,fun w5 H5 S5 x5 r5=>q w5 H5 S5 dk ((R4.drop.drop.drop.ext x5).push r5)⟩
 ·exact ⟨S2,aD,x,y,_,R2.sub,R2.top2,R2.top,f1,fun w H3 S3 xt r=>⟨false,by cases r; rfl,Vk (q _ H3 S3 aD ((R2.drop.drop.ext xt).push (.bl _)))⟩⟩
theorem a0o (ho:OpT X (compareOp op) f) (aV:OpT X (compareOp bI) g) (ha:PE X a (tOf X.K B m1)) (hb:PE X b (tOf X.K B m2)) (hc:PE X c (tOf X.K B m3)) (hm:lastMarks [op,bI] [b,c]=false:=by with_unfolding_all rfl) :
  PE X (.Compare a [op,bI] [b,c] pos) (tOf X.K B (Im f g m1 m2 m3)):=(Zy ho aV ha hb hc hm).imp fun σ H Q h=>Z9 h
end
section
variable {X:Cx}
end
end C
end
section
namespace L2
open PySem PySem.Spec
open Sem (wp)
open Builtin
end L2
namespace C
open PySem PySem.Spec PyProof.Rows L2
section
variable {X:Cx} {B:Bas} {a b:Expr} {m1 m2:M T} {pos:Pos}
end
end C
end
section
namespace C
open PySem PySem.Spec PyProof.Rows L2 Builtin Builtin.Str
noncomputable def cutAt (c:Nat):List Nat->List (List Nat)
 | []=>[[]]
 | a::r=>if a=c then []::cutAt c r else match cutAt c r with
  | []=>[[a]]
  | p::q=>(a::p)::q
def Kr (l:List Nat):Str:=⟨l.toArray⟩
noncomputable def Ag:T->T->Option T
 | .str x,.str y=>if y.cps.size=1/\x.length<lim then some (.lst ((cutAt (y.cps.toList.headD 0) x.cps.toList).map fun p=>.str (Kr p))) else none
 | _,_=>none
theorem Z0 (c:Nat) (l:List Nat):cutAt c l≠[]:=by
 cases l with
 | nil=>exact List.cons_ne_nil _ _
 | cons a r =>
  unfold cutAt;split
  ·exact List.cons_ne_nil _ _
  ·split <;> exact List.cons_ne_nil _ _
theorem Gi {c:Nat}:∀ {p:List Nat},c∉p->cutAt c p=[p]
 | [],_=>rfl
 | a::r,h=>by
  have h1:¬ a=c:=fun z=>h (z ▸ List.mem_cons_self);unfold cutAt;rw [if_neg h1,Gi (fun z=>h (List.mem_cons_of_mem _ z))]
theorem G4 {c:Nat} {r:List Nat}:∀ {p:List Nat},c∉p->cutAt c (p++c::r)=p::cutAt c r
 | [],_=>by
  show cutAt c (c::r)=_
  conv=>lhs; unfold cutAt
  rw [if_pos rfl]
 | a::p,h=>by
  have h1:¬ a=c:=fun z=>h (z ▸ List.mem_cons_self);show cutAt c (a::(p++c::r))=_
  conv=>lhs; unfold cutAt
  rw [if_neg h1,G4 (fun z=>h (List.mem_cons_of_mem _ z))]
theorem O5 (c:Nat):∀ l:List Nat,(cutAt c l).length<=l.length+1
 | []=>Nat.le_refl _
 | a::r=>by
  have ih:=O5 c r;unfold cutAt;split
  ·simp only [List.length_cons]; omega
  ·split
   ·simp
   ·rename_i p q e;rw [e] at ih;simp only [List.length_cons] at ih ⊢;omega
theorem Nk (a b:Str):(a++b).cps.toList=a.cps.toList++b.cps.toList:=by
 show (a.cps++b.cps).toList=_;rw [Array.toList_append]
theorem Fg {c:Nat}:∀ {l:List Str},l≠[]->(∀ p∈l,c∉p.cps.toList)->(cutAt c (Str.join ⟨#[c]⟩ l).cps.toList).map Kr=l
 | [],h,_=>absurd rfl h
 | [x],_,h=>by
  rw [Str.join,Gi (h x List.mem_cons_self)];simp only [List.map_cons,List.map_nil,Kr,Array.toArray_toList]
 | x::y::r,_,h=>by
  have ih:=Fg (c:=c) (l:=y::r) (List.cons_ne_nil _ _) (fun p hp=>h p (List.mem_cons_of_mem _ hp));rw [Str.join]
  ·rw [Nk,Nk];show (cutAt c ((x.cps.toList++[c])++_)).map Kr=_;rw [List.append_assoc,List.singleton_append,G4 (h x List.mem_cons_self),List.map_cons,ih];simp only [Kr,Array.toArray_toList]
  all_goals simp
theorem Yh (x y:Str):Txt.split x y≠[]:=by
 unfold Txt.split;split
 ·exact List.cons_ne_nil _ _
 ·split
  ·exact List.cons_ne_nil _ _
  ·rw [StrLaws.partsBetween_eq];cases occurrences x y 0 x.length (x.length+1) <;> exact List.cons_ne_nil _ _
theorem Mf (x:Str) (c:Nat):Txt.split x ⟨#[c]⟩=(cutAt c x.cps.toList).map Kr:=by
 have h:=Fg (c:=c) (Yh x ⟨#[c]⟩) (StrLaws.split_free x c);rw [StrLaws.join_split] at h;exact h.symm
theorem Lz {K:PySem.W.Frag} {S:Hp} {as:List Addr}:∀ L:List (List Nat),qg K S as (L.map fun l=>V.str (Kr l)) (L.map fun p=>T.str (Kr p))
 | []=>.nil
 | _::L=>.cons (.str _) (Lz L)
section
variable {X:Cx} {B:Bas} {a b:Expr} {m1 m2:M T} {pos:Pos}
theorem a0h:MtR X "str.split" (fun x xs H Q=>∃ s c,x=.str s/\xs=[.str ⟨#[c]⟩]/\s.length<lim/\∀ p,H p=none->Q (.ref p) (upd H p (.lst ((cutAt c s.cps.toList).map fun l=>.str (Kr l))))):=by
 intro pins s σ H x xs v us Q I rx rv h;obtain ⟨sx,c,rfl,rfl,hl,q⟩:=h;obtain ⟨t,rfl⟩:=rx;obtain ⟨u,rfl,ru⟩:=rv.one;obtain ⟨tu,rfl⟩:=ru;have hy:((⟨#[c]⟩:Str).length==0)=false:=rfl;have hx:sx.length<=sizeLine:=Nat.le_trans (Nat.le_of_lt hl) jo
 have hz:((Txt.split sx ⟨#[c]⟩).map V.str).length<=sizeLine:=by
  rw [Mf,List.length_map,List.length_map];refine Nat.le_trans (O5 c _) ?_;rw [Array.length_toList];exact Nat.le_trans (show sx.length+1<=lim from hl) jo
 have e:((cutAt c sx.cps.toList).map fun l=>V.str (Kr l))=(Txt.split sx ⟨#[c]⟩).map V.str:=by
  rw [Mf,List.map_map]; rfl
 rw [e] at q
 have goal:∀ (l:List (Str × Tok)) (tk:Nat),l.map (·.1)=Txt.split sx ⟨#[c]⟩->EP X pins σ Q (.ref s.heap.objs.size) { s with toks:=tk,heap:=s.heap.push { cls:=.type "list",data:=.seq (strValues l).toArray } }:=by
  intro l tk hl
  have hv:Vals ((Txt.split sx ⟨#[c]⟩).map V.str) (strValues l):=by
   rw [<- hl];clear hl
   induction l with
   | nil=>exact .nil
   | cons p l ih=>exact .cons ⟨_,rfl⟩ ih
  exact ⟨.ref s.heap.objs.size,_,I.laid (t':=tk) (fun _ _ q=>Heap.get?_push_of_some _ q) (Nat.le_refl _) (show yg X.prog X.w _ _ _ (.lst ((Txt.split sx ⟨#[c]⟩).map V.str)) from ⟨hz,_,0,hv,Heap.get?_push_size _ rfl⟩),rfl,q _ (I.hok.fresh (Nat.le_refl _))⟩
 cases h1:(decide (sx.length<(⟨#[c]⟩:Str).length)||decide (strKind sx<strKind ⟨#[c]⟩))
 ·cases hf:(occurrences sx ⟨#[c]⟩ 0 sx.length (sx.length+1)).isEmpty
  ·refine call_meets F.slot_str_split (typeIs_str _ _ _) F.entry_str_split (F.args_str_split_2 _ _) (meets_str_split_sep sx ⟨#[c]⟩ t tu h1 hy hf hx ?_) ?_
   ·have e2:Txt.split sx ⟨#[c]⟩=partsBetween sx (occurrences sx ⟨#[c]⟩ 0 sx.length (sx.length+1)) (⟨#[c]⟩:Str).length:=(if_neg (ne_true_of_eq_false h1)).trans (if_neg (ne_true_of_eq_false hf));rw [<- e2];rw [List.length_map] at hz;exact hz
   ·rw [strsFrom_eq];exact goal _ _ ((numbered_texts _ _).trans ((if_neg (ne_true_of_eq_false h1)).trans (if_neg (ne_true_of_eq_false hf))).symm)
  ·exact call_meets F.slot_str_split (typeIs_str _ _ _) F.entry_str_split (F.args_str_split_2 _ _) (meets_str_split_not_found sx ⟨#[c]⟩ t tu h1 hy hf) (goal [(sx,t)] s.toks ((if_neg (ne_true_of_eq_false h1)).trans (if_pos hf)).symm)
 ·exact call_meets F.slot_str_split (typeIs_str _ _ _) F.entry_str_split (F.args_str_split_2 _ _) (meets_str_split_cannot_occur sx ⟨#[c]⟩ t tu h1) (goal [(sx,t)] s.toks (if_pos h1).symm)
theorem Ey {apos ay:Pos} (h1:PE X a (tOf X.K B m1)) (h2:PE X b (tOf X.K B m2))
  (aJ:attributeBase a "split" X.env (eval a X.env)=eval a X.env:=by rfl)
  (bt:((backTo ay (starEach [b] X.env)).all (fun x=>!x.1)&&(backToKw ay (keywordEach [] X.env)).all (fun x=>x.1.isSome)
   && decide (([b]:List Expr).length+([]:List Keyword).length+(if ([]:List Keyword).isEmpty then 0 else 1)<30))=true:=by rfl)
  (aN:(apos.endLine==ay.line)=true:=by rfl) (hs:starEach [b] X.env=(false,eval b X.env)::starEach [] X.env:=by rfl) (aL:(backTo ay (starEach [] X.env)).any (·.1)=false:=by rfl) :
  PE X (.Call (.Attribute a "split" apos) [b] [] ay) (tOf X.K B (mOp Ag m1 m2)) :=
 (Kl PySem.F.plainAttrs_str PySem.F.slot_str_split PySem.F.type_str_split a0h h1 (nu h2 v9 hs) aJ bt aN hs aL).imp fun σ H Q z9=>by
  obtain ⟨st,ps,S,as,R,t,aa,ev,q⟩:=z9;obtain ⟨t1,s1,t2,e1,e2,e3⟩:=Ii ev;unfold Ag at e3;split at e3
  ·rename_i x y;split at e3
   ·rename_i hc;cases e3;obtain ⟨hy,hl⟩:=hc
    obtain ⟨c,rfl⟩:∃ c,y=⟨#[c]⟩:=by
     obtain ⟨⟨l⟩⟩:=y
     match l,hy with
     | [c],_=>exact ⟨c,rfl⟩
    refine ⟨st,ps,S,as,R,_,s1,e1,fun v H1 S1 ag R1=>?_⟩;have tp:=R1.top;cases tp;refine ⟨rfl,s1,_,S1,ag,R1,_,aa,e2,fun v2 H2 S2 aD R2=>?_⟩;have da:=R2.top;cases da;refine ⟨x,c,rfl,rfl,hl,fun p hp=>?_⟩;have y:=Ext.laid R2.sub hp (.lst ((cutAt c x.cps.toList).map fun l=>V.str (Kr l)));refine q _ _ _ _ ((R2.drop.drop.ext y).push (.lst (SqL.of dj) ?_));exact Lz _
   ·cases e3
  ·cases e3
end
end C
end
section
namespace L2
open PySem PySem.Spec PyProof.Rows
section
variable {X:Cx} {scope:Scope} {N:List Str}
variable {tg iter elt:Expr} {pos:Pos} {g:TG} {te:TE}
theorem a00 {Ex:XK} {wi:TI} (xa:XA X Ex) (sc:Es X scope N) (calm:X.calm=true) (hi:PI X tg iter wi)
  (hg:∀ C s₀ H₀ ex pn,PG (jj X scope N C s₀ H₀ ex pn) tg g) (he:∀ C s₀ H₀ ex pn,PE ((jj X scope N C s₀ H₀ ex pn).wish (xeX (jj X scope N C s₀ H₀ ex pn) Ex)) elt te)
  (hs:∀ x,foldedSetIterable iter X.env x=pure x:=by intro _; rfl):PE X (.ListComp elt [⟨tg,iter,[],0⟩] scope pos) (a87 X scope N wi g te):=by
 intro pins s σ H Q I h;rw [eval_ListComp];refine wpAny_comprehension_free (use:=none) rfl hs (En sc.has) sc.kind sc.names ?_;refine wpAny_mono (hi pins s σ H _ I h) (fun x az br=>wpAny_mono br (fun bR aB cm=>?_) fun _ _ e=>e) fun _ _ e=>e;obtain ⟨it,fp,tn,J,H1,rfl,I2,T,aQ,f2,q⟩:=cm;refine Pq (Ex:=Ex) (RR:=fun acc C=>compPost (model X.prog X.w) X.A X.xe none (EP X pins σ Q) acc C) sc calm xa.hst xa.hfr hg he I2 T aQ f2 q ?_ ?_
 ·intro D ax H3 ah H' s' I3 f3 I' qn;obtain ⟨m,hn,_⟩:=I'.loc;exact ⟨m,hn,fun h' bE=>⟨.ref D,H',Jl I3 f3 I' bE,rfl,qn⟩⟩
 ·intro D' ax H3 ah H' s' a C dx Tb fl I3 f3 I' x ha hT za zT hE;obtain ⟨m,hn,_⟩:=I'.loc;obtain ⟨ne,⟨vs,ga,v1⟩,o,ts,gT,dT,t3⟩:=id x;have n1:a≠ax.heap.objs.size:=(I'.Bu ga rfl).1;have n2:Tb≠ax.heap.objs.size:=(I'.Bu gT dT).1;refine ⟨m,hn,fun h' bE aZ _=>?_⟩;have IX:Inv X pins σ H' { s' with heap:=h' }:=Jl I3 f3 I' bE;have oa:∀ b,ax.heap.objs.size<=b->Off X pins b:=fun b hb=>I3.off hb;have x':XAt h' a C dx Tb fl:=⟨ne,⟨vs,bE.extBut _ _ n1 ga,v1⟩,o,ts,bE.extBut _ _ n2 gT,dT,t3⟩;unfold PySem.passOn;refine wpAny_bind (wpAny_field (s:={ s' with heap:=h' }) (bE.extBut _ _ n1 ga) rfl v1 ?_);rw [if_neg (show ¬ ((Value.ref Tb==Value.none)=true) from by simp)];refine wpAny_bind (T4 (s:={ s' with heap:=h' }) _ x' fun h2 cy k2 x2=>?_);refine wpAny_throw ?_;have fP:=(IX.noted (h':=h2) (k2.mono (fun _ z=>nomatch z) (fun _ z=>z)) (fun b hb=>by rw [List.mem_singleton.mp hb]; exact hT) (fun b hb=>by rw [List.mem_singleton.mp hb]; exact oa _ zT)).Bk (pins':=[]) (fun p hp=>nomatch hp);have o0:∀ b,ax.heap.objs.size<=b->Off X [] b:=fun b hb=>(I3.Bk (pins':=[]) (fun p hp=>nomatch hp)).off hb;exact xa.go σ H' _ a C dx Tb cy fP x2 ha hT (o0 _ za) (o0 _ zT) hE
end
end L2
namespace C
open PySem PySem.Spec PyProof.Rows L2
section
variable {X:Cx} {scope:Scope} {N:List Str}
variable {B:Bas} {nv:Nat} {aA:List Nat} {g:G} {it:M (List T)} {e:MX} {tg iter elt:Expr} {pos:Pos} {Cl:Addr} {f:Str} {E:XK}
theorem Ny (xa:XA X E) (co:a4u X scope N nv aA) (sc:Es X scope N) (calm:X.calm=true) (hi:PI X tg iter (iOf X.K B it)) (bM:∀ st ts aa,it st=some (ts,aa)->ts.length<=sizeLine)
  (hg:∀ C s₀ H₀ ex pn,PG (jj X scope N C s₀ H₀ ex pn) tg (gE X.K g))
  (he:∀ C s₀ H₀ ex pn,PE ((jj X scope N C s₀ H₀ ex pn).wish (xeX (jj X scope N C s₀ H₀ ex pn) E)) elt (eX X.K Cl f E e))
  (hs:∀ x,foldedSetIterable iter X.env x=pure x:=by intro _; rfl):PE X (.ListComp elt [⟨tg,iter,[],0⟩] scope pos) (Iw X.K B Cl f E (Eh nv aA g it e)) :=
 (a00 xa sc calm hi hg he hs).imp fun σ H Q z9=>by
  obtain ⟨st,ps,S,as,R,v,aa,ev,q⟩:=z9;obtain ⟨ts,s1,r,s2,e1,e2,zr,rfl⟩:=Ry ev;refine ⟨st,ps,S,as,R,ts,s1,e1,bM _ _ _ e1,fun J H1 S1 ag aX R1 facts=>?_⟩;obtain ⟨S2,R2⟩:=R1.j8 aA;refine U6 co.len (fun _ _ _ _=>trivial) co.at' R2 (fun k hk=>Dt aA s1.env k hk) (fun S as H _ _=>facts S as H) e2 ?_;cases r with
  | inl us =>
   subst zr;intro Dd H' S' ai R' o n;obtain ⟨S3,R3⟩:=(R'.pick fun p hp=>List.mem_append_right _ hp).give o n;exact q _ H' S3 ai R3
  | inr x =>
   subst zr;exact fun v dx H' S' ai R' hd=>q v dx H' S' ai (((R'.pick (ps2:=ps) fun p hp=>List.mem_cons_of_mem _ (List.mem_append_right _ hp))).push R'.top) hd
end
noncomputable def Dz (o:M T):M T:=fun s=>match o s with
 | some (.obj n,s1)=>(match s1.sto[n]? with
  | some (.lst xs)=>some (.tup xs,s1)
  | _=>none)
 | _=>none
noncomputable def Cv (o v:M T):S:=fun s=>match o s with
 | some (.obj n,s0)=>(match s0.sto[n]? with
  | some (.lst _)=>(match v s0 with
   | some (t,s1)=>(match s1.sto[n]? with
    | some (.lst xs)=>if xs.length<lim then some (.next,{ s1 with sto:=s1.sto.set n (.lst (xs++[t])) }) else none
    | _=>none)
   | none=>none)
  | _=>none)
 | _=>none
noncomputable def Ew (sep o:M T):M T:=fun s=>match sep s with
 | some (a,s1)=>(match o s1 with
  | some (.obj n,s2)=>(match s2.sto[n]? with
   | some (.lst xs)=>(match Ae a (.lst xs) with
    | some t=>some (t,s2)
    | none=>none)
   | _=>none)
  | _=>none)
 | none=>none
noncomputable def Kg (j:Nat):M T:=fun s=>match s.env[j]? with
 | some (some (.lst xs,true))=>(match xs[xs.length - 1]? with
  | some t=>some (t,jr j (.lst xs.dropLast) true s)
  | none=>none)
 | _=>none
def a2d:List T->Option T
 | [.int i,.int j]=>some (.int (if j<i then j else i))
 | _=>none
noncomputable def a3m (g:T->Option T) (a:MX):MX:=fun s=>match a s with
 | some (.inl x,s1)=>(match g x with
  | some w=>some (.inl w,s1)
  | none=>none)
 | some (.inr x,s1)=>some (.inr x,s1)
 | none=>none
noncomputable def Vf (c:Nat) (f:Str) (F:FnX) (a:M (List T)) (i:Nat) (b:S):S:=fun s=>match a s with
 | some (ts,s1)=>(match F ts s1.sto with
  | some (.inr t,sto)=>(match b (jr i (.obj sto.length) false { s1 with sto:=sto++[.exc c f t] }) with
   | some (.next,s2)=>some (.next,clr i s2)
   | _=>none)
  | _=>none)
 | none=>none
noncomputable def Yp:T->T->Option T
 | .str x,.int j=>if 0<=j/\j<=10000/\x.length<=100 then some (.str ⟨((List.replicate j.toNat x.cps.toList).flatten).toArray⟩) else none
 | _,_=>none
section
variable {X:Cx}
theorem X7:OpT X (binaryOp .Mult) Yp:=by
 intro pins s σ H x y v u Q I rx ry z8;obtain ⟨S,as,t,t2,w,sub,ht,hu,hf,q⟩:=z8;cases ht <;> first | exact nomatch (show none=some w from hf) | cases hu <;> first | exact nomatch (show none=some w from hf) | simp only [Yp] at hf
 ·rename_i z j;split at hf
  ·rename_i hb; cases hf;obtain ⟨t',rfl⟩:=rx;obtain ⟨t2',rfl⟩:=ry;refine SB.mul ⟨?_,fun _ _=>?_,fun _ _=>?_⟩ fun t3 k=>⟨.str (Txt.mul z j),H,I.tok _,⟨_,rfl⟩,?_⟩
   ·have h1:¬ j < -(2 ^ 63:Int):=by omega
    have h2:¬ j >= 2 ^ 63:=by omega
    rw [decide_eq_false h1,decide_eq_false h2]; rfl
   ·have h1:(z.length:Int)<=100:=by omega
    have h2:(100:Int)<=(2 ^ 63 - 1) / j:=by
     have hj:0<j:=by
      rcases Int.lt_or_le 0 j with h | h
      ·exact h
      ·exfalso;have:j=0:=by omega
       subst this;rename_i a _; exact a (by decide)
     exact (Int.le_ediv_iff_mul_le hj).mpr (by omega)
    omega
   ·have h3:z.length * j.toNat<=100 * 10000:=Nat.mul_le_mul hb.2.2 (by omega);unfold Builtin.Str.tooLong;rw [sizeLine_eq];exact decide_eq_false (by omega)
   ·rw [Xo z j hb.1]; exact q _ H S (Ext.refl sub) (.str _)
  ·cases hf
end
section
variable {X:Cx} {B:Bas} {a b c e o k:Expr} {m mo mk mv m1 m2:M T} {pos p:Pos}
theorem X4 (hg:Gl X "tuple") (hm:X.mg "tuple" = none) (ho:PE X o (tOf X.K B mo)) (he:starEach [o] X.env=(false,eval o X.env)::starEach [] X.env:=by rfl) (aI:(backTo pos (starEach [] X.env)).any (·.1)=false:=by rfl) :
  PE X (.Call (.Name "tuple" p) [o] [] pos) (tOf X.K B (Dz mo)):=(Am Br hg hm (by rfl) (nu ho v9 he) (by decide) (by decide) he aI).imp fun σ H Q z9=>by
 obtain ⟨st,ps,S,as,R,t,aa,ev,q⟩:=z9;unfold Dz at ev;split at ev
 ·rename_i n s1 e1;split at ev
  ·rename_i xs e2;cases ev;refine ⟨st,ps,S,as,R,_,_,e1,fun v H1 S1 ag R1=>?_⟩;have t1:=R1.top;cases t1 with
   | @obj _ a ha =>
    obtain ⟨a',h1,h2,vs,h3,h4⟩:=R1.sto.at' n _ e2;rw [ha] at h1; cases h1;refine ⟨a,vs,rfl,.inl ⟨SqL.of h3,fun l hl=>?_⟩⟩;have y:=Ext.laid R1.sub hl (.tup vs);exact q _ _ _ _ ((R1.drop.ext y).push (.tup (SqT.of dj) (h4.mono y.s nol)))
  ·cases ev
 ·cases ev
theorem Sq {st:Stmt} (h:PS X st (Wc (tBM X.K "list" Ht (tOf X.K B mo) (Sw (tOf X.K B mv) a3g)))):PS X st (sOf X.K B (Cv mo mv)):=h.imp fun D σ H z9=>by
 obtain ⟨st,ps,S,as,R,fl,aa,e,q⟩:=z9;unfold Cv at e;split at e
 ·rename_i n s0 e0;split at e
  ·rename_i ys ey;split at e
   ·rename_i t s1 e1;split at e
    ·rename_i xs e2;obtain ⟨hl,e⟩:=Du e;cases e;refine ⟨st,ps,S,as,R,_,s0,e0,fun v0 H0 S0 fT R0=>?_⟩;have tp:=R0.top;cases tp with
     | @obj _ a0 ha0 =>
      obtain ⟨a0',l0,_,vs0,l1,_⟩:=R0.sto.at' n _ ey;rw [ha0] at l0; cases l0;refine ⟨.inl ⟨rfl,_,SqL.of l1⟩,s0,_,S0,fT,R0,_,s1,e1,fun v H1 S1 ag R1=>?_⟩;have t2:=R1.top2;cases t2 with
      | @obj _ a2 ha2 =>
       obtain ⟨a',k1,k2,vs,k3,k4⟩:=R1.sto.at' n _ e2;rw [ha2] at k1; cases k1;exact ⟨_,vs,v,rfl,rfl,k3,by rw [k4.length]; exact Nat.lt_of_lt_of_le hl jo,q _ _ S1 ag (R1.drop.drop.Qc e2 ha2 ⟨_,dj,k4.append (.cons R1.top .nil)⟩)⟩
    ·cases e
   ·cases e
  ·cases e
 ·cases e
theorem Td {apos ay:Pos} (h1:PE X a (tOf X.K B m1)) (h2:PE X b (tOf X.K B m2))
  (aJ:attributeBase a "join" X.env (eval a X.env)=eval a X.env:=by rfl)
  (bt:((backTo ay (starEach [b] X.env)).all (fun x=>!x.1)&&(backToKw ay (keywordEach [] X.env)).all (fun x=>x.1.isSome)
   && decide (([b]:List Expr).length+([]:List Keyword).length+(if ([]:List Keyword).isEmpty then 0 else 1)<30))=true:=by rfl)
  (aN:(apos.endLine==ay.line)=true:=by rfl) (hs:starEach [b] X.env=(false,eval b X.env)::starEach [] X.env:=by rfl) (aL:(backTo ay (starEach [] X.env)).any (·.1)=false:=by rfl) :
  PE X (.Call (.Attribute a "join" apos) [b] [] ay) (tOf X.K B (Ew m1 m2)) :=
 (Kl PySem.F.plainAttrs_str PySem.F.slot_str_join PySem.F.type_str_join Ve h1 (nu h2 v9 hs) aJ bt aN hs aL).imp fun σ H Q z9=>by
  obtain ⟨st,ps,S,as,R,t,aa,ev,q⟩:=z9;unfold Ew at ev;split at ev
  ·rename_i t1 s1 e1;split at ev
   ·rename_i n s2 e2;split at ev
    ·rename_i xs e4;split at ev
     ·rename_i t e3;cases ev;unfold Ae at e3;split at e3
      ·rename_i sep ts fE;cases fE;split at e3
       ·rename_i l hl;split at e3
        ·rename_i hz;cases e3;obtain rfl:=G7 hl;refine ⟨st,ps,S,as,R,_,s1,e1,fun v H1 S1 ag R1=>?_⟩;have tp:=R1.top;cases tp;refine ⟨rfl,s1,_,S1,ag,R1,_,_,e2,fun v2 H2 S2 aD R2=>?_⟩;have da:=R2.top;cases da with
         | @obj _ a2 ha2 =>
          obtain ⟨a',k1,k2,vs,k3,k4⟩:=R2.sto.at' n _ e4;rw [ha2] at k1; cases k1;obtain rfl:=Hj k4;exact ⟨sep,_,l,rfl,rfl,SqL.of k3,hz,Nat.lt_of_le_of_lt (Cy sep l) hz,q _ _ _ _ (R2.drop.drop.push (.str _))⟩
        ·cases e3
       ·cases e3
      ·cases e3
     ·cases ev
    ·cases ev
   ·cases ev
  ·cases ev
theorem a3c (j:Nat) (h:PE X e (aaf X.K "list" aad (Y7 j))):PE X e (tOf X.K B (Kg j)):=h.imp fun σ H Q z9=>by
 obtain ⟨st,ps,S,as,R,t,aa,ev,q⟩:=z9;unfold Kg at ev;split at ev
 ·rename_i xs e2;split at ev
  ·rename_i t e3;cases ev;obtain ⟨w,h1,_,h3⟩:=R.slots j _ true e2;obtain ⟨p0,rfl,ow⟩:=h3 rfl;obtain ⟨vs,hH,h4⟩:=ow.own;obtain ⟨y,hy,ry⟩:=h4.get e3;have dD:vs[vs.length - 1]? = some y:=by rw [h4.length]; exact hy
   have R2:=R.turn (ob:=.lst vs.dropLast) (t':=.lst xs.dropLast) e2 h1 ⟨_,dj,h4.dropLast⟩;exact ⟨_,h1,.inl ⟨rfl,_,SqL.of hH⟩,p0,vs,y,rfl,rfl,hH,dD,q _ _ S as (R2.push ry)⟩
  ·cases ev
 ·cases ev
theorem Tj (hc:X.calm=true):Xn X (.builtin "min") a2d:=by
 intro pins s σ H xs us Q I rs z8;obtain ⟨S,as,ts,w,sub,hr,hf,q⟩:=z8;cases hr with
 | nil=>exact jm hf
 | @cons x t xs' ts' h1 h2 =>
  cases h2 with
  | nil=>cases h1 <;> exact jm hf
  | @cons y u xs2 ts2 h3 h4 =>
   cases h4 with
   | cons h5 h6=>cases h1 <;> cases h3 <;> exact jm hf
   | nil =>
    cases h1 with
    | int i =>
     cases h3 with
     | int j =>
      cases hf;exact Uu hc pins s σ H _ us Q I rs ⟨i,j,rfl,q _ H S (Ext.refl sub) (.int _)⟩
     | _=>exact jm hf
    | _=>exact jm hf
end
section
variable {X:Cx} {B:Bas} {a:Expr} {mx:MX} {pos:Pos} {Cl:Addr} {f:Str} {E:XK} {g:T->Option T}
theorem a9z {op:UnaryOp} (ho:UnT X (unaryOp op) g) (ha:PE X a (Iw X.K B Cl f E mx)):PE X (.UnaryOp op a pos) (Iw X.K B Cl f E (a3m g mx)):=(a7u ho ha).imp fun σ H Q z9=>by
 obtain ⟨st,ps,S,as,R,r,aa,e,q⟩:=z9;unfold a3m at e;split at e
 ·rename_i x s1 e1;split at e
  ·rename_i w e2;cases e;exact ⟨st,ps,S,as,R,_,_,e1,fun v H1 S1 ag R1=>⟨S1,ag,x,w,R1.sub,R1.top,e2,fun w H3 S3 x r=>q w H3 S3 ag ((R1.drop.ext x).push r)⟩⟩
  ·cases e
 ·rename_i x s1 e1;cases e;exact ⟨st,ps,S,as,R,_,_,e1,q⟩
 ·cases e
theorem Jv {ms:MXs} {h:List T->Option T} {e:Expr} (hp:PE X e (tCB (rL X.K h) (a5r X.K B Cl f E ms))):PE X e (Iw X.K B Cl f E (wz h ms)) :=
 hp.imp fun σ H Q z9=>by
  obtain ⟨st,ps,S,as,R,r,aa,e,q⟩:=z9;obtain ⟨ra,e1,e2⟩:=Lq e;rcases e2 with ⟨ts,t,rfl,e3,rfl⟩ | ⟨x,rfl,rfl⟩
  ·exact ⟨st,ps,S,as,R,_,aa,e1,fun vs H1 S1 ag R1 rs=>⟨S1,ag,ts,t,R1.sub,rs,e3,fun v H2 S2 x r=>q v H2 S2 ag ((R1.ext x).push r)⟩⟩
  ·exact ⟨st,ps,S,as,R,_,aa,e1,q⟩
end
section
variable {K:PySem.W.Frag} {B:Bas} {f:Str} {i:Nat} {mb:S} {Cl:Addr}
def aa7 (K:PySem.W.Frag) (B:Bas) (Cl:Addr) (f:Str) (i:Nat) (mb:S) (th:Addr->TS):Prop :=
 ∀ dx D σ H st ps S as v t s2,Rel K B st σ H ((v,t)::ps) S as->S dx=some (Bg dx f v)->mb (jr i (.obj st.sto.length) false { st with sto:=st.sto++[.exc Cl f t] })=some (.next,s2)->(∀ ah H' S' ai,Rel K B (clr i s2) ah H' ps S' ai->D.nx ah H')->th dx D σ H
theorem Z7:aa7 K B Cl f i mb (fun dx D σ H=>∀ a,H a=none->i<σ.length->sOf K B mb (a6p i D) (σ.set i (some (.ref a))) (upd H a (O7 a Cl dx))):=fun dx D σ H st ps S as v t s2 R hd e q a ha hi=>by
 have R1:=R.drop.newObj (ob:=O7 a Cl dx) (so:=.exc Cl f t) ha ⟨dx,v,dj,hd,R.top.mono (Same.refl _) ⟨[a],rfl⟩⟩;refine ⟨_,ps,_,_,R1.drop.put (i:=i) R1.top,.next,s2,e,fun ah H' S' ai R'=>?_⟩;exact q _ _ _ _ (R'.clr (fun k n=>List.getElem?_set_ne (Ne.symm n)) (List.length_set ..))
end
section
variable {X:Cx} {B:Bas} {e:Expr} {es:List Expr} {ms:M (List T)} {pos p q1 q2 aM:Pos} {k:Nat} {a Cl:Addr} {f x:Str} {fd:FuncData} {pn:List Str} {F:FnX} {h₀:ExceptHandler} {hs:List ExceptHandler} {th:Addr->TS} {i:Nat} {mb:S}
theorem a3b (D:w6 X.prog X.w X.K X.mg X.base x k pn Cl f F) (hst:X.stack=X.env::X.outer) (hfr:X.env.frame=some X.env.locals) (hr:Ab k X.A) (hg:Gl X x)
  (ha:PA X.nox (e::es) (aOf X.K B ms)) (hl:∀ st ts aa,ms st=some (ts,aa)->ts.length=pn.length) (hh:PHs X (h₀::hs) Cl th) (ho:aa7 X.K B Cl f i mb th) (aP:(x==("__debug__" : Str))=false:=by decide)
  (he:starEach (e::es) X.env=(false,eval e X.env)::starEach es X.env:=by rfl) (aI:(backTo pos (starEach es X.env)).any (·.1)=false:=by rfl) (cB:swapsWith (.Call (.Name x p) (e::es) [] pos) none q1.line X.env=pure false:=by rfl) :
  PS X (.Try [.Expr (.Call (.Name x p) (e::es) [] pos) q1] (h₀::hs) [] [] q2) (sOf X.K B (Vf Cl f F ms i mb)):=by
 obtain ⟨fa,fd,G,hb,hk,hm⟩:=D;refine (a77 hst hfr (a2x G hr hg hm hk hb ha aP he aI cB) hh).imp fun D σ H z0=>?_;obtain ⟨st,ps,S,as,R,fl,aa,e,q⟩:=z0;unfold Vf at e;split at e
 ·rename_i ts s1 e1;split at e
  ·rename_i t sto e2;split at e
   ·rename_i s2 e3;cases e;refine ⟨st,ps,S,as,R,ts,s1,e1,fun vs H1 S1 ag R1 rs=>⟨S1,ag,s1.sto,ts,.inr t,sto,R1.sub,R1.sto,rs,hl _ _ _ e1,e2,?_⟩⟩;exact fun v dx H2 S2 aD g sub so r hd=>⟨dx,rfl,rfl,ho dx D σ H2 _ ps S2 aD v t s2 ((R1.call g sub so).push r) hd e3 q⟩
   ·cases e
  ·cases e
 ·cases e
end
end C
end
section
namespace L2
open PySem PySem.Spec PyProof.Rows
section
variable {prog:Program} {w:World} {A:Around} {E:Value->Shared->Prop} {s:Shared} {a kS:Addr} {vs:List Value} {kz:List Int} {P:PySem.Fin->Shared->Prop} {keys:Array Value} {e e1:Nat}
end
section
variable {X:Cx} {pins:List (Addr × Obj)} {σ:St} {H:Hp} {s:Shared} {E:Value->Shared->Prop} {l:Addr} {Q:VK} {vs:List Value} {kz:List Int} {f:Value} {kw:List (Str × Value)}
end
end L2
end
section
namespace C
open PySem PySem.Spec PyProof.Rows L2
section
variable {X:Cx} {B:Bas} {e:Expr} {m:M T} {pos p q dX:Pos} {x y pn:Str} {F:Fn} {k:Nat}
end
section
variable {X:Cx} {B:Bas} {k o e:Expr} {mk mo mx:M T} {pos:Pos}
end
end C
end
section
namespace K
open C PySem
noncomputable def Fl:Fn:=zp 1
 (Az (xu (Dj (dg (Im leT leT (ak (.int 1)) (j5 vf (ao (bf 0) cu)) (ak (.int 8)))) (dg (xu (Dj (dg (mOp inS (mOp gb (bf 0) (ak (.int 0))) (ak (.str "abcdefghijklmnopqrstuvwxyz")))) (dg (xu (Dj (dg (j5 a71 (ao (J1 1 [] (hName 0) (Er (bf 0)) Te (mOp inS (bf 0) (ak (.str "abcdefghijklmnopqrstuvwxyz0123456789")))) cu))) (dg (mOp Ky (bf 0) (ak (.tup [(.str "box"),(.str "lock"),(.str "hand"),(.str "own"),(.str "end"),(.str "set"),(.str "wait"),(.str "if"),(.str "else"),(.str "while"),(.str "rounds"),(.str "either"),(.str "or"),(.str "and"),(.str "not"),(.str "take"),(.str "give"),(.str "label"),(.str "say"),(.str "at"),(.str "divides"),(.str "true"),(.str "false")])))))))))))))
noncomputable def Bo:Fn:=zp 1
 (qe (sIf (mOr (dg (mOp eqO (bf 0) (ak (.str "")))) (Xe (dg (j5 a71 (ao (J1 1 [] (hName 0) (Er (bf 0)) Te (mOp inS (bf 0) (ak (.str "0123456789")))) cu)))))
 (Az (ak (.bl false)))
 Ec)
 (Az (xu (mOr (dg (mOp eqO (bf 0) (ak (.str "0")))) (dg (mOp neO (mOp gb (bf 0) (ak (.int 0))) (ak (.str "0"))))))))
noncomputable def u6 (cR cN:Nat):Fn:=zp 2
 (qe (yh cR "rows" (bf 0) (mIf (dg (mOp eqO (bf 1) (ak (.str "")))) (j5 (fun l=>some (.lst l)) cu) (mOp Ag (bf 1) (ak (.str "\n")))))
 (yh cR "number" (bf 0) (ak (.int 0))))
noncomputable def iz (cR cN:Nat):FnX:=rm 1
 (vq (lx (yh cR "number" (bf 0) (mOp jt (J5 cR "number" (bf 0)) (ak (.int 1)))))
 (vq (xIf (dg (mOp gtT (J5 cR "number" (bf 0)) (j5 a2d (ao (j5 vf (ao (J5 cR "rows" (bf 0)) cu)) (ao (ak (.int 5000)) cu)))))
 (Ig (J5 cR "number" (bf 0)))
 (lx Ec))
 (lx (Az (mOp Ag (mOp gb (J5 cR "rows" (bf 0)) (mOp Zq (J5 cR "number" (bf 0)) (ak (.int 1)))) (ak (.str " ")))))))
def d7 (cR cN:Nat):FnX:=rm 2
 (xIf (Xe (dg (bf 1)))
 (Ig (J5 cR "number" (bf 0)))
 (lx Ec))
noncomputable def gk (cR cN:Nat):FnX:=rm 4
 (vq (yw (mq cR "need_that" (d7 cR cN) (bf 0) (gj (Di (xu (Dj (dg (fj Bo (ao (bf 1) cu))) (dg (mOp leT (j5 vf (ao (bf 1) cu)) (ak (.int 400))))))) n6)))
 (vq (lx (ou 3 (j5 a8b (ao (bf 1) cu))))
 (vq (yw (mq cR "need_that" (d7 cR cN) (bf 0) (gj (Di (mOp geT (bf 3) (bf 2))) n6)))
 (lx (Az (bf 3))))))
noncomputable def yt (cR cN:Nat):FnX:=rm 2
 (vq (yw (mq cR "need_that" (d7 cR cN) (bf 0) (gj (Di (fj Fl (ao (bf 1) cu))) n6)))
 (lx (Az (bf 1))))
noncomputable def Ah (cR cN:Nat):FnX:=rm 3
 (vq (Iv 1 (mq cR "next_words" (iz cR cN) (bf 0) n6))
 (vq (xIf (dg (mOp eqO (mOp gb (bf 1) (ak (.int 0))) (ak (.str "start"))))
 (vq (yw (mq cR "need_that" (d7 cR cN) (bf 0) (gj (Di (mOp eqO (j5 vf (ao (bf 1) cu)) (ak (.int 2)))) n6)))
 (Lg (wz (fun l=>some (.tup l)) (gj (Di (ak (.str "start"))) (gj (ig (yt cR cN) (ao (bf 0) (ao (mOp gb (bf 1) (ak (.int 1))) cu))) n6)))))
 (lx Ec))
 (vq (xIf (dg (mOp eqO (mOp gb (bf 1) (ak (.int 0))) (ak (.str "own"))))
 (vq (yw (mq cR "need_that" (d7 cR cN) (bf 0) (gj (Di (mOp eqO (j5 vf (ao (bf 1) cu)) (ak (.int 2)))) n6)))
 (Lg (wz (fun l=>some (.tup l)) (gj (Di (ak (.str "own"))) (gj (ig (gk cR cN) (ao (bf 0) (ao (mOp gb (bf 1) (ak (.int 1))) (ao (ak (.int 0)) cu)))) n6)))))
 (lx Ec))
 (vq (yw (mq cR "need_that" (d7 cR cN) (bf 0) (gj (Di (xu (Dj (dg (mOp eqO (mOp gb (bf 1) (ak (.int 0))) (ak (.str "other")))) (dg (mOp eqO (j5 vf (ao (bf 1) cu)) (ak (.int 4))))))) n6)))
 (vq (Iv 2 (ig (gk cR cN) (ao (bf 0) (ao (mOp gb (bf 1) (ak (.int 1))) (ao (ak (.int 0)) cu)))))
 (Lg (wz (fun l=>some (.tup l)) (gj (Di (ak (.str "other"))) (gj (Di (bf 2)) (gj (ig (yt cR cN) (ao (bf 0) (ao (mOp gb (bf 1) (ak (.int 2))) cu))) (gj (ig (gk cR cN) (ao (bf 0) (ao (mOp gb (bf 1) (ak (.int 3))) (ao (ak (.int 0)) cu)))) n6)))))))))))
noncomputable def Gk (cR cN:Nat):FnX:=rm 2
 (vq (yw (ig (yt cR cN) (ao (bf 0) (ao (mIf (dg (mOp eqO (lu (bf 1) m6 (oh (ak (.int 1)))) (ak (.str "@")))) (lu (bf 1) (oh (ak (.int 1))) m6) (bf 1)) cu))))
 (lx (Az (bf 1))))
noncomputable def ug (cR cN:Nat):FnX:=rm 2
 (vq (xIf (dg (mOp neO (lu (bf 1) m6 (oh (ak (.int 1)))) (ak (.str "-"))))
 (Lg (ig (gk cR cN) (ao (bf 0) (ao (bf 1) (ao (ak (.int 0)) cu)))))
 (lx Ec))
 (Lg (a3m Gg (ig (gk cR cN) (ao (bf 0) (ao (lu (bf 1) (oh (ak (.int 1))) m6) (ao (ak (.int 1)) cu)))))))
noncomputable def Dh (cR cN:Nat):FnX:=rm 5
 (vq (lx (ou 2 (mOp Ag (bf 1) (ak (.str "*")))))
 (vq (yw (mq cR "need_that" (d7 cR cN) (bf 0) (gj (Di (mOp eqO (j5 vf (ao (bf 2) cu)) (ak (.int 2)))) n6)))
 (vq (lx (ou 3 (mOp Ag (mOp gb (bf 2) (ak (.int 0))) (ak (.str ",")))))
 (vq (Iv 4 (ig (ug cR cN) (ao (bf 0) (ao (mOp gb (bf 2) (ak (.int 1))) cu))))
 (vq (yw (mq cR "need_that" (d7 cR cN) (bf 0) (gj (Di (xu (Dj (dg (mOp leT (j5 vf (ao (bf 3) cu)) (ak (.int 2)))) (dg (mOp neO (bf 4) (ak (.int 0))))))) n6)))
 (Lg (a1e jt (wz Dl (gj (Eh 1 [0] (hName 0) (Nf (bf 3)) (ig (gk cR cN) (ao (bf 1) (ao (bf 0) (ao (ak (.int 0)) cu))))) n6)) (Di (j5 (fun l=>some (.tup l)) (ao (bf 4) cu))))))))))
noncomputable def Ej (cR cN:Nat):FnX:=rm 3
 (vq (lx (ou 2 (mOp Ag (bf 1) (ak (.str "*")))))
 (vq (yw (mq cR "need_that" (d7 cR cN) (bf 0) (gj (Di (mOp eqO (j5 vf (ao (bf 2) cu)) (ak (.int 2)))) n6)))
 (Lg (wz (fun l=>some (.tup l)) (gj (ig (gk cR cN) (ao (bf 0) (ao (mOp gb (bf 2) (ak (.int 0))) (ao (ak (.int 0)) cu)))) (gj (ig (gk cR cN) (ao (bf 0) (ao (mOp gb (bf 2) (ak (.int 1))) (ao (ak (.int 1)) cu)))) n6))))))
noncomputable def Ao (cR cN:Nat):FnX:=rm 3
 (vq (Iv 1 (mq cR "next_words" (iz cR cN) (bf 0) n6))
 (vq (xIf (dg (mOp eqO (mOp gb (bf 1) (ak (.int 0))) (ak (.str "or"))))
 (vq (yw (mq cR "need_that" (d7 cR cN) (bf 0) (gj (Di (mOp eqO (j5 vf (ao (bf 1) cu)) (ak (.int 3)))) n6)))
 (Lg (wz (fun l=>some (.tup l)) (gj (Di (ak (.str "or"))) (gj (ig (gk cR cN) (ao (bf 0) (ao (mOp gb (bf 1) (ak (.int 1))) (ao (ak (.int 0)) cu)))) (gj (ig (gk cR cN) (ao (bf 0) (ao (mOp gb (bf 1) (ak (.int 2))) (ao (ak (.int 0)) cu)))) n6))))))
 (lx Ec))
 (vq (xIf (dg (mOp eqO (mOp gb (bf 1) (ak (.int 0))) (ak (.str "cut"))))
 (vq (yw (mq cR "need_that" (d7 cR cN) (bf 0) (gj (Di (mOp eqO (j5 vf (ao (bf 1) cu)) (ak (.int 3)))) n6)))
 (Lg (wz (fun l=>some (.tup l)) (gj (Di (ak (.str "cut"))) (gj (ig (Gk cR cN) (ao (bf 0) (ao (mOp gb (bf 1) (ak (.int 1))) cu))) (gj (ig (ug cR cN) (ao (bf 0) (ao (mOp gb (bf 1) (ak (.int 2))) cu))) n6))))))
 (lx Ec))
 (vq (xIf (dg (mOp eqO (mOp gb (bf 1) (ak (.int 0))) (ak (.str "sum"))))
 (Lg (wz (fun l=>some (.tup l)) (gj (Di (ak (.str "sum"))) (gj (wz Dl (gj (Eh 1 [0] (hName 0) (Nf (ni (bf 1) (oh (ak (.int 1))) m6)) (ig (Ej cR cN) (ao (bf 1) (ao (bf 0) cu)))) n6)) n6))))
 (lx Ec))
 (vq (yw (mq cR "need_that" (d7 cR cN) (bf 0) (gj (Di (xu (Dj (dg (mOp eqO (mOp gb (bf 1) (ak (.int 0))) (ak (.str "rest")))) (dg (mOp geT (j5 vf (ao (bf 1) cu)) (ak (.int 2))))))) n6)))
 (vq (Iv 2 (ig (gk cR cN) (ao (bf 0) (ao (mOp gb (bf 1) (ak (.int 1))) (ao (ak (.int 2)) cu)))))
 (Lg (wz (fun l=>some (.tup l)) (gj (Di (ak (.str "rest"))) (gj (Di (bf 2)) (gj (wz Dl (gj (Eh 1 [0] (hName 0) (Nf (ni (bf 1) (oh (ak (.int 2))) m6)) (ig (Dh cR cN) (ao (bf 1) (ao (bf 0) cu)))) n6)) n6)))))))))))
noncomputable def qw:Fn:=zp 2
 (qe (sIf (dg (mOp eqO (mOp gb (bf 0) (ak (.int 0))) (ak (.str "or"))))
 (Az (j5 (fun l=>some (.tup l)) (ao (ak (.str "or")) (ao (mOp gb (bf 0) (ak (.int 1))) (ao (bf 1) cu)))))
 Ec)
 (Az (mOp jt (bf 0) (bf 1))))
noncomputable def m8 (cR cN:Nat):FnX:=rm 5
 (vq (lx (sNew 1 (j5 (fun l=>some (.lst l)) cu)))
 (m7 6000 (dg (ak (.bl true)))
 (vq (Iv 2 (ig (Ao cR cN) (ao (bf 0) cu)))
 (vq (yw (mq cR "need_that" (d7 cR cN) (bf 0) (gj (Di (mOp ltT (yp 1) (ak (.int 90)))) n6)))
 (vq (lx (ou 3 (mIf (dg (mOp eqO (mOp gb (bf 2) (ak (.int 0))) (ak (.str "or")))) (mOp gb (bf 2) (ak (.int 2))) (mIf (dg (mOp eqO (mOp gb (bf 2) (ak (.int 0))) (ak (.str "cut")))) (ak (.int 2)) (ak (.int 0))))))
 (vq (lx (v7 1 (j5 (fun l=>some (.tup l)) (ao (bf 2) (ao (bf 3) (ao (uh cu) cu))))))
 (lx (u9 6000 (dg (mOp eqO (Dw (mOp gb (vo 1 (mUn Gg (ak (.int 1)))) (ak (.int 2)))) (mOp gb (vo 1 (mUn Gg (ak (.int 1)))) (ak (.int 1)))))
 (qe (ou 4 (fj qw (ao (mOp gb (vo 1 (mUn Gg (ak (.int 1)))) (ak (.int 0))) (ao (Dz (mOp gb (Kg 1) (ak (.int 2)))) cu))))
 (qe (sIf (dg (mOp eqO (yp 1) (ak (.int 0))))
 (Az (bf 4))
 Ec)
 (Cv (mOp gb (vo 1 (mUn Gg (ak (.int 1)))) (ak (.int 2))) (bf 4))))))))))))
noncomputable def qy (cR cN:Nat):FnX:=rm 4
 (vq (lx (ou 1 (Pb cR (u6 cR cN) (ao (bf 0) cu))))
 (vq (lx (sNew 2 (j5 (fun l=>some (.lst l)) cu)))
 (vq (m7 6000 (dg (mOp ltT (J5 cR "number" (bf 1)) (j5 vf (ao (J5 cR "rows" (bf 1)) cu))))
 (vq (Iv 3 (ig (Ah cR cN) (ao (bf 1) cu)))
 (Cm 2 (wz (fun l=>some (.tup l)) (gj (Di (bf 3)) (gj (ig (m8 cR cN) (ao (bf 1) cu)) n6))))))
 (lx (Az (bf 2))))))
def jy (cR cN:Nat):Fn:=norm (qy cR cN)
noncomputable def Af:Fn:=zp 1
 (Az (uh (ao (bf 0) (ao (mOp jt (ak (.int 1)) (mOp Mr (bf 0) (ak (.int 2147483646)))) cu))))
noncomputable def c7:Fn:=zp 3
 (qe (sIf (mOr (dg (mOp eqO (nj (bf 0) (ak (.int 0))) (ak (.int 0)))) (dg (mOp eqO (nj (bf 0) (ak (.int 0))) (mUn Gg (ak (.int 1))))))
 (qe (Hg (bf 0) (ak (.int 1)) (mOp Mr (mOp jt (mOp a0v (nj (bf 0) (ak (.int 1))) (ak (.int 48271))) (ak (.int 11))) (ak (.int 2147483647))))
 (Az (mOp Mr (mOp Kc (mOp Mr (mOp a0v (nj (bf 0) (ak (.int 1))) (ak (.int 16807))) (ak (.int 2147483629))) (ak (.int 5))) (bf 1))))
 Ec)
 (qe (ou 2 (mOp Mr (nj (bf 0) (ak (.int 0))) (bf 1)))
 (qe (Hg (bf 0) (ak (.int 0)) (mOp Kc (nj (bf 0) (ak (.int 0))) (bf 1)))
 (Az (bf 2)))))
mutual
def ji:Nat->Fn
 | 0=>fun _ _=>none
 | n+1=>zp 7
   (qe (ou 2 (fj c7 (ao (bf 0) (ao (ak (.int 5)) cu))))
   (qe (sIf (Dj (dg (mOp eqO (bf 2) (ak (.int 0)))) (dg (mOp ltT (bf 1) (ak (.int 3)))))
   (Az (mOp jt (mOp jt (j5 (fun l=>some (.lst l)) (ao (mOp jt (mOp jt (ak (.str "or ")) (j5 Gh (ao (fj c7 (ao (bf 0) (ao (ak (.int 9)) cu))) cu))) (ak (.str " 2"))) cu)) (fj (ji n) (ao (bf 0) (ao (mOp jt (bf 1) (ak (.int 1))) cu)))) (fj (ji n) (ao (bf 0) (ao (mOp jt (bf 1) (ak (.int 1))) cu)))))
   Ec)
   (qe (sIf (Dj (dg (mOp ltT (bf 2) (ak (.int 3)))) (dg (mOp ltT (bf 1) (ak (.int 3)))))
   (qe (ou 3 (mOp jt (mOp jt (mOp jt (ak (.str "cut ")) (mOp gb (j5 (fun l=>some (.lst l)) (ao (ak (.str "x")) (ao (ak (.str "@b2")) (ao (ak (.str "yz")) cu)))) (fj c7 (ao (bf 0) (ao (ak (.int 3)) cu))))) (ak (.str " "))) (j5 Gh (ao (mOp Zq (fj c7 (ao (bf 0) (ao (ak (.int 41)) cu))) (ak (.int 20))) cu))))
   (Az (mOp jt (mOp jt (j5 (fun l=>some (.lst l)) (ao (bf 3) cu)) (fj (ji n) (ao (bf 0) (ao (mOp jt (bf 1) (ak (.int 1))) cu)))) (fj (ji n) (ao (bf 0) (ao (mOp jt (bf 1) (ak (.int 1))) cu))))))
   Ec)
   (qe (ou 4 (mOp gb (j5 (fun l=>some (.lst l)) (ao (uh (ao (ak (.str "sum")) cu)) (ao (uh (ao (ak (.str "rest")) (ao (j5 Gh (ao (mOp jt (ak (.int 2)) (fj c7 (ao (bf 0) (ao (ak (.int 9)) cu)))) cu)) cu))) cu))) (fj c7 (ao (bf 0) (ao (ak (.int 2)) cu)))))
   (qe (Tz (hName 5) (Ay (fj c7 (ao (bf 0) (ao (ak (.int 3)) cu))))
   (qe (ou 6 (j5 Gh (ao (fj c7 (ao (bf 0) (ao (ak (.int 30)) cu))) cu)))
   (qe (sIf (Dj (dg (mOp eqO (nj (bf 4) (ak (.int 0))) (ak (.str "rest")))) (dg (mOp eqO (fj c7 (ao (bf 0) (ao (ak (.int 2)) cu))) (ak (.int 1)))))
   (ou 6 (mOp jt (mOp jt (bf 6) (ak (.str ","))) (j5 Gh (ao (fj c7 (ao (bf 0) (ao (ak (.int 30)) cu))) cu))))
   Ec)
   (Dv 4 (mOp jt (mOp jt (bf 6) (ak (.str "*"))) (j5 Gh (ao (mOp jt (ak (.int 1)) (fj c7 (ao (bf 0) (ao (ak (.int 99)) cu)))) cu)))))))
   (Az (j5 (fun l=>some (.lst l)) (ao (Ew (ak (.str " ")) (bf 4)) cu))))))))
end
noncomputable def zj:Fn:=zp 4
 (qe (sNew 1 (j5 (fun l=>some (.lst l)) cu))
 (qe (Tz (hName 2) (Ay (mOp jt (ak (.int 1)) (fj c7 (ao (bf 0) (ao (ak (.int 3)) cu)))))
 (qe (ou 3 (j5 Gh (ao (fj c7 (ao (bf 0) (ao (ak (.int 40)) cu))) cu)))
 (qe (v7 1 (mOp gb (j5 (fun l=>some (.lst l)) (ao (ak (.str "start ann")) (ao (mOp jt (ak (.str "own ")) (bf 3)) (ao (mOp jt (mOp jt (ak (.str "other ")) (bf 3)) (ak (.str " b2 3"))) cu)))) (fj c7 (ao (bf 0) (ao (ak (.int 3)) cu)))))
 (sNew 1 (mj 1 (fj (ji 8) (ao (bf 0) (ao (ak (.int 1)) cu))))))))
 (Az (bf 1))))
noncomputable def Ed:Fn:=zp 3
 (qe (ou 1 (mOp jt (ak (.str "1")) (mOp a0v (ak (.str "0")) (ak (.int 400)))))
 (qe (sNew 2 (j5 (fun l=>some (.lst l)) (Bv [""," ","sum "," sum","sum  0*1","sum 0*1 ","sum 0","sum 0*","sum *1","sum 0,1*2","sum 00*1"])))
 (qe (sNew 2 (mj 2 (j5 (fun l=>some (.lst l)) (ao (ak (.str "sum 0*01")) (ao (ak (.str "sum 0*-0")) (ao (ak (.str "sum -1*2")) (ao (ak (.str "sum +1*2")) (ao (ak (.str "sum 0*1*2")) (ao (ak (.str "sum a*1")) (ao (mOp jt (ak (.str "sum 0*")) (bf 1)) (ao (ak (.str "Sum 0*1")) cu)))))))))))
 (qe (sNew 2 (mj 2 (j5 (fun l=>some (.lst l)) (Bv ["rest","rest ","rest x 0*1","rest 2 0,1,2*3","rest 2 0,*3","rest 2 0*1,2","rest 02 0*1"]))))
 (qe (v7 2 (ak (.str "or 1")))
 (qe (sNew 2 (mj 2 (j5 (fun l=>some (.lst l)) (Bv ["or 1 2 3","or -1 2","or x 2","cut x","cut x 1 2","cut X 1","cut 9x 1","cut @ 1","cut x 1.5"]))))
 (qe (sNew 2 (mj 2 (j5 (fun l=>some (.lst l)) (Bv ["cut set 1","cut abcdefghi 1","start","start 1","sum 0*0","sum 0*-1","rest 1 0*1"]))))
 (qe (sNew 2 (mj 2 (j5 (fun l=>some (.lst l)) (Bv ["rest 0 0*1","rest -2 0*1","rest 2 0*0","own x","own 01","own -1","own","start end"]))))
 (qe (sNew 2 (mj 2 (j5 (fun l=>some (.lst l)) (Bv ["start abcdefghi","start a b","other 1 b2","other x b2 3","other 1 B 3","other 1 b2 3 4"]))))
 (Az (mOp gb (mj 2 (j5 (fun l=>some (.lst l)) (ao (ak (.str "other 1 b2 -1")) cu))) (mOp Mr (bf 0) (ak (.int 58))))))))))))))
noncomputable def m9 (cR cN:Nat):Fn:=zp 4
 (qe (ou 1 (ak .non))
 (qe (ou 2 (j5 (fun l=>some (.lst l)) cu))
 (qe (Vf cN "row" (qy cR cN) (ao (bf 0) cu) 3 (qe (ou 1 (mXf cN "row" (bf 3)))
 (ou 2 (j5 (fun l=>some (.lst l)) (ao (Gf [(cN,"row",true)] (bf 3)) (ao (Gf [(cN,"row",true)] (bf 3)) (ao (Gf [(cN,"row",false)] (bf 3)) (ao (Gf [(cN,"row",false)] (bf 3)) (ao (Gf [(cN,"row",false)] (bf 3)) (ao (Gf [(cN,"row",false)] (bf 3)) (ao (Gf [(cN,"row",false)] (bf 3)) cu)))))))))))
 (qe (sIf (dg (mOp neO (bf 2) (j5 (fun l=>some (.lst l)) (ao (ak (.bl true)) (ao (ak (.bl true)) (ao (ak (.bl false)) (ao (ak (.bl false)) (ao (ak (.bl false)) (ao (ak (.bl false)) (ao (ak (.bl false)) cu))))))))))
 (Az (ak .non))
 Ec)
 (Az (bf 1))))))
noncomputable def yd:Fn:=zp 4
 (qe (ou 2 (mOp jt (bf 1) (j5 (fun l=>some (.lst l)) (ao (ak (.str "own 1")) cu))))
 (qe (Tz (hName 3) (Ay (bf 0))
 (ou 2 (mOp jt (bf 2) (j5 (fun l=>some (.lst l)) (ao (mOp jt (ak (.str "cut x ")) (j5 Gh (ao (bf 3) cu))) (ao (ak (.str "sum")) cu))))))
 (Az (mOp jt (bf 2) (j5 (fun l=>some (.lst l)) (ao (ak (.str "sum")) cu))))))
noncomputable def vm (cR cN:Nat):Fn:=zp 9
 (qe (ou 1 (fj Af (ao (bf 0) cu)))
 (qe (ou 2 (fj c7 (ao (bf 1) (ao (ak (.int 8)) cu))))
 (qe (ou 3 (fj zj (ao (bf 1) cu)))
 (qe (sIf (dg (mOp eqO (j5 vf (ao (fj (jy cR cN) (ao (mOp Ae (ak (.str "\n")) (bf 3)) cu)) cu)) (ak (.int 0))))
 (Az (ak (.bl false)))
 Ec)
 (qe (ou 4 (fj c7 (ao (bf 1) (ao (j5 vf (ao (bf 3) cu)) cu))))
 (qe (sIf (dg (mOp ltT (bf 2) (ak (.int 5))))
 (qe (ou 5 (mOp jt (mOp jt (ni (bf 3) m6 (oh (bf 4))) (j5 (fun l=>some (.lst l)) (ao (fj Ed (ao (fj c7 (ao (bf 1) (ao (ak (.int 58)) cu))) cu)) cu))) (ni (bf 3) (oh (mOp jt (bf 4) (ak (.int 1)))) m6)))
 (Az (mOp eqO (fj (m9 cR cN) (ao (mOp Ae (ak (.str "\n")) (bf 5)) cu)) (mOp jt (bf 4) (ak (.int 1))))))
 Ec)
 (qe (sIf (dg (mOp eqO (bf 2) (ak (.int 5))))
 (qe (ou 6 (ni (bf 3) m6 (oh (mOp Zq (j5 vf (ao (bf 3) cu)) (ak (.int 1))))))
 (Az (mOp eqO (fj (m9 cR cN) (ao (mOp Ae (ak (.str "\n")) (bf 6)) cu)) (mOp jt (j5 vf (ao (bf 6) cu)) (ak (.int 1))))))
 Ec)
 (qe (sIf (dg (mOp eqO (bf 2) (ak (.int 6))))
 (qe (ou 7 (mOp jt (bf 3) (j5 (fun l=>some (.lst l)) (ao (mOp gb (j5 (fun l=>some (.lst l)) (Bv ["sum 0*1","cut x 1","or 0 0","rest 2 0*1","","own 1 2"])) (fj c7 (ao (bf 1) (ao (ak (.int 6)) cu)))) cu))))
 (Az (mOp eqO (fj (m9 cR cN) (ao (mOp Ae (ak (.str "\n")) (bf 7)) cu)) (mOp jt (j5 vf (ao (bf 3) cu)) (ak (.int 1))))))
 Ec)
 (qe (ou 8 (fj yd (ao (mOp jt (ak (.int 90)) (fj c7 (ao (bf 1) (ao (ak (.int 3)) cu)))) (ao (ni (bf 3) m6 (oh (ak (.int 0)))) cu))))
 (Az (xu (Dj (dg (mOp eqO (fj (m9 cR cN) (ao (mOp Ae (ak (.str "\n")) (bf 8)) cu)) (ak (.int 181)))) (dg (mOp gtT (j5 vf (ao (fj (jy cR cN) (ao (mOp Ae (ak (.str "\n")) (fj yd (ao (ak (.int 89)) (ao (bf 3) cu)))) cu)) cu)) (ak (.int 1))))))))))))))))
noncomputable def a5b (cR cN:Nat):Fn:=zp 3
 (qe (Tz (hName 1) (Nf (ni (bf 0) m6 (oh (ak (.int 24)))))
 (sIf (Xe (dg (fj (vm cR cN) (ao (bf 1) cu))))
 (Az (ak (.bl false)))
 Ec))
 (qe (sIf (Dj (dg (mOp gtT (j5 vf (ao (bf 0) cu)) (ak (.int 0)))) (dg (mOp eqO (mOp Mr (mOp gb (bf 0) (ak (.int 0))) (ak (.int 16))) (ak (.int 3)))))
 (qe (ou 2 (mOp Yp (ak (.str "own 1\nsum\n")) (ak (.int 2500))))
 (qe (sIf (dg (mOp eqO (mOp Mr (mOp Kc (mOp gb (bf 0) (ak (.int 0))) (ak (.int 16))) (ak (.int 2))) (ak (.int 0))))
 (Az (mOp eqO (j5 vf (ao (fj (jy cR cN) (ao (lu (bf 2) m6 (oh (mUn Gg (ak (.int 1))))) cu)) cu)) (ak (.int 2500))))
 Ec)
 (Az (mOp eqO (fj (m9 cR cN) (ao (mOp jt (bf 2) (ak (.str "own 1\nsum"))) cu)) (ak (.int 5001))))))
 Ec)
 (Az (xu (Dj (dg (fj (vm cR cN) (ao (ak (.int 7)) cu))) (dg (fj (vm cR cN) (ao (ak (.int 5)) cu))))))))
end K
end
section
namespace D
open PySem PySem.Spec PyProof.Rows L2 C
noncomputable def top (i:Nat):Stmt:=PySem.Challenge.pw_calm_k78_papers_refused.main.body.getD i (.Pass ⟨0,0,0,0⟩)
noncomputable def Jg (i:Nat):Stmt->Stmt
 | .ClassDef _ _ _ b _ _ _ _ _ _ _=>b.getD i (.Pass ⟨0,0,0,0⟩)
 | s=>s
section
variable {P:Program} {w:World} {K:PySem.W.Frag} {mg:Str->Option Value} {base:Heap} {x q:Str} {st:Stmt} {N ps:List Str} {k:Nat}
def FA (K:PySem.W.Frag) (mg:Str->Option Value) (x:Str) (st:Stmt):Prop:=∃ f fd,Fun K x x st f fd/\mg x=some (.ref f)
def Bd (x q:Str) (st:Stmt) (ps:List Str):Prop:=∀ (kV doc pm:Value) (an:Option Addr) (aC ct:Value) (us:List Value),us.length=ps.length->bindArgs (PySem.W.fnOf x q (Dq st) (v8 st) (gn st) .none kV doc pm an aC ct) ⟨us,[]⟩=pure (ps.zip us)
abbrev GoB (P:Program) (w:World) (K:PySem.W.Frag) (mg:Str->Option Value) (base:Heap) (q:Str) (st:Stmt) (N:List Str) (k:Nat) (b:S):Prop:=∀ (aC:Value) (A:Around) (outer:List Env) (s:Shared) (H:Hp) (E:XK) (B:Bas) (f:Addr),Ab k (A.deeper (envOfC q (gn st) s.heap.objs.size f aC))->(A.deeper (envOfC q (gn st) s.heap.objs.size f aC)).units+1<cLine->(A.deeper (envOfC q (gn st) s.heap.objs.size f aC)).units+64<cLine->N.Nodup ->
   PSs (M7 CX0 P w K mg base N q (gn st) f aC A outer s H E).nox (v8 st) (sOf K B b)
theorem go0 {b:S} {f:Addr} {fd:FuncData} (F:Fun K x q st f fd) (hb:GoB P w K mg base q st N k b)
  (Sc:Ad N ps (gn st):=by exact ⟨rfl,rfl,rfl,by decide +kernel,rfl,by decide +kernel,by decide +kernel⟩) (hN:ps.length<=N.length:=by decide):Bj P w K mg base CX0 (k+1) f fd ps (spF K ps.length (zp N.length b)) :=
 a2b F Sc hN fun aC A outer s H E B hr=>hb aC A outer s H E B f hr (a4a hr) hr.units Sc.nd
theorem go {b:S} (h:FA K mg x st) (hb:GoB P w K mg base x st N k b)
  (Sc:Ad N ps (gn st):=by exact ⟨rfl,rfl,rfl,by decide +kernel,rfl,by decide +kernel,by decide +kernel⟩) (hN:ps.length<=N.length:=by decide)
  (bd:Bd x x st ps:=by first | (exact fun _ _ _ _ _ _ us hl=>bd1 (fun _=>rfl) us hl) | (exact fun _ _ _ _ _ _ us hl=>bd2 (fun _ _=>rfl) us hl) | (exact fun _ _ _ _ _ _ us hl=>bd3 (fun _ _ _=>rfl) us hl) | (exact fun _ _ _ _ _ _ us hl=>bd4 (fun _ _ _ _=>rfl) us hl) | (exact fun _ _ _ _ _ _ us hl=>bd5 (fun _ _ _ _ _=>rfl) us hl)):yc P w K mg base x (k+1) ps (zp N.length b):=by
 obtain ⟨f,fd,F,m⟩:=h;exact ⟨f,fd,go0 F hb Sc hN,F.binds bd,F.kp,m⟩
theorem goX {b:SX} {Cl:Addr} {fl:Str} (h:FA K mg x st)
  (hb:∀ (aC:Value) (A:Around) (outer:List Env) (s:Shared) (H:Hp) (E:XK) (B:Bas) (f:Addr),Ab k (A.deeper (envOfC x (gn st) s.heap.objs.size f aC))->(A.deeper (envOfC x (gn st) s.heap.objs.size f aC)).units+1<cLine->(A.deeper (envOfC x (gn st) s.heap.objs.size f aC)).units+64<cLine->N.Nodup ->
   PSs (M7 (CXx P w) P w K mg base N x (gn st) f aC A outer s H E) (v8 st) (J4 K B Cl fl E b))
  (Sc:Ad N ps (gn st):=by exact ⟨rfl,rfl,rfl,by decide +kernel,rfl,by decide +kernel,by decide +kernel⟩) (hN:ps.length<=N.length:=by decide)
  (bd:Bd x x st ps:=by first | (exact fun _ _ _ _ _ _ us hl=>bd1 (fun _=>rfl) us hl) | (exact fun _ _ _ _ _ _ us hl=>bd2 (fun _ _=>rfl) us hl) | (exact fun _ _ _ _ _ _ us hl=>bd3 (fun _ _ _=>rfl) us hl) | (exact fun _ _ _ _ _ _ us hl=>bd4 (fun _ _ _ _=>rfl) us hl) | (exact fun _ _ _ _ _ _ us hl=>bd5 (fun _ _ _ _ _=>rfl) us hl)):w6 P w K mg base x (k+1) ps Cl fl (rm N.length b):=by
 obtain ⟨f,fd,F,m⟩:=h;exact ⟨f,fd,Qx F Sc hN fun aC A outer s H E B hr=>hb aC A outer s H E B f hr (a4a hr) hr.units Sc.nd,F.binds bd,F.kp,m⟩
theorem zero (h:FA K mg x st)
  (bd:Bd x x st ps:=by first | (exact fun _ _ _ _ _ _ us hl=>bd1 (fun _=>rfl) us hl) | (exact fun _ _ _ _ _ _ us hl=>bd2 (fun _ _=>rfl) us hl)):yc P w K mg base x k ps (fun _ _=>none):=by
 obtain ⟨f,fd,F,m⟩:=h;exact yc.zero F m (F.binds bd)
theorem uw {X:Cx} {B:Bas} {i:Nat} {y:Str} {e:Expr} {m:M T} {pos pos':Pos} (hN:X.N.Nodup) (he:PE X e (tOf X.K B m)) (hi:X.N[i]? = some y:=by rfl) (hx:Loc X.env.scope y:=by exact Or.inl rfl) (hs:swapsWith e (some (.Name y pos')) pos.line X.env=pure false:=by rfl) (hf:X.fn y=true\/X.env.scope.names.lookup y=some .local:=by first | exact .inl rfl | exact .inr rfl | assumption) :
  PS X (.Assign [.Name y pos'] e pos) (sOf X.K B (ou i m)):=a7j i (Av hN hi hx he hs hf) fun _ _ _ h=>h
theorem aa9 {b:SX} {f Cl:Addr} {fl:Str} {fd:FuncData} (F:Fun K x q st f fd)
  (hb:∀ (aC:Value) (A:Around) (outer:List Env) (s:Shared) (H:Hp) (E:XK) (B:Bas) (f:Addr),Ab k (A.deeper (envOfC q (gn st) s.heap.objs.size f aC))->(A.deeper (envOfC q (gn st) s.heap.objs.size f aC)).units+1<cLine->(A.deeper (envOfC q (gn st) s.heap.objs.size f aC)).units+64<cLine->N.Nodup ->
   PSs (M7 (CXx P w) P w K mg base N q (gn st) f aC A outer s H E) (v8 st) (J4 K B Cl fl E b))
  (Sc:Ad N ps (gn st):=by exact ⟨rfl,rfl,rfl,by decide +kernel,rfl,by decide +kernel,by decide +kernel⟩) (hN:ps.length<=N.length:=by decide):Bj P w K mg base (CXx P w) (k+1) f fd ps (spX K ps.length Cl fl (rm N.length b)) :=
 Qx F Sc hN fun aC A outer s H E B hr=>hb aC A outer s H E B f hr (a4a hr) hr.units Sc.nd
theorem xg:∀ st ts aa,n6 st=some (.inl ts,aa)->ts.length=0:=fun st ts aa e=>by cases e; rfl
theorem j4 {m:MX} {l:MXs} {n:Nat} (h:∀ st ts aa,l st=some (.inl ts,aa)->ts.length=n):∀ st ts aa,gj m l st=some (.inl ts,aa)->ts.length=n+1:=fun st ts aa e=>by
 unfold gj at e;split at e
 ·split at e
  ·rename_i ts s2 e2; cases e; exact congrArg (· + 1) (h _ _ _ e2)
  ·cases e
  ·cases e
 ·cases e
 ·cases e
theorem Bs {l:MXs} {n:Nat} (h:∀ st ts aa,l st=some (.inl ts,aa)->ts.length=n) (hn:n<=1000):∀ st ts aa,l st=some (.inl ts,aa)->ts.length<=1000:=fun st ts aa e=>by rw [h _ _ _ e]; exact hn
abbrev XE (K:PySem.W.Frag) (mg:Str->Option Value) (x f q:Str) (i:Nat) (Cl Ca:Addr):Prop:=∃ D I fd,XC K Cl D I f/\XCl K Cl (.ref D::My.vB)/\Fun K "__init__" q (Jg 0 (top i)) I fd/\(Value.ref Cl :: .ref D::My.vB).contains (.ref Ca)=true/\mg x=some (.ref Cl)
end
end D
end
section
namespace D
open PySem L2 C
abbrev MA (K:PySem.W.Frag) (cR:Addr) (x q:Str) (i:Nat):Prop:=∃ f fd,Meth K cR x f/\Fun K x q (Jg i (top 21)) f fd
structure Zk (K:PySem.W.Frag) (mg:Str->Option Value) (cR cN c1 c2 c3 c4 c5 Ca:Addr) (bm:List Value):Prop where
 cls:Cls K cR
 na_number:Dm K cR "number"
 na_rows:Dm K cR "rows"
 e:XE K mg "NoText" "row" "NoText.__init__" 3 cN Ca
 g:XG K cN "row"
 t:PySem.W.kitOne K (.ref cN) (.ref cN)=some true
 kc:aaw K mg "CalmError" Ca bm
 tc:PySem.W.kitOne K (.ref cN) (.ref Ca)=some true
 m1:mg "NoName" = some (.ref c1)
 t1:PySem.W.kitOne K (.ref cN) (.ref c1)=some false
 m2:mg "Twice" = some (.ref c2)
 t2:PySem.W.kitOne K (.ref cN) (.ref c2)=some false
 m3:mg "TooMany" = some (.ref c3)
 t3:PySem.W.kitOne K (.ref cN) (.ref c3)=some false
 m4:mg "NoStep" = some (.ref c4)
 t4:PySem.W.kitOne K (.ref cN) (.ref c4)=some false
 m5:mg "NoLock" = some (.ref c5)
 t5:PySem.W.kitOne K (.ref cN) (.ref c5)=some false
 hR:mg "Reading" = some (.ref cR)
 h0:FA K mg "is_name" (top 15)
 h1:FA K mg "is_number" (top 16)
 h2:∃ f fd,Mk K cR f/\Fun K "__init__" "Reading.__init__" (Jg 0 (top 21)) f fd
 h3:MA K cR "next_words" "Reading.next_words" 1
 h4:MA K cR "need_that" "Reading.need_that" 2
 h5:FA K mg "number_of" (top 25)
 h6:FA K mg "name_of" (top 23)
 h7:FA K mg "duty_of" (top 22)
 h8:FA K mg "box_of" (top 24)
 h9:FA K mg "signed_of" (top 26)
 h10:FA K mg "rest_row" (top 31)
 h11:FA K mg "sum_row" (top 30)
 h12:FA K mg "head_of" (top 29)
 h13:FA K mg "with_papers" (top 28)
 h14:FA K mg "next_paper" (top 27)
 h15:FA K mg "read_papers" (top 20)
 h16:FA K mg "_law_rest" (top 33)
 h17:FA K mg "_law_take" (top 34)
 h18:FA K mg "_law_paper" (top 35)
 h19:FA K mg "_law_lines" (top 36)
 h20:FA K mg "_law_bad" (top 37)
 h21:FA K mg "_law_refused" (top 38)
 h22:FA K mg "_law_deep" (top 39)
 h23:FA K mg "_law_one" (top 40)
 h24:FA K mg "law" (top 41)
 b_ValueError:mg "ValueError" = none
 b_all:mg "all" = none
 b_int:mg "int" = none
 b_isinstance:mg "isinstance" = none
 b_len:mg "len" = none
 b_min:mg "min" = none
 b_range:mg "range" = none
 b_str:mg "str" = none
 b_tuple:mg "tuple" = none
 c_FIGURES:∃ u,mg "FIGURES" = some u/\Held K u (.str "0123456789")
 c_KEY_WORDS:∃ u,mg "KEY_WORDS" = some u/\Held K u (.tup [(.str "box"),(.str "lock"),(.str "hand"),(.str "own"),(.str "end"),(.str "set"),(.str "wait"),(.str "if"),(.str "else"),(.str "while"),(.str "rounds"),(.str "either"),(.str "or"),(.str "and"),(.str "not"),(.str "take"),(.str "give"),(.str "label"),(.str "say"),(.str "at"),(.str "divides"),(.str "true"),(.str "false")])
 c_LETTERS:∃ u,mg "LETTERS" = some u/\Held K u (.str "abcdefghijklmnopqrstuvwxyz")
 c_LONGEST_NAME:∃ tk,mg "LONGEST_NAME" = some (.int 8 tk)
 c_MOST_DEEP:∃ tk,mg "MOST_DEEP" = some (.int 90 tk)
 c_MOST_FIGURES:∃ tk,mg "MOST_FIGURES" = some (.int 400 tk)
 c_MOST_ROWS:∃ tk,mg "MOST_ROWS" = some (.int 5000 tk)
 c_WORD_SIGNS:∃ u,mg "WORD_SIGNS" = some u/\Held K u (.str "abcdefghijklmnopqrstuvwxyz0123456789")
section
variable {P:Program} {w:World} {K:PySem.W.Frag} {mg:Str->Option Value} {base:Heap} {cR cN c1 c2 c3 c4 c5 Ca:Addr} {bm:List Value} (Z:Zk K mg cR cN c1 c2 c3 c4 c5 Ca bm)
include Z
theorem Zk.r:XR P w K mg base "NoText" cN "row" "row" :=
 let ⟨_,_,_,c,_,F,_,m⟩:=Z.e; ⟨⟨_,_,_,c,a5g c F ⟨rfl,rfl,rfl,by decide +kernel,rfl,by decide +kernel,by decide +kernel⟩ rfl rfl rfl (by decide) (by decide) (by decide) (fun _=>rfl),F.binds (ps:=["self","row"]) fun _ _ _ _ _ _ us hl=>bd2 (fun _ _=>rfl) us hl⟩,m⟩
theorem Zk.em:mg "NoText" = some (.ref cN):=let ⟨_,_,_,_,_,_,_,m⟩:=Z.e; m
theorem Zk.k:∃ D:Addr,XCl K cN (.ref D::My.vB)/\(Value.ref cN :: .ref D::My.vB).contains (.ref Ca)=true:=let ⟨D,_,_,_,k,_,c,_⟩:=Z.e; ⟨D,k,c⟩
theorem htC:∀ p∈[(cN,("row" : Str),true)],XG K p.1 p.2.1/\PySem.W.kitOne K (.ref p.1) (.ref Ca)=some p.2.2
 | _,.head _=>⟨Z.g,Z.tc⟩
theorem htN {c:Addr} (t:PySem.W.kitOne K (.ref cN) (.ref c)=some false):∀ p∈[(cN,("row" : Str),false)],XG K p.1 p.2.1/\PySem.W.kitOne K (.ref p.1) (.ref c)=some p.2.2
 | _,.head _=>⟨Z.g,t⟩
theorem htV:∀ p∈[(cN,("row" : Str),true)],XG K p.1 p.2.1/\PySem.W.kitOne K (.ref p.1) (.type "ValueError")=some p.2.2
 | _,.head _=>⟨Z.g,Z.g.ve⟩
theorem S9:yc P w K mg base "is_name" 1 ["word"] (_root_.K.Fl):=by
 refine go (N:=["word"]) Z.h0 fun _ _ _ _ _ _ _ _ hr hu hq nd=>?_;exact ju (kj (Eo (a0o Q8 Q8 bw (j9 (j6 j7 (by rfl) Z.b_len PySem.boot_len (aq (au 0 (pv 0)) cj))) (Gj (by rfl) Z.c_LONGEST_NAME)) (Eo (mz Od (n8 hu (au 0 (pv 0)) bw (fun _ _=>rfl)) (Gx (by rfl) Z.c_LETTERS) rfl) (Eo (j9 (j6 (Lr (by rfl)) (by rfl) Z.b_all PyProof.Rows.boot_all (aq (K3 (V9 (N:=["sign"]) ⟨rfl,fun j k h=>match j,h with | _+0,h=>(by cases h)⟩ ⟨rfl,rfl,by decide +kernel,by decide +kernel⟩ rfl (Ql (au 0 (pv 0))) Q0 (fun C s₀ H₀ ex pn=>pgE fun B=>(Bb 0 (Bt (show (["sign"]:List Str).Nodup by decide +kernel) rfl (Or.inl rfl)))) (fun C s₀ H₀ ex pn=>Q9) (fun C s₀ H₀ ex pn=>peE fun B=>(mz Od (au 0 (pv 0)) (Gx (by rfl) Z.c_WORD_SIGNS) rfl)))) cj))) (Gd (mz (Vp hq) (au 0 (pv 0)) (Gx (by rfl) Z.c_KEY_WORDS) rfl))))))
theorem M8:yc P w K mg base "is_number" 1 ["word"] (_root_.K.Bo):=by
 refine go (N:=["word"]) Z.h1 fun _ _ _ _ _ _ _ _ hr hu hq nd=>?_;exact f9 (Dp (PW.pt (a7x (kh (jg hq) (au 0 (pv 0)) dz (gw _)) (a1h (X6 (Rb (j9 (j6 (Lr (by rfl)) (by rfl) Z.b_all PyProof.Rows.boot_all (aq (K3 (V9 (N:=["sign"]) ⟨rfl,fun j k h=>match j,h with | _+0,h=>(by cases h)⟩ ⟨rfl,rfl,by decide +kernel,by decide +kernel⟩ rfl (Ql (au 0 (pv 0))) Q0 (fun C s₀ H₀ ex pn=>pgE fun B=>(Bb 0 (Bt (show (["sign"]:List Str).Nodup by decide +kernel) rfl (Or.inl rfl)))) (fun C s₀ H₀ ex pn=>Q9) (fun C s₀ H₀ ex pn=>peE fun B=>(mz Od (au 0 (pv 0)) (Gx (by rfl) Z.c_FIGURES) rfl)))) cj))))))))   (ju (kj Hw))   ql)   (ju (kj (a94 (mz (jg hq) (au 0 (pv 0)) dz (gw _)) (Gd (mz (Qa hq) (n8 hu (au 0 (pv 0)) bw (fun _ _=>rfl)) dz (gw _))))))
theorem Hz:a82 P w K mg base "Reading" cR 1 ["self","text"] (_root_.K.u6 cR cN):=by
 obtain ⟨f,fd,M,F⟩:=Z.h2;refine ⟨⟨f,fd,M,go0 (N:=["self","text"]) F fun _ _ _ _ _ _ _ _ hr hu hq nd=>?_,F.binds fun _ _ _ _ _ _ us hl=>bd2 (fun _ _=>rfl) us hl⟩,Z.hR⟩;exact f9 (Ik Z.cls Z.na_rows (au 0 (pv 0)) (Gn (kh (jg hq) (au 1 (pv 1)) dz (gw _)) (qm cj (jw jk (by decide))) (Ey (au 1 (pv 1)) dz)))   (ju (Ik Z.cls Z.na_number (au 0 (pv 0)) bw))
theorem wg:Qm P w K mg base cR "next_words" 3 ["self"] cN "row" (_root_.K.iz cR cN):=by
 obtain ⟨f,fd,M,F⟩:=Z.h3;refine ⟨⟨f,fd,M,aa9 (N:=["self"]) F fun _ _ _ _ _ _ _ _ hr hu hq nd=>?_,F.binds fun _ _ _ _ _ _ us hl=>bd1 (fun _=>rfl) us hl⟩,Z.cls⟩;exact iw (sy (Ik Z.cls Z.na_number (au 0 (pv 0)) (jf gq (Fb Z.cls Z.na_number (au 0 (pv 0))) bw)))   (iw (M5 (kh Xl (Fb Z.cls Z.na_number (au 0 (pv 0))) (j9 (j6 (Tj (by rfl)) (by rfl) Z.b_min PyProof.Rows.boot_min (aq (j9 (j6 j7 (by rfl) Z.b_len PySem.boot_len (aq (Fb Z.cls Z.na_rows (au 0 (pv 0))) cj))) (aq (Gj (by rfl) Z.c_MOST_ROWS) cj)))) (gw _))   (su (Ld Z.r a7d (hr.mono (by decide)) (by rfl) (Fb Z.cls Z.na_number (au 0 (pv 0)))))   (zy ql))   (su (sy (kj (Ey (n8 hu (Fb Z.cls Z.na_rows (au 0 (pv 0))) (jf Nz (Fb Z.cls Z.na_number (au 0 (pv 0))) bw) (fun _ _=>rfl)) dz)))))
theorem dh:Qm P w K mg base cR "need_that" 3 ["self","is_right"] cN "row" (_root_.K.d7 cR cN):=by
 obtain ⟨f,fd,M,F⟩:=Z.h4;refine ⟨⟨f,fd,M,aa9 (N:=["self","is_right"]) F fun _ _ _ _ _ _ _ _ hr hu hq nd=>?_,F.binds fun _ _ _ _ _ _ us hl=>bd2 (fun _ _=>rfl) us hl⟩,Z.cls⟩;exact su (M5 (X6 (Rb (au 1 (pv 1))))   (su (Ld Z.r a7d (hr.mono (by decide)) (by rfl) (Fb Z.cls Z.na_number (au 0 (pv 0)))))   (zy ql))
theorem jq:w6 P w K mg base "number_of" 4 ["reading","word","least"] cN "row" (_root_.K.gk cR cN):=by
 refine goX (N:=["reading","word","least","number"]) Z.h5 fun _ _ _ _ _ _ _ _ hr hu hq nd=>?_;exact iw (ux (vd (dh Z) jx (hr.mono (by decide)) (au 0 (pv 0)) (iu (xr (Eo (dw (M8 Z) (hr.mono (by decide)) (by rfl) (aq (au 1 (pv 1)) cj) (bh eq_nil)) (Gd (mz Q8 (j9 (j6 j7 (by rfl) Z.b_len PySem.boot_len (aq (au 1 (pv 1)) cj))) (Gj (by rfl) Z.c_MOST_FIGURES) (gw _))))) p7) (qx (qz vg))))   (iw (sy (uw (i:=3) nd (j9 (Am T8 (by rfl) Z.b_int PyProof.Rows.boot_int (aq (au 1 (pv 1)) cj)))))   (iw (ux (vd (dh Z) jx (hr.mono (by decide)) (au 0 (pv 0)) (iu (xr (mz a1g (au 3 (pv 3)) (au 2 (pv 2)) (gw _))) p7) (qx (qz vg))))   (su (sy (kj (au 3 (pv 3)))))))
theorem G6:w6 P w K mg base "name_of" 4 ["reading","word"] cN "row" (_root_.K.yt cR cN):=by
 refine goX (N:=["reading","word"]) Z.h6 fun _ _ _ _ _ _ _ _ hr hu hq nd=>?_;exact iw (ux (vd (dh Z) jx (hr.mono (by decide)) (au 0 (pv 0)) (iu (xr (dw (S9 Z) (hr.mono (by decide)) (by rfl) (aq (au 1 (pv 1)) cj) (bh eq_nil))) p7) (qx (qz vg))))   (su (sy (kj (au 1 (pv 1)))))
theorem Tr:w6 P w K mg base "duty_of" 5 ["reading"] cN "row" (_root_.K.Ah cR cN):=by
 refine goX (N:=["reading","words","number"]) Z.h7 fun _ _ _ _ _ _ _ _ hr hu hq nd=>?_;exact iw (Hi (i:=1) nd rfl (Or.inl rfl) (Rm (wg Z) jx (hr.mono (by decide)) (au 0 (pv 0)) rfl rfl))   (iw (M5 (kh (jg hq) (n8 hu (au 1 (pv 1)) bw (fun _ _=>rfl)) dz (gw _))   (iw (ux (vd (dh Z) jx (hr.mono (by decide)) (au 0 (pv 0)) (iu (xr (mz (jg hq) (j9 (j6 j7 (by rfl) Z.b_len PySem.boot_len (aq (au 1 (pv 1)) cj))) bw (gw _))) p7) (qx (qz vg))))   (su (Cu (Et (iu (xr dz) (iu (lq jx (G6 Z) (hr.mono (by decide)) (by rfl) (aq (au 0 (pv 0)) (aq (n8 hu (au 1 (pv 1)) bw (fun _ _=>rfl)) cj)) (bh (bh eq_nil))) p7)) (Bs (j4 (j4 xg)) (by decide))))))   (zy ql))   (iw (M5 (kh (jg hq) (n8 hu (au 1 (pv 1)) bw (fun _ _=>rfl)) dz (gw _))   (iw (ux (vd (dh Z) jx (hr.mono (by decide)) (au 0 (pv 0)) (iu (xr (mz (jg hq) (j9 (j6 j7 (by rfl) Z.b_len PySem.boot_len (aq (au 1 (pv 1)) cj))) bw (gw _))) p7) (qx (qz vg))))   (su (Cu (Et (iu (xr dz) (iu (lq jx (jq Z) (hr.mono (by decide)) (by rfl) (aq (au 0 (pv 0)) (aq (n8 hu (au 1 (pv 1)) bw (fun _ _=>rfl)) (aq bw cj))) (bh (bh (bh eq_nil)))) p7)) (Bs (j4 (j4 xg)) (by decide))))))   (zy ql))   (iw (ux (vd (dh Z) jx (hr.mono (by decide)) (au 0 (pv 0)) (iu (xr (Eo (mz (jg hq) (n8 hu (au 1 (pv 1)) bw (fun _ _=>rfl)) dz (gw _)) (Gd (mz (jg hq) (j9 (j6 j7 (by rfl) Z.b_len PySem.boot_len (aq (au 1 (pv 1)) cj))) bw (gw _))))) p7) (qx (qz vg))))   (iw (Hi (i:=2) nd rfl (Or.inl rfl) (lq jx (jq Z) (hr.mono (by decide)) (by rfl) (aq (au 0 (pv 0)) (aq (n8 hu (au 1 (pv 1)) bw (fun _ _=>rfl)) (aq bw cj))) (bh (bh (bh eq_nil)))))   (su (Cu (Et (iu (xr dz) (iu (xr (au 2 (pv 2))) (iu (lq jx (G6 Z) (hr.mono (by decide)) (by rfl) (aq (au 0 (pv 0)) (aq (n8 hu (au 1 (pv 1)) bw (fun _ _=>rfl)) cj)) (bh (bh eq_nil))) (iu (lq jx (jq Z) (hr.mono (by decide)) (by rfl) (aq (au 0 (pv 0)) (aq (n8 hu (au 1 (pv 1)) bw (fun _ _=>rfl)) (aq bw cj))) (bh (bh (bh eq_nil)))) p7)))) (Bs (j4 (j4 (j4 (j4 xg)))) (by decide)))))))))
theorem Uy:w6 P w K mg base "box_of" 5 ["reading","word"] cN "row" (_root_.K.Gk cR cN):=by
 refine goX (N:=["reading","word"]) Z.h8 fun _ _ _ _ _ _ _ _ hr hu hq nd=>?_;exact iw (ux (lq jx (G6 Z) (hr.mono (by decide)) (by rfl) (aq (au 0 (pv 0)) (aq (Gn (kh (jg hq) (Ce (au 1 (pv 1)) wu (wj bw)) dz (gw _)) (Ce (au 1 (pv 1)) (wj bw) wu) (au 1 (pv 1))) cj)) (bh (bh eq_nil))))   (su (sy (kj (au 1 (pv 1)))))
theorem Ge:w6 P w K mg base "signed_of" 5 ["reading","word"] cN "row" (_root_.K.ug cR cN):=by
 refine goX (N:=["reading","word"]) Z.h9 fun _ _ _ _ _ _ _ _ hr hu hq nd=>?_;exact iw (M5 (kh (Qa hq) (Ce (au 1 (pv 1)) wu (wj bw)) dz (gw _))   (su (Cu (lq jx (jq Z) (hr.mono (by decide)) (by rfl) (aq (au 0 (pv 0)) (aq (au 1 (pv 1)) (aq bw cj))) (bh (bh (bh eq_nil))))))   (zy ql))   (su (Cu (a9z Dy (lq jx (jq Z) (hr.mono (by decide)) (by rfl) (aq (au 0 (pv 0)) (aq (Ce (au 1 (pv 1)) (wj bw) wu) (aq bw cj))) (bh (bh (bh eq_nil)))))))
theorem Ox:w6 P w K mg base "rest_row" 6 ["reading","word"] cN "row" (_root_.K.Dh cR cN):=by
 refine goX (N:=["reading","word","parts","places","times"]) Z.h10 fun _ _ _ _ _ _ _ _ hr hu hq nd=>?_;exact iw (sy (uw (i:=2) nd (Ey (au 1 (pv 1)) dz)))   (iw (ux (vd (dh Z) jx (hr.mono (by decide)) (au 0 (pv 0)) (iu (xr (mz (jg hq) (j9 (j6 j7 (by rfl) Z.b_len PySem.boot_len (aq (au 2 (pv 2)) cj))) bw (gw _))) p7) (qx (qz vg))))   (iw (sy (uw (i:=3) nd (Ey (n8 hu (au 2 (pv 2)) bw (fun _ _=>rfl)) dz)))   (iw (Hi (i:=4) nd rfl (Or.inl rfl) (lq jx (Ge Z) (hr.mono (by decide)) (by rfl) (aq (au 0 (pv 0)) (aq (n8 hu (au 2 (pv 2)) bw (fun _ _=>rfl)) cj)) (bh (bh eq_nil))))   (iw (ux (vd (dh Z) jx (hr.mono (by decide)) (au 0 (pv 0)) (iu (xr (Eo (mz Q8 (j9 (j6 j7 (by rfl) Z.b_len PySem.boot_len (aq (au 3 (pv 3)) cj))) bw (gw _)) (Gd (mz (Qa hq) (au 4 (pv 4)) bw (gw _))))) p7) (qx (qz vg))))   (su (Cu (a9f gq (Jv (Am Ea (by rfl) Z.b_tuple PyProof.Rows.boot_tuple (iu (Ny (N:=["place","reading"]) a2t ⟨rfl,fun j k h=>match j,h with | 0,h=>(by cases h; exact ⟨_,rfl,rfl,⟨.inl rfl,.inr (.inl rfl),.inl rfl⟩⟩) | _+1,h=>(by cases h)⟩ ⟨rfl,rfl,by decide +kernel,by decide +kernel⟩ rfl (Rf (au 3 (pv 3))) Qg (fun C s₀ H₀ ex pn=>pgE fun B=>(Bb 0 (Bt (show (["place","reading"]:List Str).Nodup by decide +kernel) rfl (Or.inl rfl)))) (fun C s₀ H₀ ex pn=>peX fun B=>(lq Hq (jq Z) (hr.mono (by decide)) (by rfl) (aq (au 1 (pv 1)) (aq (au 0 (pv 0)) (aq bw cj))) (bh (bh (bh eq_nil)))))) p7))) (xr (Uo (aq (au 4 (pv 4)) cj) (jw (d8 jk) (by decide)))))))))))
theorem Tw:w6 P w K mg base "sum_row" 5 ["reading","word"] cN "row" (_root_.K.Ej cR cN):=by
 refine goX (N:=["reading","word","parts"]) Z.h11 fun _ _ _ _ _ _ _ _ hr hu hq nd=>?_;exact iw (sy (uw (i:=2) nd (Ey (au 1 (pv 1)) dz)))   (iw (ux (vd (dh Z) jx (hr.mono (by decide)) (au 0 (pv 0)) (iu (xr (mz (jg hq) (j9 (j6 j7 (by rfl) Z.b_len PySem.boot_len (aq (au 2 (pv 2)) cj))) bw (gw _))) p7) (qx (qz vg))))   (su (Cu (Et (iu (lq jx (jq Z) (hr.mono (by decide)) (by rfl) (aq (au 0 (pv 0)) (aq (n8 hu (au 2 (pv 2)) bw (fun _ _=>rfl)) (aq bw cj))) (bh (bh (bh eq_nil)))) (iu (lq jx (jq Z) (hr.mono (by decide)) (by rfl) (aq (au 0 (pv 0)) (aq (n8 hu (au 2 (pv 2)) bw (fun _ _=>rfl)) (aq bw cj))) (bh (bh (bh eq_nil)))) p7)) (Bs (j4 (j4 xg)) (by decide))))))
theorem U4:w6 P w K mg base "head_of" 7 ["reading"] cN "row" (_root_.K.Ao cR cN):=by
 refine goX (N:=["reading","words","divisor"]) Z.h12 fun _ _ _ _ _ _ _ _ hr hu hq nd=>?_;exact iw (Hi (i:=1) nd rfl (Or.inl rfl) (Rm (wg Z) jx (hr.mono (by decide)) (au 0 (pv 0)) rfl rfl))   (iw (M5 (kh (jg hq) (n8 hu (au 1 (pv 1)) bw (fun _ _=>rfl)) dz (gw _))   (iw (ux (vd (dh Z) jx (hr.mono (by decide)) (au 0 (pv 0)) (iu (xr (mz (jg hq) (j9 (j6 j7 (by rfl) Z.b_len PySem.boot_len (aq (au 1 (pv 1)) cj))) bw (gw _))) p7) (qx (qz vg))))   (su (Cu (Et (iu (xr dz) (iu (lq jx (jq Z) (hr.mono (by decide)) (by rfl) (aq (au 0 (pv 0)) (aq (n8 hu (au 1 (pv 1)) bw (fun _ _=>rfl)) (aq bw cj))) (bh (bh (bh eq_nil)))) (iu (lq jx (jq Z) (hr.mono (by decide)) (by rfl) (aq (au 0 (pv 0)) (aq (n8 hu (au 1 (pv 1)) bw (fun _ _=>rfl)) (aq bw cj))) (bh (bh (bh eq_nil)))) p7))) (Bs (j4 (j4 (j4 xg))) (by decide))))))   (zy ql))   (iw (M5 (kh (jg hq) (n8 hu (au 1 (pv 1)) bw (fun _ _=>rfl)) dz (gw _))   (iw (ux (vd (dh Z) jx (hr.mono (by decide)) (au 0 (pv 0)) (iu (xr (mz (jg hq) (j9 (j6 j7 (by rfl) Z.b_len PySem.boot_len (aq (au 1 (pv 1)) cj))) bw (gw _))) p7) (qx (qz vg))))   (su (Cu (Et (iu (xr dz) (iu (lq jx (Uy Z) (hr.mono (by decide)) (by rfl) (aq (au 0 (pv 0)) (aq (n8 hu (au 1 (pv 1)) bw (fun _ _=>rfl)) cj)) (bh (bh eq_nil))) (iu (lq jx (Ge Z) (hr.mono (by decide)) (by rfl) (aq (au 0 (pv 0)) (aq (n8 hu (au 1 (pv 1)) bw (fun _ _=>rfl)) cj)) (bh (bh eq_nil))) p7))) (Bs (j4 (j4 (j4 xg))) (by decide))))))   (zy ql))   (iw (M5 (kh (jg hq) (n8 hu (au 1 (pv 1)) bw (fun _ _=>rfl)) dz (gw _))   (su (Cu (Et (iu (xr dz) (iu (Jv (Am Ea (by rfl) Z.b_tuple PyProof.Rows.boot_tuple (iu (Ny (N:=["word","reading"]) a2t ⟨rfl,fun j k h=>match j,h with | 0,h=>(by cases h; exact ⟨_,rfl,rfl,⟨.inl rfl,.inr (.inl rfl),.inl rfl⟩⟩) | _+1,h=>(by cases h)⟩ ⟨rfl,rfl,by decide +kernel,by decide +kernel⟩ rfl (Rf (Bc (au 1 (pv 1)) (wj bw) wu)) Qg (fun C s₀ H₀ ex pn=>pgE fun B=>(Bb 0 (Bt (show (["word","reading"]:List Str).Nodup by decide +kernel) rfl (Or.inl rfl)))) (fun C s₀ H₀ ex pn=>peX fun B=>(lq Hq (Tw Z) (hr.mono (by decide)) (by rfl) (aq (au 1 (pv 1)) (aq (au 0 (pv 0)) cj)) (bh (bh eq_nil))))) p7))) p7)) (Bs (j4 (j4 xg)) (by decide)))))   (zy ql))   (iw (ux (vd (dh Z) jx (hr.mono (by decide)) (au 0 (pv 0)) (iu (xr (Eo (mz (jg hq) (n8 hu (au 1 (pv 1)) bw (fun _ _=>rfl)) dz (gw _)) (Gd (mz a1g (j9 (j6 j7 (by rfl) Z.b_len PySem.boot_len (aq (au 1 (pv 1)) cj))) bw (gw _))))) p7) (qx (qz vg))))   (iw (Hi (i:=2) nd rfl (Or.inl rfl) (lq jx (jq Z) (hr.mono (by decide)) (by rfl) (aq (au 0 (pv 0)) (aq (n8 hu (au 1 (pv 1)) bw (fun _ _=>rfl)) (aq bw cj))) (bh (bh (bh eq_nil)))))   (su (Cu (Et (iu (xr dz) (iu (xr (au 2 (pv 2))) (iu (Jv (Am Ea (by rfl) Z.b_tuple PyProof.Rows.boot_tuple (iu (Ny (N:=["word","reading"]) a2t ⟨rfl,fun j k h=>match j,h with | 0,h=>(by cases h; exact ⟨_,rfl,rfl,⟨.inl rfl,.inr (.inl rfl),.inl rfl⟩⟩) | _+1,h=>(by cases h)⟩ ⟨rfl,rfl,by decide +kernel,by decide +kernel⟩ rfl (Rf (Bc (au 1 (pv 1)) (wj bw) wu)) Qg (fun C s₀ H₀ ex pn=>pgE fun B=>(Bb 0 (Bt (show (["word","reading"]:List Str).Nodup by decide +kernel) rfl (Or.inl rfl)))) (fun C s₀ H₀ ex pn=>peX fun B=>(lq Hq (Ox Z) (hr.mono (by decide)) (by rfl) (aq (au 1 (pv 1)) (aq (au 0 (pv 0)) cj)) (bh (bh eq_nil))))) p7))) p7))) (Bs (j4 (j4 (j4 xg))) (by decide))))))))))
theorem J6:yc P w K mg base "with_papers" 1 ["head","papers"] (_root_.K.qw):=by
 refine go (N:=["head","papers"]) Z.h13 fun _ _ _ _ _ _ _ _ hr hu hq nd=>?_;exact f9 (Dp (kh (jg hq) (n8 hu (au 0 (pv 0)) bw (fun _ _=>rfl)) dz (gw _))   (ju (kj (Uo (aq dz (aq (n8 hu (au 0 (pv 0)) bw (fun _ _=>rfl)) (aq (au 1 (pv 1)) cj))) (jw (d8 (d8 (d8 jk))) (by decide)))))   ql)   (ju (kj (jf gq (au 0 (pv 0)) (au 1 (pv 1)))))
theorem Kf:w6 P w K mg base "next_paper" 8 ["reading"] cN "row" (_root_.K.m8 cR cN):=by
 refine goX (N:=["reading","open_ones","head","many","paper"]) Z.h14 fun _ _ _ _ _ _ _ _ hr hu hq nd=>?_;exact iw (sy (Cr 1 (Av nd rfl (Or.inl rfl) (Rp cj (jw jk (by decide)))) (fun _ _ _ h=>h)))   (su (Rv 6000 PassesOwn.leaving (Rb Hw)   (iw (Hi (i:=2) nd rfl (Or.inl rfl) (lq jx (U4 Z) (hr.mono (by decide)) (by rfl) (aq (au 0 (pv 0)) cj) (bh eq_nil)))   (iw (ux (vd (dh Z) jx (hr.mono (by decide)) (au 0 (pv 0)) (iu (xr (mz Jd (Mg 1 Z.b_len rfl (pv 1)) (Gj (by rfl) Z.c_MOST_DEEP) (gw _))) p7) (qx (qz vg))))   (iw (sy (uw (i:=3) nd (Gn (kh (jg hq) (n8 hu (au 2 (pv 2)) bw (fun _ _=>rfl)) dz (gw _)) (n8 hu (au 2 (pv 2)) bw (fun _ _=>rfl)) (Gn (kh (jg hq) (n8 hu (au 2 (pv 2)) bw (fun _ _=>rfl)) dz (gw _)) bw bw))))   (iw (sy (Hl 1 (Ds (Kl PySem.F.plainAttrs_list PySem.F.slot_list_append PySem.F.type_list_append yu (pv 1) (nu (Uo (aq (au 2 (pv 2)) (aq (au 3 (pv 3)) (aq (Eu cj (jw jk (by decide))) cj))) (jw (d8 (d8 (d8 jk))) (by decide))) v9)))))   (su (sy (a0b 6000 PassesOwn.leaving (kh (jg hq) (Wn (by rfl) Z.b_len (n8 hu (Gw 1 (pv 1) (Ub Dy bw) (fun _ _=>rfl)) bw (fun _ _=>rfl))) (n8 hu (Gw 1 (pv 1) (Ub Dy bw) (fun _ _=>rfl)) bw (fun _ _=>rfl)) (gw _))   (f9 (uw (i:=4) nd (dw (J6 Z) (hr.mono (by decide)) (by rfl) (aq (n8 hu (Gw 1 (pv 1) (Ub Dy bw) (fun _ _=>rfl)) bw (fun _ _=>rfl)) (aq (X4 (by rfl) Z.b_tuple (n8 hu (a3c 1 (a6l PySem.F.plainAttrs_list PySem.F.slot_list_pop PySem.F.type_list_pop a6w (pv 1))) bw (fun _ _=>rfl))) cj)) (bh (bh eq_nil))))   (f9 (Dp (kh (jg hq) (Mg 1 Z.b_len rfl (pv 1)) bw (gw _))   (ju (kj (au 4 (pv 4))))   ql)   (ju (Sq (Ds (Kl PySem.F.plainAttrs_list PySem.F.slot_list_append PySem.F.type_list_append yu (n8 hu (Gw 1 (pv 1) (Ub Dy bw) (fun _ _=>rfl)) bw (fun _ _=>rfl)) (nu (au 4 (pv 4)) v9))))))))))))))))
theorem vh:w6 P w K mg base "read_papers" 9 ["text"] cN "row" (_root_.K.qy cR cN):=by
 refine goX (N:=["text","reading","papers","duty"]) Z.h15 fun _ _ _ _ _ _ _ _ hr hu hq nd=>?_;exact iw (sy (uw (i:=1) nd (a5m (Hz Z) (hr.mono (by decide)) (by rfl) (aq (au 0 (pv 0)) cj) (a4k (bh eq_nil)))))   (iw (sy (Cr 2 (Av nd rfl (Or.inl rfl) (Rp cj (jw jk (by decide)))) (fun _ _ _ h=>h)))   (iw (Rv 6000 PassesOwn.leaving (kh Jd (Fb Z.cls Z.na_number (au 1 (pv 1))) (j9 (j6 j7 (by rfl) Z.b_len PySem.boot_len (aq (Fb Z.cls Z.na_rows (au 1 (pv 1))) cj))) (gw _))   (iw (Hi (i:=3) nd rfl (Or.inl rfl) (lq jx (Tr Z) (hr.mono (by decide)) (by rfl) (aq (au 1 (pv 1)) cj) (bh eq_nil)))   (su (Xg 2 (Ds (Kl PySem.F.plainAttrs_list PySem.F.slot_list_append PySem.F.type_list_append yu (pv 2) (nu (Et (iu (xr (au 3 (pv 3))) (iu (lq jx (Kf Z) (hr.mono (by decide)) (by rfl) (aq (au 1 (pv 1)) cj) (bh eq_nil)) p7)) (Bs (j4 (j4 xg)) (by decide))) v9)))))))   (su (sy (kj (au 2 (pv 2)))))))
theorem Pk:yc P w K mg base "_law_rest" 1 ["_law_cell"] (_root_.K.Af):=by
 refine go (N:=["_law_cell"]) Z.h16 fun _ _ _ _ _ _ _ _ hr hu hq nd=>?_;exact ju (kj (Eu (aq (au 0 (pv 0)) (aq (jf gq bw (jf Bw (au 0 (pv 0)) bw)) cj)) (jw (d8 (d8 jk)) (by decide))))
theorem iy:yc P w K mg base "_law_take" 1 ["_law_rest_here","_law_many"] (_root_.K.c7):=by
 refine go (N:=["_law_rest_here","_law_many","_law_found"]) Z.h17 fun _ _ _ _ _ _ _ _ hr hu hq nd=>?_;exact f9 (Dp (PW.pt (a7x (kh (jg hq) (Ba (au 0 (pv 0)) bw (fun _ _=>rfl)) bw (gw _)) (a1h (kh (jg hq) (Ba (au 0 (pv 0)) bw (fun _ _=>rfl)) (Ub Dy bw) (gw _)))))   (f9 (Qh (a1j (jf Bw (jf gq (jf Nx (Ba (au 0 (pv 0)) bw (fun _ _=>rfl)) bw) bw) bw) (a0q (au 0 (pv 0)) bw set_list)))   (ju (kj (jf Bw (jf Kh (jf Bw (jf Nx (Ba (au 0 (pv 0)) bw (fun _ _=>rfl)) bw) bw) bw) (au 1 (pv 1))))))   ql)   (f9 (uw (i:=2) nd (jf Bw (Ba (au 0 (pv 0)) bw (fun _ _=>rfl)) (au 1 (pv 1))))   (f9 (Qh (a1j (jf Kh (Ba (au 0 (pv 0)) bw (fun _ _=>rfl)) (au 1 (pv 1))) (a0q (au 0 (pv 0)) bw set_list)))   (ju (kj (au 2 (pv 2))))))
theorem Kd {nn:Nat} (aF:yc P w K mg base "_law_paper" (2+nn) ["_law_rest_here","_law_deep_here"] (_root_.K.ji nn)):yc P w K mg base "_law_paper" (2+nn+1) ["_law_rest_here","_law_deep_here"] (_root_.K.ji (nn+1)):=by
 refine go (N:=["_law_rest_here","_law_deep_here","_law_way","_law_head","_law_words","_law_k","_law_place"]) Z.h18 fun _ _ _ _ _ _ _ _ hr hu hq nd=>?_;exact f9 (uw (i:=2) nd (dw (iy Z) (hr.mono (by omega)) (by rfl) (aq (au 0 (pv 0)) (aq bw cj)) (bh (bh eq_nil))))   (f9 (Dp (PW.pt (Ru (kh (jg hq) (au 2 (pv 2)) bw (gw _)) (Jo (kh Jd (au 1 (pv 1)) bw (gw _)))))   (ju (kj (jf gq (jf gq (qm (aq (jf gq (jf gq dz (Cd (by rfl) Z.b_str (dw (iy Z) (hr.mono (by omega)) (by rfl) (aq (au 0 (pv 0)) (aq bw cj)) (bh (bh eq_nil))))) dz) cj) (jw (d8 jk) (by decide))) (dw aF (hr.mono (by omega)) (by rfl) (aq (au 0 (pv 0)) (aq (jf gq (au 1 (pv 1)) bw) cj)) (bh (bh eq_nil)))) (dw aF (hr.mono (by omega)) (by rfl) (aq (au 0 (pv 0)) (aq (jf gq (au 1 (pv 1)) bw) cj)) (bh (bh eq_nil))))))   ql)   (f9 (Dp (PW.pt (Ru (kh Jd (au 2 (pv 2)) bw (gw _)) (Jo (kh Jd (au 1 (pv 1)) bw (gw _)))))   (f9 (uw (i:=3) nd (jf gq (jf gq (jf gq dz (n8 hu (qm (aq dz (aq dz (aq dz cj))) (jw (d8 (d8 (d8 jk))) (by decide))) (dw (iy Z) (hr.mono (by omega)) (by rfl) (aq (au 0 (pv 0)) (aq bw cj)) (bh (bh eq_nil))) (fun _ _=>rfl))) dz) (Cd (by rfl) Z.b_str (jf Nz (dw (iy Z) (hr.mono (by omega)) (by rfl) (aq (au 0 (pv 0)) (aq bw cj)) (bh (bh eq_nil))) bw))))   (ju (kj (jf gq (jf gq (qm (aq (au 3 (pv 3)) cj) (jw (d8 jk) (by decide))) (dw aF (hr.mono (by omega)) (by rfl) (aq (au 0 (pv 0)) (aq (jf gq (au 1 (pv 1)) bw) cj)) (bh (bh eq_nil)))) (dw aF (hr.mono (by omega)) (by rfl) (aq (au 0 (pv 0)) (aq (jf gq (au 1 (pv 1)) bw) cj)) (bh (bh eq_nil)))))))   ql)   (f9 (uw (i:=4) nd (n8 hu (qm (aq (Eu (aq dz cj) (jw (d8 jk) (by decide))) (aq (Eu (aq dz (aq (Cd (by rfl) Z.b_str (jf gq bw (dw (iy Z) (hr.mono (by omega)) (by rfl) (aq (au 0 (pv 0)) (aq bw cj)) (bh (bh eq_nil))))) cj)) (jw (d8 (d8 jk)) (by decide))) cj)) (jw (d8 (d8 jk)) (by decide))) (dw (iy Z) (hr.mono (by omega)) (by rfl) (aq (au 0 (pv 0)) (aq bw cj)) (bh (bh eq_nil))) (fun _ _=>rfl)))   (f9 (Qz PassesOwn.never rfl (Ka (by rfl) Z.b_range (dw (iy Z) (hr.mono (by omega)) (by rfl) (aq (au 0 (pv 0)) (aq bw cj)) (bh (bh eq_nil)))) (Bb 5 (Bt nd rfl (Or.inl rfl)))   (f9 (uw (i:=6) nd (Cd (by rfl) Z.b_str (dw (iy Z) (hr.mono (by omega)) (by rfl) (aq (au 0 (pv 0)) (aq bw cj)) (bh (bh eq_nil)))))   (f9 (Dp (PW.pt (Ru (kh (jg hq) (Ba (au 4 (pv 4)) bw (fun _ _=>rfl)) dz (gw _)) (Jo (kh (jg hq) (dw (iy Z) (hr.mono (by omega)) (by rfl) (aq (au 0 (pv 0)) (aq bw cj)) (bh (bh eq_nil))) bw (gw _)))))   (ju (uw (i:=6) nd (jf gq (jf gq (au 6 (pv 6)) dz) (Cd (by rfl) Z.b_str (dw (iy Z) (hr.mono (by omega)) (by rfl) (aq (au 0 (pv 0)) (aq bw cj)) (bh (bh eq_nil)))))))   ql)   (ju (Xz 4 (Ds (Kl PySem.F.plainAttrs_list PySem.F.slot_list_append PySem.F.type_list_append yu (pv 4) (nu (jf gq (jf gq (au 6 (pv 6)) dz) (Cd (by rfl) Z.b_str (jf gq bw (dw (iy Z) (hr.mono (by omega)) (by rfl) (aq (au 0 (pv 0)) (aq bw cj)) (bh (bh eq_nil)))))) v9))))))) Jm)   (ju (kj (qm (aq (Td dz (au 4 (pv 4))) cj) (jw (d8 jk) (by decide)))))))))
theorem Ez:∀ nn:Nat,yc P w K mg base "_law_paper" (2+nn) ["_law_rest_here","_law_deep_here"] (_root_.K.ji nn)
 | 0=>zero Z.h18
 | nn+1=>by
  have ih:=Ez nn;have a6:=ih;exact Kd Z a6
theorem N7:yc P w K mg base "_law_paper" 10 ["_law_rest_here","_law_deep_here"] (_root_.K.ji 8):=(Ez Z 8)
theorem Mq:yc P w K mg base "_law_lines" 11 ["_law_rest_here"] (_root_.K.zj):=by
 refine go (N:=["_law_rest_here","_law_lines_here","_law_k","_law_number"]) Z.h19 fun _ _ _ _ _ _ _ _ hr hu hq nd=>?_;exact f9 (Cr 1 (Av nd rfl (Or.inl rfl) (Rp cj (jw jk (by decide)))) (fun _ _ _ h=>h))   (f9 (Qz PassesOwn.never rfl (Ka (by rfl) Z.b_range (jf gq bw (dw (iy Z) (hr.mono (by decide)) (by rfl) (aq (au 0 (pv 0)) (aq bw cj)) (bh (bh eq_nil))))) (Bb 2 (Bt nd rfl (Or.inl rfl)))   (f9 (uw (i:=3) nd (Cd (by rfl) Z.b_str (dw (iy Z) (hr.mono (by decide)) (by rfl) (aq (au 0 (pv 0)) (aq bw cj)) (bh (bh eq_nil)))))   (f9 (Hl 1 (Ds (Kl PySem.F.plainAttrs_list PySem.F.slot_list_append PySem.F.type_list_append yu (pv 1) (nu (n8 hu (qm (aq dz (aq (jf gq dz (au 3 (pv 3))) (aq (jf gq (jf gq dz (au 3 (pv 3))) dz) cj))) (jw (d8 (d8 (d8 jk))) (by decide))) (dw (iy Z) (hr.mono (by decide)) (by rfl) (aq (au 0 (pv 0)) (aq bw cj)) (bh (bh eq_nil))) (fun _ _=>rfl)) v9))))   (ju (Cr 1 (Av nd rfl (Or.inl rfl) (vp 1 (pv 1) (dw (N7 Z) (hr.mono (by decide)) (by rfl) (aq (au 0 (pv 0)) (aq bw cj)) (bh (bh eq_nil))))) (fun _ _ _ h=>h))))) Jm)   (ju (kj (au 1 (pv 1)))))
theorem Tp:yc P w K mg base "_law_bad" 1 ["_law_way"] (_root_.K.Ed):=by
 refine go (N:=["_law_way","_law_far","_law_some"]) Z.h20 fun _ _ _ _ _ _ _ _ hr hu hq nd=>?_;refine f9 ?_ ?_
 ·exact uw (i:=1) nd (jf gq dz (jf Nx dz bw))
 ·refine f9 ?_ ?_
  ·refine @Cr _ _ _ _ (fOf _ _ _) _ ?_ (fun _ _ _ h=>h)
   ·refine Av ?_ ?_ ?_ ?_
    ·exact nd
    ·exact rfl
    ·exact Or.inl rfl
    ·refine Rp ?_ ?_
     ·exact Ci (.cons (.cons (.cons (.cons (.cons (.cons (.cons (.cons (.cons (.cons (.cons .nil)))))))))))
     ·exact jw (len_strs _) (by decide)
  ·refine f9 ?_ ?_
   ·exact Cr 2 (Av nd rfl (Or.inl rfl) (vp 2 (pv 2) (qm (aq dz (aq dz (aq dz (aq dz (aq dz (aq dz (aq (jf gq dz (au 1 (pv 1))) (aq dz cj)))))))) (jw (d8 (d8 (d8 (d8 (d8 (d8 (d8 (d8 jk)))))))) (by decide))))) (fun _ _ _ h=>h)
   ·refine f9 ?_ ?_
    ·refine @Cr _ _ _ _ (fOf _ _ _) _ ?_ (fun _ _ _ h=>h)
     ·refine Av ?_ ?_ ?_ ?_
      ·exact nd
      ·exact rfl
      ·exact Or.inl rfl
      ·refine vp _ ?_ ?_
       ·exact pv 2
       ·refine qm ?_ ?_
        ·exact Ci (.cons (.cons (.cons (.cons (.cons (.cons (.cons .nil)))))))
        ·exact jw (len_strs _) (by decide)
    ·refine f9 ?_ ?_
     ·exact Hl 2 (Ds (Kl PySem.F.plainAttrs_list PySem.F.slot_list_append PySem.F.type_list_append yu (pv 2) (nu dz v9)))
     ·refine f9 ?_ ?_
      ·refine @Cr _ _ _ _ (fOf _ _ _) _ ?_ (fun _ _ _ h=>h)
       ·refine Av ?_ ?_ ?_ ?_
        ·exact nd
        ·exact rfl
        ·exact Or.inl rfl
        ·refine vp _ ?_ ?_
         ·exact pv 2
         ·refine qm ?_ ?_
          ·exact Ci (.cons (.cons (.cons (.cons (.cons (.cons (.cons (.cons (.cons .nil)))))))))
          ·exact jw (len_strs _) (by decide)
      ·refine f9 ?_ ?_
       ·refine @Cr _ _ _ _ (fOf _ _ _) _ ?_ (fun _ _ _ h=>h)
        ·refine Av ?_ ?_ ?_ ?_
         ·exact nd
         ·exact rfl
         ·exact Or.inl rfl
         ·refine vp _ ?_ ?_
          ·exact pv 2
          ·refine qm ?_ ?_
           ·exact Ci (.cons (.cons (.cons (.cons (.cons (.cons (.cons .nil)))))))
           ·exact jw (len_strs _) (by decide)
       ·refine f9 ?_ ?_
        ·refine @Cr _ _ _ _ (fOf _ _ _) _ ?_ (fun _ _ _ h=>h)
         ·refine Av ?_ ?_ ?_ ?_
          ·exact nd
          ·exact rfl
          ·exact Or.inl rfl
          ·refine vp _ ?_ ?_
           ·exact pv 2
           ·refine qm ?_ ?_
            ·exact Ci (.cons (.cons (.cons (.cons (.cons (.cons (.cons (.cons .nil))))))))
            ·exact jw (len_strs _) (by decide)
        ·refine f9 ?_ ?_
         ·refine @Cr _ _ _ _ (fOf _ _ _) _ ?_ (fun _ _ _ h=>h)
          ·refine Av ?_ ?_ ?_ ?_
           ·exact nd
           ·exact rfl
           ·exact Or.inl rfl
           ·refine vp _ ?_ ?_
            ·exact pv 2
            ·refine qm ?_ ?_
             ·exact Ci (.cons (.cons (.cons (.cons (.cons (.cons .nil))))))
             ·exact jw (len_strs _) (by decide)
         ·exact ju (kj (n8 hu (K3 (vp 2 (pv 2) (qm (aq dz cj) (jw (d8 jk) (by decide))))) (jf Bw (au 0 (pv 0)) bw) (fun _ _=>rfl)))
theorem uc:yc P w K mg base "_law_refused" 10 ["_law_text"] (_root_.K.m9 cR cN):=by
 obtain ⟨Dx,kx,cx⟩:=Z.k;refine go (N:=["_law_text","_law_told","_law_kinds","e"]) Z.h21 fun _ _ _ _ _ _ _ _ hr hu hq nd=>?_;exact f9 (uw (i:=1) nd a1b)   (f9 (uw (i:=2) nd (qm cj (jw jk (by decide))))   (f9 (a3b (vh Z) rfl rfl (hr.mono (by decide)) (by rfl) (aq (au 0 (pv 0)) cj) (bh eq_nil) (a2i (fun _=>hr.hd) nd rfl rfl kx kx (by simp) (by rfl) Z.em (fun a=>(f9 (uw (i:=1) nd (a9g Z.g (au 3 (pv 3))))   (ju (uw (i:=2) nd (qm (aq (Il (cv:=.ref Ca) (cw:=.ref Ca) (fun u r=>r) (Bp (by rfl) Z.kc.2 rfl) (by rfl) Z.b_isinstance (au 3 (pv 3)) (htC Z)) (aq (Il (cv:=.ty "ValueError") (cw:=.type "ValueError") (fun u r=>r) (a3s (v:=.ty "ValueError") (by rfl) Z.b_ValueError PyProof.Rows.Boot.«ValueError» rfl) (by rfl) Z.b_isinstance (au 3 (pv 3)) (htV Z)) (aq (Il (cv:=.ref c1) (cw:=.ref c1) (fun u r=>r) (Bp (by rfl) Z.m1 rfl) (by rfl) Z.b_isinstance (au 3 (pv 3)) (htN Z Z.t1)) (aq (Il (cv:=.ref c2) (cw:=.ref c2) (fun u r=>r) (Bp (by rfl) Z.m2 rfl) (by rfl) Z.b_isinstance (au 3 (pv 3)) (htN Z Z.t2)) (aq (Il (cv:=.ref c3) (cw:=.ref c3) (fun u r=>r) (Bp (by rfl) Z.m3 rfl) (by rfl) Z.b_isinstance (au 3 (pv 3)) (htN Z Z.t3)) (aq (Il (cv:=.ref c4) (cw:=.ref c4) (fun u r=>r) (Bp (by rfl) Z.m4 rfl) (by rfl) Z.b_isinstance (au 3 (pv 3)) (htN Z Z.t4)) (aq (Il (cv:=.ref c5) (cw:=.ref c5) (fun u r=>r) (Bp (by rfl) Z.m5 rfl) (by rfl) Z.b_isinstance (au 3 (pv 3)) (htN Z Z.t5)) cj))))))) (jw (d8 (d8 (d8 (d8 (d8 (d8 (d8 jk))))))) (by decide)))))))) Z7)   (f9 (Dp (kh (Qa hq) (au 2 (pv 2)) (qm (aq Hw (aq Hw (aq Hw (aq Hw (aq Hw (aq Hw (aq Hw cj))))))) (jw (d8 (d8 (d8 (d8 (d8 (d8 (d8 jk))))))) (by decide))) (gw _))   (ju (kj a1b))   ql)   (ju (kj (au 1 (pv 1)))))))
theorem Ia:yc P w K mg base "_law_deep" 1 ["_law_many","_law_ahead"] (_root_.K.yd):=by
 refine go (N:=["_law_many","_law_ahead","_law_lines_here","_law_k"]) Z.h22 fun _ _ _ _ _ _ _ _ hr hu hq nd=>?_;exact f9 (uw (i:=2) nd (jf gq (au 1 (pv 1)) (qm (aq dz cj) (jw (d8 jk) (by decide)))))   (f9 (Qz PassesOwn.never rfl (Ka (by rfl) Z.b_range (au 0 (pv 0))) (Bb 3 (Bt nd rfl (Or.inl rfl)))   (ju (uw (i:=2) nd (jf gq (au 2 (pv 2)) (qm (aq (jf gq dz (Cd (by rfl) Z.b_str (au 3 (pv 3)))) (aq dz cj)) (jw (d8 (d8 jk)) (by decide)))))) Jm)   (ju (kj (jf gq (au 2 (pv 2)) (qm (aq dz cj) (jw (d8 jk) (by decide)))))))
theorem G5:yc P w K mg base "_law_one" 12 ["_law_cell"] (_root_.K.vm cR cN):=by
 refine go (N:=["_law_cell","_law_rest_here","_law_way","_law_lines_here","_law_at","_law_spoiled","_law_short","_law_more","_law_deep_here"]) Z.h23 fun _ _ _ _ _ _ _ _ hr hu hq nd=>?_;refine f9 ?_ ?_
 ·exact uw (i:=1) nd (dw (Pk Z) (hr.mono (by decide)) (by rfl) (aq (au 0 (pv 0)) cj) (bh eq_nil))
 ·refine f9 ?_ ?_
  ·exact uw (i:=2) nd (dw (iy Z) (hr.mono (by decide)) (by rfl) (aq (au 1 (pv 1)) (aq bw cj)) (bh (bh eq_nil)))
  ·refine f9 ?_ ?_
   ·exact uw (i:=3) nd (dw (Mq Z) (hr.mono (by decide)) (by rfl) (aq (au 1 (pv 1)) cj) (bh eq_nil))
   ·refine f9 ?_ ?_
    ·exact Dp (kh (jg hq) (j9 (j6 j7 (by rfl) Z.b_len PySem.boot_len (aq (dw (vh Z).norm (hr.mono (by decide)) (by rfl) (aq (Ft dz (au 3 (pv 3))) cj) (bh eq_nil)) cj))) bw (gw _))   (ju (kj Hw))   ql
    ·refine f9 ?_ ?_
     ·exact uw (i:=4) nd (dw (iy Z) (hr.mono (by decide)) (by rfl) (aq (au 1 (pv 1)) (aq (j9 (j6 j7 (by rfl) Z.b_len PySem.boot_len (aq (au 3 (pv 3)) cj))) cj)) (bh (bh eq_nil)))
     ·refine f9 ?_ ?_
      ·exact Dp (kh Jd (au 2 (pv 2)) bw (gw _))   (f9 (uw (i:=5) nd (jf gq (jf gq (Bc (au 3 (pv 3)) wu (wj (au 4 (pv 4)))) (qm (aq (dw (Tp Z) (hr.mono (by decide)) (by rfl) (aq (dw (iy Z) (hr.mono (by decide)) (by rfl) (aq (au 1 (pv 1)) (aq bw cj)) (bh (bh eq_nil))) cj) (bh eq_nil)) cj) (jw (d8 jk) (by decide)))) (Bc (au 3 (pv 3)) (wj (jf gq (au 4 (pv 4)) bw)) wu)))   (ju (kj (mz (jg hq) (dw (uc Z) (hr.mono (by decide)) (by rfl) (aq (Ft dz (au 5 (pv 5))) cj) (bh eq_nil)) (jf gq (au 4 (pv 4)) bw) (gw _)))))   ql
      ·refine f9 ?_ ?_
       ·exact Dp (kh (jg hq) (au 2 (pv 2)) bw (gw _))   (f9 (uw (i:=6) nd (Bc (au 3 (pv 3)) wu (wj (jf Nz (j9 (j6 j7 (by rfl) Z.b_len PySem.boot_len (aq (au 3 (pv 3)) cj))) bw))))   (ju (kj (mz (jg hq) (dw (uc Z) (hr.mono (by decide)) (by rfl) (aq (Ft dz (au 6 (pv 6))) cj) (bh eq_nil)) (jf gq (j9 (j6 j7 (by rfl) Z.b_len PySem.boot_len (aq (au 6 (pv 6)) cj))) bw) (gw _)))))   ql
       ·refine f9 ?_ ?_
        ·refine Dp ?_ ?_ ?_
         ·exact kh (jg hq) (au 2 (pv 2)) bw (gw _)
         ·refine f9 ?_ ?_
          ·refine uw (i:=7) ?_ ?_
           ·exact nd
           ·refine jf ?_ ?_ ?_
            ·exact gq
            ·exact au 3 (pv 3)
            ·refine qm ?_ ?_
             ·refine aq ?_ ?_
              ·refine n8 ?_ ?_ ?_ ?_
               ·exact hu
               ·refine qm ?_ ?_
                ·exact Ci (.cons (.cons (.cons (.cons (.cons (.cons .nil))))))
                ·exact jw (len_strs _) (by decide)
               ·exact dw (iy Z) (hr.mono (by decide)) (by rfl) (aq (au 1 (pv 1)) (aq bw cj)) (bh (bh eq_nil))
               ·exact fun _ _=>rfl
              ·exact cj
             ·exact jw (d8 jk) (by decide)
          ·exact ju (kj (mz (jg hq) (dw (uc Z) (hr.mono (by decide)) (by rfl) (aq (Ft dz (au 7 (pv 7))) cj) (bh eq_nil)) (jf gq (j9 (j6 j7 (by rfl) Z.b_len PySem.boot_len (aq (au 3 (pv 3)) cj))) bw) (gw _)))
         ·exact ql
        ·exact f9 (uw (i:=8) nd (dw (Ia Z) (hr.mono (by decide)) (by rfl) (aq (jf gq bw (dw (iy Z) (hr.mono (by decide)) (by rfl) (aq (au 1 (pv 1)) (aq bw cj)) (bh (bh eq_nil)))) (aq (Bc (au 3 (pv 3)) wu (wj bw)) cj)) (bh (bh eq_nil))))   (ju (kj (Eo (mz (jg hq) (dw (uc Z) (hr.mono (by decide)) (by rfl) (aq (Ft dz (au 8 (pv 8))) cj) (bh eq_nil)) bw (gw _)) (Gd (mz Xl (j9 (j6 j7 (by rfl) Z.b_len PySem.boot_len (aq (dw (vh Z).norm (hr.mono (by decide)) (by rfl) (aq (Ft dz (dw (Ia Z) (hr.mono (by decide)) (by rfl) (aq bw (aq (au 3 (pv 3)) cj)) (bh (bh eq_nil)))) cj) (bh eq_nil)) cj))) bw (gw _))))))
theorem a6z {f:Addr} {fd:FuncData} (F:Fun K "law" "law" (top 41) f fd):Bj P w K mg base CX0 13 f fd ["_law_script"] (spF K (["_law_script"]:List Str).length (_root_.K.a5b cR cN)):=by
 refine go0 (N:=["_law_script","_law_cell","_law_text"]) F fun _ _ _ _ _ _ _ _ hr hu hq nd=>?_;exact f9 (Qz PassesOwn.never rfl (Rf (Bc (au 0 (pv 0)) wu (wj bw))) (Bb 1 (Bt nd rfl (Or.inl rfl)))   (ju (Dp (X6 (Rb (dw (G5 Z) (hr.mono (by decide)) (by rfl) (aq (au 1 (pv 1)) cj) (bh eq_nil))))   (ju (kj Hw))   ql)) Qg)   (f9 (Dp (PW.pt (Ru (kh Xl (j9 (j6 j7 (by rfl) Z.b_len PySem.boot_len (aq (au 0 (pv 0)) cj))) bw (gw _)) (Jo (kh (jg hq) (jf Bw (n8 hu (au 0 (pv 0)) bw (fun _ _=>rfl)) bw) bw (gw _)))))   (f9 (uw (i:=2) nd (jf X7 dz bw))   (f9 (Dp (kh (jg hq) (jf Bw (jf Kh (n8 hu (au 0 (pv 0)) bw (fun _ _=>rfl)) bw) bw) bw (gw _))   (ju (kj (mz (jg hq) (j9 (j6 j7 (by rfl) Z.b_len PySem.boot_len (aq (dw (vh Z).norm (hr.mono (by decide)) (by rfl) (aq (Ce (au 2 (pv 2)) wu (wj (Ub Dy bw))) cj) (bh eq_nil)) cj))) bw (gw _))))   ql)   (ju (kj (mz (jg hq) (dw (uc Z) (hr.mono (by decide)) (by rfl) (aq (jf gq (au 2 (pv 2)) dz) cj) (bh eq_nil)) bw (gw _))))))   ql)   (ju (kj (Eo (dw (G5 Z) (hr.mono (by decide)) (by rfl) (aq bw cj) (bh eq_nil)) (Gd (dw (G5 Z) (hr.mono (by decide)) (by rfl) (aq bw cj) (bh eq_nil)))))))
end
end D
end
section
namespace C
open PySem
theorem Mv {α:Type} {h f:α->T} {g:G} {c:M Bool} {e:M T} {nv:Nat} {aA:List Slot} {sto:List SO} (aR:aA.map Yw=aA) :
  ∀ (l:List α) (acc:List T) (pre:List Slot),pre.length=nv->acc.length+l.length<=lim ->
   (∀ a∈l,∀ pre:List Slot,pre.length=nv->∃ pre',pre'.length=nv/\g (h a) ⟨pre++aA,sto⟩=some ⟨pre'++aA,sto⟩/\c ⟨pre'++aA,sto⟩=some (true,⟨pre'++aA,sto⟩)/\e ⟨pre'++aA,sto⟩=some (f a,⟨pre'++aA,sto⟩)) ->
   ∃ s',G8 g c e (l.map h) ⟨pre++aA,sto⟩ acc=some (acc++l.map f,s')/\s'.sto=sto
 | [],acc,pre,hp,hl,H=>⟨⟨pre++aA,sto⟩,by simp [G8],rfl⟩
 | a::l,acc,pre,hp,hl,H=>by
  obtain ⟨pre',p1,p2,p3,p4⟩:=H a List.mem_cons_self pre hp;have hlen:acc.length<lim:=by simp at hl ⊢; omega
  obtain ⟨s',q1,q2⟩:=Mv aR l (acc++[f a]) (pre'.map Yw) (by simpa using p1) (by simp at hl ⊢; omega) fun b hb=>H b (List.mem_cons_of_mem _ hb);refine ⟨s',?_,q2⟩;rw [List.map_cons,G8,p2];dsimp only;rw [p3];dsimp only;rw [p4];dsimp only;rw [if_pos hlen,je];dsimp only;rw [List.map_append,aR,q1];simp
theorem Wi {α:Type} (h f:α->T) (l:List α) {g:G} {c:M Bool} {e:M T} {nv:Nat} {ci:List Nat} {it:M (List T)} {s s1:Sta} (env:List Slot) (aA:List Slot) (hit:it s=some (l.map h,s1)) (dG:j8 ci s1.env=env) (fk:ci.map (fun i=>(env[i]?).getD none)=aA) (aR:aA.map Yw=aA) (hl:l.length<=lim)
  (H:∀ a∈l,∀ pre:List Slot,pre.length=nv->∃ pre',pre'.length=nv/\g (h a) ⟨pre++aA,s1.sto⟩=some ⟨pre'++aA,s1.sto⟩/\c ⟨pre'++aA,s1.sto⟩=some (true,⟨pre'++aA,s1.sto⟩)/\e ⟨pre'++aA,s1.sto⟩=some (f a,⟨pre'++aA,s1.sto⟩)) :
  J1 nv ci g it c e s=some (.lst (l.map f),⟨env,s1.sto⟩):=by
 obtain ⟨s',q1,q2⟩:=Mv aR l [] (List.replicate nv none) (by simp) (by simpa using hl) H;unfold J1;rw [hit];dsimp only;rw [dG,fk,q1];dsimp only;rw [q2]; rfl
def okS (x:Str):Prop:=PyData.canLay0 (.str x)=true
theorem Dr {x:Str} (h:okS x):dat (.str x)=some (.str x):=by
 unfold okS at h;simp [dat,h]
theorem W0 {a b:Str} (ha:okS a) (hb:okS b):neO (.str a) (.str b)=some (.bl (!(a==b))):=by
 simp [neO,eqT,eqD,Dr ha,Dr hb,PyData.depth,PyData.eqv]
end C
namespace C
open PySem
end C
namespace C
open PySem
theorem Bh {α:Type} (h:α->T) (l:List α) {k:Nat} (hk:k<l.length):gb (.lst (l.map h)) (.int (k:Int))=some (h l[k]):=by
 have h1:(k:Int)<(l.length:Int):=by omega
 simp [gb,ixI,h1,List.getElem?_eq_getElem hk]
end C
end
open C
local macro_rules | `(tactic| simp! [$ls,*])=>`(tactic| simp [zp,qe,sIf,ou,sNew,Az,Ec,sGo,Tz,v7,Aj,dg,Xe,Dj,mOr,xu,mIf,mOp,mUn,bf,j5,ao,cu,ak,Bv,fj,jr,hName,ab4,Ay,Nf,ltT,leT,vf,jt,Zq,Mr,Kc,Gg,a96,Te,j8,Yw,$ls,*])
section
namespace C
open PySem
theorem Aa {a b:Int}:eqO (.int a) (.int b)=some (.bl (a==b)):=rfl
theorem a5d {a b:Int}:neO (.int a) (.int b)=some (.bl (!(a==b))):=by simp [neO,eqT,eqD,dat,PyData.depth,PyData.eqv]
theorem pq {a b:Str} (ha:okS a) (hb:okS b):eqO (.str a) (.str b)=some (.bl (a==b)):=by
 simp [eqO,eqT,eqD,Dr ha,Dr hb,PyData.depth,PyData.eqv]
end C
end
section
namespace K
open C PySem
section
variable {a b:M T} {l r:M (List T)} {s s1 s2:Sta} {t u v:T} {ts:List T} {i:Nat} {F:Fn} {z:List SO} {x y:S}
theorem zo {f:T->T->Option T} (h1:a s=some (t,s1)) (h2:b s1=some (u,s2)) (h3:f t u=some v):mOp f a b s=some (v,s2):=by
 unfold mOp; rw [h1]; dsimp only; rw [h2]; dsimp only; rw [h3]
theorem zm {f:List T->Option T} (h:l s=some (ts,s1)) (h2:f ts=some u):j5 f l s=some (u,s1):=by
 unfold j5; rw [h]; dsimp only; rw [h2]
theorem zc (h:a s=some (t,s1)) (h2:l s1=some (ts,s2)):ao a l s=some (t::ts,s2):=by
 unfold ao; rw [h]; dsimp only; rw [h2]
theorem zf (h:l s=some (ts,s1)) (h2:F ts s1.sto=some (t,z)):fj F l s=some (t,⟨s1.env,z⟩):=by
 unfold fj; rw [h]; dsimp only; rw [h2]
theorem zr (h:a s=some (t,s1)):Az a s=some (.ret t,s1):=by unfold Az; rw [h]
theorem zq {q:Option (C.Flow × Sta)} (h:x s=some (.next,s1)) (h2:y s1=q):qe x y s=q:=by unfold qe; rw [h]; exact h2
theorem zt {k:Bool} (h:a s=some (.bl k,s1)):dg a s=some (k,s1):=by unfold dg; rw [h]
theorem zk {c:M Bool} (h:c s=some (true,s1)) {q:Option (C.Flow × Sta)} (h2:x s1=q):sIf c x y s=q:=by unfold sIf; rw [h]; exact h2
theorem ze {c:M Bool} (h:c s=some (false,s1)) {q:Option (C.Flow × Sta)} (h2:y s1=q):sIf c x y s=q:=by unfold sIf; rw [h]; exact h2
theorem ys {s':Sta} (h:a s=some (t,s1)) (e:jr i t false s1=s'):ou i a s=some (.next,s'):=by unfold ou; rw [h,<- e]
theorem yn {s':Sta} (h:a s=some (t,s1)) (e:jr i t true s1=s'):sNew i a s=some (.next,s'):=by unfold sNew; rw [h,<- e]
theorem md {i j:Int} (h:0<j):Mr (.int i) (.int j)=some (.int (i%j)):=if_pos h
theorem Uk {α:Type} {f:α->T} {l:List α}:vf [.lst (l.map f)]=some (.int l.length):=by show some (T.int ((l.map f).length:Int))=_; rw [List.length_map]
theorem ad {p q:Str} (h:p.length+q.length<lim):jt (.str p) (.str q)=some (.str (p++q)):=if_pos h
theorem zis {α:Type} {f:α->T} {k:List α} (h:a s=some (.lst (k.map f),s1)) (hl:k.length<lim):Nf a s=some (k.map f,s1):=by
 unfold Nf; rw [h]; dsimp only; rw [List.length_map,if_pos hl]
theorem zqr (h:x s=some (.ret t,s1)):qe x y s=some (.ret t,s1):=by unfold qe; rw [h]
theorem a8l {c:M Bool} {k:Bool} (h:c s=some (k,s1)):Xe c s=some (!k,s1):=by unfold Xe; rw [h]
theorem a9n {c d:M Bool} (h:c s=some (true,s1)):mOr c d s=some (true,s1):=by unfold mOr; rw [h]
theorem a6y {c d:M Bool} {q:Option (Bool × Sta)} (h:c s=some (false,s1)) (h2:d s1=q):mOr c d s=q:=by unfold mOr; rw [h]; exact h2
theorem zb {c:M Bool} {k:Bool} (h:c s=some (k,s1)):xu c s=some (.bl k,s1):=by unfold xu; rw [h]
theorem za {s':Sta} {xs:List T} (h:a s=some (t,s1)) (hx:s1.env[i]? = some (some (.lst xs,true))) (hl:xs.length<lim) (hs:Aj i s=true) (e:jr i (.lst (xs++[t])) true s1=s'):v7 i a s=some (.next,s'):=by
 unfold v7; rw [if_pos hs,h]; dsimp only; rw [hx]; dsimp only; rw [if_pos hl,e]
theorem a8u {α:Type} {f:α->Bool}:∀ {l:List α},a71 [.lst (l.map fun r=>.bl (f r))]=some (.bl (l.all f))/\abe [.lst (l.map fun r=>.bl (f r))]=some (.bl (l.any f)):=fun {l}=>by
 have q:∀ l:List α,G9 (l.map fun r=>.bl (f r))=some (l.map f):=fun l=>by
  induction l with
  | nil=>rfl
  | cons a l ih=>rw [List.map_cons,G9,ih]; rfl
 refine ⟨?_,?_⟩
 ·show (G9 (l.map fun r=>.bl (f r))).map _=_;rw [q]; simp
 ·show (G9 (l.map fun r=>.bl (f r))).map _=_;rw [q]; simp
theorem mu2 {p q:Int} (h:Jw q=true):a0v (.int p) (.int q)=some (.int (p * q)):=if_pos (by rw [h]; simp)
theorem zf0 (h:l s=some (ts,s1)) (h2:F ts s1.sto=some (t,s1.sto)):fj F l s=some (t,s1):=by
 unfold fj; rw [h]; dsimp only; rw [h2]
theorem Z5 {g:G} {q:S} {w:List T} (h:g t s=some s1) (hb:q s1=some (.next,s2)):forL g q (t::w) s=forL g q w s2:=by
 rw [forL]; dsimp only; rw [h]; dsimp only; rw [hb]
theorem a9s {g:G} {q:S} {m:M (List T)} {r0:Option (C.Flow × Sta)} (h:m s=some (ts,s1)) (h2:forL g q ts s1=r0):Tz g m q s=r0:=by
 unfold Tz; rw [h]; exact h2
theorem zos {p:Int} (h:a s=some (.int p,s1)):oh a s=some (some p,s1):=by unfold oh; rw [h]
theorem zrun {n:Nat} {A:List T} {z0:List SO} (h:x ⟨A.map (fun t=>some (t,false))++List.replicate (n - A.length) none,z0⟩=some (.ret t,s1)) (h2:s1.sto=z):zp n x A z0=some (t,z):=by
 unfold zp; rw [h]; dsimp only; rw [h2]
end
section
variable {a b:SX} {u:S} {s s1 s2:Sta} {q:Option ((C.Flow ⊕ T) × Sta)} {t x:T} {fl:C.Flow} {c:M Bool} {ms:M (List T)} {F:FnX} {ts:List T} {z z0:List SO} {m:M T} {n i:Nat} {A:List T} {r:T ⊕ T} {mx:MX} {l:MXs}
theorem xq (h:a s=some (.inl .next,s1)) (h2:b s1=q):vq a b s=q:=by unfold vq; rw [h]; exact h2
theorem xqr (h:a s=some (.inr t,s1)):vq a b s=some (.inr t,s1):=by unfold vq; rw [h]
theorem xqt (h:a s=some (.inl (.ret t),s1)):vq a b s=some (.inl (.ret t),s1):=by unfold vq; rw [h]
theorem xl (h:u s=some (fl,s1)):lx u s=some (.inl fl,s1):=by unfold lx; rw [h]
theorem xik (h:c s=some (true,s1)) (h2:a s1=q):xIf c a b s=q:=by unfold xIf; rw [h]; exact h2
theorem xie (h:c s=some (false,s1)) (h2:b s1=q):xIf c a b s=q:=by unfold xIf; rw [h]; exact h2
theorem xra (h:m s=some (t,s1)):Ig m s=some (.inr t,s1):=by unfold Ig; rw [h]
theorem ab5 (h:a ⟨A.map (fun t=>some (t,false))++List.replicate (n - A.length) none,z0⟩=some (.inl .next,s1)) (e:s1.sto=z):rm n a A z0=some (.inl .non,z):=by unfold rm; rw [h]; dsimp only; rw [e]
theorem Cg (h:a ⟨A.map (fun t=>some (t,false))++List.replicate (n - A.length) none,z0⟩=some (.inl (.ret t),s1)) (e:s1.sto=z):rm n a A z0=some (.inl t,z):=by unfold rm; rw [h]; dsimp only; rw [e]
theorem p8 (h:a ⟨A.map (fun t=>some (t,false))++List.replicate (n - A.length) none,z0⟩=some (.inr t,s1)) (e:s1.sto=z):rm n a A z0=some (.inr t,z):=by unfold rm; rw [h]; dsimp only; rw [e]
theorem xup (h:m s=some (t,s1)):Di m s=some (.inl t,s1):=by unfold Di; rw [h]
theorem xmc (h:ms s=some (ts,s1)) (h2:F ts s1.sto=some (r,z)):ig F ms s=some (r,⟨s1.env,z⟩):=by unfold ig; rw [h]; dsimp only; rw [h2]
theorem xcs (h:mx s=some (.inl t,s1)) (h2:l s1=some (.inl ts,s2)):gj mx l s=some (.inl (t::ts),s2):=by unfold gj; rw [h]; dsimp only; rw [h2]
theorem Sx (h:mx s=some (.inr x,s1)):gj mx l s=some (.inr x,s1):=by unfold gj; rw [h]
theorem xst (h:mx s=some (.inl t,s1)) (e:jr i t false s1=s2):Iv i mx s=some (.inl .next,s2):=by unfold Iv; rw [h]; dsimp only; rw [e]
theorem xsr (h:mx s=some (.inr x,s1)):Iv i mx s=some (.inr x,s1):=by unfold Iv; rw [h]
theorem xrt (h:mx s=some (.inl t,s1)):Lg mx s=some (.inl (.ret t),s1):=by unfold Lg; rw [h]
theorem xrr (h:mx s=some (.inr x,s1)):Lg mx s=some (.inr x,s1):=by unfold Lg; rw [h]
theorem xdt (h:mx s=some (.inl t,s1)):yw mx s=some (.inl .next,s1):=by unfold yw; rw [h]
theorem xdr (h:mx s=some (.inr x,s1)):yw mx s=some (.inr x,s1):=by unfold yw; rw [h]
theorem xtu (h:l s=some (.inl ts,s1)):wz (fun l=>some (.tup l)) l s=some (.inl (.tup ts),s1):=by unfold wz; rw [h]
theorem xtr (h:l s=some (.inr x,s1)):wz (fun l=>some (.tup l)) l s=some (.inr x,s1):=by unfold wz; rw [h]
theorem a8f {c:M Bool} {m1 m2:M T} {q:Option (T × Sta)} (h:c s=some (true,s1)) (h2:m1 s1=q):mIf c m1 m2 s=q:=by unfold mIf; rw [h]; exact h2
theorem a4y {c:M Bool} {m1 m2:M T} {q:Option (T × Sta)} (h:c s=some (false,s1)) (h2:m2 s1=q):mIf c m1 m2 s=q:=by unfold mIf; rw [h]; exact h2
theorem wxf {k:Nat} (h:c s=some (false,s1)):m7 (k+1) c a s=some (.inl .next,s1):=by rw [m7]; dsimp only; rw [h]
theorem wxt {k:Nat} (h:c s=some (true,s1)) (h1:a s1=some (.inl .next,s2)) (h2:m7 k c a s2=q):m7 (k+1) c a s=q:=by rw [m7]; dsimp only; rw [h]; dsimp only; rw [h1]; exact h2
theorem wxr {k:Nat} (h:c s=some (true,s1)) (h1:a s1=some (.inr x,s2)):m7 (k+1) c a s=some (.inr x,s2):=by rw [m7]; dsimp only; rw [h]; dsimp only; rw [h1]
end
abbrev cs (x:Str):List Nat:=x.cps.toList
def a5o (c:Nat):Bool:=decide (97<=c)&&decide (c<=122)
def Ti (c:Nat):Bool:=decide (48<=c)&&decide (c<=57)
def a6m (c:Nat):Bool:=a5o c||Ti c
def st (l:List Nat):Str:=⟨l.toArray⟩
theorem aa0 (l:List Nat):cs (st l)=l:=rfl
theorem Fw (x:Str):st (cs x)=x:=by cases x; simp [st,cs]
theorem uo (x:Str):x.length=(cs x).length:=by show x.cps.size=_; simp [cs]
theorem Np (c:Nat) (y:Str):inS (.str ⟨#[c]⟩) (.str y)=some (.bl (decide (c∈cs y))):=by
 show some (T.bl _)=_;rw [StrLaws.found_one]
theorem V8 (c:Nat):decide (c∈cs "abcdefghijklmnopqrstuvwxyz")=a5o c:=by
 have e:cs "abcdefghijklmnopqrstuvwxyz" = [97,98,99,100,101,102,103,104,105,106,107,108,109,110,111,112,113,114,115,116,117,118,119,120,121,122]:=by decide +kernel
 rw [e,Bool.eq_iff_iff,decide_eq_true_eq];simp only [List.mem_cons,List.not_mem_nil,or_false,a5o,Bool.and_eq_true,decide_eq_true_eq];omega
theorem V7 (c:Nat):decide (c∈cs "0123456789")=Ti c:=by
 have e:cs "0123456789" = [48,49,50,51,52,53,54,55,56,57]:=by decide +kernel
 rw [e,Bool.eq_iff_iff,decide_eq_true_eq];simp only [List.mem_cons,List.not_mem_nil,or_false,Ti,Bool.and_eq_true,decide_eq_true_eq];omega
theorem a5k (c:Nat):decide (c∈cs "abcdefghijklmnopqrstuvwxyz0123456789")=a6m c:=by
 have e:cs "abcdefghijklmnopqrstuvwxyz0123456789" = cs "abcdefghijklmnopqrstuvwxyz" ++ cs "0123456789" := by decide +kernel
 have h1:=V8 c;have h2:=V7 c;rw [Bool.eq_iff_iff,decide_eq_true_eq] at h1 h2 ⊢;rw [e,List.mem_append,h1,h2,a6m,Bool.or_eq_true]
theorem a7v (c:Nat):inS (.str ⟨#[c]⟩) (.str "abcdefghijklmnopqrstuvwxyz")=some (.bl (a5o c)):=by rw [Np,V8]
theorem a7m (c:Nat):inS (.str ⟨#[c]⟩) (.str "0123456789")=some (.bl (Ti c)):=by rw [Np,V7]
theorem a6j (c:Nat):inS (.str ⟨#[c]⟩) (.str "abcdefghijklmnopqrstuvwxyz0123456789")=some (.bl (a6m c)):=by rw [Np,a5k]
def Pn (x:Str):Prop:=(∀ c∈cs x,c<128)/\(cs x).length<1000
theorem Pn.okS {x:Str} (h:Pn x):okS x:=by
 unfold C.okS PyData.canLay0 PyData.strOk;rw [<- Array.all_toList,List.all_eq_true];intro c hc;have:=h.1 c hc;simp only [decide_eq_true_eq];omega
theorem Pn.lt {x:Str} (h:Pn x):x.length<lim:=by have:=h.2; rw [uo]; show _<1000000; omega
theorem Pn.all {x:Str} (h:Pn x):x.cps.all (· < 128)=true:=by
 rw [<- Array.all_toList,List.all_eq_true];intro c hc;exact decide_eq_true (h.1 c hc)
theorem V6 {c:Nat} (h:c<128):okS (⟨#[c]⟩:Str):=by
 unfold C.okS PyData.canLay0 PyData.strOk;simp; omega
theorem item_at {x:Str} {k:Nat} (hl:x.length<lim) (hk:k<(cs x).length):gb (.str x) (.int (k:Int))=some (.str ⟨#[(cs x)[k]]⟩):=by
 have h1:(k:Int)<((cs x).length:Int):=by omega
 simp only [gb,hl,if_true,ixI,Int.natCast_nonneg,h1,Int.toNat_natCast,Option.bind_some];rw [List.getElem?_eq_getElem hk];rfl
variable {sto:List SO}
theorem La {x:Str} (h:Pn x) {y:Str} {p:Nat->Bool} (hp:∀ c,inS (.str ⟨#[c]⟩) (.str y)=some (.bl (p c))) :
  j5 a71 (ao (J1 1 [] (hName 0) (Er (bf 0)) Te (mOp inS (bf 0) (ak (.str y)))) cu) ⟨[some (.str x,false)],sto⟩=some (.bl ((cs x).all p),⟨[some (.str x,false)],sto⟩):=by
 have e:J1 1 [] (hName 0) (Er (bf 0)) Te (mOp inS (bf 0) (ak (.str y))) ⟨[some (.str x,false)],sto⟩=some (.lst ((cs x).map fun c=>.bl (p c)),⟨[some (.str x,false)],sto⟩):=by
  refine Wi (fun c=>T.str ⟨#[c]⟩) (fun c=>.bl (p c)) (cs x) (s1:=⟨[some (.str x,false)],sto⟩) _ [] ?_ rfl rfl rfl (by have:=h.2; show _<=1000000; omega) ?_
  ·unfold Er;dsimp only [bf,List.getElem?_cons_zero];rw [if_pos ⟨h.lt,h.all⟩];rfl
  ·intro c hc pre bC
   obtain ⟨a,rfl⟩:∃ a,pre=[a]:=by
    match pre,bC with
    | [a],_=>exact ⟨a,rfl⟩
   exact ⟨[some (.str ⟨#[c]⟩,false)],rfl,rfl,rfl,zo rfl rfl (hp c)⟩
 exact zm (zc e rfl) a8u.1
noncomputable def a8h:List Str:=["box","lock","hand","own","end","set","wait","if","else","while","rounds","either","or","and","not","take","give","label","say","at","divides","true","false"]
noncomputable def nameB (x:Str):Bool:=decide (1<=(cs x).length)&&(decide ((cs x).length<=8)&&((cs x).headD 0 |> a5o)&&(cs x).all a6m && !(a8h.contains x))
noncomputable def Ui (x:Str):Bool:=!(cs x).isEmpty&&(cs x).all Ti&&(decide (cs x=[48])||decide ((cs x).headD 48≠48))
theorem Rc {x:Str} (hx:okS x):∀ l:List Str,(∀ y∈l,okS y)->inL (.str x) (l.map T.str)=some (l.contains x)
 | [],_=>rfl
 | y::l,h=>by
  have hy:=h y List.mem_cons_self;have ih:=Rc hx l fun z hz=>h z (List.mem_cons_of_mem _ hz);have e:eqD (.str y) (.str x)=some (y==x):=by simp [eqD,Dr hx,Dr hy,PyData.depth,PyData.eqv]
  have c:(x==y)=(y==x):=by rw [Bool.eq_iff_iff,beq_iff_eq,beq_iff_eq]; exact eq_comm
  rw [List.map_cons,inL,e];dsimp only;rw [ih,List.contains_cons,c];rfl
theorem a2f {x:Str} (hx:okS x) {l:List Str} (h:∀ y∈l,okS y):inT (.str x) (.tup (l.map T.str))=some (.bl (l.contains x)):=by
 unfold inT;dsimp only;rw [Dr hx];dsimp only [Option.isSome];rw [if_pos rfl,Rc hx l h];rfl
theorem Ua {x:Str} (hx:okS x) {l:List Str} (h:∀ y∈l,okS y):Ky (.str x) (.tup (l.map T.str))=some (.bl (!l.contains x)):=by
 unfold Ky; rw [a2f hx h]
theorem a3t:∀ y∈a8h,okS y:=by
 unfold a8h okS
 decide +kernel
theorem len_str {x:Str} (h:Pn x):vf [.str x]=some (.int ((cs x).length:Int)):=by
 show (if x.length<lim then some (T.int (x.length:Int)) else none)=_;rw [if_pos h.lt,uo]
theorem zba {a b:M T} {s:Sta} {j k:Bool} (h1:a s=some (.bl j,s)) (h2:j=true->b s=some (.bl k,s)):xu (Dj (dg a) (dg b)) s=some (.bl (j&&k),s):=by
 unfold xu Dj;rw [zt h1];cases j with
 | true=>dsimp only; rw [zt (h2 rfl)]; rfl
 | false=>rfl
theorem a6v {l:List Nat} {d:Nat} (h:0<l.length):l.headD d=l[0]:=by
 cases l with
 | nil=>cases h
 | cons a l=>rfl
theorem a2r {x:Str} (h:Pn x):Fl [.str x] sto=some (.bl (nameB x),sto):=by
 have hl:=h.lt;refine zrun (s1:=⟨[some (.str x,false)],sto⟩) (zr ?_) rfl
 have e1:Im leT leT (ak (.int 1)) (j5 vf (ao (bf 0) cu)) (ak (.int 8)) ⟨[some (.str x,false)],sto⟩=some (.bl (decide (1<=(cs x).length)&&decide ((cs x).length<=8)),⟨[some (.str x,false)],sto⟩):=by
  unfold Im ak;dsimp only;rw [show j5 vf (ao (bf 0) cu) ⟨[some (.str x,false)],sto⟩=some (.int ((cs x).length:Int),⟨[some (.str x,false)],sto⟩) from zm (zc rfl rfl) (len_str h)];dsimp only [leT]
  by_cases h1:1<=(cs x).length
  ·rw [decide_eq_true (show (1:Int)<=((cs x).length:Int) by omega),decide_eq_true h1];dsimp only;rw [Bool.true_and]
   by_cases h2:(cs x).length<=8
   ·rw [decide_eq_true (show ((cs x).length:Int)<=8 by omega),decide_eq_true h2]
   ·rw [decide_eq_false (show ¬ ((cs x).length:Int)<=8 by omega),decide_eq_false h2]
  ·rw [decide_eq_false (show ¬ (1:Int)<=((cs x).length:Int) by omega),decide_eq_false h1];rfl
 have e:nameB x=((decide (1<=(cs x).length)&&decide ((cs x).length<=8))&&(a5o ((cs x).headD 0)&&((cs x).all a6m && !(a8h.contains x)))):=by
  unfold nameB;simp only [Bool.and_assoc]
 rw [e];refine zba e1 fun g1=>?_
 have g2:0<(cs x).length:=by
  rw [Bool.and_eq_true,decide_eq_true_eq] at g1;omega
 refine zba ?_ fun _=>?_
 ·have i0:=item_at (k:=0) hl g2;rw [a6v g2];exact zo (zo rfl rfl i0) rfl (a7v _)
 ·refine zba (La h a6j) fun _=>?_;exact zo rfl rfl (Ua h.okS a3t)
theorem Ut {x:Str} (h:Pn x):Bo [.str x] sto=some (.bl (Ui x),sto):=by
 have hl:=h.lt;have e0:eqO (.str x) (.str "")=some (.bl (x == "")):=pq h.okS (by unfold okS; decide +kernel)
 have ee:(x==("" : Str))=(cs x).isEmpty:=by
  rw [Bool.eq_iff_iff,beq_iff_eq,List.isEmpty_iff];constructor
  ·intro z; rw [z]; rfl
  ·intro z; rw [<- Fw x,z]; rfl
 have ha:=La (sto:=sto) h a7m
 by_cases z:(!(cs x).isEmpty&&(cs x).all Ti)=true
 ·obtain ⟨z1,z2⟩:=(Bool.and_eq_true _ _).mp z;have ez:(cs x).isEmpty=false:=by simpa using z1
  have ne:cs x≠[]:=fun q=>by rw [q] at ez; cases ez
  have g2:0<(cs x).length:=List.length_pos_iff.mpr ne;have i0:=item_at (k:=0) hl g2;have q0:okS (⟨#[(cs x)[0]]⟩:Str):=V6 (h.1 _ (List.getElem_mem g2));have k0:okS ("0" : Str):=by unfold okS; decide +kernel
  have a1:=pq h.okS k0;have a2:=W0 q0 k0
  have b1:(x==("0" : Str))=decide (cs x=[48]):=by
   rw [Bool.eq_iff_iff,beq_iff_eq,decide_eq_true_eq];constructor
   ·intro z; rw [z]; decide +kernel
   ·intro z; rw [<- Fw x,z]; decide +kernel
  have b2:(!((⟨#[(cs x)[0]]⟩:Str)==("0" : Str)))=decide ((cs x).headD 48≠48):=by
   rw [a6v g2];have k:(("0" : Str))=⟨#[48]⟩:=by decide +kernel
   rw [k]
   by_cases y:(cs x)[0]=48
   ·rw [y]; decide +kernel
   ·have:((⟨#[(cs x)[0]]⟩:Str)==⟨#[48]⟩)=false:=beq_eq_false_iff_ne.mpr fun q=>y (by injection q with q; injection q with q; injection q);rw [this,decide_eq_true y]; rfl
  rw [z2] at ha;have r:Ui x=(decide (cs x=[48])||decide ((cs x).headD 48≠48)):=by unfold Ui; rw [z,Bool.true_and]
  rw [r,<- b1,<- b2];refine zrun (s1:=⟨[some (.str x,false)],sto⟩) (zq (ze (a6y (zt (zo rfl rfl (by rw [e0,ee,ez]))) (a8l (k:=true) (zt ha))) rfl) (zr (zb ?_))) rfl;cases y:(x==("0" : Str)) with
  | true=>exact a9n (zt (zo rfl rfl (by rw [a1,y])))
  | false=>exact a6y (zt (zo rfl rfl (by rw [a1,y]))) (zt (zo (zo rfl rfl i0) rfl a2))
 ·have r:Ui x=false:=by unfold Ui; rw [Bool.eq_false_iff.mpr z,Bool.false_and]
  rw [r];refine zrun (s1:=⟨[some (.str x,false)],sto⟩) (zqr (zk ?_ (zr rfl))) rfl;cases y:(cs x).isEmpty with
  | true=>exact a9n (zt (zo rfl rfl (by rw [e0,ee,y])))
  | false =>
   have:(cs x).all Ti=false:=by
    rw [y] at z;simpa using z
   rw [this] at ha;exact a6y (zt (zo rfl rfl (by rw [e0,ee,y]))) (a8l (k:=false) (zt ha))
end K
end
section
namespace K
open C PySem
variable {cR cN k:Nat} {sto:List SO} {rs:List Str} {n:Nat}
abbrev f2 (a b:T):List (Str × T):=[("rows",a),("number",b)]
abbrev rdF (rs:List Str) (n:Nat):List (Str × T):=f2 (.lst (rs.map .str)) (.int (n:Int))
abbrev Df (cR k:Nat) (rs:List Str) (n:Nat) (sto:List SO):Prop:=sto[k]? = some (.ins cR (rdF rs n))
abbrev up (cR k:Nat) (rs:List Str) (n:Nat) (sto:List SO):List SO:=sto.set k (.ins cR (rdF rs n))
theorem K4 {fs:List (Str × T)} (h:sto[k]? = some (.ins cR fs)):P0 cR k sto=some fs:=by
 unfold P0; rw [h]; exact if_pos rfl
theorem Df.up {m:Nat} (h:Df cR k rs n sto):Df cR k rs m (up cR k rs m sto):=by
 have hl:k<sto.length:=(List.getElem?_eq_some_iff.mp h).1;exact List.getElem?_set_self hl
section
variable {s s1 s2:Sta} {o v:M T} {fs:List (Str × T)} {t:T} {f:Str}
theorem fld (h:o s=some (.obj k,s1)) (hs:s1.sto[k]? = some (.ins cR fs)) (hf:fs.lookup f=some t):J5 cR f o s=some (t,s1):=by
 unfold J5;rw [h]; dsimp only;rw [K4 hs]; dsimp only;rw [hf]
theorem Xh (hv:v s=some (t,s1)) (h:o s1=some (.obj k,s2)) (hs:s2.sto[k]? = some (.ins cR fs)) (hl:fs.length<100):yh cR f o v s=some (.next,⟨s2.env,s2.sto.set k (.ins cR (Z1 f t fs))⟩):=by
 unfold yh;rw [hv]; dsimp only;rw [h]; dsimp only;rw [K4 hs]; dsimp only;rw [if_pos hl]
theorem Yz {m:Str} {F:FnX} {a:MXs} {ts:List T} {r:T ⊕ T} {z:List SO} (h:o s=some (.obj k,s1)) (hs:s1.sto[k]? = some (.ins cR fs)) (hn:fs.lookup m=none) (ha:a s1=some (.inl ts,s2)) (hF:F (.obj k::ts) s2.sto=some (r,z)):mq cR m F o a s=some (r,⟨s2.env,z⟩):=by
 unfold mq;rw [h]; dsimp only;rw [K4 hs]; dsimp only;rw [if_pos hn,ha]; dsimp only;rw [hF]
end
theorem a1p {a b:T}:(f2 a b).lookup ("rows" : Str)=some a:=by rfl
theorem a0a {a b:T}:(f2 a b).lookup ("number" : Str)=some b:=by rfl
theorem aa4 {a b:T}:(f2 a b).lookup ("next_words" : Str)=none:=by rfl
theorem aag {a b:T}:(f2 a b).lookup ("need_that" : Str)=none:=by rfl
def wk (c:Nat) (x:Str):List Str:=(cutAt c (cs x)).map Kr
theorem Fj {x y:Str} {c:Nat} (hy:cs y=[c]) (hl:x.length<lim):Ag (.str x) (.str y)=some (.lst ((wk c x).map .str)):=by
 have h1:y.cps.size=1:=by rw [<- Array.length_toList]; show (cs y).length=1; rw [hy]; rfl
 show (if y.cps.size=1/\x.length<lim then some (T.lst ((cutAt (y.cps.toList.headD 0) x.cps.toList).map fun p=>.str (Kr p))) else none)=_;rw [if_pos ⟨h1,hl⟩];show some (T.lst ((cutAt ((cs y).headD 0) (cs x)).map fun p=>.str (Kr p)))=_;rw [hy];unfold wk;rw [List.map_map];rfl
theorem a6q:cs " " = [32]:=by decide +kernel
theorem Zi:cs "\n" = [10]:=by decide +kernel
theorem Km:cs "*" = [42]:=by decide +kernel
theorem a4n:cs "," = [44]:=by decide +kernel
def ws (x:Str):List Str:=wk 32 x
theorem K6 {c a:Nat}:∀ {l:List Nat},∀ p∈cutAt c l,a∈p->a∈l
 | [],p,hp,ha=>by
  rw [List.mem_singleton.mp hp] at ha; cases ha
 | b::r,p,hp,ha=>by
  unfold cutAt at hp;split at hp
  ·rcases List.mem_cons.mp hp with rfl | hp
   ·cases ha
   ·exact List.mem_cons_of_mem _ (K6 p hp ha)
  ·split at hp
   ·rw [List.mem_singleton.mp hp,List.mem_singleton] at ha;rw [ha]; exact List.mem_cons_self
   ·rename_i q u e;rcases List.mem_cons.mp hp with rfl | hp
    ·rcases List.mem_cons.mp ha with rfl | ha
     ·exact List.mem_cons_self
     ·exact List.mem_cons_of_mem _ (K6 q (by rw [e]; exact List.mem_cons_self) ha)
    ·exact List.mem_cons_of_mem _ (K6 p (by rw [e]; exact List.mem_cons_of_mem _ hp) ha)
theorem K9 {c:Nat}:∀ {l:List Nat},∀ p∈cutAt c l,p.length<=l.length
 | [],p,hp=>by rw [List.mem_singleton.mp hp]; exact Nat.le_refl _
 | b::r,p,hp=>by
  unfold cutAt at hp;split at hp
  ·rcases List.mem_cons.mp hp with rfl | hp
   ·exact Nat.zero_le _
   ·exact Nat.le_succ_of_le (K9 p hp)
  ·split at hp
   ·rw [List.mem_singleton.mp hp]; simp
   ·rename_i q u e;rcases List.mem_cons.mp hp with rfl | hp
    ·have:=K9 (c:=c) (l:=r) q (by rw [e]; exact List.mem_cons_self);simpa using this
    ·exact Nat.le_succ_of_le (K9 p (by rw [e]; exact List.mem_cons_of_mem _ hp))
theorem Rt {c:Nat} {x:Str} (h:Pn x):∀ w∈wk c x,Pn w:=by
 intro w hw;obtain ⟨p,hp,rfl⟩:=List.mem_map.mp hw;exact ⟨fun a ha=>h.1 a (K6 p hp ha),Nat.lt_of_le_of_lt (K9 p hp) h.2⟩
theorem Qy {c:Nat} {x:Str} (h:Pn x):(wk c x).length<lim:=by
 unfold wk;rw [List.length_map];have h1:=O5 c (cs x);have h2:=h.2;show _<1000000;omega
def Prs (rs:List Str):Prop:=rs.length<lim/\∀ r∈rs,Pn r
def row (rs:List Str) (n:Nat):Str:=rs.getD n ""
theorem a1m:Pn ("" : Str):=⟨fun c h=>absurd h (show ¬ c∈([]:List Nat) from List.not_mem_nil),show (0:Nat)<1000 by decide⟩
theorem Prs.row (h:Prs rs) (n:Nat):Pn (row rs n):=by
 unfold K.row
 by_cases z:n<rs.length
 ·rw [List.getD_eq_getElem?_getD,List.getElem?_eq_getElem z]; exact h.2 _ (List.getElem_mem z)
 ·rw [List.getD_eq_getElem?_getD,List.getElem?_eq_none_iff.mpr (by omega)]; exact a1m
def has (rs:List Str) (n:Nat):Bool:=decide (n<rs.length)&&decide (n<5000)
abbrev tws (l:List Str):T:=.lst (l.map .str)
theorem Jh (h:Prs rs) (hk:Df cR k rs n sto):iz cR cN [.obj k] sto=some (if has rs n=true then .inl (tws (ws (row rs n))) else .inr (.int ((n+1:Nat):Int)),up cR k rs (n+1) sto):=by
 have hu:Df cR k rs (n+1) (up cR k rs (n+1) sto):=hk.up
 have A:lx (yh cR "number" (bf 0) (mOp jt (J5 cR "number" (bf 0)) (ak (.int 1)))) ⟨[some (.obj k,false)],sto⟩=some (.inl .next,⟨[some (.obj k,false)],up cR k rs (n+1) sto⟩) :=
  xl (Xh (s1:=⟨[some (.obj k,false)],sto⟩) (s2:=⟨[some (.obj k,false)],sto⟩) (t:=.int ((n+1:Nat):Int)) (zo (fld rfl hk a0a) rfl rfl) rfl hk (show 2<100 by decide))
 have N:J5 cR "number" (bf 0) ⟨[some (.obj k,false)],up cR k rs (n+1) sto⟩=some (.int ((n+1:Nat):Int),⟨[some (.obj k,false)],up cR k rs (n+1) sto⟩):=fld rfl hu a0a;have R:J5 cR "rows" (bf 0) ⟨[some (.obj k,false)],up cR k rs (n+1) sto⟩=some (.lst (rs.map .str),⟨[some (.obj k,false)],up cR k rs (n+1) sto⟩):=fld rfl hu a1p
 have B:dg (mOp gtT (J5 cR "number" (bf 0)) (j5 a2d (ao (j5 vf (ao (J5 cR "rows" (bf 0)) cu)) (ao (ak (.int 5000)) cu)))) ⟨[some (.obj k,false)],up cR k rs (n+1) sto⟩=some (!has rs n,⟨[some (.obj k,false)],up cR k rs (n+1) sto⟩):=by
  refine zt (zo N (zm (zc (zm (zc R rfl) Uk) (zc rfl rfl)) rfl) ?_);show some (T.bl (decide ((if (5000:Int)<(rs.length:Int) then (5000:Int) else (rs.length:Int))<((n+1:Nat):Int))))=_;congr 2;unfold has;rw [Bool.eq_iff_iff,Bool.not_eq_true',Bool.and_eq_false_iff,decide_eq_true_eq,decide_eq_false_iff_not,decide_eq_false_iff_not];split <;> omega
 cases e:has rs n with
 | false =>
  rw [e] at B;rw [if_neg (by decide)];exact p8 (xq A (xqr (xik B (xra N)))) rfl
 | true =>
  rw [e] at B;rw [if_pos rfl]
  have hn:n<rs.length:=by
   unfold has at e;rw [Bool.and_eq_true,decide_eq_true_eq] at e;exact e.1
  have I:gb (.lst (rs.map .str)) (.int (n:Int))=some (.str (row rs n)):=by
   rw [Bh T.str rs hn];unfold row;rw [List.getD_eq_getElem?_getD,List.getElem?_eq_getElem hn];rfl
  have S:Zq (.int ((n+1:Nat):Int)) (.int 1)=some (.int (n:Int)):=by
   show some (T.int (((n+1:Nat):Int) - 1))=_;congr 2;omega
  exact Cg (xq A (xq (xie B (xl rfl)) (xl (zr (zo (zo R (zo N rfl S) I) rfl (Fj a6q (h.row n).lt)))))) rfl
theorem Ly {b:Bool} (hk:Df cR k rs n sto):d7 cR cN [.obj k,.bl b] sto=some (if b=true then .inl .non else .inr (.int (n:Int)),sto):=by
 have B:Xe (dg (bf 1)) ⟨[some (.obj k,false),some (.bl b,false)],sto⟩=some (!b,⟨[some (.obj k,false),some (.bl b,false)],sto⟩):=a8l (zt rfl);cases b with
 | true=>exact ab5 (xie B (xl rfl)) rfl
 | false=>exact p8 (xik B (xra (fld rfl hk a0a))) rfl
section
variable {e:List C.Slot} {c:M T}
theorem jz (hk:Df cR k rs n sto) (h:c ⟨some (.obj k,false)::e,sto⟩=some (.bl true,⟨some (.obj k,false)::e,sto⟩)) :
  yw (mq cR "need_that" (d7 cR cN) (bf 0) (gj (Di c) n6)) ⟨some (.obj k,false)::e,sto⟩=some (.inl .next,⟨some (.obj k,false)::e,sto⟩) :=
 xdt (t:=.non) (Yz (s1:=⟨some (.obj k,false)::e,sto⟩) (s2:=⟨some (.obj k,false)::e,sto⟩) (ts:=[.bl true]) rfl hk aag (xcs (xup h) rfl) (Ly hk))
theorem Aq (hk:Df cR k rs n sto) (h:c ⟨some (.obj k,false)::e,sto⟩=some (.bl false,⟨some (.obj k,false)::e,sto⟩)) :
  yw (mq cR "need_that" (d7 cR cN) (bf 0) (gj (Di c) n6)) ⟨some (.obj k,false)::e,sto⟩=some (.inr (.int (n:Int)),⟨some (.obj k,false)::e,sto⟩) :=
 xdr (Yz (s1:=⟨some (.obj k,false)::e,sto⟩) (s2:=⟨some (.obj k,false)::e,sto⟩) (ts:=[.bl false]) rfl hk aag (xcs (xup h) rfl) (Ly hk))
end
end K
end
section
namespace K
open C PySem PySem.W PySem.NumText
variable {cR cN k:Nat} {sto:List SO} {rs:List Str} {n:Nat}
def val (x:Str):Nat:=digitsVal (cs x)
theorem a3z {x:Str} (h:Ui x=true) (hl:(cs x).length<=640):a8b [.str x]=some (.int (val x:Int)):=by
 unfold Ui at h;simp only [Bool.and_eq_true,Bool.not_eq_true',List.isEmpty_eq_false_iff,List.all_eq_true] at h;obtain ⟨⟨h1,h2⟩,_⟩:=h
 have hd:AllDigits (cs x):=fun c hc=>by
  have:=h2 c hc;simp only [Ti,Bool.and_eq_true,decide_eq_true_eq] at this;exact this
 unfold a8b;dsimp only;rw [if_pos (by rw [uo]; omega),intText_digits hd h1 (by rw [uo]; omega)];rfl
theorem aai {p q:Int}:leT (.int p) (.int q)=some (.bl (decide (p<=q))):=rfl
theorem aa5 {p q:Int}:geT (.int p) (.int q)=some (.bl (decide (q<=p))):=rfl
noncomputable def pNum (w:Str) (l:Int):Option Int:=if Ui w&&decide ((cs w).length<=400)&&decide (l<=(val w:Int)) then some (val w:Int) else none
abbrev Zg (n:Nat) (o:Option Int):T ⊕ T:=match o with
 | some v=>.inl (.int v)
 | none=>.inr (.int (n:Int))
theorem Aw (hk:Df cR k rs n sto) {w:Str} {l:Int} (h:Pn w):gk cR cN [.obj k,.str w,.int l] sto=some (Zg n (pNum w l),sto):=by
 have B:xu (Dj (dg (fj Bo (ao (bf 1) cu))) (dg (mOp leT (j5 vf (ao (bf 1) cu)) (ak (.int 400))))) ⟨[some (.obj k,false),some (.str w,false),some (.int l,false),none],sto⟩=some (.bl (Ui w&&decide ((cs w).length<=400)),⟨[some (.obj k,false),some (.str w,false),some (.int l,false),none],sto⟩):=by
  refine zba (zf0 (zc rfl rfl) (Ut h)) fun _=>zo (zm (zc rfl rfl) (len_str h)) rfl ?_;rw [aai]
  by_cases z:(cs w).length<=400
  ·rw [decide_eq_true z,decide_eq_true (by omega)]
  ·rw [decide_eq_false z,decide_eq_false (by omega)]
 cases e:(Ui w&&decide ((cs w).length<=400)) with
 | false =>
  rw [e] at B;have z:pNum w l=none:=by unfold pNum; rw [e]; rfl
  rw [z];exact p8 (xqr (Aq hk B)) rfl
 | true =>
  rw [e] at B;obtain ⟨e1,e2⟩:=(Bool.and_eq_true _ _).mp e;have iv:=a3z e1 (by have:=of_decide_eq_true e2; omega);have C':lx (ou 3 (j5 a8b (ao (bf 1) cu))) ⟨[some (.obj k,false),some (.str w,false),some (.int l,false),none],sto⟩=some (.inl .next,⟨[some (.obj k,false),some (.str w,false),some (.int l,false),some (.int (val w:Int),false)],sto⟩):=xl (ys (zm (zc rfl rfl) iv) rfl);have D:mOp geT (bf 3) (bf 2) ⟨[some (.obj k,false),some (.str w,false),some (.int l,false),some (.int (val w:Int),false)],sto⟩=some (.bl (decide (l<=(val w:Int))),⟨[some (.obj k,false),some (.str w,false),some (.int l,false),some (.int (val w:Int),false)],sto⟩):=zo rfl rfl aa5;cases y:decide (l<=(val w:Int)) with
  | true =>
   rw [y] at D;have z:pNum w l=some (val w:Int):=by unfold pNum; rw [e,y]; rfl
   rw [z];exact Cg (xq (jz hk B) (xq C' (xq (jz hk D) (xl (zr rfl))))) rfl
  | false =>
   rw [y] at D;have z:pNum w l=none:=by unfold pNum; rw [e,y]; rfl
   rw [z];exact p8 (xq (jz hk B) (xq C' (xqr (Aq hk D)))) rfl
theorem Vb (hk:Df cR k rs n sto) {w:Str} (h:Pn w):yt cR cN [.obj k,.str w] sto=some (if nameB w=true then .inl (.str w) else .inr (.int (n:Int)),sto):=by
 have B:fj Fl (ao (bf 1) cu) ⟨[some (.obj k,false),some (.str w,false)],sto⟩=some (.bl (nameB w),⟨[some (.obj k,false),some (.str w,false)],sto⟩):=zf0 (zc rfl rfl) (a2r h);cases e:nameB w with
 | true =>
  rw [e] at B;rw [if_pos rfl];exact Cg (xq (jz hk B) (xl (zr rfl))) rfl
 | false =>
  rw [e] at B;rw [if_neg (by decide)];exact p8 (xqr (Aq hk B)) rfl
theorem V2 {x:Str}:Ss x none (some 1)=st ((cs x).take 1):=by
 unfold Ss;have h0:HT.sIx x.length 0 none=0:=rfl;rw [h0];show (⟨_⟩:Str)=⟨_⟩;congr 2;rw [List.drop_zero,Nat.sub_zero];show (cs x).take _=_
 have h1:HT.sIx x.length x.length (some 1)=min 1 (cs x).length:=by
  rw [uo];simp only [HT.sIx,show ¬ ((1:Int)<0) by decide,if_false];omega
 rw [h1]
 by_cases z:1<=(cs x).length
 ·rw [Nat.min_eq_left z]
 ·have:(cs x).length=0:=by omega
  rw [List.length_eq_zero_iff.mp this]; rfl
theorem Ym {x:Str}:Ss x (some 1) none=st ((cs x).drop 1):=by
 unfold Ss;have h0:HT.sIx x.length x.length none=x.length:=rfl
 have h1:HT.sIx x.length 0 (some 1)=min 1 (cs x).length:=by
  rw [uo];simp only [HT.sIx,show ¬ ((1:Int)<0) by decide,if_false];omega
 rw [h0,h1];show (⟨_⟩:Str)=⟨_⟩;congr 2;rw [uo];show ((cs x).drop _).take _=_
 by_cases z:1<=(cs x).length
 ·rw [Nat.min_eq_left z,<- List.length_drop,List.take_length]
 ·have:(cs x).length=0:=by omega
  rw [List.length_eq_zero_iff.mp this]; rfl
theorem Qv {x:Str} (h:Pn x) {s:Sta} {i:Nat} (hi:bf i s=some (.str x,s)):lu (bf i) m6 (oh (ak (.int 1))) s=some (.str (st ((cs x).take 1)),s):=by
 unfold lu;rw [hi]; dsimp only;rw [show m6 s=some (none,s) from rfl]; dsimp only;rw [zos (show ak (.int 1) s=some (.int 1,s) from rfl)]; dsimp only;unfold S8;dsimp only;rw [if_pos h.lt,V2]
theorem Y5 {x:Str} (h:Pn x) {s:Sta} {i:Nat} (hi:bf i s=some (.str x,s)):lu (bf i) (oh (ak (.int 1))) m6 s=some (.str (st ((cs x).drop 1)),s):=by
 unfold lu;rw [hi]; dsimp only;rw [zos (show ak (.int 1) s=some (.int 1,s) from rfl)]; dsimp only;rw [show m6 s=some (none,s) from rfl]; dsimp only;unfold S8;dsimp only;rw [if_pos h.lt,Ym]
theorem Vh {x:Str} (h:Pn x):Pn (st ((cs x).take 1)):=⟨fun c hc=>h.1 c (List.mem_of_mem_take hc),Nat.lt_of_le_of_lt (List.length_take_le ..) (by decide)⟩
theorem Xu {x:Str} (h:Pn x):Pn (st ((cs x).drop 1)):=⟨fun c hc=>h.1 c (List.mem_of_mem_drop hc),by rw [aa0,List.length_drop]; have:=h.2; omega⟩
theorem Qp {x:Str} {c:Nat} {y:Str} (hy:cs y=[c]):(st ((cs x).take 1)==y)=decide ((cs x).head? = some c):=by
 rw [Bool.eq_iff_iff,beq_iff_eq,decide_eq_true_eq]
 have k:st ((cs x).take 1)=y↔(cs x).take 1=[c]:=by
  constructor
  ·intro z; rw [<- hy,<- z]; rfl
  ·intro z; rw [z,<- hy,Fw]
 rw [k];cases cs x with
 | nil=>simp
 | cons a l=>simp
theorem a69:cs "@" = [64]:=by decide +kernel
theorem a7w:cs "-" = [45]:=by decide +kernel
theorem a7k {y:Str} {c:Nat} (hy:cs y=[c]) (hc:c<128):okS y:=by
 rw [<- Fw y,hy]; exact V6 hc
def Uh (w:Str):Bool:=if (cs w).head? = some 64 then nameB (st ((cs w).drop 1)) else nameB w
theorem a8e (hk:Df cR k rs n sto) {w:Str} (h:Pn w):Gk cR cN [.obj k,.str w] sto=some (if Uh w=true then .inl (.str w) else .inr (.int (n:Int)),sto):=by
 have q:=pq (Vh h).okS (a7k a69 (by decide));rw [Qp a69] at q;have t:dg (mOp eqO (lu (bf 1) m6 (oh (ak (.int 1)))) (ak (.str "@"))) ⟨[some (.obj k,false),some (.str w,false)],sto⟩=some (decide ((cs w).head? = some 64),⟨[some (.obj k,false),some (.str w,false)],sto⟩):=zt (zo (Qv h rfl) rfl q)
 have I:mIf (dg (mOp eqO (lu (bf 1) m6 (oh (ak (.int 1)))) (ak (.str "@")))) (lu (bf 1) (oh (ak (.int 1))) m6) (bf 1) ⟨[some (.obj k,false),some (.str w,false)],sto⟩=some (.str (if (cs w).head? = some 64 then st ((cs w).drop 1) else w),⟨[some (.obj k,false),some (.str w,false)],sto⟩):=by
  by_cases z:(cs w).head? = some 64
  ·rw [decide_eq_true z] at t;rw [if_pos z];exact a8f t (Y5 h rfl)
  ·rw [decide_eq_false z] at t;rw [if_neg z];exact a4y t rfl
 have p:Pn (if (cs w).head? = some 64 then st ((cs w).drop 1) else w):=by split; exact Xu h; exact h
 have b:Uh w=nameB (if (cs w).head? = some 64 then st ((cs w).drop 1) else w):=by unfold Uh; split <;> rfl
 have N:ig (yt cR cN) (ao (bf 0) (ao (mIf (dg (mOp eqO (lu (bf 1) m6 (oh (ak (.int 1)))) (ak (.str "@")))) (lu (bf 1) (oh (ak (.int 1))) m6) (bf 1)) cu)) ⟨[some (.obj k,false),some (.str w,false)],sto⟩=some (if Uh w=true then .inl (.str (if (cs w).head? = some 64 then st ((cs w).drop 1) else w)) else .inr (.int (n:Int)),⟨[some (.obj k,false),some (.str w,false)],sto⟩):=by
  rw [b];exact xmc (s1:=⟨[some (.obj k,false),some (.str w,false)],sto⟩) (zc rfl (zc I rfl)) (Vb hk p)
 cases e:Uh w with
 | true =>
  rw [e,if_pos rfl] at N;rw [if_pos rfl];exact Cg (xq (xdt N) (xl (zr rfl))) rfl
 | false =>
  rw [e,if_neg (by decide)] at N;rw [if_neg (by decide)];exact p8 (xqr (xdr N)) rfl
noncomputable def Ng (w:Str):Option Int:=if (cs w).head? = some 45 then (pNum (st ((cs w).drop 1)) 1).map (fun v=>-v) else pNum w 0
theorem xun {g:T->Option T} {a:MX} {s s1:Sta} {t u:T} (h:a s=some (.inl t,s1)) (h2:g t=some u):a3m g a s=some (.inl u,s1):=by unfold a3m; rw [h]; dsimp only; rw [h2]
theorem abo {g:T->Option T} {a:MX} {s s1:Sta} {t:T} (h:a s=some (.inr t,s1)):a3m g a s=some (.inr t,s1):=by unfold a3m; rw [h]
theorem Ma (hk:Df cR k rs n sto) {w:Str} (h:Pn w):ug cR cN [.obj k,.str w] sto=some (Zg n (Ng w),sto):=by
 have q:=W0 (Vh h).okS (a7k a7w (by decide));rw [Qp a7w] at q;have t:dg (mOp neO (lu (bf 1) m6 (oh (ak (.int 1)))) (ak (.str "-"))) ⟨[some (.obj k,false),some (.str w,false)],sto⟩=some (!decide ((cs w).head? = some 45),⟨[some (.obj k,false),some (.str w,false)],sto⟩):=zt (zo (Qv h rfl) rfl q)
 by_cases z:(cs w).head? = some 45
 ·rw [decide_eq_true z] at t;have N:ig (gk cR cN) (ao (bf 0) (ao (lu (bf 1) (oh (ak (.int 1))) m6) (ao (ak (.int 1)) cu))) ⟨[some (.obj k,false),some (.str w,false)],sto⟩=some (Zg n (pNum (st ((cs w).drop 1)) 1),⟨[some (.obj k,false),some (.str w,false)],sto⟩):=xmc (s1:=⟨[some (.obj k,false),some (.str w,false)],sto⟩) (zc rfl (zc (Y5 h rfl) (zc rfl rfl))) (Aw hk (Xu h));have e:Ng w=(pNum (st ((cs w).drop 1)) 1).map (fun v=>-v):=if_pos z;rw [e];cases y:pNum (st ((cs w).drop 1)) 1 with
  | some v =>
   rw [y] at N;exact Cg (xq (xie t (xl rfl)) (xrt (xun N rfl))) rfl
  | none =>
   rw [y] at N;exact p8 (xq (xie t (xl rfl)) (xrr (abo N))) rfl
 ·rw [decide_eq_false z] at t;have N:ig (gk cR cN) (ao (bf 0) (ao (bf 1) (ao (ak (.int 0)) cu))) ⟨[some (.obj k,false),some (.str w,false)],sto⟩=some (Zg n (pNum w 0),⟨[some (.obj k,false),some (.str w,false)],sto⟩):=xmc (s1:=⟨[some (.obj k,false),some (.str w,false)],sto⟩) (zc rfl (zc rfl (zc rfl rfl))) (Aw hk h);have e:Ng w=pNum w 0:=if_neg z;rw [e];cases y:pNum w 0 with
  | some v =>
   rw [y] at N;exact Cg (xqt (xik t (xrt N))) rfl
  | none =>
   rw [y] at N;exact p8 (xqr (xik t (xrr N))) rfl
end K
end
section
namespace K
open C PySem PySem.W PySem.NumText
variable {cR cN k:Nat} {sto:List SO} {rs:List Str} {n:Nat}
theorem Kv {mx:MX} {l:MXs} {s s1 s2:Sta} {t x:T} (h:mx s=some (.inl t,s1)) (h2:l s1=some (.inr x,s2)):gj mx l s=some (.inr x,s2):=by unfold gj; rw [h]; dsimp only; rw [h2]
theorem xop {f:T->T->Option T} {a b:MX} {s s1 s2:Sta} {x y w:T} (h:a s=some (.inl x,s1)) (h2:b s1=some (.inl y,s2)) (h3:f x y=some w):a1e f a b s=some (.inl w,s2):=by unfold a1e; rw [h]; dsimp only; rw [h2]; dsimp only; rw [h3]
theorem abd {f:T->T->Option T} {a b:MX} {s s1:Sta} {x:T} (h:a s=some (.inr x,s1)):a1e f a b s=some (.inr x,s1):=by unfold a1e; rw [h]
noncomputable def Ga (p:Str->Option T):List Str->Option (List T)
 | []=>some []
 | w::r=>match p w with
  | none=>none
  | some t=>(Ga p r).map (t :: ·)
abbrev a2l (n:Nat) (o:Option T):T ⊕ T:=match o with
 | some v=>.inl v
 | none=>.inr (.int (n:Int))
theorem Rr {p:Str->Option T}:∀ {l:List Str} {ts:List T},Ga p l=some ts->ts.length=l.length
 | [],_,h=>by cases h; rfl
 | w::r,ts,h=>by
  unfold Ga at h;split at h
  ·cases h
  ·obtain ⟨us,e,rfl⟩:=Option.map_eq_some_iff.mp h;rw [List.length_cons,List.length_cons,Rr e]
abbrev ceS (k:Nat) (o:C.Slot) (sto:List SO):Sta:=⟨[o,some (.obj k,false)],sto⟩
theorem a0z {p:Str->Option T} {e:MX}:∀ (l:List Str) (o:C.Slot) (acc:List T),(∀ w∈l,e (ceS k (some (.str w,false)) sto)=some (a2l n (p w),ceS k (some (.str w,false)) sto))->acc.length+l.length<=lim ->
  ∃ o',Cj (hName 0) e (l.map .str) (ceS k o sto) acc=some ((match Ga p l with | some ts=>.inl (acc++ts) | none=>.inr (.int (n:Int))),ceS k o' sto)
 | [],o,acc,_,_=>⟨o,by rw [List.map_nil,Cj]; unfold Ga; dsimp only; rw [List.append_nil]⟩
 | w::r,o,acc,h,hl=>by
  have hw:=h w List.mem_cons_self;have hg:hName 0 (.str w) (ceS k o sto)=some (ceS k (some (.str w,false)) sto):=rfl;rw [List.map_cons,Cj,hg];dsimp only;rw [hw];cases e1:p w with
  | none =>
   refine ⟨some (.str w,false),?_⟩;unfold Ga;rw [e1]
  | some t =>
   have al:acc.length<lim:=by rw [List.length_cons] at hl; omega
   dsimp only;rw [if_pos al];obtain ⟨o',q⟩:=a0z r (some (.str w,false)) (acc++[t]) (fun w hw=>h w (List.mem_cons_of_mem _ hw)) (by rw [List.length_append,List.length_singleton]; rw [List.length_cons] at hl; omega);have fz:je (ceS k (some (.str w,false)) sto)=ceS k (some (.str w,false)) sto:=rfl;rw [fz];refine ⟨o',q.trans ?_⟩
   conv=>rhs; unfold Ga
   rw [e1];dsimp only;cases Ga p r with
   | none=>rfl
   | some ts=>simp only [Option.map_some,List.append_assoc,List.singleton_append]
theorem Ou {p:Str->Option T} {e:MX} {it:M (List T)} {l:List Str} {r:List C.Slot} (hi:it ⟨some (.obj k,false)::r,sto⟩=some (l.map .str,⟨some (.obj k,false)::r,sto⟩)) (h:∀ w∈l,e (ceS k (some (.str w,false)) sto)=some (a2l n (p w),ceS k (some (.str w,false)) sto)) (hl:l.length<=lim) :
  wz Dl (gj (Eh 1 [0] (hName 0) it e) n6) ⟨some (.obj k,false)::r,sto⟩=some (a2l n ((Ga p l).map .tup),⟨some (.obj k,false)::r,sto⟩):=by
 obtain ⟨o',q⟩:=a0z (n:=n) l none [] h (by simpa using hl)
 have c:Eh 1 [0] (hName 0) it e ⟨some (.obj k,false)::r,sto⟩=some ((match Ga p l with | some ts=>.inl (.lst ts) | none=>.inr (.int (n:Int))),⟨some (.obj k,false)::r,sto⟩):=by
  unfold Eh;rw [hi];dsimp only;have e0:(⟨List.replicate 1 none++[0].map (fun i=>((j8 [0] (some (T.obj k,false)::r))[i]?).getD none),sto⟩:Sta)=ceS k none sto:=rfl;rw [e0,q];cases Ga p l with
  | none=>rfl
  | some ts=>rfl
 unfold wz gj;rw [c];cases Ga p l with
 | none=>rfl
 | some ts=>rfl
theorem a67 {l:List Str} {i:Nat} {x:Str} (h:l[i]? = some x):gb (tws l) (.int (i:Int))=some (.str x):=by
 obtain ⟨hl,rfl⟩:=List.getElem?_eq_some_iff.mp h;exact Bh T.str l hl
noncomputable def uy (w:Str):Option T:=match wk 42 w with
 | [a,b]=>match pNum a 0 with
  | none=>none
  | some x=>match pNum b 1 with
   | none=>none
   | some y=>some (.tup [.int x,.int y])
 | _=>none
theorem a5c {p q:Nat}:eqO (.int (p:Int)) (.int (q:Int))=some (.bl (decide (p=q))):=by
 rw [Aa];congr 2;rw [Bool.eq_iff_iff,beq_iff_eq,decide_eq_true_eq];omega
theorem a3d (hk:Df cR k rs n sto) {w:Str} (h:Pn w):Ej cR cN [.obj k,.str w] sto=some (a2l n (uy w),sto):=by
 have hc:=Rt (c:=42) h
 have A:lx (ou 2 (mOp Ag (bf 1) (ak (.str "*")))) ⟨[some (.obj k,false),some (.str w,false),none],sto⟩=some (.inl .next,⟨[some (.obj k,false),some (.str w,false),some (tws (wk 42 w),false)],sto⟩) :=
  xl (ys (zo rfl rfl (Fj Km h.lt)) rfl)
 have B:mOp eqO (j5 vf (ao (bf 2) cu)) (ak (.int 2)) ⟨[some (.obj k,false),some (.str w,false),some (tws (wk 42 w),false)],sto⟩=some (.bl (decide ((wk 42 w).length=2)),⟨[some (.obj k,false),some (.str w,false),some (tws (wk 42 w),false)],sto⟩) :=
  zo (zm (zc rfl rfl) Uk) rfl (a5c (q:=2))
 by_cases z:(wk 42 w).length=2
 ·rw [decide_eq_true z] at B
  obtain ⟨a,b,e⟩:∃ a b,wk 42 w=[a,b]:=by
   match hq:wk 42 w,z with
   | [a,b],_=>exact ⟨a,b,rfl⟩
  have p:uy w=(match pNum a 0 with | none=>none | some x=>match pNum b 1 with | none=>none | some y=>some (.tup [.int x,.int y])):=by unfold uy; rw [e]
  rw [e] at A B hc;rw [p]
  have Na:ig (gk cR cN) (ao (bf 0) (ao (mOp gb (bf 2) (ak (.int 0))) (ao (ak (.int 0)) cu))) ⟨[some (.obj k,false),some (.str w,false),some (tws [a,b],false)],sto⟩=some (Zg n (pNum a 0),⟨[some (.obj k,false),some (.str w,false),some (tws [a,b],false)],sto⟩) :=
   xmc (s1:=⟨[some (.obj k,false),some (.str w,false),some (tws [a,b],false)],sto⟩) (zc rfl (zc (zo rfl rfl rfl) (zc rfl rfl))) (Aw hk (hc a List.mem_cons_self))
  have Nb:ig (gk cR cN) (ao (bf 0) (ao (mOp gb (bf 2) (ak (.int 1))) (ao (ak (.int 1)) cu))) ⟨[some (.obj k,false),some (.str w,false),some (tws [a,b],false)],sto⟩=some (Zg n (pNum b 1),⟨[some (.obj k,false),some (.str w,false),some (tws [a,b],false)],sto⟩) :=
   xmc (s1:=⟨[some (.obj k,false),some (.str w,false),some (tws [a,b],false)],sto⟩) (zc rfl (zc (zo rfl rfl rfl) (zc rfl rfl))) (Aw hk (hc b (List.mem_cons_of_mem _ List.mem_cons_self)))
  cases e1:pNum a 0 with
  | none =>
   rw [e1] at Na;exact p8 (xq A (xq (jz hk B) (xrr (xtr (Sx Na))))) rfl
  | some x =>
   rw [e1] at Na;cases e2:pNum b 1 with
   | none =>
    rw [e2] at Nb;exact p8 (xq A (xq (jz hk B) (xrr (xtr (Kv Na (Sx Nb)))))) rfl
   | some y =>
    rw [e2] at Nb;exact Cg (xq A (xq (jz hk B) (xrt (xtu (xcs Na (xcs Nb rfl)))))) rfl
 ·rw [decide_eq_false z] at B
  have p:uy w=none:=by
   unfold uy;split
   ·rename_i a b e; rw [e] at z; exact absurd rfl z
   ·rfl
  rw [p];exact p8 (xq A (xqr (Aq hk B))) rfl
theorem abl {p q:Nat}:leT (.int (p:Int)) (.int (q:Int))=some (.bl (decide (p<=q))):=by
 rw [aai];congr 2;rw [Bool.eq_iff_iff,decide_eq_true_eq,decide_eq_true_eq];omega
theorem abf {p q:Nat}:geT (.int (p:Int)) (.int (q:Int))=some (.bl (decide (q<=p))):=by
 rw [aa5];congr 2;rw [Bool.eq_iff_iff,decide_eq_true_eq,decide_eq_true_eq];omega
theorem ne_0 {v:Int}:neO (.int v) (.int 0)=some (.bl (decide (v≠0))):=by
 rw [a5d];congr 2;rw [Bool.eq_iff_iff,decide_eq_true_eq]
 by_cases z:v=0
 ·rw [z]; decide
 ·simp [z]
def a6h:Option Int->Option T
 | some v=>some (.int v)
 | none=>none
noncomputable def qb (w:Str):Option T:=match wk 42 w with
 | [a,b]=>match Ng b with
  | none=>none
  | some v=>if decide ((wk 44 a).length<=2)&&decide (v≠0) then (Ga (fun x=>a6h (pNum x 0)) (wk 44 a)).map fun ts=>.tup (ts++[.int v]) else none
 | _=>none
theorem isl {l:List Str} {s:Sta} {i:Nat} (h:s.env[i]? = some (some (tws l,false))) (hl:l.length<lim):Nf (bf i) s=some (l.map .str,s):=by
 have e:bf i s=some (tws l,s):=by
  obtain ⟨env,z⟩:=s;have h:env[i]? = some (some (tws l,false)):=h;obtain ⟨hi,e⟩:=List.getElem?_eq_some_iff.mp h;unfold bf;dsimp only;rw [h]
 exact zis e hl
theorem Ze (hk:Df cR k rs n sto) {w:Str} (h:Pn w):Dh cR cN [.obj k,.str w] sto=some (a2l n (qb w),sto):=by
 have hc:=Rt (c:=42) h
 have A:lx (ou 2 (mOp Ag (bf 1) (ak (.str "*")))) ⟨[some (.obj k,false),some (.str w,false),none,none,none],sto⟩=some (.inl .next,⟨[some (.obj k,false),some (.str w,false),some (tws (wk 42 w),false),none,none],sto⟩) :=
  xl (ys (zo rfl rfl (Fj Km h.lt)) rfl)
 have B:mOp eqO (j5 vf (ao (bf 2) cu)) (ak (.int 2)) ⟨[some (.obj k,false),some (.str w,false),some (tws (wk 42 w),false),none,none],sto⟩=some (.bl (decide ((wk 42 w).length=2)),⟨[some (.obj k,false),some (.str w,false),some (tws (wk 42 w),false),none,none],sto⟩) :=
  zo (zm (zc rfl rfl) Uk) rfl (a5c (q:=2))
 by_cases z:(wk 42 w).length=2
 ·rw [decide_eq_true z] at B
  obtain ⟨a,b,e⟩:∃ a b,wk 42 w=[a,b]:=by
   match hq:wk 42 w,z with
   | [a,b],_=>exact ⟨a,b,rfl⟩
  have p:qb w=(match Ng b with | none=>none | some v=>if (decide ((wk 44 a).length<=2)&&decide (v≠0))=true then (Ga (fun x=>a6h (pNum x 0)) (wk 44 a)).map fun ts=>.tup (ts++[.int v]) else none):=by unfold qb; rw [e]
  rw [e] at A B hc;rw [p];have ha:=hc a List.mem_cons_self;have hb:=hc b (List.mem_cons_of_mem _ List.mem_cons_self)
  have C':lx (ou 3 (mOp Ag (mOp gb (bf 2) (ak (.int 0))) (ak (.str ",")))) ⟨[some (.obj k,false),some (.str w,false),some (tws [a,b],false),none,none],sto⟩=some (.inl .next,⟨[some (.obj k,false),some (.str w,false),some (tws [a,b],false),some (tws (wk 44 a),false),none],sto⟩) :=
   xl (ys (zo (zo rfl rfl rfl) rfl (Fj a4n ha.lt)) rfl)
  have Nb:ig (ug cR cN) (ao (bf 0) (ao (mOp gb (bf 2) (ak (.int 1))) cu)) ⟨[some (.obj k,false),some (.str w,false),some (tws [a,b],false),some (tws (wk 44 a),false),none],sto⟩=some (Zg n (Ng b),⟨[some (.obj k,false),some (.str w,false),some (tws [a,b],false),some (tws (wk 44 a),false),none],sto⟩) :=
   xmc (s1:=⟨[some (.obj k,false),some (.str w,false),some (tws [a,b],false),some (tws (wk 44 a),false),none],sto⟩) (zc rfl (zc (zo rfl rfl rfl) rfl)) (Ma hk hb)
  cases e1:Ng b with
  | none =>
   rw [e1] at Nb;exact p8 (xq A (xq (jz hk B) (xq C' (xqr (xsr Nb))))) rfl
  | some v =>
   rw [e1] at Nb;have V:Iv 4 (ig (ug cR cN) (ao (bf 0) (ao (mOp gb (bf 2) (ak (.int 1))) cu))) ⟨[some (.obj k,false),some (.str w,false),some (tws [a,b],false),some (tws (wk 44 a),false),none],sto⟩=some (.inl .next,⟨[some (.obj k,false),some (.str w,false),some (tws [a,b],false),some (tws (wk 44 a),false),some (.int v,false)],sto⟩):=xst Nb rfl
   have D:xu (Dj (dg (mOp leT (j5 vf (ao (bf 3) cu)) (ak (.int 2)))) (dg (mOp neO (bf 4) (ak (.int 0))))) ⟨[some (.obj k,false),some (.str w,false),some (tws [a,b],false),some (tws (wk 44 a),false),some (.int v,false)],sto⟩=some (.bl (decide ((wk 44 a).length<=2)&&decide (v≠0)),⟨[some (.obj k,false),some (.str w,false),some (tws [a,b],false),some (tws (wk 44 a),false),some (.int v,false)],sto⟩) :=
    zba (zo (zm (zc rfl rfl) Uk) rfl (abl (q:=2))) fun _=>zo rfl rfl ne_0
   cases e2:(decide ((wk 44 a).length<=2)&&decide (v≠0)) with
   | false =>
    rw [e2] at D;dsimp only; rw [e2]; show _=some ((.inr (.int (n:Int)):T ⊕ T),sto);exact p8 (xq A (xq (jz hk B) (xq C' (xq V (xqr (Aq hk D)))))) rfl
   | true =>
    rw [e2] at D;have pc:=Rt (c:=44) ha;have cl:=Qy (c:=44) ha
    have M:=Ou (n:=n) (k:=k) (sto:=sto) (p:=fun x=>a6h (pNum x 0)) (e:=ig (gk cR cN) (ao (bf 1) (ao (bf 0) (ao (ak (.int 0)) cu)))) (it:=Nf (bf 3)) (l:=wk 44 a) (r:=[some (.str w,false),some (tws [a,b],false),some (tws (wk 44 a),false),some (.int v,false)]) (isl rfl cl) (by
     intro x hx;have q:=xmc (F:=gk cR cN) (ms:=ao (bf 1) (ao (bf 0) (ao (ak (.int 0)) cu))) (s:=ceS k (some (.str x,false)) sto) (s1:=ceS k (some (.str x,false)) sto) (zc rfl (zc rfl (zc rfl rfl))) (Aw hk (pc x hx));rw [q];cases pNum x 0 <;> rfl) (Nat.le_of_lt cl)
    cases e3:Ga (fun x=>a6h (pNum x 0)) (wk 44 a) with
    | none =>
     rw [e3] at M;dsimp only; rw [e2]; show _=some ((.inr (.int (n:Int)):T ⊕ T),sto);exact p8 (xq A (xq (jz hk B) (xq C' (xq V (xq (jz hk D) (xrr (abd M))))))) rfl
    | some ts =>
     rw [e3] at M;have tl:=Rr e3;have l2:(wk 44 a).length<=2:=of_decide_eq_true ((Bool.and_eq_true _ _).mp e2).1;dsimp only; rw [e2]; show _=some ((.inl (.tup (ts++[.int v])):T ⊕ T),sto);have ad:jt (.tup ts) (.tup [.int v])=some (.tup (ts++[.int v])):=if_pos (by show ts.length+1<1000000; omega);exact Cg (xq A (xq (jz hk B) (xq C' (xq V (xq (jz hk D) (xrt (xop M (xup (zm (zc rfl rfl) rfl)) ad))))))) rfl
 ·rw [decide_eq_false z] at B
  have p:qb w=none:=by
   unfold qb;split
   ·rename_i a b e; rw [e] at z; exact absurd rfl z
   ·rfl
  rw [p];exact p8 (xq A (xqr (Aq hk B))) rfl
end K
end
section
namespace K
open C PySem PySem.W PySem.NumText
variable {cR cN k:Nat} {sto:List SO} {rs:List Str} {n:Nat}
inductive Hd where
 | orr (i m:Int)
 | cut (b:Str) (v:Int)
 | sum (l:List T)
 | rest (d:Int) (l:List T)
noncomputable def hdT:Hd->T
 | .orr i m=>.tup [.str "or",.int i,.int m]
 | .cut b v=>.tup [.str "cut",.str b,.int v]
 | .sum l=>.tup [.str "sum",.tup l]
 | .rest d l=>.tup [.str "rest",.int d,.tup l]
def wd (l:List Str) (i:Nat):Str:=l.getD i ""
noncomputable def qj (l:List Str):Option Hd :=
 if wd l 0 == "or" then
  (if l.length=3 then (match pNum (wd l 1) 0,pNum (wd l 2) 0 with
   | some i,some m=>some (.orr i m)
   | _,_=>none) else none)
 else if wd l 0 == "cut" then
  (if l.length=3 then (if Uh (wd l 1) then (Ng (wd l 2)).map (.cut (wd l 1)) else none) else none)
 else if wd l 0 == "sum" then (Ga uy (l.drop 1)).map .sum
 else if wd l 0 == "rest" && decide (2<=l.length) then (match pNum (wd l 1) 2 with
   | some d=>(Ga qb (l.drop 2)).map (.rest d)
   | none=>none)
 else none
noncomputable def qt (l:List Str):Option T :=
 if wd l 0 == "start" then
  (if l.length=2 then (if nameB (wd l 1) then some (.tup [.str "start",.str (wd l 1)]) else none) else none)
 else if wd l 0 == "own" then
  (if l.length=2 then (pNum (wd l 1) 0).map (fun v=>.tup [.str "own",.int v]) else none)
 else if wd l 0 == "other" && decide (l.length=4) then (match pNum (wd l 1) 0 with
   | some v=>if nameB (wd l 2) then (pNum (wd l 3) 0).map (fun u=>.tup [.str "other",.int v,.str (wd l 2),.int u]) else none
   | none=>none)
 else none
structure Pws (l:List Str):Prop where
 ne:l≠[]
 lt:l.length<lim
 pn:∀ w∈l,Pn w
theorem pws {x:Str} (h:Pn x):Pws (ws x):=⟨fun e=>Z0 32 (cs x) (List.map_eq_nil_iff.mp e),Qy h,Rt h⟩
section
variable {l:List Str}
theorem Pws.wd (h:Pws l) (i:Nat):Pn (wd l i):=by
 unfold K.wd
 by_cases z:i<l.length
 ·rw [List.getD_eq_getElem?_getD,List.getElem?_eq_getElem z]; exact h.pn _ (List.getElem_mem z)
 ·rw [List.getD_eq_getElem?_getD,List.getElem?_eq_none_iff.mpr (by omega)]; exact a1m
theorem V5 {i:Nat} (hi:i<l.length):gb (tws l) (.int (i:Int))=some (.str (wd l i)):=by
 rw [show tws l=.lst (l.map T.str) from rfl,Bh T.str l hi];unfold wd;rw [List.getD_eq_getElem?_getD,List.getElem?_eq_getElem hi];rfl
theorem a5s {n d k:Nat}:C.sIx n d (some (k:Int))=min k n:=by
 show (if (k:Int)<0 then ((k:Int)+(n:Int)).toNat else min (k:Int).toNat n)=min k n;rw [if_neg (by omega),Int.toNat_natCast]
theorem Ju {s:Sta} {m:M T} {i:Nat} (hm:m s=some (tws l,s)):ni m (oh (ak (.int (i:Int)))) m6 s=some (tws (l.drop i),s):=by
 unfold ni;rw [hm]; dsimp only;rw [zos (show ak (.int (i:Int)) s=some (.int (i:Int),s) from rfl)]; dsimp only;rw [show m6 s=some (none,s) from rfl]; dsimp only
 have e:a2o (some (i:Int)) none (tws l)=some (tws (l.drop i)):=by
  show some (T.lst (a0j (l.map .str) (some (i:Int)) none))=_;congr 2;unfold a0j;rw [a5s,show C.sIx (l.map T.str).length (l.map T.str).length none=(l.map T.str).length from rfl];rw [List.map_drop]
  by_cases z:i<=(l.map T.str).length
  ·rw [Nat.min_eq_left z,<- List.length_drop,List.take_length]
  ·rw [Nat.min_eq_right (by omega),List.drop_length,List.drop_eq_nil_of_le (by omega)]; exact List.take_nil
 rw [e]
end
abbrev aal (n:Nat) (o:Option Hd):T ⊕ T:=match o with
 | some v=>.inl (hdT v)
 | none=>.inr (.int (n:Int))
theorem eqS {x y:Str} (hx:Pn x) (hy:okS y):eqO (.str x) (.str y)=some (.bl (x==y)):=pq hx.okS hy
theorem Ij:okS ("or" : Str):=by unfold okS; decide +kernel
theorem Ih:okS ("cut" : Str):=by unfold okS; decide +kernel
theorem Mt:okS ("sum" : Str):=by unfold okS; decide +kernel
theorem Eb:okS ("rest" : Str):=by unfold okS; decide +kernel
theorem Z4:okS ("start" : Str):=by unfold okS; decide +kernel
theorem a7l:okS ("own" : Str):=by unfold okS; decide +kernel
theorem a0f:okS ("other" : Str):=by unfold okS; decide +kernel
abbrev hS (k:Nat) (l:List Str) (o:C.Slot) (sto:List SO):Sta:=⟨[some (.obj k,false),some (tws l,false),o],sto⟩
section
variable {l:List Str} {o:C.Slot}
theorem hW (h:Pws l) {y:Str} (hy:okS y):mOp eqO (mOp gb (bf 1) (ak (.int 0))) (ak (.str y)) (hS k l o sto)=some (.bl (wd l 0==y),hS k l o sto) :=
 zo (zo rfl rfl (V5 (i:=0) (List.length_pos_iff.mpr h.ne))) rfl (eqS (h.wd 0) hy)
theorem hL {m:Nat}:mOp eqO (j5 vf (ao (bf 1) cu)) (ak (.int (m:Int))) (hS k l o sto)=some (.bl (decide (l.length=m)),hS k l o sto) :=
 zo (zm (zc rfl rfl) Uk) rfl a5c
theorem hN (hk:Df cR k rs n sto) (h:Pws l) {i:Nat} (hi:i<l.length) {v:Int}:ig (gk cR cN) (ao (bf 0) (ao (mOp gb (bf 1) (ak (.int (i:Int)))) (ao (ak (.int v)) cu))) (hS k l o sto)=some (Zg n (pNum (wd l i) v),hS k l o sto) :=
 xmc (s1:=hS k l o sto) (zc rfl (zc (zo rfl rfl (V5 hi)) (zc rfl rfl))) (Aw hk (h.wd i))
theorem hSg (hk:Df cR k rs n sto) (h:Pws l) {i:Nat} (hi:i<l.length):ig (ug cR cN) (ao (bf 0) (ao (mOp gb (bf 1) (ak (.int (i:Int)))) cu)) (hS k l o sto)=some (Zg n (Ng (wd l i)),hS k l o sto) :=
 xmc (s1:=hS k l o sto) (zc rfl (zc (zo rfl rfl (V5 hi)) rfl)) (Ma hk (h.wd i))
theorem hB (hk:Df cR k rs n sto) (h:Pws l) {i:Nat} (hi:i<l.length):ig (Gk cR cN) (ao (bf 0) (ao (mOp gb (bf 1) (ak (.int (i:Int)))) cu)) (hS k l o sto)=some (if Uh (wd l i)=true then .inl (.str (wd l i)) else .inr (.int (n:Int)),hS k l o sto) :=
 xmc (s1:=hS k l o sto) (zc rfl (zc (zo rfl rfl (V5 hi)) rfl)) (a8e hk (h.wd i))
theorem hNm (hk:Df cR k rs n sto) (h:Pws l) {i:Nat} (hi:i<l.length):ig (yt cR cN) (ao (bf 0) (ao (mOp gb (bf 1) (ak (.int (i:Int)))) cu)) (hS k l o sto)=some (if nameB (wd l i)=true then .inl (.str (wd l i)) else .inr (.int (n:Int)),hS k l o sto) :=
 xmc (s1:=hS k l o sto) (zc rfl (zc (zo rfl rfl (V5 hi)) rfl)) (Vb hk (h.wd i))
end
section
variable {l:List Str}
theorem a4o (h:Prs rs) (hk:Df cR k rs n sto):Ao cR cN [.obj k] sto=some (if has rs n=true then aal (n+1) (qj (ws (row rs n))) else .inr (.int ((n+1:Nat):Int)),up cR k rs (n+1) sto):=by
 have hu:Df cR k rs (n+1) (up cR k rs (n+1) sto):=hk.up
 have W:mq cR "next_words" (iz cR cN) (bf 0) n6 ⟨[some (.obj k,false),none,none],sto⟩=some (if has rs n=true then .inl (tws (ws (row rs n))) else .inr (.int ((n+1:Nat):Int)),⟨[some (.obj k,false),none,none],up cR k rs (n+1) sto⟩) :=
  Yz (s1:=⟨[some (.obj k,false),none,none],sto⟩) (s2:=⟨[some (.obj k,false),none,none],sto⟩) (ts:=[]) rfl hk aa4 rfl (Jh h hk)
 cases e:has rs n with
 | false =>
  rw [e,if_neg (by decide)] at W;rw [if_neg (by decide)];exact p8 (xqr (xsr W)) rfl
 | true =>
  rw [e,if_pos rfl] at W;rw [if_pos rfl];have pl:=pws (h.row n);generalize ws (row rs n)=l at W pl;have A:Iv 1 (mq cR "next_words" (iz cR cN) (bf 0) n6) ⟨[some (.obj k,false),none,none],sto⟩=some (.inl .next,hS k l none (up cR k rs (n+1) sto)):=xst W rfl;generalize up cR k rs (n+1) sto=z at A hu;generalize n+1=m at hu;clear W hk;have w1:=zt (hW (k:=k) (sto:=z) (o:=none) pl Ij);have w2:=zt (hW (k:=k) (sto:=z) (o:=none) pl Ih);have w3:=zt (hW (k:=k) (sto:=z) (o:=none) pl Mt);have w4:=hW (k:=k) (sto:=z) (o:=none) pl Eb;have L3:=hL (k:=k) (l:=l) (sto:=z) (o:=none) (m:=3);cases c1:(wd l 0 == "or") with
  | true =>
   rw [c1] at w1
   by_cases z3:l.length=3
   ·rw [decide_eq_true z3] at L3;have e1:qj l=(match pNum (wd l 1) 0,pNum (wd l 2) 0 with | some i,some m=>some (.orr i m) | _,_=>none):=by unfold qj; rw [if_pos c1,if_pos z3]
    have N1:=hN (cN:=cN) (o:=none) hu pl (i:=1) (by omega) (v:=0);have N2:=hN (cN:=cN) (o:=none) hu pl (i:=2) (by omega) (v:=0);rw [e1];cases q1:pNum (wd l 1) 0 with
    | none =>
     rw [q1] at N1;exact p8 (xq A (xqr (xik w1 (xq (jz hu L3) (xrr (xtr (Kv (xup rfl) (Sx N1)))))))) rfl
    | some i =>
     rw [q1] at N1;cases q2:pNum (wd l 2) 0 with
     | none =>
      rw [q2] at N2;exact p8 (xq A (xqr (xik w1 (xq (jz hu L3) (xrr (xtr (Kv (xup rfl) (Kv N1 (Sx N2))))))))) rfl
     | some m2 =>
      rw [q2] at N2;exact Cg (xq A (xqt (xik w1 (xq (jz hu L3) (xrt (xtu (xcs (xup rfl) (xcs N1 (xcs N2 rfl))))))))) rfl
   ·rw [decide_eq_false z3] at L3;have e1:qj l=none:=by unfold qj; rw [if_pos c1,if_neg z3]
    rw [e1];exact p8 (xq A (xqr (xik w1 (xqr (Aq hu L3))))) rfl
  | false =>
   rw [c1] at w1;cases c2:(wd l 0 == "cut") with
   | true =>
    rw [c2] at w2
    by_cases z3:l.length=3
    ·rw [decide_eq_true z3] at L3;have e1:qj l=(if Uh (wd l 1)=true then (Ng (wd l 2)).map (.cut (wd l 1)) else none):=by unfold qj; rw [if_neg (by rw [c1]; decide),if_pos c2,if_pos z3]
     have N1:=hB (cN:=cN) (o:=none) hu pl (i:=1) (by omega);have N2:=hSg (cN:=cN) (o:=none) hu pl (i:=2) (by omega);rw [e1];cases q1:Uh (wd l 1) with
     | false =>
      rw [q1,if_neg (by decide)] at N1;rw [if_neg (by decide)];exact p8 (xq A (xq (xie w1 (xl rfl)) (xqr (xik w2 (xq (jz hu L3) (xrr (xtr (Kv (xup rfl) (Sx N1))))))))) rfl
     | true =>
      rw [q1,if_pos rfl] at N1;rw [if_pos rfl];cases q2:Ng (wd l 2) with
      | none =>
       rw [q2] at N2;exact p8 (xq A (xq (xie w1 (xl rfl)) (xqr (xik w2 (xq (jz hu L3) (xrr (xtr (Kv (xup rfl) (Kv N1 (Sx N2)))))))))) rfl
      | some v =>
       rw [q2] at N2;exact Cg (xq A (xq (xie w1 (xl rfl)) (xqt (xik w2 (xq (jz hu L3) (xrt (xtu (xcs (xup rfl) (xcs N1 (xcs N2 rfl)))))))))) rfl
    ·rw [decide_eq_false z3] at L3;have e1:qj l=none:=by unfold qj; rw [if_neg (by rw [c1]; decide),if_pos c2,if_neg z3]
     rw [e1];exact p8 (xq A (xq (xie w1 (xl rfl)) (xqr (xik w2 (xqr (Aq hu L3)))))) rfl
   | false =>
    rw [c2] at w2;cases c3:(wd l 0 == "sum") with
    | true =>
     rw [c3] at w3;have e1:qj l=(Ga uy (l.drop 1)).map .sum:=by unfold qj; rw [if_neg (by rw [c1]; decide),if_neg (by rw [c2]; decide),if_pos c3]
     have dl:(l.drop 1).length<lim:=Nat.lt_of_le_of_lt (by rw [List.length_drop]; omega) pl.lt
     have M:=Ou (n:=m) (k:=k) (sto:=z) (p:=uy) (e:=ig (Ej cR cN) (ao (bf 1) (ao (bf 0) cu))) (it:=Nf (ni (bf 1) (oh (ak (.int 1))) m6)) (l:=l.drop 1) (r:=[some (tws l,false),none]) (zis (Ju (i:=1) rfl) dl) (by
      intro x hx;exact xmc (s1:=ceS k (some (.str x,false)) z) (zc rfl (zc rfl rfl)) (a3d hu (pl.pn x (List.mem_of_mem_drop hx)))) (Nat.le_of_lt dl)
     rw [e1];cases q1:Ga uy (l.drop 1) with
     | none =>
      rw [q1] at M;exact p8 (xq A (xq (xie w1 (xl rfl)) (xq (xie w2 (xl rfl)) (xqr (xik w3 (xrr (xtr (Kv (xup rfl) (Sx M))))))))) rfl
     | some ts =>
      rw [q1] at M;exact Cg (xq A (xq (xie w1 (xl rfl)) (xq (xie w2 (xl rfl)) (xqt (xik w3 (xrt (xtu (xcs (xup rfl) (xcs M rfl))))))))) rfl
    | false =>
     rw [c3] at w3
     have D:xu (Dj (dg (mOp eqO (mOp gb (bf 1) (ak (.int 0))) (ak (.str "rest")))) (dg (mOp geT (j5 vf (ao (bf 1) cu)) (ak (.int 2))))) (hS k l none z)=some (.bl ((wd l 0 == "rest")&&decide (2<=l.length)),hS k l none z) :=
      zba w4 fun _=>zo (zm (zc rfl rfl) Uk) rfl (abf (q:=2))
     cases c4:((wd l 0 == "rest")&&decide (2<=l.length)) with
     | false =>
      rw [c4] at D;have e1:qj l=none:=by unfold qj; rw [if_neg (by rw [c1]; decide),if_neg (by rw [c2]; decide),if_neg (by rw [c3]; decide),if_neg (by rw [c4]; decide)]
      rw [e1];exact p8 (xq A (xq (xie w1 (xl rfl)) (xq (xie w2 (xl rfl)) (xq (xie w3 (xl rfl)) (xqr (Aq hu D)))))) rfl
     | true =>
      rw [c4] at D;have l2:2<=l.length:=of_decide_eq_true ((Bool.and_eq_true _ _).mp c4).2;have e1:qj l=(match pNum (wd l 1) 2 with | some d=>(Ga qb (l.drop 2)).map (.rest d) | none=>none):=by unfold qj; rw [if_neg (by rw [c1]; decide),if_neg (by rw [c2]; decide),if_neg (by rw [c3]; decide),if_pos c4]
      have N1:=hN (cN:=cN) (o:=none) hu pl (i:=1) (by omega) (v:=2);rw [e1];cases q1:pNum (wd l 1) 2 with
      | none =>
       rw [q1] at N1;exact p8 (xq A (xq (xie w1 (xl rfl)) (xq (xie w2 (xl rfl)) (xq (xie w3 (xl rfl)) (xq (jz hu D) (xqr (xsr N1))))))) rfl
      | some d =>
       rw [q1] at N1;have V:Iv 2 (ig (gk cR cN) (ao (bf 0) (ao (mOp gb (bf 1) (ak (.int 1))) (ao (ak (.int 2)) cu)))) (hS k l none z)=some (.inl .next,hS k l (some (.int d,false)) z):=xst N1 rfl;have dl:(l.drop 2).length<lim:=Nat.lt_of_le_of_lt (by rw [List.length_drop]; omega) pl.lt
       have M:=Ou (n:=m) (k:=k) (sto:=z) (p:=qb) (e:=ig (Dh cR cN) (ao (bf 1) (ao (bf 0) cu))) (it:=Nf (ni (bf 1) (oh (ak (.int 2))) m6)) (l:=l.drop 2) (r:=[some (tws l,false),some (.int d,false)]) (zis (Ju (i:=2) rfl) dl) (by
        intro x hx;exact xmc (s1:=ceS k (some (.str x,false)) z) (zc rfl (zc rfl rfl)) (Ze hu (pl.pn x (List.mem_of_mem_drop hx)))) (Nat.le_of_lt dl)
       cases q2:Ga qb (l.drop 2) with
       | none =>
        rw [q2] at M;exact p8 (xq A (xq (xie w1 (xl rfl)) (xq (xie w2 (xl rfl)) (xq (xie w3 (xl rfl)) (xq (jz hu D) (xq V (xrr (xtr (Kv (xup rfl) (Kv (xup rfl) (Sx M)))))))))) ) rfl
       | some ts =>
        rw [q2] at M;exact Cg (xq A (xq (xie w1 (xl rfl)) (xq (xie w2 (xl rfl)) (xq (xie w3 (xl rfl)) (xq (jz hu D) (xq V (xrt (xtu (xcs (xup rfl) (xcs (xup rfl) (xcs M rfl))))))))))) rfl
end
end K
end
section
namespace K
open C PySem PySem.W PySem.NumText
variable {cR cN k:Nat} {sto:List SO} {rs:List Str} {n:Nat}
theorem a1z (h:Prs rs) (hk:Df cR k rs n sto):Ah cR cN [.obj k] sto=some (if has rs n=true then a2l (n+1) (qt (ws (row rs n))) else .inr (.int ((n+1:Nat):Int)),up cR k rs (n+1) sto):=by
 have hu:Df cR k rs (n+1) (up cR k rs (n+1) sto):=hk.up
 have W:mq cR "next_words" (iz cR cN) (bf 0) n6 ⟨[some (.obj k,false),none,none],sto⟩=some (if has rs n=true then .inl (tws (ws (row rs n))) else .inr (.int ((n+1:Nat):Int)),⟨[some (.obj k,false),none,none],up cR k rs (n+1) sto⟩) :=
  Yz (s1:=⟨[some (.obj k,false),none,none],sto⟩) (s2:=⟨[some (.obj k,false),none,none],sto⟩) (ts:=[]) rfl hk aa4 rfl (Jh h hk)
 cases e:has rs n with
 | false =>
  rw [e,if_neg (by decide)] at W;rw [if_neg (by decide)];exact p8 (xqr (xsr W)) rfl
 | true =>
  rw [e,if_pos rfl] at W;rw [if_pos rfl];have pl:=pws (h.row n);generalize ws (row rs n)=l at W pl;have A:Iv 1 (mq cR "next_words" (iz cR cN) (bf 0) n6) ⟨[some (.obj k,false),none,none],sto⟩=some (.inl .next,hS k l none (up cR k rs (n+1) sto)):=xst W rfl;generalize up cR k rs (n+1) sto=z at A hu;generalize n+1=m at hu;clear W hk;have w1:=zt (hW (k:=k) (sto:=z) (o:=none) pl Z4);have w2:=zt (hW (k:=k) (sto:=z) (o:=none) pl a7l);have w4:=hW (k:=k) (sto:=z) (o:=none) pl a0f;have L2:=hL (k:=k) (l:=l) (sto:=z) (o:=none) (m:=2);cases c1:(wd l 0 == "start") with
  | true =>
   rw [c1] at w1
   by_cases z3:l.length=2
   ·rw [decide_eq_true z3] at L2;have e1:qt l=(if nameB (wd l 1)=true then some (.tup [.str "start",.str (wd l 1)]) else none):=by unfold qt; rw [if_pos c1,if_pos z3]
    have N1:=hNm (cN:=cN) (o:=none) hu pl (i:=1) (by omega);rw [e1];cases q1:nameB (wd l 1) with
    | false =>
     rw [q1,if_neg (by decide)] at N1;rw [if_neg (by decide)];exact p8 (xq A (xqr (xik w1 (xq (jz hu L2) (xrr (xtr (Kv (xup rfl) (Sx N1)))))))) rfl
    | true =>
     rw [q1,if_pos rfl] at N1;rw [if_pos rfl];exact Cg (xq A (xqt (xik w1 (xq (jz hu L2) (xrt (xtu (xcs (xup rfl) (xcs N1 rfl)))))))) rfl
   ·rw [decide_eq_false z3] at L2;have e1:qt l=none:=by unfold qt; rw [if_pos c1,if_neg z3]
    rw [e1];exact p8 (xq A (xqr (xik w1 (xqr (Aq hu L2))))) rfl
  | false =>
   rw [c1] at w1;cases c2:(wd l 0 == "own") with
   | true =>
    rw [c2] at w2
    by_cases z3:l.length=2
    ·rw [decide_eq_true z3] at L2;have e1:qt l=(pNum (wd l 1) 0).map (fun v=>.tup [.str "own",.int v]):=by unfold qt; rw [if_neg (by rw [c1]; decide),if_pos c2,if_pos z3]
     have N1:=hN (cN:=cN) (o:=none) hu pl (i:=1) (by omega) (v:=0);rw [e1];cases q1:pNum (wd l 1) 0 with
     | none =>
      rw [q1] at N1;exact p8 (xq A (xq (xie w1 (xl rfl)) (xqr (xik w2 (xq (jz hu L2) (xrr (xtr (Kv (xup rfl) (Sx N1))))))))) rfl
     | some v =>
      rw [q1] at N1;exact Cg (xq A (xq (xie w1 (xl rfl)) (xqt (xik w2 (xq (jz hu L2) (xrt (xtu (xcs (xup rfl) (xcs N1 rfl))))))))) rfl
    ·rw [decide_eq_false z3] at L2;have e1:qt l=none:=by unfold qt; rw [if_neg (by rw [c1]; decide),if_pos c2,if_neg z3]
     rw [e1];exact p8 (xq A (xq (xie w1 (xl rfl)) (xqr (xik w2 (xqr (Aq hu L2)))))) rfl
   | false =>
    rw [c2] at w2
    have D:xu (Dj (dg (mOp eqO (mOp gb (bf 1) (ak (.int 0))) (ak (.str "other")))) (dg (mOp eqO (j5 vf (ao (bf 1) cu)) (ak (.int 4))))) (hS k l none z)=some (.bl ((wd l 0 == "other")&&decide (l.length=4)),hS k l none z) :=
     zba w4 fun _=>hL (m:=4)
    cases c4:((wd l 0 == "other")&&decide (l.length=4)) with
    | false =>
     rw [c4] at D;have e1:qt l=none:=by unfold qt; rw [if_neg (by rw [c1]; decide),if_neg (by rw [c2]; decide),if_neg (by rw [c4]; decide)]
     rw [e1];exact p8 (xq A (xq (xie w1 (xl rfl)) (xq (xie w2 (xl rfl)) (xqr (Aq hu D))))) rfl
    | true =>
     rw [c4] at D;have l4:l.length=4:=of_decide_eq_true ((Bool.and_eq_true _ _).mp c4).2;have e1:qt l=(match pNum (wd l 1) 0 with | some v=>if nameB (wd l 2)=true then (pNum (wd l 3) 0).map (fun u=>.tup [.str "other",.int v,.str (wd l 2),.int u]) else none | none=>none):=by unfold qt; rw [if_neg (by rw [c1]; decide),if_neg (by rw [c2]; decide),if_pos c4];try (cases pNum (wd l 1) 0 <;> rfl)
     have N1:=hN (cN:=cN) (o:=none) hu pl (i:=1) (by omega) (v:=0);rw [e1];cases q1:pNum (wd l 1) 0 with
     | none =>
      rw [q1] at N1;exact p8 (xq A (xq (xie w1 (xl rfl)) (xq (xie w2 (xl rfl)) (xq (jz hu D) (xqr (xsr N1)))))) rfl
     | some v =>
      rw [q1] at N1;have V:Iv 2 (ig (gk cR cN) (ao (bf 0) (ao (mOp gb (bf 1) (ak (.int 1))) (ao (ak (.int 0)) cu)))) (hS k l none z)=some (.inl .next,hS k l (some (.int v,false)) z):=xst N1 rfl;have N2:=hNm (cN:=cN) (o:=some (.int v,false)) hu pl (i:=2) (by omega);have N3:=hN (cN:=cN) (o:=some (.int v,false)) hu pl (i:=3) (by omega) (v:=0);cases q2:nameB (wd l 2) with
      | false =>
       rw [q2,if_neg (by decide)] at N2;dsimp only;rw [if_neg (by decide)];exact p8 (xq A (xq (xie w1 (xl rfl)) (xq (xie w2 (xl rfl)) (xq (jz hu D) (xq V (xrr (xtr (Kv (xup rfl) (Kv (xup rfl) (Sx N2)))))))))) rfl
      | true =>
       rw [q2,if_pos rfl] at N2;dsimp only;rw [if_pos rfl];cases q3:pNum (wd l 3) 0 with
       | none =>
        rw [q3] at N3;exact p8 (xq A (xq (xie w1 (xl rfl)) (xq (xie w2 (xl rfl)) (xq (jz hu D) (xq V (xrr (xtr (Kv (xup rfl) (Kv (xup rfl) (Kv N2 (Sx N3))))))))))) rfl
       | some u =>
        rw [q3] at N3;exact Cg (xq A (xq (xie w1 (xl rfl)) (xq (xie w2 (xl rfl)) (xq (jz hu D) (xq V (xrt (xtu (xcs (xup rfl) (xcs (xup rfl) (xcs N2 (xcs N3 rfl))))))))))) rfl
end K
end
section
namespace K
open C PySem
variable {cR cN k:Nat} {rs:List Str}
abbrev Fr:=Hd × List T
def many:Hd->Int
 | .orr _ m=>m
 | .cut _ _=>2
 | _=>0
noncomputable def qp (h:Hd) (ps:List T):T:=match h with
 | .orr i _=>.tup [.str "or",.int i,.tup ps]
 | .cut b v=>.tup ([.str "cut",.str b,.int v]++ps)
 | .sum l=>.tup ([.str "sum",.tup l]++ps)
 | .rest d l=>.tup ([.str "rest",.int d,.tup l]++ps)
noncomputable def close (f:Fr):List Fr->T ⊕ List Fr
 | []=>if (f.2.length:Int)=many f.1 then .inl (qp f.1 f.2) else .inr [f]
 | g::r=>if (f.2.length:Int)=many f.1 then close (g.1,g.2++[qp f.1 f.2]) r else .inr (f::g::r)
abbrev Fi:=Hd × Nat
abbrev fiT (f:Fi):T:=.tup [hdT f.1,.int (many f.1),.obj f.2]
structure Lk (k:Nat) (sto:List SO) (st:List (Fi × List T)):Prop where
 at':∀ f∈st,sto[f.1.2]? = some (.lst f.2)
 nd:(st.map fun f=>f.1.2).Nodup
abbrev erase (st:List (Fi × List T)):List Fr:=st.map fun f=>(f.1.1,f.2)
abbrev opL (st:List (Fi × List T)):T:=.lst (st.reverse.map fun f=>fiT f.1)
theorem Bm (f:Fi × List T) (st:List (Fi × List T)):opL (f::st)=.lst ((st.reverse.map fun f=>fiT f.1)++[fiT f.1]):=by
 unfold opL;rw [List.reverse_cons,List.map_append]; rfl
abbrev nS (k:Nat) (op:T) (a b c:C.Slot) (sto:List SO):Sta:=⟨[some (.obj k,false),some (op,true),a,b,c],sto⟩
theorem Js {L:List T} {t:T} {s:Sta} (h:s.env[1]? = some (some (.lst (L++[t]),true))):vo 1 (mUn Gg (ak (.int 1))) s=some (t,s):=by
 have hl:Aj 1 s=true:=by unfold Aj; rw [h]
 unfold vo;rw [if_pos hl,show mUn Gg (ak (.int 1)) s=some (.int (-1),s) from rfl];dsimp only;rw [h];dsimp only
 have e:ixI (L++[t]).length (-1)=some L.length:=by
  unfold ixI;rw [if_neg (by decide),List.length_append,List.length_singleton,if_pos (by omega)];congr 1;omega
 rw [e];simp
theorem Oq {sto:List SO} {h:Hd} {ps:List T} (hl:ps.length<lim) (hs:(many h=0->ps=[])) (h2:∀ b v,h=.cut b v->ps.length=2):qw [hdT h,.tup ps] sto=some (qp h ps,sto):=by
 cases h with
 | orr i m =>
  exact zrun (zqr (zk (zt (zo (zo rfl rfl rfl) rfl (pq Ij Ij))) (zr (zm (zc rfl (zc (zo rfl rfl rfl) (zc rfl rfl))) rfl)))) rfl
 | cut b v =>
  have e:=h2 b v rfl;have ad:jt (.tup [.str "cut",.str b,.int v]) (.tup ps)=some (qp (.cut b v) ps):=if_pos (by show 3+ps.length<1000000; omega);exact zrun (zq (ze (zt (zo (zo rfl rfl rfl) rfl (pq Ih Ij))) rfl) (zr (zo rfl rfl ad))) rfl
 | sum l =>
  have e:=hs rfl;subst e;exact zrun (zq (ze (zt (zo (zo rfl rfl rfl) rfl (pq Mt Ij))) rfl) (zr (zo rfl rfl rfl))) rfl
 | rest d l =>
  have e:=hs rfl;subst e;exact zrun (zq (ze (zt (zo (zo rfl rfl rfl) rfl (pq Eb Ij))) rfl) (zr (zo rfl rfl rfl))) rfl
abbrev clC:M Bool:=dg (mOp eqO (Dw (mOp gb (vo 1 (mUn Gg (ak (.int 1)))) (ak (.int 2)))) (mOp gb (vo 1 (mUn Gg (ak (.int 1)))) (ak (.int 1))))
abbrev clB:S:=qe (ou 4 (fj qw (ao (mOp gb (vo 1 (mUn Gg (ak (.int 1)))) (ak (.int 0))) (ao (Dz (mOp gb (Kg 1) (ak (.int 2)))) cu))))
 (qe (sIf (dg (mOp eqO (yp 1) (ak (.int 0))))
 (Az (bf 4))
 Ec)
 (Cv (mOp gb (vo 1 (mUn Gg (ak (.int 1)))) (ak (.int 2))) (bf 4)))
theorem Xb {o:M T} {s s1:Sta} {i:Nat} {xs:List T} (h:o s=some (.obj i,s1)) (hs:s1.sto[i]? = some (.lst xs)):Dw o s=some (.int (xs.length:Int),s1):=by
 unfold Dw; rw [h]; dsimp only; rw [hs]
theorem pop_at {L:List T} {t:T} {e0 a b c:C.Slot} {sto:List SO}:Kg 1 ⟨[e0,some (.lst (L++[t]),true),a,b,c],sto⟩=some (t,⟨[e0,some (.lst L,true),a,b,c],sto⟩):=by
 unfold Kg;dsimp only [List.getElem?_cons_succ,List.getElem?_cons_zero];rw [show (L++[t])[(L++[t]).length - 1]? = some t from by simp];dsimp only;rw [List.dropLast_concat];rfl
theorem a4c {st:List (Fi × List T)} {f:Fi × List T} {a b c:C.Slot} {sto:List SO} (h:Lk k sto (f::st)):clC (nS k (opL (f::st)) a b c sto)=some (decide ((f.2.length:Int)=many f.1.1),nS k (opL (f::st)) a b c sto):=by
 have o:=h.at' f List.mem_cons_self;rw [Bm];refine zt (zo (Xb (i:=f.1.2) (xs:=f.2) (s1:=nS k (.lst ((st.reverse.map fun f=>fiT f.1)++[fiT f.1])) a b c sto) (zo (Js rfl) rfl rfl) o) (zo (Js rfl) rfl rfl) ?_);rw [Aa];rw [Bool.eq_iff_iff.mpr (by rw [beq_iff_eq,decide_eq_true_eq]:((f.2.length:Int)==many f.1.1)=true↔decide ((f.2.length:Int)=many f.1.1)=true)]
theorem Lk.tail {sto:List SO} {f:Fi × List T} {st:List (Fi × List T)} (h:Lk k sto (f::st)):Lk k sto st :=
 ⟨fun g hg=>h.at' g (List.mem_cons_of_mem _ hg),(List.nodup_cons.mp h.nd).2⟩
theorem Lk.app {sto:List SO} {g:Fi × List T} {st:List (Fi × List T)} {p:T} (h:Lk k sto (g::st)):Lk k (sto.set g.1.2 (.lst (g.2++[p]))) ((g.1,g.2++[p])::st):=by
 have o:=h.at' g List.mem_cons_self;have aW:g.1.2<sto.length:=(List.getElem?_eq_some_iff.mp o).1;refine ⟨fun f hf=>?_,h.nd⟩;rcases List.mem_cons.mp hf with rfl | hf
 ·exact List.getElem?_set_self aW
 ·have ne:g.1.2≠f.1.2:=fun z=>(List.nodup_cons.mp h.nd).1 (List.mem_map.mpr ⟨f,hf,z.symm⟩);show (sto.set g.1.2 _)[f.1.2]? = _;rw [List.getElem?_set_ne ne];exact h.at' f (List.mem_cons_of_mem _ hf)
theorem wnf {c:M Bool} {b:S} {s s1:Sta} {j:Nat} (h:c s=some (false,s1)):u9 (j+1) c b s=some (.next,s1):=by rw [u9]; dsimp only; rw [h]
theorem wnt {c:M Bool} {b:S} {s s1 s2:Sta} {j:Nat} {q:Option (C.Flow × Sta)} (h:c s=some (true,s1)) (h1:b s1=some (.next,s2)) (h2:u9 j c b s2=q):u9 (j+1) c b s=q:=by rw [u9]; dsimp only; rw [h]; dsimp only; rw [h1]; exact h2
theorem wnr {c:M Bool} {b:S} {s s1 s2:Sta} {j:Nat} {t:T} (h:c s=some (true,s1)) (h1:b s1=some (.ret t,s2)):u9 (j+1) c b s=some (.ret t,s2):=by rw [u9]; dsimp only; rw [h]; dsimp only; rw [h1]
theorem Fo {f:Fr} (h:¬ (f.2.length:Int)=many f.1):∀ r:List Fr,close f r=.inr (f::r)
 | []=>by unfold close; rw [if_neg h]
 | g::r=>by unfold close; rw [if_neg h]
theorem Ek {f:Fr} (h:(f.2.length:Int)=many f.1):close f []=.inl (qp f.1 f.2):=by unfold close; rw [if_pos h]
theorem Hy {f g:Fr} {r:List Fr} (h:(f.2.length:Int)=many f.1):close f (g::r)=close (g.1,g.2++[qp f.1 f.2]) r:=by
 conv=>lhs; unfold close
 rw [if_pos h]
theorem Hx {L:List T} {s:Sta} (h:s.env[1]? = some (some (.lst L,true))):yp 1 s=some (.int (L.length:Int),s):=by
 have hl:Aj 1 s=true:=by unfold Aj; rw [h]
 unfold yp
 first
 | (rw [h])
 | (rw [if_pos hl,h])
theorem X5 {N:Nat} (hN:N+2<lim) {a b:C.Slot}:∀ (r:List (Fi × List T)) (f:Fi × List T) (sto:List SO) (c:C.Slot) (fu:Nat),r.length<fu->Lk k sto (f::r)->f.2.length<=N+1->(∀ g∈r,g.2.length<=N) ->
  ∃ ae c',ae.length=sto.length/\(∀ j,(∀ g∈f::r,g.1.2≠j)->ae[j]? = sto[j]?) /\
   match close (f.1.1,f.2) (erase r) with
   | .inl p=>u9 fu clC clB (nS k (opL (f::r)) a b c sto)=some (.ret p,nS k (opL []) a b c' ae)
   | .inr aa=>∃ aQ:List (Fi × List T),erase aQ=aa/\Lk k ae aQ/\(∀ g∈aQ,g.2.length<=N+1)/\(∀ g∈aQ,∃ g'∈f::r,g'.1.2=g.1.2)/\u9 fu clC clB (nS k (opL (f::r)) a b c sto)=some (.next,nS k (opL aQ) a b c' ae)
 | r,f,sto,c,0,hf,_,_,_=>absurd hf (Nat.not_lt_zero _)
 | r,f,sto,c,fu+1,hf,h,hl,hr=>by
  have t:=a4c (a:=a) (b:=b) (c:=c) h
  by_cases z:(f.2.length:Int)=many f.1.1
  ·rw [decide_eq_true z] at t;have o:=h.at' f List.mem_cons_self
   have W:qw [hdT f.1.1,.tup f.2] sto=some (qp f.1.1 f.2,sto):=Oq (by show _<1000000; have:lim=1000000:=rfl; omega) (fun q=>by
    rw [q] at z;exact List.length_eq_zero_iff.mp (by omega)) (fun b v q=>by
    rw [q] at z;have:(f.2.length:Int)=2:=z;omega)
   have A:ou 4 (fj qw (ao (mOp gb (vo 1 (mUn Gg (ak (.int 1)))) (ak (.int 0))) (ao (Dz (mOp gb (Kg 1) (ak (.int 2)))) cu))) (nS k (opL (f::r)) a b c sto)=some (.next,nS k (opL r) a b (some (qp f.1.1 f.2,false)) sto):=by
    have ot:Dz (mOp gb (Kg 1) (ak (.int 2))) (nS k (opL (f::r)) a b c sto)=some (.tup f.2,nS k (opL r) a b c sto):=by
     have p:mOp gb (Kg 1) (ak (.int 2)) (nS k (opL (f::r)) a b c sto)=some (.obj f.1.2,nS k (opL r) a b c sto):=by
      rw [Bm];exact zo pop_at rfl rfl
     unfold Dz;rw [p];dsimp only;rw [o]
    have fi:mOp gb (vo 1 (mUn Gg (ak (.int 1)))) (ak (.int 0)) (nS k (opL (f::r)) a b c sto)=some (hdT f.1.1,nS k (opL (f::r)) a b c sto):=by
     rw [Bm];exact zo (Js rfl) rfl rfl
    exact ys (zf0 (s1:=nS k (opL r) a b c sto) (zc fi (zc ot rfl)) W) rfl
   cases r with
   | nil =>
    refine ⟨sto,some (qp f.1.1 f.2,false),rfl,fun _ _=>rfl,?_⟩;rw [show erase ([]:List (Fi × List T))=[] from rfl,Ek z];exact wnr t (zq A (zqr (zk (zt (zo (Hx rfl) rfl rfl)) (zr rfl))))
   | cons g r =>
    have o2:=h.tail.at' g List.mem_cons_self;have hg:=hr g List.mem_cons_self
    have L:dg (mOp eqO (yp 1) (ak (.int 0))) (nS k (opL (g::r)) a b (some (qp f.1.1 f.2,false)) sto)=some (false,nS k (opL (g::r)) a b (some (qp f.1.1 f.2,false)) sto):=by
     refine zt (zo (Hx rfl) rfl ?_);rw [Aa];congr 2;rw [beq_eq_false_iff_ne];rw [List.length_map,List.length_reverse,List.length_cons];omega
    have B:Cv (mOp gb (vo 1 (mUn Gg (ak (.int 1)))) (ak (.int 2))) (bf 4) (nS k (opL (g::r)) a b (some (qp f.1.1 f.2,false)) sto)=some (.next,nS k (opL ((g.1,g.2++[qp f.1.1 f.2])::r)) a b (some (qp f.1.1 f.2,false)) (sto.set g.1.2 (.lst (g.2++[qp f.1.1 f.2])))):=by
     have e1:mOp gb (vo 1 (mUn Gg (ak (.int 1)))) (ak (.int 2)) (nS k (opL (g::r)) a b (some (qp f.1.1 f.2,false)) sto)=some (.obj g.1.2,nS k (opL (g::r)) a b (some (qp f.1.1 f.2,false)) sto):=by
      rw [Bm];exact zo (Js rfl) rfl rfl
     have e2:bf 4 (nS k (opL (g::r)) a b (some (qp f.1.1 f.2,false)) sto)=some (qp f.1.1 f.2,nS k (opL (g::r)) a b (some (qp f.1.1 f.2,false)) sto):=rfl;unfold Cv;rw [e1];dsimp only;rw [o2];dsimp only;rw [e2];dsimp only;rw [o2];dsimp only;rw [if_pos (show g.2.length<1000000 by have:lim=1000000:=rfl; omega)];rw [Bm,Bm]
    obtain ⟨ae,c',q1,q2,q3⟩:=X5 hN (a:=a) (b:=b) r (g.1,g.2++[qp f.1.1 f.2]) (sto.set g.1.2 (.lst (g.2++[qp f.1.1 f.2]))) (some (qp f.1.1 f.2,false)) fu (by rw [List.length_cons] at hf; omega) h.tail.app (by show (g.2++[qp f.1.1 f.2]).length<=N+1; rw [List.length_append,List.length_singleton]; omega) (fun x hx=>hr x (List.mem_cons_of_mem _ hx));have S:clB (nS k (opL (f::g::r)) a b c sto)=some (.next,nS k (opL ((g.1,g.2++[qp f.1.1 f.2])::r)) a b (some (qp f.1.1 f.2,false)) (sto.set g.1.2 (.lst (g.2++[qp f.1.1 f.2])))):=zq A (zq (ze L rfl) B);have cl:close (f.1.1,f.2) (erase (g::r))=close (g.1.1,g.2++[qp f.1.1 f.2]) (erase r):=Hy z;refine ⟨ae,c',by rw [q1,List.length_set],fun j hj=>?_,?_⟩
    ·rw [q2 j (fun x hx=>?_),List.getElem?_set_ne (hj g (List.mem_cons_of_mem _ List.mem_cons_self))];rcases List.mem_cons.mp hx with rfl | hx
     ·exact hj g (List.mem_cons_of_mem _ List.mem_cons_self)
     ·exact hj x (List.mem_cons_of_mem _ (List.mem_cons_of_mem _ hx))
    ·rw [cl];dsimp only at q3;split at q3
     ·rename_i p e;exact wnt t S q3
     ·rename_i aa e;obtain ⟨aQ,u1,u2,u3,u4,u5⟩:=q3;refine ⟨aQ,u1,u2,u3,fun x hx=>?_,wnt t S u5⟩;obtain ⟨g',bS,e'⟩:=u4 x hx;rcases List.mem_cons.mp bS with rfl | bS
      ·exact ⟨g,List.mem_cons_of_mem _ List.mem_cons_self,e'⟩
      ·exact ⟨g',List.mem_cons_of_mem _ (List.mem_cons_of_mem _ bS),e'⟩
  ·rw [decide_eq_false z] at t;refine ⟨sto,c,rfl,fun _ _=>rfl,?_⟩;rw [Fo z];refine ⟨f::r,rfl,h,fun g hg=>?_,fun g hg=>⟨g,hg,rfl⟩,wnf t⟩;rcases List.mem_cons.mp hg with rfl | hg
   ·exact hl
   ·exact Nat.le_succ_of_le (hr g hg)
end K
end
section
namespace K
open C PySem
variable {cR cN k:Nat} {rs:List Str}
noncomputable def goP (rs:List Str):Nat->Nat->List Fr->(T × Nat) ⊕ Nat
 | 0,n,_=>.inr (n+1)
 | fu+1,n,st=>if has rs n=true then (match qj (ws (row rs n)) with
   | none=>.inr (n+1)
   | some h=>if st.length<90 then (match close (h,[]) st with
     | .inl p=>.inl (p,n+1)
     | .inr aa=>goP rs fu (n+1) aa)
    else .inr (n+1))
  else .inr (n+1)
theorem a2h {h:Hd} {e0 e1 b c:C.Slot} {sto:List SO}:mIf (dg (mOp eqO (mOp gb (bf 2) (ak (.int 0))) (ak (.str "or")))) (mOp gb (bf 2) (ak (.int 2))) (mIf (dg (mOp eqO (mOp gb (bf 2) (ak (.int 0))) (ak (.str "cut")))) (ak (.int 2)) (ak (.int 0))) ⟨[e0,e1,some (hdT h,false),b,c],sto⟩=some (.int (many h),⟨[e0,e1,some (hdT h,false),b,c],sto⟩):=by
 cases h with
 | orr i m=>exact a8f (zt (zo (zo rfl rfl rfl) rfl (pq Ij Ij))) (zo rfl rfl rfl)
 | cut v w=>exact a4y (zt (zo (zo rfl rfl rfl) rfl (pq Ih Ij))) (a8f (zt (zo (zo rfl rfl rfl) rfl (pq Ih Ih))) rfl)
 | sum l=>exact a4y (zt (zo (zo rfl rfl rfl) rfl (pq Mt Ij))) (a4y (zt (zo (zo rfl rfl rfl) rfl (pq Mt Ih))) rfl)
 | rest d l=>exact a4y (zt (zo (zo rfl rfl rfl) rfl (pq Eb Ij))) (a4y (zt (zo (zo rfl rfl rfl) rfl (pq Eb Ih))) rfl)
theorem Lk.ne {sto:List SO} {st:List (Fi × List T)} {n:Nat} (h:Lk k sto st) (hk:Df cR k rs n sto):∀ g∈st,g.1.2≠k:=fun g hg z=>by
 have a:=h.at' g hg;rw [z,hk] at a;cases a
theorem Lk.up {sto:List SO} {st:List (Fi × List T)} {n m:Nat} (h:Lk k sto st) (hk:Df cR k rs n sto):Lk k (up cR k rs m sto) st :=
 ⟨fun g hg=>by
  show (sto.set k _)[g.1.2]? = _;rw [List.getElem?_set_ne (Ne.symm (h.ne hk g hg))];exact h.at' g hg,h.nd⟩
theorem Lk.lt {sto:List SO} {st:List (Fi × List T)} (h:Lk k sto st):∀ g∈st,g.1.2<sto.length:=fun g hg=>(List.getElem?_eq_some_iff.mp (h.at' g hg)).1
theorem Lk.new {sto:List SO} {st:List (Fi × List T)} (h:Lk k sto st) (x:Hd):Lk k (sto++[.lst []]) (((x,sto.length),[])::st):=by
 refine ⟨fun g hg=>?_,?_⟩
 ·rcases List.mem_cons.mp hg with rfl | hg
  ·show (sto++[SO.lst []])[sto.length]? = _;rw [List.getElem?_append_right (Nat.le_refl _),Nat.sub_self]; rfl
  ·show (sto++[SO.lst []])[g.1.2]? = _;rw [List.getElem?_append_left (h.lt g hg)];exact h.at' g hg
 ·rw [List.map_cons,List.nodup_cons];refine ⟨fun z=>?_,h.nd⟩;obtain ⟨g,hg,e⟩:=List.mem_map.mp z;have:=h.lt g hg;have e:g.1.2=sto.length:=e;omega
abbrev npB (cR cN:Nat):SX:=vq (Iv 2 (ig (Ao cR cN) (ao (bf 0) cu)))
 (vq (yw (mq cR "need_that" (d7 cR cN) (bf 0) (gj (Di (mOp ltT (yp 1) (ak (.int 90)))) n6)))
 (vq (lx (ou 3 (mIf (dg (mOp eqO (mOp gb (bf 2) (ak (.int 0))) (ak (.str "or")))) (mOp gb (bf 2) (ak (.int 2))) (mIf (dg (mOp eqO (mOp gb (bf 2) (ak (.int 0))) (ak (.str "cut")))) (ak (.int 2)) (ak (.int 0))))))
 (vq (lx (v7 1 (j5 (fun l=>some (.tup l)) (ao (bf 2) (ao (bf 3) (ao (uh cu) cu))))))
 (lx (u9 6000 clC clB)))))
theorem wxT {c:M Bool} {a:SX} {s s1 s2:Sta} {j:Nat} {t:T} (h:c s=some (true,s1)) (h1:a s1=some (.inl (.ret t),s2)):m7 (j+1) c a s=some (.inl (.ret t),s2):=by rw [m7]; dsimp only; rw [h]; dsimp only; rw [h1]
structure Pz (k:Nat) (P:Nat->Prop) (sto ae:List SO):Prop where
 len:sto.length<=ae.length
 eq:∀ i,i<sto.length->i≠k->P i->ae[i]? = sto[i]?
theorem Pz.up {P:Nat->Prop} {sto:List SO} {o:SO}:Pz k P sto (sto.set k o):=⟨by rw [List.length_set]; exact Nat.le_refl _,fun i _ h _=>List.getElem?_set_ne (Ne.symm h)⟩
theorem Pz.trans {P:Nat->Prop} {a b c:List SO} (h:Pz k P a b) (h2:Pz k P b c):Pz k P a c:=⟨Nat.le_trans h.len h2.len,fun i hi hk hp=>by rw [h2.eq i (Nat.lt_of_lt_of_le hi h.len) hk hp,h.eq i hi hk hp]⟩
theorem V0 (hp:Prs rs):∀ (fu n:Nat) (st:List (Fi × List T)) (sto:List SO) (a b c:C.Slot),n<=5000->5001<=n+fu->Df cR k rs n sto->Lk k sto st->(∀ g∈st,g.2.length<=n) ->
  ∃ ae a' b' c' bI,Pz k (fun i=>∀ g∈st,g.1.2≠i) sto ae/\match goP rs fu n (erase st) with
   | .inl (p,n')=>Df cR k rs n' ae/\n'<=5000/\n<n'/\m7 fu (dg (ak (.bl true))) (npB cR cN) (nS k (opL st) a b c sto)=some (.inl (.ret p),nS k bI a' b' c' ae)
   | .inr m=>m7 fu (dg (ak (.bl true))) (npB cR cN) (nS k (opL st) a b c sto)=some (.inr (.int (m:Int)),nS k bI a' b' c' ae)
 | 0,n,_,_,_,_,_,h1,h2,_,_,_=>absurd h2 (by omega)
 | fu+1,n,st,sto,a,b,c,h1,h2,hk,hL,hN=>by
  have H:=a4o (cN:=cN) hp hk;have hu:Df cR k rs (n+1) (up cR k rs (n+1) sto):=hk.up;have eA:Lk k (up cR k rs (n+1) sto) st:=hL.up hk
  have X:ig (Ao cR cN) (ao (bf 0) cu) (nS k (opL st) a b c sto)=some (if has rs n=true then aal (n+1) (qj (ws (row rs n))) else .inr (.int ((n+1:Nat):Int)),nS k (opL st) a b c (up cR k rs (n+1) sto)) :=
   xmc (s1:=nS k (opL st) a b c sto) (zc rfl rfl) H
  rw [goP];cases e:has rs n with
  | false =>
   rw [e,if_neg (by decide)] at X;rw [if_neg (by decide)];exact ⟨up cR k rs (n+1) sto,a,b,c,opL st,.up,wxr rfl (xqr (xsr X))⟩
  | true =>
   rw [e,if_pos rfl] at X;rw [if_pos rfl]
   have n1:n+1<=5000:=by
    unfold has at e;rw [Bool.and_eq_true,decide_eq_true_eq,decide_eq_true_eq] at e;omega
   cases e1:qj (ws (row rs n)) with
   | none =>
    rw [e1] at X;exact ⟨up cR k rs (n+1) sto,a,b,c,opL st,.up,wxr rfl (xqr (xsr X))⟩
   | some h =>
    rw [e1] at X;dsimp only;have b9:Pz k (fun i=>∀ g∈st,g.1.2≠i) sto (up cR k rs (n+1) sto):=.up;have zl:(up cR k rs (n+1) sto).length=sto.length:=List.length_set ..;generalize up cR k rs (n+1) sto=z at X hu eA b9 zl;have A:Iv 2 (ig (Ao cR cN) (ao (bf 0) cu)) (nS k (opL st) a b c sto)=some (.inl .next,nS k (opL st) (some (hdT h,false)) b c z):=xst X rfl
    have D:mOp ltT (yp 1) (ak (.int 90)) (nS k (opL st) (some (hdT h,false)) b c z)=some (.bl (decide (st.length<90)),nS k (opL st) (some (hdT h,false)) b c z):=by
     refine zo (Hx rfl) rfl ?_;show some (T.bl (decide ((((st.reverse.map fun f=>fiT f.1).length:Nat):Int)<90)))=_;rw [List.length_map,List.length_reverse];congr 2;rw [Bool.eq_iff_iff,decide_eq_true_eq,decide_eq_true_eq];omega
    have se:(erase st).length=st.length:=List.length_map _;rw [se]
    by_cases d:st.length<90
    ·rw [decide_eq_true d] at D;rw [if_pos d];have M:lx (ou 3 (mIf (dg (mOp eqO (mOp gb (bf 2) (ak (.int 0))) (ak (.str "or")))) (mOp gb (bf 2) (ak (.int 2))) (mIf (dg (mOp eqO (mOp gb (bf 2) (ak (.int 0))) (ak (.str "cut")))) (ak (.int 2)) (ak (.int 0))))) (nS k (opL st) (some (hdT h,false)) b c z)=some (.inl .next,nS k (opL st) (some (hdT h,false)) (some (.int (many h),false)) c z):=xl (ys a2h rfl)
     have P:lx (v7 1 (j5 (fun l=>some (.tup l)) (ao (bf 2) (ao (bf 3) (ao (uh cu) cu))))) (nS k (opL st) (some (hdT h,false)) (some (.int (many h),false)) c z)=some (.inl .next,nS k (opL (((h,z.length),[])::st)) (some (hdT h,false)) (some (.int (many h),false)) c (z++[.lst []])):=by
      refine xl (za (s1:=nS k (opL st) (some (hdT h,false)) (some (.int (many h),false)) c (z++[.lst []])) (xs:=st.reverse.map fun f=>fiT f.1) (t:=fiT (h,z.length)) rfl rfl ?_ rfl ?_)
      ·rw [List.length_map,List.length_reverse]; show _<1000000; omega
      ·rw [Bm]; rfl
     have hz:Df cR k rs (n+1) (z++[.lst []]):=by
      show (z++[SO.lst []])[k]? = _;rw [List.getElem?_append_left (List.getElem?_eq_some_iff.mp hu).1];exact hu
     have hn:=eA.new h;obtain ⟨ae,c',q1,q2,q3⟩:=X5 (k:=k) (N:=n) (by have:lim=1000000:=rfl; omega) (a:=some (hdT h,false)) (b:=some (.int (many h),false)) st ((h,z.length),[]) (z++[.lst []]) c 6000 (by omega) hn (Nat.zero_le _) hN
     have hs:Df cR k rs (n+1) ae:=by
      show ae[k]? = _;rw [q2 k (hn.ne hz)];exact hz
     have b7:Pz k (fun i=>∀ g∈st,g.1.2≠i) sto ae:=b9.trans ⟨by rw [q1,List.length_append]; omega,fun i hi cT hP=>by
      rw [q2 i (fun g hg=>?_),List.getElem?_append_left hi];rcases List.mem_cons.mp hg with rfl | hg
      ·show z.length≠i;omega
      ·exact hP g hg⟩
     dsimp only at q3;split at q3
     ·rename_i p ep;try rw [ep]
      exact ⟨ae,_,_,c',opL [],b7,hs,n1,Nat.lt_succ_self n,wxT rfl (xq A (xq (jz hu D) (xq M (xq P (xl q3)))))⟩
     ·rename_i aa ep;try rw [ep]
      obtain ⟨aQ,u1,u2,u3,u4,u5⟩:=q3;subst u1;obtain ⟨sto2,a2,b2,c2,op2,pz2,r⟩:=V0 hp fu (n+1) aQ ae (some (hdT h,false)) (some (.int (many h),false)) c' n1 (by omega) hs u2 u3;have S:∀ q,m7 fu (dg (ak (.bl true))) (npB cR cN) (nS k (opL aQ) (some (hdT h,false)) (some (.int (many h),false)) c' ae)=q->m7 (fu+1) (dg (ak (.bl true))) (npB cR cN) (nS k (opL st) a b c sto)=q:=fun q w=>wxt rfl (xq A (xq (jz hu D) (xq M (xq P (xl u5))))) w
      have fS:Pz k (fun i=>∀ g∈st,g.1.2≠i) sto sto2:=⟨Nat.le_trans b7.len pz2.len,fun i hi cT hP=>by
       rw [pz2.eq i (Nat.lt_of_lt_of_le hi b7.len) cT (fun g hg z'=>?_),b7.eq i hi cT hP];obtain ⟨g',bS,e'⟩:=u4 g hg;rcases List.mem_cons.mp bS with rfl | bS
       ·have:z.length=g.1.2:=e';omega
       ·exact hP g' bS (e'.trans z')⟩
      refine ⟨sto2,a2,b2,c2,op2,fS,?_⟩;try dsimp only
      split at r
      ·rename_i p n' eg;exact ⟨r.1,r.2.1,Nat.lt_trans (Nat.lt_succ_self n) r.2.2.1,S _ r.2.2.2⟩
      ·rename_i m eg;exact S _ r
    ·rw [decide_eq_false d] at D;rw [if_neg d];exact ⟨z,_,_,_,_,b9,wxr rfl (xq A (xqr (Aq hu D)))⟩
theorem Rz (hp:Prs rs) {n:Nat} {sto:List SO} (hn:n<=5000) (hk:Df cR k rs n sto):∃ ae,Pz k (fun _=>True) sto ae/\match goP rs 6000 n [] with
   | .inl (p,n')=>Df cR k rs n' ae/\n'<=5000/\n<n'/\m8 cR cN [.obj k] sto=some (.inl p,ae)
   | .inr m=>m8 cR cN [.obj k] sto=some (.inr (.int (m:Int)),ae):=by
 obtain ⟨ae,a',b',c',bI,pz,r⟩:=V0 (cN:=cN) hp 6000 n [] sto none none none hn (by omega) hk ⟨fun f hf=>(nomatch hf),List.nodup_nil⟩ (fun f hf=>(nomatch hf));refine ⟨ae,⟨pz.len,fun i hi cT _=>pz.eq i hi cT fun g hg=>(nomatch hg)⟩,?_⟩;have A:lx (sNew 1 (j5 (fun l=>some (.lst l)) cu)) ⟨[some (.obj k,false),none,none,none,none],sto⟩=some (.inl .next,nS k (opL []) none none none sto):=xl (yn rfl rfl);rw [show erase ([]:List (Fi × List T))=[] from rfl] at r;split at r
 ·rename_i p n' eg;exact ⟨r.1,r.2.1,r.2.2.1,Cg (xq A r.2.2.2) rfl⟩
 ·rename_i m eg;exact p8 (xq A r) rfl
end K
end
section
namespace K
open C PySem
variable {cR cN k:Nat} {rs:List Str}
structure Ptx (x:Str):Prop where
 pl:∀ c∈cs x,c<128
 lt:(cs x).length<lim
theorem Ptx.okS {x:Str} (h:Ptx x):okS x:=by
 unfold C.okS PyData.canLay0 PyData.strOk;rw [<- Array.all_toList,List.all_eq_true];intro c hc;have:=h.pl c hc;simp only [decide_eq_true_eq];omega
theorem Ptx.len {x:Str} (h:Ptx x):x.length<lim:=by rw [uo]; exact h.lt
def rowsOf (x:Str):List Str:=if x == "" then [] else wk 10 x
noncomputable def goR (rs:List Str):Nat->Nat->List T->List T ⊕ Nat
 | 0,n,_=>.inr (n+1)
 | fu+1,n,acc=>if n<rs.length then (if has rs n=true then (match qt (ws (row rs n)) with
   | none=>.inr (n+1)
   | some d=>match goP rs 6000 (n+1) [] with
    | .inl (p,n')=>goR rs fu n' (acc++[.tup [d,p]])
    | .inr m=>.inr m)
   else .inr (n+1)) else .inl acc
theorem a9t {x:S} {n:Nat} {A:List T} {z0 z:List SO} {s1:Sta} (h:x ⟨A.map (fun t=>some (t,false))++List.replicate (n - A.length) none,z0⟩=some (.next,s1)) (h2:s1.sto=z):zp n x A z0=some (.non,z):=by
 unfold zp; rw [h]; dsimp only; rw [h2]
theorem init {x:Str} (h:Ptx x) {sto:List SO}:u6 cR cN [.obj sto.length,.str x] (sto++[.ins cR []])=some (.non,sto++[.ins cR (rdF (rowsOf x) 0)]):=by
 have eG:∀ fs:List (Str × T),(sto++[SO.ins cR fs])[sto.length]? = some (.ins cR fs):=fun fs=>by
  rw [List.getElem?_append_right (Nat.le_refl _),Nat.sub_self]; rfl
 have cI:∀ a b:SO,(sto++[a]).set sto.length b=sto++[b]:=fun a b=>by
  rw [List.set_append_right _ _ (Nat.le_refl _),Nat.sub_self]; rfl
 have t:dg (mOp eqO (bf 1) (ak (.str ""))) ⟨[some (.obj sto.length,false),some (.str x,false)],sto++[.ins cR []]⟩=some (x == "",⟨[some (.obj sto.length,false),some (.str x,false)],sto++[.ins cR []]⟩):=zt (zo rfl rfl (pq h.okS (by unfold C.okS; decide +kernel)))
 have I:mIf (dg (mOp eqO (bf 1) (ak (.str "")))) (j5 (fun l=>some (.lst l)) cu) (mOp Ag (bf 1) (ak (.str "\n"))) ⟨[some (.obj sto.length,false),some (.str x,false)],sto++[.ins cR []]⟩=some (.lst ((rowsOf x).map .str),⟨[some (.obj sto.length,false),some (.str x,false)],sto++[.ins cR []]⟩):=by
  unfold rowsOf;cases e:(x == "") with
  | true=>rw [e] at t; exact a8f t rfl
  | false=>rw [e] at t; exact a4y t (zo rfl rfl (Fj Zi h.len))
 have A:=Xh (cR:=cR) (k:=sto.length) (f := "rows") (o:=bf 0) (fs:=[]) I (show bf 0 ⟨[some (.obj sto.length,false),some (.str x,false)],sto++[.ins cR []]⟩=some (.obj sto.length,⟨[some (.obj sto.length,false),some (.str x,false)],sto++[.ins cR []]⟩) from rfl) (eG []) (by decide);dsimp only at A;rw [cI] at A;have B:=Xh (cR:=cR) (k:=sto.length) (f := "number") (o:=bf 0) (v:=ak (.int 0)) (s:=⟨[some (.obj sto.length,false),some (.str x,false)],sto++[.ins cR (Z1 "rows" (.lst ((rowsOf x).map .str)) [])]⟩) (fs:=Z1 "rows" (.lst ((rowsOf x).map .str)) []) rfl rfl (eG _) (show 1<100 by decide);dsimp only at B;rw [cI] at B;have S:qe (yh cR "rows" (bf 0) (mIf (dg (mOp eqO (bf 1) (ak (.str "")))) (j5 (fun l=>some (.lst l)) cu) (mOp Ag (bf 1) (ak (.str "\n"))))) (yh cR "number" (bf 0) (ak (.int 0))) ⟨[some (.obj sto.length,false),some (.str x,false)],sto++[.ins cR []]⟩=some (.next,⟨[some (.obj sto.length,false),some (.str x,false)],sto++[.ins cR (rdF (rowsOf x) 0)]⟩):=zq A B;exact a9t S rfl
abbrev rS (k:Nat) (x:Str) (acc:List T) (d:C.Slot) (sto:List SO):Sta:=⟨[some (.str x,false),some (.obj k,false),some (.lst acc,true),d],sto⟩
abbrev rpC (cR:Nat):M Bool:=dg (mOp ltT (J5 cR "number" (bf 1)) (j5 vf (ao (J5 cR "rows" (bf 1)) cu)))
abbrev rpB (cR cN:Nat):SX:=vq (Iv 3 (ig (Ah cR cN) (ao (bf 1) cu)))
 (Cm 2 (wz (fun l=>some (.tup l)) (gj (Di (bf 3)) (gj (ig (m8 cR cN) (ao (bf 1) cu)) n6))))
theorem Wt {x:Str} (hp:Prs rs):∀ (fu n:Nat) (acc:List T) (sto:List SO) (d:C.Slot),n<=5000->5001<=n+fu->Df cR k rs n sto->acc.length<=n ->
  ∃ ae d',Pz k (fun _=>True) sto ae/\match goR rs fu n acc with
   | .inl l=>m7 fu (rpC cR) (rpB cR cN) (rS k x acc d sto)=some (.inl .next,rS k x l d' ae)
   | .inr m=>∃ s',m7 fu (rpC cR) (rpB cR cN) (rS k x acc d sto)=some (.inr (.int (m:Int)),s')/\s'.sto=ae
 | 0,n,_,_,_,h1,h2,_,_=>absurd h2 (by omega)
 | fu+1,n,acc,sto,d,h1,h2,hk,hN=>by
  have c:rpC cR (rS k x acc d sto)=some (decide (n<rs.length),rS k x acc d sto):=by
   refine zt (zo (fld rfl hk a0a) (zm (zc (fld rfl hk a1p) rfl) Uk) ?_);show some (T.bl (decide ((n:Int)<(rs.length:Int))))=_;congr 2;rw [Bool.eq_iff_iff,decide_eq_true_eq,decide_eq_true_eq];omega
  rw [goR]
  by_cases z:n<rs.length
  ·rw [decide_eq_true z] at c;rw [if_pos z];have D:=a1z (cN:=cN) hp hk;have hu:Df cR k rs (n+1) (up cR k rs (n+1) sto):=hk.up;have X:ig (Ah cR cN) (ao (bf 1) cu) (rS k x acc d sto)=some (if has rs n=true then a2l (n+1) (qt (ws (row rs n))) else .inr (.int ((n+1:Nat):Int)),rS k x acc d (up cR k rs (n+1) sto)):=xmc (s1:=rS k x acc d sto) (zc rfl rfl) D;cases e:has rs n with
   | false =>
    rw [e,if_neg (by decide)] at X;rw [if_neg (by decide)];exact ⟨_,d,.up,_,wxr c (xqr (xsr X)),rfl⟩
   | true =>
    rw [e,if_pos rfl] at X;rw [if_pos rfl]
    have n1:n+1<=5000:=by
     unfold has at e;rw [Bool.and_eq_true,decide_eq_true_eq,decide_eq_true_eq] at e;omega
    cases e1:qt (ws (row rs n)) with
    | none =>
     rw [e1] at X;exact ⟨_,d,.up,_,wxr c (xqr (xsr X)),rfl⟩
    | some dt =>
     rw [e1] at X;dsimp only;have b9:Pz k (fun _=>True) sto (up cR k rs (n+1) sto):=.up;generalize up cR k rs (n+1) sto=w at X hu b9;have A:Iv 3 (ig (Ah cR cN) (ao (bf 1) cu)) (rS k x acc d sto)=some (.inl .next,rS k x acc (some (dt,false)) w):=xst X rfl;obtain ⟨ae,b7,r⟩:=Rz (cN:=cN) hp n1 hu;split at r
     ·rename_i p n' eg;try rw [eg]
      try dsimp only
      obtain ⟨r1,r2,r3,r4⟩:=r;have P:ig (m8 cR cN) (ao (bf 1) cu) (rS k x acc (some (dt,false)) w)=some (.inl p,rS k x acc (some (dt,false)) ae):=xmc (s1:=rS k x acc (some (dt,false)) w) (zc rfl rfl) r4
      have Q:Cm 2 (wz (fun l=>some (.tup l)) (gj (Di (bf 3)) (gj (ig (m8 cR cN) (ao (bf 1) cu)) n6))) (rS k x acc (some (dt,false)) w)=some (.inl .next,rS k x (acc++[.tup [dt,p]]) (some (dt,false)) ae):=by
       unfold Cm;rw [if_pos (show Aj 2 (rS k x acc (some (dt,false)) w)=true from rfl),xtu (xcs (xup (s1:=rS k x acc (some (dt,false)) w) rfl) (xcs P rfl))];dsimp only;rw [show (rS k x acc (some (dt,false)) ae).env[2]? = some (some (.lst acc,true)) from rfl];dsimp only;rw [if_pos (show acc.length<1000000 by omega)];rfl
      obtain ⟨sto2,d2,pz2,q⟩:=Wt hp fu n' (acc++[.tup [dt,p]]) ae (some (dt,false)) r2 (by omega) r1 (by rw [List.length_append,List.length_singleton]; omega);refine ⟨sto2,d2,(b9.trans b7).trans pz2,?_⟩;have S:∀ q,m7 fu (rpC cR) (rpB cR cN) (rS k x (acc++[.tup [dt,p]]) (some (dt,false)) ae)=q->m7 (fu+1) (rpC cR) (rpB cR cN) (rS k x acc d sto)=q:=fun q w=>wxt c (xq A Q) w;split at q
      ·exact S _ q
      ·obtain ⟨s',q1,q2⟩:=q;exact ⟨s',S _ q1,q2⟩
     ·rename_i m eg;try rw [eg]
      try dsimp only
      have P:ig (m8 cR cN) (ao (bf 1) cu) (rS k x acc (some (dt,false)) w)=some (.inr (.int (m:Int)),rS k x acc (some (dt,false)) ae):=xmc (s1:=rS k x acc (some (dt,false)) w) (zc rfl rfl) r
      have Q:Cm 2 (wz (fun l=>some (.tup l)) (gj (Di (bf 3)) (gj (ig (m8 cR cN) (ao (bf 1) cu)) n6))) (rS k x acc (some (dt,false)) w)=some (.inr (.int (m:Int)),rS k x acc (some (dt,false)) ae):=by
       unfold Cm;rw [if_pos (show Aj 2 (rS k x acc (some (dt,false)) w)=true from rfl),xtr (Kv (xup (s1:=rS k x acc (some (dt,false)) w) rfl) (Sx P))]
      exact ⟨_,d,b9.trans b7,_,wxr c (xq A Q),rfl⟩
  ·rw [decide_eq_false z] at c;rw [if_neg z];exact ⟨sto,d,⟨Nat.le_refl _,fun _ _ _ _=>rfl⟩,wxf c⟩
def Cp (x:Str):List T ⊕ Nat:=goR (rowsOf x) 6000 0 []
theorem Iu {x:Str} (h:Ptx x) (hp:Prs (rowsOf x)) {sto:List SO}:∃ ae,sto.length<=ae.length/\(∀ i,i<sto.length->ae[i]? = sto[i]?)/\match Cp x with
   | .inl l=>qy cR cN [.str x] sto=some (.inl (.lst l),ae)
   | .inr m=>qy cR cN [.str x] sto=some (.inr (.int (m:Int)),ae):=by
 have M:Pb cR (u6 cR cN) (ao (bf 0) cu) ⟨[some (.str x,false),none,none,none],sto⟩=some (.obj sto.length,⟨[some (.str x,false),none,none,none],sto++[.ins cR (rdF (rowsOf x) 0)]⟩):=by
  unfold Pb;rw [show ao (bf 0) cu ⟨[some (.str x,false),none,none,none],sto⟩=some ([.str x],⟨[some (.str x,false),none,none,none],sto⟩) from rfl];dsimp only;rw [init h]
 have A:lx (ou 1 (Pb cR (u6 cR cN) (ao (bf 0) cu))) ⟨[some (.str x,false),none,none,none],sto⟩=some (.inl .next,⟨[some (.str x,false),some (.obj sto.length,false),none,none],sto++[.ins cR (rdF (rowsOf x) 0)]⟩):=xl (ys M rfl);have B:lx (sNew 2 (j5 (fun l=>some (.lst l)) cu)) ⟨[some (.str x,false),some (.obj sto.length,false),none,none],sto++[.ins cR (rdF (rowsOf x) 0)]⟩=some (.inl .next,rS sto.length x [] none (sto++[.ins cR (rdF (rowsOf x) 0)])):=xl (yn rfl rfl)
 have hk:Df cR sto.length (rowsOf x) 0 (sto++[.ins cR (rdF (rowsOf x) 0)]):=by
  show (sto++[SO.ins cR (rdF (rowsOf x) 0)])[sto.length]? = _;rw [List.getElem?_append_right (Nat.le_refl _),Nat.sub_self]; rfl
 obtain ⟨ae,d',pz,r⟩:=Wt (cN:=cN) (x:=x) hp 6000 0 [] _ none (Nat.zero_le _) (by omega) hk (Nat.le_refl _);have ll:(sto++[SO.ins cR (rdF (rowsOf x) 0)]).length=sto.length+1:=by rw [List.length_append]; rfl
 refine ⟨ae,by have:=pz.len; omega,fun i hi=>by rw [pz.eq i (by omega) (by omega) trivial,List.getElem?_append_left hi],?_⟩;unfold Cp;split at r
 ·exact Cg (xq A (xq B (xq r (xl (zr rfl))))) rfl
 ·obtain ⟨s',r1,r2⟩:=r;exact p8 (xq A (xq B (xqr r1))) r2
end K
end
section
namespace K
open C PySem
inductive Ms where
 | idle (acc:List T)
 | on (acc:List T) (d:T) (st:List Fr)
noncomputable def stepM:Ms->Str->Option Ms
 | .idle acc,r=>(qt (ws r)).map fun d=>.on acc d []
 | .on acc d st,r=>match qj (ws r) with
  | none=>none
  | some h=>if st.length<90 then (match close (h,[]) st with
    | .inl p=>some (.idle (acc++[.tup [d,p]]))
    | .inr aa=>some (.on acc d aa))
   else none
noncomputable def runM:Ms->List Str->Ms ⊕ Nat
 | s,[]=>.inl s
 | s,r::l=>match stepM s r with
  | none=>.inr 0
  | some s'=>match runM s' l with
   | .inl z=>.inl z
   | .inr i=>.inr (i+1)
theorem Jy:∀ (a b:List Str) (s:Ms),runM s (a++b)=(match runM s a with
  | .inl s'=>(match runM s' b with
   | .inl z=>.inl z
   | .inr i=>.inr (a.length+i))
  | .inr i=>.inr i)
 | [],b,s=>by
  simp only [List.nil_append,runM];cases runM s b with
  | inl z=>rfl
  | inr i=>simp
 | r::a,b,s=>by
  rw [List.cons_append,runM,runM];cases stepM s r with
  | none=>rfl
  | some s' =>
   dsimp only;rw [Jy a b s'];cases runM s' a with
   | inl z =>
    dsimp only;cases runM z b with
    | inl y=>rfl
    | inr i=>simp only [List.length_cons]; congr 1; omega
   | inr i=>rfl
theorem Qj {rs l:List Str} {r:Str} {n:Nat} (h:rs.drop n=r::l):row rs n=r/\rs.drop (n+1)=l/\n<rs.length:=by
 have hn:n<rs.length:=by
  rcases Nat.lt_or_ge n rs.length with z | z
  ·exact z
  ·rw [List.drop_eq_nil_of_le z] at h; cases h
 rw [List.drop_eq_getElem_cons hn] at h;injection h with h1 h2;exact ⟨by unfold row; rw [List.getD_eq_getElem?_getD,List.getElem?_eq_getElem hn]; exact h1,h2,hn⟩
theorem has_lt {rs:List Str} {n:Nat} (h5:rs.length<=5000):has rs n=decide (n<rs.length):=by
 unfold has;rw [Bool.eq_iff_iff,Bool.and_eq_true,decide_eq_true_eq,decide_eq_true_eq];omega
theorem X3 {rs:List Str} (h5:rs.length<=5000) {acc:List T} {d:T}:∀ (l:List Str) (n fu:Nat) (st:List Fr),rs.drop n=l->n<=rs.length->l.length<fu ->
  (match goP rs fu n st with
   | .inl (p,n')=>n<n'/\n'<=rs.length/\runM (.on acc d st) l=(match runM (.idle (acc++[.tup [d,p]])) (rs.drop n') with
     | .inl z=>.inl z
     | .inr i=>.inr (n' - n+i))
   | .inr m=>(∃ s,runM (.on acc d st) l=.inl s/\(∀ a,s≠.idle a)/\m=rs.length+1)\/(∃ i,runM (.on acc d st) l=.inr i/\m=n+i+1))
 | [],n,fu,st,h,hn,hf=>by
  cases fu with
  | zero=>cases hf
  | succ fu =>
   have hl:¬ n<rs.length:=fun z=>by rw [List.drop_eq_getElem_cons z] at h; cases h
   rw [goP,has_lt h5,decide_eq_false hl,if_neg (by decide)];exact .inl ⟨_,rfl,fun a z=>(nomatch z),by omega⟩
 | r::l,n,fu,st,h,hn,hf=>by
  cases fu with
  | zero=>cases hf
  | succ fu =>
   obtain ⟨h1,h2,h3⟩:=Qj h;rw [goP,has_lt h5,decide_eq_true h3,if_pos rfl,h1,runM,stepM];cases qj (ws r) with
   | none=>exact .inr ⟨0,rfl,rfl⟩
   | some x =>
    dsimp only
    by_cases z:st.length<90
    ·rw [if_pos z,if_pos z];cases close (x,[]) st with
     | inl p =>
      dsimp only;refine ⟨Nat.lt_succ_self n,h3,?_⟩;rw [h2];cases runM (.idle (acc++[.tup [d,p]])) l with
      | inl z=>rfl
      | inr i=>dsimp only; congr 1; omega
     | inr aa =>
      dsimp only;have ih:=X3 h5 (acc:=acc) (d:=d) l (n+1) fu aa h2 h3 (by rw [List.length_cons] at hf; omega);generalize goP rs fu (n+1) aa=g at ih
      match g,ih with
      | .inl (p,n'),⟨a1,a2,a3⟩ =>
       refine ⟨by omega,a2,?_⟩;rw [a3];cases runM (.idle (acc++[.tup [d,p]])) (rs.drop n') with
       | inl z=>rfl
       | inr i=>dsimp only; congr 1; omega
      | .inr m,.inl ⟨s,a1,a2,a3⟩=>exact .inl ⟨s,by rw [a1],a2,a3⟩
      | .inr m,.inr ⟨i,a1,a2⟩=>exact .inr ⟨i+1,by rw [a1],by omega⟩
    ·rw [if_neg z,if_neg z];exact .inr ⟨0,rfl,rfl⟩
theorem Vl {rs:List Str} (h5:rs.length<=5000):∀ (fu n:Nat) (acc:List T),n<=rs.length->(rs.drop n).length<fu ->
  goR rs fu n acc=(match runM (.idle acc) (rs.drop n) with
   | .inl (.idle a)=>.inl a
   | .inl (.on _ _ _)=>.inr (rs.length+1)
   | .inr i=>.inr (n+i+1))
 | 0,n,acc,_,hf=>by cases hf
 | fu+1,n,acc,hn,hf=>by
  rw [goR];cases h:rs.drop n with
  | nil =>
   have hl:¬ n<rs.length:=fun z=>by rw [List.drop_eq_getElem_cons z] at h; cases h
   rw [if_neg hl];rfl
  | cons r l =>
   obtain ⟨h1,h2,h3⟩:=Qj h;rw [if_pos h3,has_lt h5,decide_eq_true h3,if_pos rfl,h1,runM,stepM];cases qt (ws r) with
   | none=>rfl
   | some d =>
    dsimp only [Option.map_some]
    have q:=X3 h5 (acc:=acc) (d:=d) l (n+1) 6000 [] h2 h3 (by
     have:l.length+1=rs.length - n:=by rw [<- List.length_drop,h,List.length_cons]
     omega)
    generalize goP rs 6000 (n+1) []=g at q
    match g,q with
    | .inl (p,n'),⟨a1,a2,a3⟩ =>
     dsimp only;rw [Vl h5 fu n' (acc++[T.tup [d,p]]) a2 (by rw [List.length_drop] at hf ⊢; omega),a3];cases runM (.idle (acc++[.tup [d,p]])) (rs.drop n') with
     | inl z=>cases z <;> rfl
     | inr i=>dsimp only; congr 1; omega
    | .inr m,.inl ⟨s,a1,a2,a3⟩ =>
     dsimp only;rw [a1];cases s with
     | idle a=>exact absurd rfl (a2 a)
     | on a b c=>rw [a3]
    | .inr m,.inr ⟨i,a1,a2⟩ =>
     dsimp only;rw [a1,a2];dsimp only;congr 1;omega
theorem Mz {x:Str} (h5:(rowsOf x).length<=5000):Cp x=(match runM (.idle []) (rowsOf x) with
   | .inl (.idle a)=>.inl a
   | .inl (.on _ _ _)=>.inr ((rowsOf x).length+1)
   | .inr i=>.inr (i+1)):=by
 unfold Cp;rw [Vl h5 6000 0 [] (Nat.zero_le _) (by rw [List.drop_zero]; omega),List.drop_zero];cases runM (.idle []) (rowsOf x) with
 | inl z=>cases z <;> rfl
 | inr i=>dsimp only; congr 1; omega
end K
end
section
namespace K
open C PySem PySem.W PySem.NumText
def num (i:Int):Str:=Str.ofString (toString i)
theorem Hv {m:Nat} (h:10<=m):Nat.toDigits 10 m=Nat.toDigits 10 (m / 10)++[Nat.digitChar (m%10)]:=by
 have hm:m%10<10:=Nat.mod_lt m (by decide);have t:Nat.toDigits 10 (m / 10)++Nat.toDigits 10 (m%10)=Nat.toDigits 10 (10 * (m / 10)+m%10):=Nat.toDigits_append_toDigits (by decide) (by omega) hm;rw [Nat.div_add_mod,Nat.toDigits_of_lt_base hm] at t;exact t.symm
theorem Xi:∀ (k m:Nat),m<10 ^ (k+1)->(Nat.toDigits 10 m).length<=k+1
 | 0,m,h=>by rw [Nat.toDigits_of_lt_base (by simpa using h)]; exact Nat.le_refl _
 | k+1,m,h=>by
  by_cases z:m<10
  ·rw [Nat.toDigits_of_lt_base z]; simp
  ·rw [Hv (by omega),List.length_append,List.length_singleton];have:=Xi k (m / 10) (by rw [Nat.pow_succ] at h; omega);omega
theorem Yg (m:Nat):0<m->∃ c r,Nat.toDigits 10 m=c::r/\c.toNat≠48:=by
 induction m using Nat.strongRecOn with -- here
 | _ m ih =>
  intro h
  by_cases z:m<10
  ·refine ⟨_,_,Nat.toDigits_of_lt_base z,?_⟩
   have:∀ d:Nat,0<d->d<10->(Nat.digitChar d).toNat≠48:=by
    intro d h1 h2;have:d=1\/d=2\/d=3\/d=4\/d=5\/d=6\/d=7\/d=8\/d=9:=by omega
    rcases this with rfl | rfl | rfl | rfl | rfl | rfl | rfl | rfl | rfl <;> decide
   exact this m h z
  ·obtain ⟨c,r,e,hc⟩:=ih (m / 10) (by omega) (by omega);exact ⟨c,_,by rw [Hv (by omega),e]; rfl,hc⟩
theorem Lh (m:Nat):cs (num (m:Int))=(Nat.toDigits 10 m).map Char.toNat:=KIN.signs_num m
theorem Jt (m:Nat):∀ c∈cs (num (m:Int)),Ti c=true:=by
 intro c hc;rw [Lh] at hc;obtain ⟨ch,a9,e⟩:=List.mem_map.mp hc;have r:=PyProof.Rows.digit_range (Nat.isDigit_of_mem_toDigits (by decide) (by decide) a9);subst e;simp only [Ti,Bool.and_eq_true,decide_eq_true_eq];exact r
theorem a6b (m:Nat):cs (num (m:Int))≠[]:=by
 rw [Lh];intro e;have:=List.map_eq_nil_iff.mp e
 by_cases z:m<10
 ·rw [Nat.toDigits_of_lt_base z] at this; cases this
 ·rw [Hv (by omega)] at this;simp at this
theorem a0n (m:Nat):val (num (m:Int))=m:=by
 unfold val;rw [Lh];exact KIN.val_back m
theorem a9e (m:Nat):Ui (num (m:Int))=true:=by
 unfold Ui
 have h1:(cs (num (m:Int))).isEmpty=false:=by
  cases h:cs (num (m:Int)) with
  | nil=>exact absurd h (a6b m)
  | cons a l=>rfl
 have h2:(cs (num (m:Int))).all Ti=true:=List.all_eq_true.mpr (Jt m);rw [h1,h2,Bool.not_false,Bool.true_and,Bool.true_and,Bool.or_eq_true]
 by_cases z:m=0
 ·subst z
  left
  decide +kernel
 ·right
  obtain ⟨c,r,e,hc⟩:=Yg m (by omega);rw [Lh,e];exact decide_eq_true hc
theorem Nv {m k:Nat} (h:m<10 ^ (k+1)):(cs (num (m:Int))).length<=k+1:=by
 rw [Lh,List.length_map];exact Xi k m h
theorem Ni {m:Nat} (h:0<m):cs (num (-(m:Int)))=45::cs (num (m:Int)):=by
 obtain ⟨n,rfl⟩:∃ n,m=n+1:=⟨m - 1,by omega⟩;have e:(-(((n+1:Nat)):Int))=Int.negSucc n:=rfl;rw [e];show (Str.ofString ("-" ++ toString (n+1))).cps.toList=45::(Str.ofString (toString (n+1))).cps.toList;rw [Str.ofString_eq_toList,Str.ofString_eq_toList];show (("-" ++ toString (n+1)).toList.map Char.toNat)=45::((toString (n+1)).toList.map Char.toNat);rw [String.toList_append,List.map_append];rfl
theorem Vr {c:Nat} (h:Ti c=true):48<=c/\c<=57:=by
 unfold Ti at h;rw [Bool.and_eq_true,decide_eq_true_eq,decide_eq_true_eq] at h;exact h
theorem a03 (m:Nat):(cs (num (m:Int))).head?≠some 45:=by
 intro h;have hm:45∈cs (num (m:Int)):=List.mem_of_mem_head? h;have:=Vr (Jt m 45 hm);omega
def okN (m:Nat):Prop:=(cs (num (m:Int))).length<=400
theorem a6a {m k:Nat} (h:m<10 ^ (k+1)) (hk:k<400):okN m:=Nat.le_trans (Nv h) (by omega)
theorem uz {m:Nat} {l:Int} (h:okN m) (hl:l<=(m:Int)):pNum (num (m:Int)) l=some (m:Int):=by
 unfold pNum;rw [a9e,a0n,decide_eq_true hl,decide_eq_true (show (cs (num (m:Int))).length<=400 from h)];rfl
theorem a07 {m:Nat} (h:okN m):Ng (num (m:Int))=some (m:Int):=by
 unfold Ng;rw [if_neg (a03 m),uz h (by omega)]
theorem Zn {m:Nat} (h0:0<m) (h:okN m):Ng (num (-(m:Int)))=some (-(m:Int)):=by
 have e:=Ni h0;unfold Ng;rw [e];rw [if_pos (show (45::cs (num (m:Int))).head? = some 45 from rfl)];have e2:st (List.drop 1 (45::cs (num (m:Int))))=num (m:Int):=Fw _;rw [e2,uz h (by omega)];rfl
theorem Qe {i:Int} (h:okN i.natAbs):Ng (num i)=some i:=by
 rcases Int.lt_or_le i 0 with z | z
 ·obtain ⟨m,rfl⟩:∃ m:Nat,i = -(m:Int):=⟨i.natAbs,by omega⟩;rw [Int.natAbs_neg,Int.natAbs_natCast] at h;exact Zn (by omega) h
 ·obtain ⟨m,rfl⟩:∃ m:Nat,i=(m:Int):=⟨i.natAbs,by omega⟩;rw [Int.natAbs_natCast] at h;exact a07 h
theorem M9 {i:Int}:∀ c∈cs (num i),c=45\/(48<=c/\c<=57):=by
 intro c hc;rcases Int.lt_or_le i 0 with z | z
 ·obtain ⟨m,hm,rfl⟩:∃ m:Nat,0<m/\i = -(m:Int):=⟨i.natAbs,by omega,by omega⟩;rw [Ni hm] at hc;rcases List.mem_cons.mp hc with rfl | hc
  ·exact .inl rfl
  ·exact .inr (Vr (Jt m c hc))
 ·obtain ⟨m,rfl⟩:∃ m:Nat,i=(m:Int):=⟨i.natAbs,by omega⟩;exact .inr (Vr (Jt m c hc))
theorem X8 {i:Int} (h:Jw i=true):Gh [.int i]=some (.str (num i)):=if_pos h
end K
end
section
namespace K
open C PySem
noncomputable def fd (acc:List T) (d p:T):List Fr->Ms
 | []=>.idle (acc++[T.tup [d,p]])
 | g::r=>match close (g.1,g.2++[p]) r with
  | .inl q=>.idle (acc++[T.tup [d,q]])
  | .inr st=>.on acc d st
theorem El {acc:List T} {d:T} {f:Fr} {st:List Fr} (h:(f.2.length:Int)=many f.1):(match close f st with
  | .inl q=>Ms.idle (acc++[T.tup [d,q]])
  | .inr st=>.on acc d st)=fd acc d (qp f.1 f.2) st:=by
 cases st with
 | nil=>rw [Ek h]; rfl
 | cons g r=>rw [Hy h]; rfl
def Pap (e:Nat) (l:List Str) (p:T):Prop:=∀ acc d st,st.length+e<=90->runM (.on acc d st) l=.inl (fd acc d p st)
theorem Pap.mono {e e':Nat} {l:List Str} {p:T} (h:Pap e l p) (he:e<=e'):Pap e' l p:=fun acc d st q=>h acc d st (by omega)
theorem uf {a b:List Str} {s s':Ms} (h:runM s a=.inl s'):runM s (a++b)=(match runM s' b with
   | .inl z=>.inl z
   | .inr i=>.inr (a.length+i)):=by
 rw [Jy,h]
 try (dsimp only;cases runM s' b <;> rfl)
theorem Al {r:Str} {x:Hd} (hx:qj (ws r)=some x) {acc:List T} {d:T} {st:List Fr} (hs:st.length<90):stepM (.on acc d st) r=some (match close (x,[]) st with
  | .inl q=>Ms.idle (acc++[T.tup [d,q]])
  | .inr st=>.on acc d st):=by
 rw [stepM,hx];dsimp only;rw [if_pos hs];cases close (x,[]) st <;> rfl
theorem Bf {s s':Ms} {r:Str} (h:stepM s r=some s'):runM s [r]=.inl s':=by
 rw [runM,h]; rfl
theorem R9 {r:Str} {x:Hd} (hx:qj (ws r)=some x) (hm:many x=0):Pap 1 [r] (qp x []):=by
 intro acc d st hs;rw [Bf (Al hx (by omega))];rw [El (f:=(x,[])) (by rw [hm]; rfl)]
theorem fill {e:Nat} {x:Hd} {acc:List T} {d:T} {st:List Fr} (hs:st.length+1+e<=90):∀ (q:List Str × T) (cs:List (List Str × T)) (c:List T),(∀ y∈q::cs,Pap e y.1 y.2)->((c.length+(q::cs).length:Nat):Int)=many x ->
  runM (.on acc d ((x,c)::st)) ((q::cs).flatMap (·.1))=.inl (fd acc d (qp x (c++(q::cs).map (·.2))) st)
 | q,[],c,h,hm=>by
  have h1:=h q List.mem_cons_self acc d ((x,c)::st) (by rw [List.length_cons]; omega);rw [List.flatMap_cons,List.flatMap_nil,List.append_nil,h1];congr 1
  show (match close (x,c++[q.2]) st with
   | .inl q=>Ms.idle (acc++[T.tup [d,q]])
   | .inr st=>.on acc d st)=_
  rw [El (f:=(x,c++[q.2])) (by rw [<- hm]; simp)];rfl
 | q,y::cs,c,h,hm=>by
  have h1:=h q List.mem_cons_self acc d ((x,c)::st) (by rw [List.length_cons]; omega)
  have no:¬ (((c++[q.2]).length:Nat):Int)=many x:=by
   rw [<- hm];simp only [List.length_append,List.length_cons,List.length_nil];omega
  have f1:fd acc d q.2 ((x,c)::st)=.on acc d ((x,c++[q.2])::st):=by
   show (match close (x,c++[q.2]) st with
    | .inl q=>Ms.idle (acc++[T.tup [d,q]])
    | .inr st=>.on acc d st)=_
   rw [Fo (f:=(x,c++[q.2])) no]
  have ih:=fill (acc:=acc) (d:=d) hs y cs (c++[q.2]) (fun z hz=>h z (List.mem_cons_of_mem _ hz)) (by
   rw [<- hm];simp only [List.length_append,List.length_cons,List.length_nil];omega)
  rw [List.flatMap_cons,uf h1,f1,ih];dsimp only;rw [List.append_assoc];rfl
theorem Qd {e:Nat} {r:Str} {x:Hd} (hx:qj (ws r)=some x) {cs:List (List Str × T)} (h:∀ y∈cs,Pap e y.1 y.2) (hm:(cs.length:Int)=many x):Pap (e+1) (r::cs.flatMap (·.1)) (qp x (cs.map (·.2))):=by
 intro acc d st hs;have s1:=Al hx (acc:=acc) (d:=d) (st:=st) (by omega);show runM _ ([r]++cs.flatMap (·.1))=_;cases cs with
 | nil =>
  rw [El (f:=(x,[])) hm] at s1;rw [List.flatMap_nil,List.append_nil,Bf s1];rfl
 | cons q cs =>
  have no:¬ ((([]:List T).length:Nat):Int)=many x:=by
   rw [<- hm,List.length_cons,List.length_nil]; omega
  rw [Fo (f:=(x,[])) no] at s1;rw [uf (Bf s1),fill (by omega) q cs [] h (by rw [<- hm]; simp)];rfl
theorem a0c {r:Str} {d p:T} {l:List Str} {acc:List T} {e:Nat} (hd:qt (ws r)=some d) (hp:Pap e l p) (he:e<=90):runM (.idle acc) (r::l)=.inl (.idle (acc++[T.tup [d,p]])):=by
 have s1:stepM (.idle acc) r=some (.on acc d []):=by rw [stepM,hd]; rfl
 show runM _ ([r]++l)=_;rw [uf (Bf s1),hp acc d [] (by simpa using he)];rfl
theorem Ac {a b:Str} (h:cs a=cs b):a=b:=by rw [<- Fw a,<- Fw b,h]
theorem jc (a b:Str):cs (a++b)=cs a++cs b:=Nk a b
theorem a9b:(" " : Str)=⟨#[32]⟩:=Ac a6q
theorem a8s:("\n" : Str)=⟨#[10]⟩:=Ac Zi
theorem a90:("," : Str)=⟨#[44]⟩:=Ac a4n
theorem Fz {l:List Str} (h:l≠[]) (hs:∀ w∈l,32∉cs w):ws (Str.join " " l)=l:=by
 unfold ws wk;rw [a9b];exact Fg h hs
theorem Xx {l:List Str} (h:l≠[]) (hs:∀ w∈l,10∉cs w):wk 10 (Str.join "\n" l)=l:=by
 unfold wk;rw [a8s];exact Fg h hs
theorem a2y {l:List Str} (h:l≠[]) (hs:∀ w∈l,44∉cs w):wk 44 (Str.join "," l)=l:=by
 unfold wk;rw [a90];exact Fg h hs
theorem a0s {a b:Str} (ha:42∉cs a) (hb:42∉cs b):wk 42 (a ++ "*" ++ b)=[a,b]:=by
 unfold wk;have sa:Kr (cs a)=a:=Fw a;have sb:Kr (cs b)=b:=Fw b;rw [jc,jc,Km,List.append_assoc,List.singleton_append,G4 ha,Gi hb,List.map_cons,List.map_cons,List.map_nil,sa,sb]
theorem Ak {i:Int} {c:Nat} (hc:c=32\/c=42\/c=44\/c=10):c∉cs (num i):=fun h=>by
 rcases M9 c h with e | ⟨e1,e2⟩ <;> omega
theorem mem_join {sep:Str} {c:Nat}:∀ {l:List Str},c∈cs (Str.join sep l)->c∈cs sep\/∃ w∈l,c∈cs w
 | [],h=>by rw [Str.join] at h; cases h
 | [x],h=>by rw [Str.join] at h; exact .inr ⟨x,List.mem_cons_self,h⟩
 | x::y::r,h=>by
  rw [Str.join] at h
  ·rw [jc,jc,List.mem_append,List.mem_append] at h;rcases h with (h | h) | h
   ·exact .inr ⟨x,List.mem_cons_self,h⟩
   ·exact .inl h
   ·rcases mem_join h with h | ⟨w,hw,h⟩
    ·exact .inl h
    ·exact .inr ⟨w,List.mem_cons_of_mem _ hw,h⟩
  all_goals simp
def plS (ps:List Nat):Str:=Str.join "," (ps.map fun p:Nat=>num (p:Int))
def wdS (ps:List Nat) (t:Int):Str:=plS ps ++ "*" ++ num t
theorem a6x {ps:List Nat} {c:Nat} (hc:c=32\/c=42\/c=10):c∉cs (plS ps):=fun h=>by
 rcases mem_join h with h | ⟨w,hw,h⟩
 ·rw [a4n,List.mem_singleton] at h; omega
 ·obtain ⟨p,_,rfl⟩:=List.mem_map.mp hw;exact Ak (by omega) h
theorem a92 {ps:List Nat} {t:Int} {c:Nat} (hc:c=32\/c=10):c∉cs (wdS ps t):=fun h=>by
 unfold wdS at h;rw [jc,jc,Km,List.mem_append,List.mem_append,List.mem_singleton] at h;rcases h with (h | h) | h
 ·exact a6x (by omega) h
 ·omega
 ·exact Ak (by omega) h
theorem Gm {α:Type} {p:Str->Option T} {f:α->Str} {g:α->T}:∀ {l:List α},(∀ x∈l,p (f x)=some (g x))->Ga p (l.map f)=some (l.map g)
 | [],_=>rfl
 | x::l,h=>by
  rw [List.map_cons,Ga,h x List.mem_cons_self];dsimp only;rw [Gm fun y hy=>h y (List.mem_cons_of_mem _ hy)];rfl
theorem a6c {p t:Nat} (hp:okN p) (ht:okN t) (h1:1<=t):uy (wdS [p] (t:Int))=some (.tup [.int (p:Int),.int (t:Int)]):=by
 have e0:wdS [p] (t:Int)=num (p:Int) ++ "*" ++ num (t:Int):=by unfold wdS plS; rw [List.map_cons,List.map_nil,Str.join]
 have e:wk 42 (wdS [p] (t:Int))=[num (p:Int),num (t:Int)]:=by rw [e0]; exact a0s (Ak (by omega)) (Ak (by omega))
 unfold uy;rw [e];dsimp only;rw [uz hp (by omega),uz ht (by omega)]
theorem a4v {ps:List Nat} {t:Int} (hp:∀ p∈ps,okN p) (bH:ps≠[]) (h2:ps.length<=2) (ht:okN t.natAbs) (h0:t≠0):qb (wdS ps t)=some (.tup (ps.map (fun p:Nat=>T.int (p:Int))++[.int t])):=by
 have e:wk 42 (wdS ps t)=[plS ps,num t]:=a0s (a6x (by omega)) (Ak (by omega))
 have e2:wk 44 (plS ps)=ps.map fun p:Nat=>num (p:Int):=a2y (fun z=>bH (List.map_eq_nil_iff.mp z)) (fun w hw=>by
  obtain ⟨p,_,rfl⟩:=List.mem_map.mp hw;exact Ak (by omega))
 have e3:Ga (fun x=>a6h (pNum x 0)) (ps.map fun p:Nat=>num (p:Int))=some (ps.map fun p:Nat=>T.int (p:Int)):=Gm fun p h=>by
  rw [uz (hp p h) (by omega)]; rfl
 unfold qb;rw [e];dsimp only;rw [Qe ht,e2];dsimp only;rw [e3,List.length_map,decide_eq_true h2,decide_eq_true h0];rfl
theorem ab2 {a b:Str} (h:cs a≠cs b):(a==b)=false:=beq_eq_false_iff_ne.mpr fun z=>h (by rw [z])
theorem a4p {i m:Nat} (hi:okN i) (hm:okN m):qj ["or",num (i:Int),num (m:Int)]=some (.orr i m):=by
 have e0:wd ["or",num (i:Int),num (m:Int)] 0 = "or" := rfl;have e1:wd ["or",num (i:Int),num (m:Int)] 1=num (i:Int):=rfl;have e2:wd ["or",num (i:Int),num (m:Int)] 2=num (m:Int):=rfl;unfold qj;rw [e0,e1,e2,beq_self_eq_true,if_pos rfl,if_pos (show ([("or" : Str),num (i:Int),num (m:Int)]).length=3 from rfl),uz hi (by omega),uz hm (by omega)]
theorem Py {b:Str} {v:Int} (hb:Uh b=true) (hv:okN v.natAbs):qj ["cut",b,num v]=some (.cut b v):=by
 have e0:wd ["cut",b,num v] 0 = "cut" := rfl;have e1:wd ["cut",b,num v] 1=b:=rfl;have e2:wd ["cut",b,num v] 2=num v:=rfl;have n1:(("cut" : Str) == "or")=false:=by decide +kernel
 unfold qj;rw [e0,e1,e2,n1,if_neg (by decide),beq_self_eq_true,if_pos rfl,if_pos (show ([("cut" : Str),b,num v]).length=3 from rfl),hb,if_pos rfl,Qe hv];rfl
theorem R8 {α:Type} {l:List α} {f:α->Str} {g:α->T} (h:∀ x∈l,uy (f x)=some (g x)):qj (("sum" : Str)::l.map f)=some (.sum (l.map g)):=by
 have e0:wd (("sum" : Str)::l.map f) 0 = "sum" := rfl;have n1:(("sum" : Str) == "or")=false:=by decide +kernel
 have n2:(("sum" : Str) == "cut")=false:=by decide +kernel
 unfold qj;rw [e0,n1,n2,if_neg (by decide),if_neg (by decide),beq_self_eq_true,if_pos rfl];show (Ga uy (l.map f)).map _=_;rw [Gm h];rfl
theorem Vu {α:Type} {d:Nat} (hd:okN d) (h2:2<=d) {l:List α} {f:α->Str} {g:α->T} (h:∀ x∈l,qb (f x)=some (g x)):qj (("rest" : Str)::num (d:Int)::l.map f)=some (.rest d (l.map g)):=by
 have e0:wd (("rest" : Str)::num (d:Int)::l.map f) 0 = "rest" := rfl;have e1:wd (("rest" : Str)::num (d:Int)::l.map f) 1=num (d:Int):=rfl;have n1:(("rest" : Str) == "or")=false:=by decide +kernel
 have n2:(("rest" : Str) == "cut")=false:=by decide +kernel
 have n3:(("rest" : Str) == "sum")=false:=by decide +kernel
 have n4:decide (2<=(("rest" : Str)::num (d:Int)::l.map f).length)=true:=decide_eq_true (by rw [List.length_cons,List.length_cons]; omega);unfold qj;rw [e0,e1,n1,n2,n3,n4,if_neg (by decide),if_neg (by decide),if_neg (by decide),beq_self_eq_true,if_pos (by rfl),uz hd (by omega)];show (Ga qb (l.map f)).map _=_;rw [Gm h];rfl
theorem Sd {w:Str} (h:nameB w=true):qt ["start",w]=some (.tup [.str "start",.str w]):=by
 have e0:wd ["start",w] 0 = "start" := rfl;have e1:wd ["start",w] 1=w:=rfl;unfold qt;rw [e0,e1,beq_self_eq_true,if_pos rfl,if_pos (show ([("start" : Str),w]).length=2 from rfl),h,if_pos rfl]
theorem Qu {i:Nat} (h:okN i):qt ["own",num (i:Int)]=some (.tup [.str "own",.int (i:Int)]):=by
 have e0:wd ["own",num (i:Int)] 0 = "own" := rfl;have e1:wd ["own",num (i:Int)] 1=num (i:Int):=rfl;have n1:(("own" : Str) == "start")=false:=by decide +kernel
 unfold qt;rw [e0,e1,n1,if_neg (by decide),beq_self_eq_true,if_pos rfl,if_pos (show ([("own" : Str),num (i:Int)]).length=2 from rfl),uz h (by omega)];rfl
theorem Rx {i j:Nat} {w:Str} (hw:nameB w=true) (hi:okN i) (hj:okN j):qt ["other",num (i:Int),w,num (j:Int)]=some (.tup [.str "other",.int (i:Int),.str w,.int (j:Int)]):=by
 have e0:wd ["other",num (i:Int),w,num (j:Int)] 0 = "other" := rfl;have e1:wd ["other",num (i:Int),w,num (j:Int)] 1=num (i:Int):=rfl;have e2:wd ["other",num (i:Int),w,num (j:Int)] 2=w:=rfl;have e3:wd ["other",num (i:Int),w,num (j:Int)] 3=num (j:Int):=rfl;have n1:(("other" : Str) == "start")=false:=by decide +kernel
 have n2:(("other" : Str) == "own")=false:=by decide +kernel
 unfold qt;rw [e0,e1,e2,e3,n1,n2,if_neg (by decide),if_neg (by decide),beq_self_eq_true,if_pos (by rfl),uz hi (by omega)];dsimp only;rw [hw,if_pos rfl,uz hj (by omega)];rfl
structure Ln (r:Str) (n:Nat):Prop where
 pl:∀ c∈cs r,32<=c/\c<128
 le:(cs r).length<=n
theorem Ln.app {a b:Str} {m n:Nat} (ha:Ln a m) (hb:Ln b n):Ln (a++b) (m+n):=⟨fun c hc=>by
  rw [jc,List.mem_append] at hc;rcases hc with h | h
  ·exact ha.pl c h
  ·exact hb.pl c h,by rw [jc,List.length_append]; exact Nat.add_le_add ha.le hb.le⟩
theorem Ln.mono {a:Str} {m n:Nat} (h:Ln a m) (l:m<=n):Ln a n:=⟨h.pl,Nat.le_trans h.le l⟩
theorem Ln.pn {a:Str} {m:Nat} (h:Ln a m) (l:m<1000):Pn a:=⟨fun c hc=>(h.pl c hc).2,Nat.lt_of_le_of_lt h.le l⟩
theorem Ln.no {a:Str} {m:Nat} (h:Ln a m):10∉cs a:=fun z=>by have:=(h.pl 10 z).1; omega
noncomputable def lnB (l:List Nat) (n:Nat):Bool:=l.all (fun c=>decide (32<=c)&&decide (c<128))&&decide (l.length<=n)
theorem a2u {a:Str} {n:Nat} (h:lnB (cs a) n=true):Ln a n:=by
 unfold lnB at h;rw [Bool.and_eq_true,List.all_eq_true,decide_eq_true_eq] at h;refine ⟨fun c hc=>?_,h.2⟩;have:=h.1 c hc;rw [Bool.and_eq_true,decide_eq_true_eq,decide_eq_true_eq] at this;exact this
theorem Wf {i:Int} {k:Nat} (h:i.natAbs<10 ^ (k+1)):Ln (num i) (k+2):=⟨fun c hc=>by
  rcases M9 c hc with rfl | ⟨h1,h2⟩
  ·decide
  ·omega,by
  rcases Int.lt_or_le i 0 with z | z
  ·obtain ⟨m,hm,rfl⟩:∃ m:Nat,0<m/\i = -(m:Int):=⟨i.natAbs,by omega,by omega⟩;rw [Ni hm,List.length_cons];rw [Int.natAbs_neg,Int.natAbs_natCast] at h;have:=Nv h;omega
  ·obtain ⟨m,rfl⟩:∃ m:Nat,i=(m:Int):=⟨i.natAbs,by omega⟩;rw [Int.natAbs_natCast] at h;have:=Nv h;omega⟩
theorem O1 {sep:Str} {s n:Nat} (hs:Ln sep s):∀ {l:List Str},(∀ w∈l,Ln w n)->Ln (Str.join sep l) (l.length * (n+s))
 | [],_=>by rw [Str.join]; exact ⟨fun c hc=>(nomatch hc),Nat.zero_le _⟩
 | [x],h=>by rw [Str.join]; exact (h x List.mem_cons_self).mono (by simp)
 | x::y::r,h=>by
  have ih:=O1 hs (l:=y::r) fun w hw=>h w (List.mem_cons_of_mem _ hw);rw [Str.join]
  ·refine (((h x List.mem_cons_self).app hs).app ih).mono ?_;simp only [List.length_cons,Nat.add_mul,Nat.one_mul];omega
  all_goals simp
abbrev cl2 (a b:Int):SO:=.lst [.int a,.int b]
def RL (j:Nat) (sto:List SO):Prop:=∃ a b:Int,sto[j]? = some (cl2 a b)
theorem Ul {o kk:M T} {s s1 s2:Sta} {j:Nat} {xs:List T} {i:Int} {q:Nat} {t:T} (h:o s=some (.obj j,s1)) (h2:kk s1=some (.int i,s2)) (hs:s2.sto[j]? = some (.lst xs)) (hi:ixI xs.length i=some q) (ht:xs[q]? = some t):nj o kk s=some (t,s2):=by
 unfold nj;rw [h]; dsimp only;rw [h2]; dsimp only;rw [hs]; dsimp only;rw [hi]; dsimp only [Option.bind_some];rw [ht]
theorem a1t {o kk v:M T} {s s0 s1 s2:Sta} {j:Nat} {xs:List T} {i:Int} {q:Nat} {t:T} (hv:v s=some (t,s0)) (h:o s0=some (.obj j,s1)) (h2:kk s1=some (.int i,s2)) (hs:s2.sto[j]? = some (.lst xs)) (hi:ixI xs.length i=some q):Hg o kk v s=some (.next,⟨s2.env,s2.sto.set j (.lst (xs.set q t))⟩):=by
 unfold Hg;rw [hv]; dsimp only;rw [h]; dsimp only;rw [h2]; dsimp only;rw [hs]; dsimp only;rw [hi]
theorem fdv {i j:Int} (h:0<j) (h2:j<1073741824):Kc (.int i) (.int j)=some (.int (i / j)):=if_pos ⟨h,.inl h2⟩
structure Kp (j:Nat) (sto ae:List SO):Prop where
 rl:RL j ae
 len:ae.length=sto.length
 eq:∀ i,i≠j->ae[i]? = sto[i]?
theorem Kp.refl {j:Nat} {sto:List SO} (h:RL j sto):Kp j sto sto:=⟨h,rfl,fun _ _=>rfl⟩
theorem Kp.trans {j:Nat} {a b c:List SO} (h:Kp j a b) (h2:Kp j b c):Kp j a c:=⟨h2.rl,by rw [h2.len,h.len],fun i hi=>by rw [h2.eq i hi,h.eq i hi]⟩
theorem a1d {j:Nat} {sto:List SO} {a b:Int} (h:RL j sto):Kp j sto (sto.set j (cl2 a b)):=by
 obtain ⟨x,y,e⟩:=h;have hl:j<sto.length:=(List.getElem?_eq_some_iff.mp e).1;exact ⟨⟨a,b,List.getElem?_set_self hl⟩,List.length_set ..,fun i hi=>List.getElem?_set_ne (Ne.symm hi)⟩
theorem a2a {j m:Nat} {sto:List SO} (h:RL j sto) (h0:0<m) (hm:m<1073741824):∃ (t:Nat) (ae:List SO),t<m/\Kp j sto ae/\c7 [.obj j,.int (m:Int)] sto=some (.int (t:Int),ae):=by
 obtain ⟨a,b,e⟩:=id h;have hl:j<sto.length:=(List.getElem?_eq_some_iff.mp e).1;have R0:nj (bf 0) (ak (.int 0)) ⟨[some (.obj j,false),some (.int (m:Int),false),none],sto⟩=some (.int a,⟨[some (.obj j,false),some (.int (m:Int),false),none],sto⟩):=Ul rfl rfl e (show ixI 2 _=some _ from rfl) rfl;have R1:nj (bf 0) (ak (.int 1)) ⟨[some (.obj j,false),some (.int (m:Int),false),none],sto⟩=some (.int b,⟨[some (.obj j,false),some (.int (m:Int),false),none],sto⟩):=Ul rfl rfl e (show ixI 2 _=some _ from rfl) rfl;have T1:dg (mOp eqO (nj (bf 0) (ak (.int 0))) (ak (.int 0))) ⟨[some (.obj j,false),some (.int (m:Int),false),none],sto⟩=some (a==0,⟨[some (.obj j,false),some (.int (m:Int),false),none],sto⟩):=zt (zo R0 rfl (by rw [Aa]));have T2:dg (mOp eqO (nj (bf 0) (ak (.int 0))) (mUn Gg (ak (.int 1)))) ⟨[some (.obj j,false),some (.int (m:Int),false),none],sto⟩=some (a == -1,⟨[some (.obj j,false),some (.int (m:Int),false),none],sto⟩):=zt (zo R0 rfl (by rw [Aa]));have mp:(0:Int)<(m:Int):=by omega
 have mx:(m:Int)<1073741824:=by omega
 have lt:∀ x:Int,∃ t:Nat,t<m/\x%(m:Int)=(t:Int):=fun x=>by
  have p0:=Int.emod_nonneg x (show (m:Int)≠0 by omega);have p1:=Int.emod_lt_of_pos x mp;exact ⟨(x%(m:Int)).toNat,by omega,by omega⟩
 cases c:((a==0)||(a == -1)) with
 | true =>
  have C':mOr (dg (mOp eqO (nj (bf 0) (ak (.int 0))) (ak (.int 0)))) (dg (mOp eqO (nj (bf 0) (ak (.int 0))) (mUn Gg (ak (.int 1))))) ⟨[some (.obj j,false),some (.int (m:Int),false),none],sto⟩=some (true,⟨[some (.obj j,false),some (.int (m:Int),false),none],sto⟩):=by
   cases c0:(a==0) with
   | true=>rw [c0] at T1; exact a9n T1
   | false =>
    rw [c0] at T1;rw [c0,Bool.false_or] at c;rw [c] at T2;exact a6y T1 T2
  obtain ⟨t,h1,h2⟩:=lt ((b * 48271+11)%2147483647 * 16807%2147483629 / 5);refine ⟨t,sto.set j (cl2 a ((b * 48271+11)%2147483647)),h1,a1d h,?_⟩;have A:=a1t (o:=bf 0) (kk:=ak (.int 1)) (v:=mOp Mr (mOp jt (mOp a0v (nj (bf 0) (ak (.int 1))) (ak (.int 48271))) (ak (.int 11))) (ak (.int 2147483647))) (s:=⟨[some (.obj j,false),some (.int (m:Int),false),none],sto⟩) (t:=.int ((b * 48271+11)%2147483647)) (zo (zo (zo R1 rfl (mu2 (by decide))) rfl rfl) rfl (md (by decide))) rfl rfl e (show ixI 2 1=some 1 from rfl);have e2:(sto.set j (cl2 a ((b * 48271+11)%2147483647)))[j]? = some (cl2 a ((b * 48271+11)%2147483647)):=List.getElem?_set_self hl;have R2:nj (bf 0) (ak (.int 1)) ⟨[some (.obj j,false),some (.int (m:Int),false),none],sto.set j (cl2 a ((b * 48271+11)%2147483647))⟩=some (.int ((b * 48271+11)%2147483647),⟨[some (.obj j,false),some (.int (m:Int),false),none],sto.set j (cl2 a ((b * 48271+11)%2147483647))⟩):=Ul rfl rfl e2 (show ixI 2 1=some 1 from rfl) rfl;rw [<- h2];exact zrun (zqr (zk C' (zq A (zr (zo (zo (zo (zo R2 rfl (mu2 (by decide))) rfl (md (by decide))) rfl (fdv (by decide) (by decide))) rfl (md mp)))))) rfl
 | false =>
  obtain ⟨c1,c2⟩:=Bool.or_eq_false_iff.mp c;rw [c1] at T1;rw [c2] at T2;obtain ⟨t,h1,h2⟩:=lt a;refine ⟨t,sto.set j (cl2 (a / (m:Int)) b),h1,a1d h,?_⟩;have F:ou 2 (mOp Mr (nj (bf 0) (ak (.int 0))) (bf 1)) ⟨[some (.obj j,false),some (.int (m:Int),false),none],sto⟩=some (.next,⟨[some (.obj j,false),some (.int (m:Int),false),some (.int (t:Int),false)],sto⟩):=ys (zo R0 rfl (by rw [md mp,h2])) rfl;have gf:nj (bf 0) (ak (.int 0)) ⟨[some (.obj j,false),some (.int (m:Int),false),some (.int (t:Int),false)],sto⟩=some (.int a,⟨[some (.obj j,false),some (.int (m:Int),false),some (.int (t:Int),false)],sto⟩):=Ul rfl rfl e (show ixI 2 _=some _ from rfl) rfl;have A:=a1t (o:=bf 0) (kk:=ak (.int 0)) (v:=mOp Kc (nj (bf 0) (ak (.int 0))) (bf 1)) (s:=⟨[some (.obj j,false),some (.int (m:Int),false),some (.int (t:Int),false)],sto⟩) (t:=.int (a / (m:Int))) (zo gf rfl (fdv mp mx)) rfl rfl e (show ixI 2 0=some 0 from rfl);exact zrun (zq (ze (a6y T1 T2) rfl) (zq F (zq A (zr rfl)))) rfl
theorem a0k {c d:M Bool} {s s1:Sta} {q:Option (Bool × Sta)} (h:c s=some (true,s1)) (h2:d s1=q):Dj c d s=q:=by unfold Dj; rw [h]; exact h2
theorem a8g {c d:M Bool} {s s1:Sta} (h:c s=some (false,s1)):Dj c d s=some (false,s1):=by unfold Dj; rw [h]
theorem nq {j m:Nat} {s:Sta} {l:M (List T)} (h:RL j s.sto) (hl:l s=some ([.obj j,.int (m:Int)],s)) (h0:0<m) (hm:m<1073741824):∃ (t:Nat) (ae:List SO),t<m/\Kp j s.sto ae/\fj c7 l s=some (.int (t:Int),⟨s.env,ae⟩):=by
 obtain ⟨t,ae,h1,h2,h3⟩:=a2a h h0 hm;exact ⟨t,ae,h1,h2,zf hl h3⟩
theorem Ax {a b:Str} {m n:Nat} (ha:Ln a m) (hb:Ln b n) (h:m+n<1000):jt (.str a) (.str b)=some (.str (a++b)):=ad (by rw [uo,uo]; have:=ha.le; have:=hb.le; show _<1000000; omega)
theorem ud {p:Nat} (h:p<100):Ln (num (p:Int)) 3:=Wf (k:=1) (by rw [Int.natAbs_natCast]; omega)
theorem qu {p:Nat} (h:p<100):okN p:=a6a (k:=1) (by omega) (by decide)
theorem yx {p:Nat} (h:p<100):Gh [.int (p:Int)]=some (.str (num (p:Int))):=X8 (by unfold Jw; exact decide_eq_true (by omega))
theorem Bq (a:Str) (n:Nat) (h:lnB (cs a) n=true:=by decide +kernel):Ln a n:=a2u h
abbrev It:=List Nat × Nat
abbrev wdI (q:It):Str:=wdS q.1 (q.2:Int)
structure Wd (kind:Bool) (q:It):Prop where
 ne:q.1≠[]
 le:q.1.length<=(if kind=true then 2 else 1)
 lt:∀ p∈q.1,p<30
 t1:1<=q.2
 t2:q.2<=99
theorem a7f:∀ {ps:List Nat},(∀ p∈ps,p<30)->ps.length<=2->Ln (plS ps) 8:=fun {ps} h hl=>by
 have:=O1 (sep := ",") (s:=1) (n:=3) (Bq "," 1) (l:=ps.map fun p:Nat=>num (p:Int)) (fun w hw=>by
  obtain ⟨p,hp,rfl⟩:=List.mem_map.mp hw;exact ud (by have:=h p hp; omega))
 rw [List.length_map] at this;exact this.mono (by omega)
theorem Wd.ln {kind:Bool} {q:It} (h:Wd kind q):Ln (wdI q) 12:=by
 have l2:q.1.length<=2:=Nat.le_trans h.le (by split <;> omega);exact (((a7f h.lt l2).app (Bq "*" 1)).app (ud (p:=q.2) (by have:=h.t2; omega))).mono (by omega)
theorem Wd.sum {q:It} (h:Wd false q):uy (wdI q)=some (.tup (q.1.map (fun p:Nat=>T.int (p:Int))++[.int (q.2:Int)])):=by
 obtain ⟨ps,t⟩:=q
 obtain ⟨p,rfl⟩:∃ p,ps=[p]:=by
  match ps,h.ne,h.le with
  | [p],_,_=>exact ⟨p,rfl⟩
  | [],n,_=>exact absurd rfl n
  | _::_::_,_,l=>exact absurd l (by simp)
 have:=h.lt p List.mem_cons_self;have t2:t<=99:=h.t2;exact a6c (qu (by omega)) (qu (by omega)) h.t1
theorem Wd.rest {q:It} (h:Wd true q):qb (wdI q)=some (.tup (q.1.map (fun p:Nat=>T.int (p:Int))++[.int (q.2:Int)])):=by
 have t2:=h.t2;have t1:=h.t1;exact a4v (fun p hp=>qu (by have:=h.lt p hp; omega)) h.ne h.le (by rw [Int.natAbs_natCast]; exact qu (by omega)) (by omega)
def hwS:Bool->Nat->List Str
 | false,_=>["sum"]
 | true,d=>["rest",num (d:Int)]
abbrev J2 (kind:Bool) (d:Nat) (af:List It):List Str:=hwS kind d++af.map wdI
theorem Xa {kind:Bool} {d:Nat} (hd:d<100) {af:List It} (h:∀ q∈af,Wd kind q):∀ w∈J2 kind d af,Ln w 12:=by
 intro w hw;rcases List.mem_append.mp hw with h1 | h1
 ·cases kind with
  | false=>rw [List.mem_singleton.mp h1]; exact Bq "sum" 12
  | true =>
   rcases List.mem_cons.mp h1 with rfl | h1
   ·exact Bq "rest" 12
   ·rw [List.mem_singleton.mp h1]; exact (ud hd).mono (by omega)
 ·obtain ⟨q,hq,rfl⟩:=List.mem_map.mp h1;exact (h q hq).ln
theorem a5h {kind:Bool} {d:Nat} {af:List It}:∀ w∈J2 kind d af,32∉cs w:=by
 intro w hw;rcases List.mem_append.mp hw with h1 | h1
 ·cases kind with
  | false=>rw [List.mem_singleton.mp h1]; decide +kernel
  | true =>
   rcases List.mem_cons.mp h1 with rfl | h1
   ·decide +kernel
   ·rw [List.mem_singleton.mp h1]; exact Ak (by omega)
 ·obtain ⟨q,hq,rfl⟩:=List.mem_map.mp h1;exact a92 (by omega)
theorem Zh {kind:Bool} {d:Nat} (hd:d<100) (h2:2<=d) {af:List It} (h:∀ q∈af,Wd kind q):∃ p,Pap 1 [Str.join " " (J2 kind d af)] p:=by
 have e:ws (Str.join " " (J2 kind d af))=J2 kind d af:=Fz (by cases kind <;> exact List.cons_ne_nil _ _) a5h;cases kind with
 | false=>exact ⟨_,R9 (by rw [e]; exact R8 fun q hq=>(h q hq).sum) rfl⟩
 | true=>exact ⟨_,R9 (by rw [e]; exact Vu (qu hd) h2 fun q hq=>(h q hq).rest) rfl⟩
abbrev pS (j dp way:Nat) (w:Nat) (o3 o5 o6:C.Slot) (sto:List SO):Sta:=⟨[some (.obj j,false),some (.int (dp:Int),false),some (.int (way:Int),false),o3,some (.obj w,false),o5,o6],sto⟩
abbrev lpB:S:=qe (ou 6 (j5 Gh (ao (fj c7 (ao (bf 0) (ao (ak (.int 30)) cu))) cu)))
   (qe (sIf (Dj (dg (mOp eqO (nj (bf 4) (ak (.int 0))) (ak (.str "rest")))) (dg (mOp eqO (fj c7 (ao (bf 0) (ao (ak (.int 2)) cu))) (ak (.int 1)))))
   (ou 6 (mOp jt (mOp jt (bf 6) (ak (.str ","))) (j5 Gh (ao (fj c7 (ao (bf 0) (ao (ak (.int 30)) cu))) cu))))
   Ec)
   (Dv 4 (mOp jt (mOp jt (bf 6) (ak (.str "*"))) (j5 Gh (ao (mOp jt (ak (.int 1)) (fj c7 (ao (bf 0) (ao (ak (.int 99)) cu)))) cu)))))
theorem Ux {i n:Nat} {v:M T} {s s1:Sta} {ys xs:List T} {t:T} (h:s.env[i]? = some (some (.obj n,false))) (hs:s.sto[n]? = some (.lst ys)) (hv:v s=some (t,s1)) (h1:s1.sto[n]? = some (.lst xs)) (hl:xs.length<lim):Dv i v s=some (.next,⟨s1.env,s1.sto.set n (.lst (xs++[t]))⟩):=by
 unfold Dv;rw [h]; dsimp only;rw [hs]; dsimp only;rw [hv]; dsimp only;rw [h1]; dsimp only;rw [if_pos hl]
theorem a2p {j dp way w:Nat} {kind:Bool} {d:Nat} {af:List It} {o3 o5 o6:C.Slot} {sto:List SO} (hR:RL j sto) (hw:sto[w]? = some (.lst ((J2 kind d af).map .str))) (bH:w≠j) (hl:af.length<100):∃ (q:It) (cM:C.Slot) (ae:List SO),Wd kind q/\RL j ae/\ae[w]? = some (.lst ((J2 kind d (af++[q])).map .str))/\ae.length=sto.length /\
  lpB (pS j dp way w o3 o5 o6 sto)=some (.next,pS j dp way w o3 o5 cM ae):=by
 obtain ⟨p,z1,p1,k1,e1⟩:=nq (j:=j) (m:=30) (s:=pS j dp way w o3 o5 o6 sto) (l:=ao (bf 0) (ao (ak (.int 30)) cu)) hR rfl (by decide) (by decide);have w1:z1[w]? = some (.lst ((J2 kind d af).map .str)):=by rw [k1.eq w bH]; exact hw
 have A:ou 6 (j5 Gh (ao (fj c7 (ao (bf 0) (ao (ak (.int 30)) cu))) cu)) (pS j dp way w o3 o5 o6 sto)=some (.next,pS j dp way w o3 o5 (some (.str (num (p:Int)),false)) z1) :=
  ys (zm (zc e1 rfl) (yx (by omega))) rfl
 have eB:∃ h r,J2 kind d af=h::r/\h=(if kind=true then "rest" else "sum"):=by cases kind <;> exact ⟨_,_,rfl,rfl⟩
 have I:dg (mOp eqO (nj (bf 4) (ak (.int 0))) (ak (.str "rest"))) (pS j dp way w o3 o5 (some (.str (num (p:Int)),false)) z1)=some (kind,pS j dp way w o3 o5 (some (.str (num (p:Int)),false)) z1):=by
  obtain ⟨h,r,e,eh⟩:=eB;rw [e] at w1;refine zt (zo (Ul rfl rfl w1 (i:=0) (q:=0) ?_ rfl) rfl ?_)
  ·unfold ixI;rw [if_pos (by decide),List.length_map,List.length_cons,if_pos (by omega)];rfl
  ·rw [eh];cases kind with
   | true=>exact pq Eb Eb
   | false=>exact pq Mt Eb
 have M:∃ (ps:List Nat) (z2:List SO),ps≠[]/\ps.length<=(if kind=true then 2 else 1)/\(∀ p∈ps,p<30)/\Kp j z1 z2/\sIf (Dj (dg (mOp eqO (nj (bf 4) (ak (.int 0))) (ak (.str "rest")))) (dg (mOp eqO (fj c7 (ao (bf 0) (ao (ak (.int 2)) cu))) (ak (.int 1)))))
   (ou 6 (mOp jt (mOp jt (bf 6) (ak (.str ","))) (j5 Gh (ao (fj c7 (ao (bf 0) (ao (ak (.int 30)) cu))) cu))))
   Ec (pS j dp way w o3 o5 (some (.str (num (p:Int)),false)) z1)=some (.next,pS j dp way w o3 o5 (some (.str (plS ps),false)) z2):=by
  have one:plS [p]=num (p:Int):=by unfold plS; rw [List.map_cons,List.map_nil,Str.join]
  cases kind with
  | false=>exact ⟨[p],z1,List.cons_ne_nil _ _,Nat.le_refl _,fun x hx=>by rw [List.mem_singleton.mp hx]; exact p1,.refl k1.rl,by rw [one]; exact ze (a8g I) rfl⟩
  | true =>
   obtain ⟨c,z2,c1,k2,e2⟩:=nq (j:=j) (m:=2) (s:=pS j dp way w o3 o5 (some (.str (num (p:Int)),false)) z1) (l:=ao (bf 0) (ao (ak (.int 2)) cu)) k1.rl rfl (by decide) (by decide);have C':dg (mOp eqO (fj c7 (ao (bf 0) (ao (ak (.int 2)) cu))) (ak (.int 1))) (pS j dp way w o3 o5 (some (.str (num (p:Int)),false)) z1)=some (decide (c=1),pS j dp way w o3 o5 (some (.str (num (p:Int)),false)) z2):=zt (zo e2 rfl (a5c (q:=1)))
   by_cases cc:c=1
   ·rw [decide_eq_true cc] at C';obtain ⟨p2,z3,p3,k3,e3⟩:=nq (j:=j) (m:=30) (s:=pS j dp way w o3 o5 (some (.str (num (p:Int)),false)) z2) (l:=ao (bf 0) (ao (ak (.int 30)) cu)) k2.rl rfl (by decide) (by decide)
    have two:plS [p,p2]=num (p:Int) ++ "," ++ num (p2:Int):=by
     unfold plS;rw [List.map_cons,List.map_cons,List.map_nil,Str.join,Str.join];simp
    have l1:Ln (num (p:Int)) 3:=ud (by omega);have l2:Ln (num (p2:Int)) 3:=ud (by omega);refine ⟨[p,p2],z3,List.cons_ne_nil _ _,Nat.le_refl _,fun x hx=>?_,k2.trans k3,?_⟩
    ·rcases List.mem_cons.mp hx with rfl | hx
     ·exact p1
     ·rw [List.mem_singleton.mp hx]; exact p3
    ·rw [two];exact zk (a0k I C') (ys (zo (zo rfl rfl (Ax l1 (Bq "," 1) (by decide))) (zm (zc e3 rfl) (yx (by omega))) (Ax (l1.app (Bq "," 1)) l2 (by decide))) rfl)
   ·rw [decide_eq_false cc] at C';exact ⟨[p],z2,List.cons_ne_nil _ _,show 1<=2 by decide,fun x hx=>by rw [List.mem_singleton.mp hx]; exact p1,k2,by rw [one]; exact ze (a0k I C') rfl⟩
 obtain ⟨ps,z2,g1,g2,g3,k2,M⟩:=M;have w2:z2[w]? = some (.lst ((J2 kind d af).map .str)):=by rw [k2.eq w bH]; exact w1
 obtain ⟨t,z3,t1,k3,e3⟩:=nq (j:=j) (m:=99) (s:=pS j dp way w o3 o5 (some (.str (plS ps),false)) z2) (l:=ao (bf 0) (ao (ak (.int 99)) cu)) k2.rl rfl (by decide) (by decide);have w3:z3[w]? = some (.lst ((J2 kind d af).map .str)):=by rw [k3.eq w bH]; exact w2
 have ps2:ps.length<=2:=Nat.le_trans g2 (by split <;> omega);have lp:=a7f g3 ps2;have lt:Ln (num ((t+1:Nat):Int)) 3:=ud (by omega)
 have av:mOp jt (mOp jt (bf 6) (ak (.str "*"))) (j5 Gh (ao (mOp jt (ak (.int 1)) (fj c7 (ao (bf 0) (ao (ak (.int 99)) cu)))) cu)) (pS j dp way w o3 o5 (some (.str (plS ps),false)) z2)=some (.str (wdI (ps,t+1)),pS j dp way w o3 o5 (some (.str (plS ps),false)) z3):=by
  have a1:jt (.int 1) (.int (t:Int))=some (.int ((t+1:Nat):Int)):=by
   show some (T.int (1+(t:Int)))=_;congr 2; omega
  exact zo (zo rfl rfl (Ax lp (Bq "*" 1) (by decide))) (zm (zc (zo rfl e3 a1) rfl) (yx (by omega))) (Ax (lp.app (Bq "*" 1)) lt (by decide))
 have ll:((J2 kind d af).map T.str).length<lim:=by
  rw [List.length_map,List.length_append,List.length_map]
  have:(hwS kind d).length<=2:=by
   cases kind
   ·exact (show 1<=2 by decide)
   ·exact Nat.le_refl 2
  show _<1000000; omega
 have B:=Ux (i:=4) (n:=w) (s:=pS j dp way w o3 o5 (some (.str (plS ps),false)) z2) rfl w2 av w3 ll;have wl:w<z3.length:=(List.getElem?_eq_some_iff.mp w3).1;refine ⟨(ps,t+1),_,z3.set w (.lst ((J2 kind d af).map .str++[.str (wdI (ps,t+1))])),⟨g1,g2,g3,by show 1<=t+1; omega,by show t+1<=99; omega⟩,?_,?_,?_,zq A (zq M B)⟩
 ·obtain ⟨a,b,e⟩:=k3.rl;exact ⟨a,b,by rw [List.getElem?_set_ne bH]; exact e⟩
 ·rw [List.getElem?_set_self wl];simp [J2]
 ·rw [List.length_set,k3.len,k2.len,k1.len]
theorem Vg {j dp way w:Nat} {kind:Bool} {d:Nat} {o3:C.Slot}:∀ (ts:List T) (af:List It) (o5 o6:C.Slot) (sto:List SO),RL j sto->sto[w]? = some (.lst ((J2 kind d af).map .str))->w≠j->af.length+ts.length<100->(∀ q∈af,Wd kind q) ->
  ∃ (its':List It) (dN cM:C.Slot) (ae:List SO),(∀ q∈its',Wd kind q)/\RL j ae/\ae[w]? = some (.lst ((J2 kind d its').map .str))/\ae.length=sto.length/\its'.length=af.length+ts.length /\
  forL (hName 5) lpB ts (pS j dp way w o3 o5 o6 sto)=some (.next,pS j dp way w o3 dN cM ae)
 | [],af,o5,o6,sto,hR,hw,bH,hl,hq=>⟨af,o5,o6,sto,hq,hR,hw,rfl,rfl,by rw [forL]⟩
 | t::ts,af,o5,o6,sto,hR,hw,bH,hl,hq=>by
  obtain ⟨q,cM,z,a1,a2,a3,a4,a5⟩:=a2p (dp:=dp) (way:=way) (o3:=o3) (o5:=some (t,false)) (o6:=o6) hR hw bH (by omega)
  obtain ⟨its',dN,o6'',z',b1,b2,b3,b4,b5,b6⟩:=Vg (dp:=dp) (way:=way) (o3:=o3) ts (af++[q]) (some (t,false)) cM z a2 a3 bH (by rw [List.length_append,List.length_singleton]; rw [List.length_cons] at hl; omega) (fun x hx=>by
   rcases List.mem_append.mp hx with h | h
   ·exact hq x h
   ·rw [List.mem_singleton.mp h]; exact a1)
  refine ⟨its',dN,o6'',z',b1,b2,b3,by rw [b4,a4],by rw [b5,List.length_append,List.length_singleton,List.length_cons]; omega,?_⟩;exact (Z5 rfl a5).trans b6
theorem Mu:∀ l:List Str,Pa (l.map T.str)=some l
 | []=>rfl
 | x::l=>by rw [List.map_cons,Pa,Mu l]; rfl
theorem a1q {sep:Str} {l:List Str} (h:(l.map (·.length)).sum+l.length * sep.length<1000000):Ae (.str sep) (.lst (l.map T.str))=some (.str (Str.join sep l)):=by
 simp only [Ae,Mu];exact if_pos h
theorem zrg {a:M T} {s s1:Sta} {m:Nat} (h:a s=some (.int (m:Int),s1)) (hl:m<lim):Ay a s=some ((List.range m).map (fun (k:Nat)=>T.int (k:Int)),s1):=by
 unfold Ay; rw [h]; dsimp only; unfold rangeT; simp [hl]
structure Gp (e:Nat) (l:List Str):Prop where
 ln:∀ r∈l,Ln r 60
 ne:1<=l.length
 le:l.length<=2 ^ e - 1
 pap:∃ p,Pap e l p
theorem a4l {kind:Bool} {d:Nat} (hd:d<100) {af:List It} (h:∀ q∈af,Wd kind q) (hl:af.length<=2):Ln (Str.join " " (J2 kind d af)) 60:=by
 have:=O1 (sep := " ") (s:=1) (n:=12) (Bq " " 1) (Xa hd h);refine this.mono ?_;rw [List.length_append,List.length_map]
 have:(hwS kind d).length<=2:=by
  cases kind
  ·exact (show 1<=2 by decide)
  ·exact Nat.le_refl 2
 omega
theorem a3o {i:Nat} (hi:i<100) {e:Nat} {l1 l2:List Str} (h1:Gp e l1) (h2:Gp e l2) (he:1<=e):Gp (e+1) ((("or " : Str)++num (i:Int) ++ " 2")::(l1++l2)):=by
 obtain ⟨p1,q1⟩:=h1.pap;obtain ⟨p2,q2⟩:=h2.pap;have s2:num ((2:Nat):Int) = "2" := by decide +kernel
 have ej:("or " : Str)++num (i:Int) ++ " 2" = Str.join " " (["or",num (i:Int),num ((2:Nat):Int)]:List Str):=by
  rw [s2,Str.join,Str.join,Str.join]
  ·apply Ac;rw [jc,jc,jc,jc,jc,jc];rw [show cs "or " = cs "or" ++ cs " " by decide +kernel,show cs " 2" = cs " " ++ cs "2" by decide +kernel];simp only [List.append_assoc]
  all_goals simp
 have ew:ws (("or " : Str)++num (i:Int) ++ " 2")=([("or" : Str),num (i:Int),num ((2:Nat):Int)]:List Str):=by
  rw [ej];refine Fz (List.cons_ne_nil _ _) fun w hw=>?_;simp only [List.mem_cons,List.not_mem_nil,or_false] at hw;rcases hw with rfl | rfl | rfl
  ·decide +kernel
  ·exact Ak (by omega)
  ·exact Ak (by omega)
 have hp:2 ^ (e+1)=2 * 2 ^ e:=Nat.pow_succ';have gm:2 ^ 1<=2 ^ e:=Nat.pow_le_pow_right (by decide) he;refine ⟨fun r hr=>?_,by rw [List.length_cons]; omega,?_,?_⟩
 ·rcases List.mem_cons.mp hr with rfl | hr
  ·exact (((Bq "or " 3).app (ud hi)).app (Bq " 2" 2)).mono (by omega)
  ·rcases List.mem_append.mp hr with hr | hr
   ·exact h1.ln r hr
   ·exact h2.ln r hr
 ·rw [List.length_cons,List.length_append];have:=h1.le; have:=h2.le;omega
 ·have n:=Qd (e:=e) (r:=("or " : Str)++num (i:Int) ++ " 2") (x:=.orr (i:Int) ((2:Nat):Int)) (by rw [ew]; exact a4p (qu hi) (qu (by decide))) (cs:=[(l1,p1),(l2,p2)]) (fun y hy=>by
   rcases List.mem_cons.mp hy with rfl | hy -- here
   ·exact q1
   ·rw [List.mem_singleton.mp hy]; exact q2) rfl
  rw [List.flatMap_cons,List.flatMap_cons,List.flatMap_nil,List.append_nil] at n;exact ⟨_,n⟩
theorem a0p {b:Str} (hb:Uh b=true) (hs:32∉cs b) (fw:Ln b 4) {v:Int} (hv:v.natAbs<100) {e:Nat} {l1 l2:List Str} (h1:Gp e l1) (h2:Gp e l2) (he:1<=e):Gp (e+1) ((("cut " : Str)++b ++ " " ++ num v)::(l1++l2)):=by
 obtain ⟨p1,q1⟩:=h1.pap;obtain ⟨p2,q2⟩:=h2.pap
 have ej:("cut " : Str)++b ++ " " ++ num v=Str.join " " (["cut",b,num v]:List Str):=by
  rw [Str.join,Str.join,Str.join]
  ·apply Ac;rw [jc,jc,jc,jc,jc,jc,jc];rw [show cs "cut " = cs "cut" ++ cs " " by decide +kernel];simp only [List.append_assoc]
  all_goals simp
 have ew:ws (("cut " : Str)++b ++ " " ++ num v)=([("cut" : Str),b,num v]:List Str):=by
  rw [ej];refine Fz (List.cons_ne_nil _ _) fun w hw=>?_;simp only [List.mem_cons,List.not_mem_nil,or_false] at hw;rcases hw with rfl | rfl | rfl
  ·decide +kernel
  ·exact hs
  ·exact Ak (by omega)
 have hp:2 ^ (e+1)=2 * 2 ^ e:=Nat.pow_succ';have gm:2 ^ 1<=2 ^ e:=Nat.pow_le_pow_right (by decide) he;refine ⟨fun r hr=>?_,by rw [List.length_cons]; omega,?_,?_⟩
 ·rcases List.mem_cons.mp hr with rfl | hr
  ·exact ((((Bq "cut " 4).app fw).app (Bq " " 1)).app (Wf (k:=1) (by omega))).mono (by omega)
  ·rcases List.mem_append.mp hr with hr | hr
   ·exact h1.ln r hr
   ·exact h2.ln r hr
 ·rw [List.length_cons,List.length_append];have:=h1.le; have:=h2.le;omega
 ·have n:=Qd (e:=e) (r:=("cut " : Str)++b ++ " " ++ num v) (x:=.cut b v) (by rw [ew]; exact Py hb (qu hv)) (cs:=[(l1,p1),(l2,p2)]) (fun y hy=>by
   rcases List.mem_cons.mp hy with rfl | hy -- here
   ·exact q1
   ·rw [List.mem_singleton.mp hy]; exact q2) rfl
  rw [List.flatMap_cons,List.flatMap_cons,List.flatMap_nil,List.append_nil] at n;exact ⟨_,n⟩
theorem a4i {kind:Bool} {d:Nat} (hd:d<100) (h2:2<=d) {af:List It} (h:∀ q∈af,Wd kind q) (hl:af.length<=2):Gp 1 [Str.join " " (J2 kind d af)] :=
 ⟨fun r hr=>by rw [List.mem_singleton.mp hr]; exact a4l hd h hl,Nat.le_refl _,Nat.le_refl _,Zh hd h2 h⟩
theorem Gp.mono {e e':Nat} {l:List Str} (h:Gp e l) (he:e<=e'):Gp e' l:=by
 obtain ⟨p,q⟩:=h.pap;exact ⟨h.ln,h.ne,Nat.le_trans h.le (Nat.sub_le_sub_right (Nat.pow_le_pow_right (by decide) he) 1),p,q.mono he⟩
abbrev paT (l:List Str):T:=.lst (l.map .str)
theorem add_l {a b:List Str} (h:a.length+b.length<lim):jt (paT a) (paT b)=some (paT (a++b)):=by
 show (if (a.map T.str).length+(b.map T.str).length<lim then some (T.lst (a.map T.str++b.map T.str)) else none)=_;rw [List.length_map,List.length_map,if_pos h];unfold paT;rw [List.map_append]
def aak:List Str:=["x","@b2","yz"]
theorem a7p {i:Nat} (h:i<3):∃ b,aak[i]? = some b/\Uh b=true/\32∉cs b/\Ln b 4:=by
 match i,h with
 | 0,_=>exact ⟨"x",rfl,by decide +kernel,by decide +kernel,Bq _ _⟩
 | 1,_=>exact ⟨"@b2",rfl,by decide +kernel,by decide +kernel,Bq _ _⟩
 | 2,_=>exact ⟨"yz",rfl,by decide +kernel,by decide +kernel,Bq _ _⟩
theorem Ef {j:Nat}:∀ (n dp:Nat) (sto:List SO),dp<=3->4 - dp<=n->RL j sto->∃ (l:List Str) (ae:List SO),Gp (4 - dp) l/\RL j ae/\ji n [.obj j,.int (dp:Int)] sto=some (paT l,ae)
 | 0,dp,sto,h1,h2,_=>absurd h2 (by omega)
 | n+1,dp,sto,h1,h2,hR=>by
  obtain ⟨way,z1,y1,k1,e1⟩:=nq (j:=j) (m:=5) (s:=⟨[some (.obj j,false),some (.int (dp:Int),false),none,none,none,none,none],sto⟩) (l:=ao (bf 0) (ao (ak (.int 5)) cu)) hR rfl (by decide) (by decide);have W:ou 2 (fj c7 (ao (bf 0) (ao (ak (.int 5)) cu))) ⟨[some (.obj j,false),some (.int (dp:Int),false),none,none,none,none,none],sto⟩=some (.next,⟨[some (.obj j,false),some (.int (dp:Int),false),some (.int (way:Int),false),none,none,none,none],z1⟩):=ys e1 rfl
  have Lt:∀ (s:Sta) (m:Nat),bf 1 s=some (.int (dp:Int),s)->dg (mOp ltT (bf 1) (ak (.int 3))) s=some (decide (dp<3),s):=fun s m h=>by
   refine zt (zo h rfl ?_);show some (T.bl (decide ((dp:Int)<3)))=_;congr 2;rw [Bool.eq_iff_iff,decide_eq_true_eq,decide_eq_true_eq]; omega
  have Eq:dg (mOp eqO (bf 2) (ak (.int 0))) ⟨[some (.obj j,false),some (.int (dp:Int),false),some (.int (way:Int),false),none,none,none,none],z1⟩=some (decide (way=0),⟨[some (.obj j,false),some (.int (dp:Int),false),some (.int (way:Int),false),none,none,none,none],z1⟩):=zt (zo rfl rfl (a5c (q:=0)))
  have L3:dg (mOp ltT (bf 2) (ak (.int 3))) ⟨[some (.obj j,false),some (.int (dp:Int),false),some (.int (way:Int),false),none,none,none,none],z1⟩=some (decide (way<3),⟨[some (.obj j,false),some (.int (dp:Int),false),some (.int (way:Int),false),none,none,none,none],z1⟩):=by
   refine zt (zo rfl rfl ?_);show some (T.bl (decide ((way:Int)<3)))=_;congr 2;rw [Bool.eq_iff_iff,decide_eq_true_eq,decide_eq_true_eq]; omega
  have d1:∀ s:Sta,bf 1 s=some (.int (dp:Int),s)->bf 0 s=some (.obj j,s)->ao (bf 0) (ao (mOp jt (bf 1) (ak (.int 1))) cu) s=some ([.obj j,.int ((dp+1:Nat):Int)],s):=fun s q q0=>zc q0 (zc (zo q rfl rfl) rfl);rw [ji]
  by_cases c1:way=0/\dp<3
  ·obtain ⟨c1,c2⟩:=c1;rw [decide_eq_true c1] at Eq;have C':=a0k Eq (Lt _ 0 rfl);rw [decide_eq_true c2] at C';obtain ⟨i,z2,i1,k2,e2⟩:=nq (j:=j) (m:=9) (s:=⟨[some (.obj j,false),some (.int (dp:Int),false),some (.int (way:Int),false),none,none,none,none],z1⟩) (l:=ao (bf 0) (ao (ak (.int 9)) cu)) k1.rl rfl (by decide) (by decide);obtain ⟨l1,z3,g1,r3,e3⟩:=Ef n (dp+1) z2 (by omega) (by omega) k2.rl;obtain ⟨l2,z4,g2,r4,e4⟩:=Ef n (dp+1) z3 (by omega) (by omega) r3
   have lb:∀ l,Gp (4 - (dp+1)) l->l.length<=15:=fun l g=>Nat.le_trans g.le (by
    have:2 ^ (4 - (dp+1))<=2 ^ 4:=Nat.pow_le_pow_right (by decide) (by omega);omega)
   have b1:=lb l1 g1;have b2:=lb l2 g2;have li:Ln (num (i:Int)) 3:=ud (by omega);have G:=a3o (i:=i) (by omega) g1 g2 (by omega);rw [show 4 - (dp+1)+1=4 - dp by omega] at G;refine ⟨_,z4,G,r4,?_⟩;have a1:jt (paT [("or " : Str)++num (i:Int) ++ " 2"]) (paT l1)=some (paT ([("or " : Str)++num (i:Int) ++ " 2"]++l1)):=add_l (by rw [List.length_singleton]; show _<1000000; omega)
   have a2:jt (paT ([("or " : Str)++num (i:Int) ++ " 2"]++l1)) (paT l2)=some (paT ((("or " : Str)++num (i:Int) ++ " 2")::(l1++l2))):=by
    rw [add_l (by rw [List.length_append,List.length_singleton]; show _<1000000; omega)];rfl
   exact zrun (zq W (zqr (zk C' (zr (zo (zo (zm (zc (zo (zo rfl (zm (zc e2 rfl) (yx (by omega))) (Ax (Bq "or " 3) li (by decide))) rfl (Ax ((Bq "or " 3).app li) (Bq " 2" 2) (by decide))) rfl) rfl) (zf (d1 _ rfl rfl) e3) a1) (zf (d1 _ rfl rfl) e4) a2))))) rfl
  ·have C0:Dj (dg (mOp eqO (bf 2) (ak (.int 0)))) (dg (mOp ltT (bf 1) (ak (.int 3)))) ⟨[some (.obj j,false),some (.int (dp:Int),false),some (.int (way:Int),false),none,none,none,none],z1⟩=some (false,⟨[some (.obj j,false),some (.int (dp:Int),false),some (.int (way:Int),false),none,none,none,none],z1⟩):=by
    by_cases q:way=0
    ·rw [decide_eq_true q] at Eq;have:=a0k Eq (Lt _ 0 rfl);rw [decide_eq_false (fun z=>c1 ⟨q,z⟩)] at this;exact this
    ·rw [decide_eq_false q] at Eq; exact a8g Eq
   by_cases c2:way<3/\dp<3
   ·obtain ⟨c2,c3⟩:=c2;rw [decide_eq_true c2] at L3;have C':=a0k L3 (Lt _ 0 rfl);rw [decide_eq_true c3] at C';obtain ⟨bi,z2,i1,k2,e2⟩:=nq (j:=j) (m:=3) (s:=⟨[some (.obj j,false),some (.int (dp:Int),false),some (.int (way:Int),false),none,none,none,none],z1⟩) (l:=ao (bf 0) (ao (ak (.int 3)) cu)) k1.rl rfl (by decide) (by decide);obtain ⟨b,hb,hb1,hb2,hb3⟩:=a7p i1;obtain ⟨v,z3,v1,k3,e3⟩:=nq (j:=j) (m:=41) (s:=⟨[some (.obj j,false),some (.int (dp:Int),false),some (.int (way:Int),false),none,none,none,none],z2⟩) (l:=ao (bf 0) (ao (ak (.int 41)) cu)) k2.rl rfl (by decide) (by decide);obtain ⟨l1,z4,g1,r4,e4⟩:=Ef n (dp+1) z3 (by omega) (by omega) k3.rl;obtain ⟨l2,z5,g2,r5,e5⟩:=Ef n (dp+1) z4 (by omega) (by omega) r4
    have lb:∀ l,Gp (4 - (dp+1)) l->l.length<=15:=fun l g=>Nat.le_trans g.le (by
     have:2 ^ (4 - (dp+1))<=2 ^ 4:=Nat.pow_le_pow_right (by decide) (by omega);omega)
    have b1:=lb l1 g1;have b2:=lb l2 g2;have va:((v:Int) - 20).natAbs<100:=by omega
    have lv:Ln (num ((v:Int) - 20)) 3:=Wf (k:=1) (by omega);have G:=a0p hb1 hb2 hb3 va g1 g2 (by omega);rw [show 4 - (dp+1)+1=4 - dp by omega] at G;refine ⟨_,z5,G,r5,?_⟩;have ib:gb (.lst (aak.map .str)) (.int (bi:Int))=some (.str b):=a67 hb;have a1:jt (paT [("cut " : Str)++b ++ " " ++ num ((v:Int) - 20)]) (paT l1)=some (paT ([("cut " : Str)++b ++ " " ++ num ((v:Int) - 20)]++l1)):=add_l (by rw [List.length_singleton]; show _<1000000; omega)
    have a2:jt (paT ([("cut " : Str)++b ++ " " ++ num ((v:Int) - 20)]++l1)) (paT l2)=some (paT ((("cut " : Str)++b ++ " " ++ num ((v:Int) - 20))::(l1++l2))):=by
     rw [add_l (by rw [List.length_append,List.length_singleton]; show _<1000000; omega)];rfl
    have H:ou 3 (mOp jt (mOp jt (mOp jt (ak (.str "cut ")) (mOp gb (j5 (fun l=>some (.lst l)) (ao (ak (.str "x")) (ao (ak (.str "@b2")) (ao (ak (.str "yz")) cu)))) (fj c7 (ao (bf 0) (ao (ak (.int 3)) cu))))) (ak (.str " "))) (j5 Gh (ao (mOp Zq (fj c7 (ao (bf 0) (ao (ak (.int 41)) cu))) (ak (.int 20))) cu))) ⟨[some (.obj j,false),some (.int (dp:Int),false),some (.int (way:Int),false),none,none,none,none],z1⟩=some (.next,⟨[some (.obj j,false),some (.int (dp:Int),false),some (.int (way:Int),false),some (.str (("cut " : Str)++b ++ " " ++ num ((v:Int) - 20)),false),none,none,none],z3⟩) :=
     ys (zo (zo (zo rfl (zo rfl e2 ib) (Ax (Bq "cut " 4) hb3 (by decide))) rfl (Ax ((Bq "cut " 4).app hb3) (Bq " " 1) (by decide))) (zm (zc (zo e3 rfl rfl) rfl) (X8 (by unfold Jw; exact decide_eq_true (by omega)))) (Ax (((Bq "cut " 4).app hb3).app (Bq " " 1)) lv (by decide))) rfl
    exact zrun (zq W (zq (ze C0 rfl) (zqr (zk C' (zq H (zr (zo (zo (zm (zc rfl rfl) rfl) (zf (d1 _ rfl rfl) e4) a1) (zf (d1 _ rfl rfl) e5) a2))))))) rfl
   ·have C1:Dj (dg (mOp ltT (bf 2) (ak (.int 3)))) (dg (mOp ltT (bf 1) (ak (.int 3)))) ⟨[some (.obj j,false),some (.int (dp:Int),false),some (.int (way:Int),false),none,none,none,none],z1⟩=some (false,⟨[some (.obj j,false),some (.int (dp:Int),false),some (.int (way:Int),false),none,none,none,none],z1⟩):=by
     by_cases q:way<3
     ·rw [decide_eq_true q] at L3;have:=a0k L3 (Lt _ 0 rfl);rw [decide_eq_false (fun z=>c2 ⟨q,z⟩)] at this;exact this
     ·rw [decide_eq_false q] at L3; exact a8g L3
    have jl:∀ {z:List SO},RL j z->j<z.length:=fun h=>by obtain ⟨a,b,e⟩:=h; exact (List.getElem?_eq_some_iff.mp e).1
    have eO:∀ {z:List SO} {o:SO},RL j z->RL j (z++[o]):=fun h=>by
     have:=jl h;obtain ⟨a,b,e⟩:=h;exact ⟨a,b,by rw [List.getElem?_append_left this]; exact e⟩
    have j1:=jl k1.rl
    let s1:List SO->Sta:=fun z=>⟨[some (.obj j,false),some (.int (dp:Int),false),some (.int (way:Int),false),none,none,none,none],z⟩
    obtain ⟨dd,z2,y2,k2,e2⟩:=nq (j:=j) (m:=9) (s:=s1 (z1++[.lst [.str "sum"]])) (l:=ao (bf 0) (ao (ak (.int 9)) cu)) (eO k1.rl) rfl (by decide) (by decide);have n2:z2.length=z1.length+1:=by rw [k2.len]; show (z1++[SO.lst [T.str "sum"]]).length=_; rw [List.length_append]; rfl
    have ad:jt (.int 2) (.int (dd:Int))=some (.int ((dd+2:Nat):Int)):=by
     show some (T.int (2+(dd:Int)))=_;congr 2; omega
    obtain ⟨c,z3,y3,k3,e3⟩:=nq (j:=j) (m:=2) (s:=s1 (z2++[.lst [.str "rest",.str (num ((dd+2:Nat):Int))]])) (l:=ao (bf 0) (ao (ak (.int 2)) cu)) (eO k2.rl) rfl (by decide) (by decide)
    obtain ⟨kind,w,hw,hwj,hit⟩:∃ (kind:Bool) (w:Nat),z3[w]? = some (.lst ((J2 kind (dd+2) []).map .str))/\w≠j/\gb (.lst [.obj z1.length,.obj z2.length]) (.int (c:Int))=some (.obj w):=by
     have q3:∀ i,i≠j->z3[i]? = (z2++[SO.lst [.str "rest",.str (num ((dd+2:Nat):Int))]])[i]?:=k3.eq
     match c,y3 with
     | 0,_ =>
      refine ⟨false,z1.length,?_,by omega,rfl⟩;rw [q3 _ (by omega),List.getElem?_append_left (by omega),k2.eq _ (by omega)];show (z1++[SO.lst [T.str "sum"]])[z1.length]? = _;rw [List.getElem?_append_right (Nat.le_refl _),Nat.sub_self]; rfl
     | 1,_ =>
      refine ⟨true,z2.length,?_,by omega,rfl⟩;rw [q3 _ (by omega),List.getElem?_append_right (Nat.le_refl _),Nat.sub_self]; rfl
    have V:ou 4 (mOp gb (j5 (fun l=>some (.lst l)) (ao (uh (ao (ak (.str "sum")) cu)) (ao (uh (ao (ak (.str "rest")) (ao (j5 Gh (ao (mOp jt (ak (.int 2)) (fj c7 (ao (bf 0) (ao (ak (.int 9)) cu)))) cu)) cu))) cu))) (fj c7 (ao (bf 0) (ao (ak (.int 2)) cu)))) (s1 z1)=some (.next,pS j dp way w none none none z3):=by
     have N1:uh (ao (ak (.str "sum")) cu) (s1 z1)=some (.obj z1.length,s1 (z1++[.lst [.str "sum"]])):=rfl
     have N2:uh (ao (ak (.str "rest")) (ao (j5 Gh (ao (mOp jt (ak (.int 2)) (fj c7 (ao (bf 0) (ao (ak (.int 9)) cu)))) cu)) cu)) (s1 (z1++[.lst [.str "sum"]]))=some (.obj z2.length,s1 (z2++[.lst [.str "rest",.str (num ((dd+2:Nat):Int))]])):=by
      unfold uh;rw [zc (s1:=s1 (z1++[.lst [.str "sum"]])) (t:=.str "rest") rfl (zc (s1:=s1 z2) (zm (zc (zo rfl e2 ad) rfl) (yx (by omega))) rfl)]
     exact ys (zo (zm (zc N1 (zc N2 rfl)) rfl) e3 hit) rfl
    obtain ⟨m,z4,y4,k4,e4⟩:=nq (j:=j) (m:=3) (s:=pS j dp way w none none none z3) (l:=ao (bf 0) (ao (ak (.int 3)) cu)) k3.rl rfl (by decide) (by decide);obtain ⟨af,o5,o6,z5,b1,b2,b3,b4,b5,b6⟩:=Vg (j:=j) (dp:=dp) (way:=way) (w:=w) (kind:=kind) (d:=dd+2) (o3:=none) ((List.range m).map (fun (k:Nat)=>T.int (k:Int))) [] none none z4 k4.rl (by rw [k4.eq w hwj]; exact hw) hwj (by rw [List.length_map,List.length_range,List.length_nil]; omega) (fun q hq=>(nomatch hq));have il:af.length<=2:=by rw [b5,List.length_map,List.length_range,List.length_nil]; omega
    have F:Tz (hName 5) (Ay (fj c7 (ao (bf 0) (ao (ak (.int 3)) cu)))) lpB (pS j dp way w none none none z3)=some (.next,pS j dp way w none o5 o6 z5):=a9s (zrg e4 (by show _<1000000; omega)) b6
    have J:Ew (ak (.str " ")) (bf 4) (pS j dp way w none o5 o6 z5)=some (.str (Str.join " " (J2 kind (dd+2) af)),pS j dp way w none o5 o6 z5):=by
     unfold Ew;rw [show ak (.str " ") (pS j dp way w none o5 o6 z5)=some (.str " ",pS j dp way w none o5 o6 z5) from rfl];dsimp only;rw [show bf 4 (pS j dp way w none o5 o6 z5)=some (.obj w,pS j dp way w none o5 o6 z5) from rfl];dsimp only;rw [b3];dsimp only;have rl:=Xa (kind:=kind) (d:=dd+2) (by omega) b1
     have ll:(J2 kind (dd+2) af).length<=4:=by
      rw [List.length_append,List.length_map]
      have:(hwS kind (dd+2)).length<=2:=by
       cases kind
       ·exact (show 1<=2 by decide)
       ·exact Nat.le_refl 2
      omega
     have sb:∀ L:List Str,(∀ w∈L,Ln w 12)->(L.map (·.length)).sum<=L.length * 12:=fun L=>by
      induction L with
      | nil=>intro _; exact Nat.le_refl _
      | cons x L ih =>
       intro h;have h1:=(h x List.mem_cons_self).le;have h2:=ih fun w hw=>h w (List.mem_cons_of_mem _ hw);rw [<- uo] at h1;simp only [List.map_cons,List.sum_cons,List.length_cons];omega
     have s0:=sb _ rl;have fW:(" " : Str).length=1:=by decide +kernel
     rw [a1q (by rw [fW]; omega)]
    refine ⟨_,z5,(a4i (kind:=kind) (d:=dd+2) (by omega) (by omega) b1 il).mono (by omega),b2,?_⟩;exact zrun (zq W (zq (ze C0 rfl) (zq (ze C1 rfl) (zq V (zq F (zr (zm (zc J rfl) rfl))))))) rfl
noncomputable def a7o (m:Nat):List Str:=["start ann",("own " : Str)++num (m:Int),("other " : Str)++num (m:Int) ++ " b2 3"]
theorem a3f {m i:Nat} (hm:m<100) (hi:i<3):∃ r d,(a7o m)[i]? = some r/\qt (ws r)=some d/\Ln r 60:=by
 have l1:Ln (num (m:Int)) 3:=ud hm;have eY:32∉cs (num (m:Int)):=Ak (by omega)
 match i,hi with
 | 0,_ =>
  have e:ws "start ann" = ([("start" : Str),"ann"]:List Str):=by decide +kernel
  exact ⟨_,_,rfl,by rw [e]; exact Sd (by decide +kernel),Bq _ _⟩
 | 1,_ =>
  have ej:("own " : Str)++num (m:Int)=Str.join " " (["own",num (m:Int)]:List Str):=by
   rw [Str.join,Str.join]
   ·apply Ac;rw [jc,jc,jc,show cs "own " = cs "own" ++ cs " " by decide +kernel]
   all_goals simp
  have e:ws (("own " : Str)++num (m:Int))=([("own" : Str),num (m:Int)]:List Str):=by
   rw [ej];refine Fz (List.cons_ne_nil _ _) fun w hw=>?_;simp only [List.mem_cons,List.not_mem_nil,or_false] at hw;rcases hw with rfl | rfl
   ·decide +kernel
   ·exact eY
  exact ⟨_,_,rfl,by rw [e]; exact Qu (qu hm),((Bq "own " 4).app l1).mono (by omega)⟩
 | 2,_ =>
  have s3:num ((3:Nat):Int) = "3" := by decide +kernel
  have ej:("other " : Str)++num (m:Int) ++ " b2 3" = Str.join " " (["other",num (m:Int),"b2",num ((3:Nat):Int)]:List Str):=by
   rw [s3,Str.join,Str.join,Str.join,Str.join]
   ·apply Ac;rw [jc,jc,jc,jc,jc,jc,jc,jc,show cs "other " = cs "other" ++ cs " " by decide +kernel,show cs " b2 3" = cs " " ++ (cs "b2" ++ (cs " " ++ cs "3")) by decide +kernel];simp only [List.append_assoc]
   all_goals simp
  have e:ws (("other " : Str)++num (m:Int) ++ " b2 3")=([("other" : Str),num (m:Int),"b2",num ((3:Nat):Int)]:List Str):=by
   rw [ej];refine Fz (List.cons_ne_nil _ _) fun w hw=>?_;simp only [List.mem_cons,List.not_mem_nil,or_false] at hw;rcases hw with rfl | rfl | rfl | rfl
   ·decide +kernel
   ·exact eY
   ·decide +kernel
   ·exact Ak (by omega)
  exact ⟨_,_,rfl,by rw [e]; exact Rx (by decide +kernel) (qu hm) (qu (by decide)),(((Bq "other " 6).app l1).app (Bq " b2 3" 5)).mono (by omega)⟩
structure Gl (l:List Str) (n:Nat):Prop where
 ln:∀ r∈l,Ln r 60
 le:l.length<=8 * n
 ge:2 * n<=l.length
 run:∃ A,runM (.idle []) l=.inl (.idle A)/\A.length=n
theorem Gl.nil:Gl [] 0:=⟨fun r h=>(nomatch h),Nat.le_refl _,Nat.le_refl _,[],rfl,rfl⟩
theorem Gl.add {l:List Str} {n:Nat} (h:Gl l n) {r:Str} {d:T} (hr:Ln r 60) (hd:qt (ws r)=some d) {l2:List Str} (h2:Gp 3 l2):Gl (l++[r]++l2) (n+1):=by
 obtain ⟨A,e1,e2⟩:=h.run;obtain ⟨p,hp⟩:=h2.pap;have l7:=h2.le;refine ⟨fun x hx=>?_,?_,?_,A++[T.tup [d,p]],?_,by rw [List.length_append,e2]; rfl⟩
 ·rcases List.mem_append.mp hx with hx | hx
  ·rcases List.mem_append.mp hx with hx | hx
   ·exact h.ln x hx
   ·rw [List.mem_singleton.mp hx]; exact hr
  ·exact h2.ln x hx
 ·rw [List.length_append,List.length_append,List.length_singleton];have:=h.le;have:(2:Nat) ^ 3 - 1=7:=rfl;omega
 ·rw [List.length_append,List.length_append,List.length_singleton];have:=h.ge;have:=h2.ne;omega
 ·rw [List.append_assoc,uf e1,List.singleton_append,a0c hd hp (by decide)]
abbrev Gs (j:Nat) (l:List Str) (a b:C.Slot) (sto:List SO):Sta:=⟨[some (.obj j,false),some (paT l,true),a,b],sto⟩
abbrev aac:S:=qe (ou 3 (j5 Gh (ao (fj c7 (ao (bf 0) (ao (ak (.int 40)) cu))) cu)))
 (qe (v7 1 (mOp gb (j5 (fun l=>some (.lst l)) (ao (ak (.str "start ann")) (ao (mOp jt (ak (.str "own ")) (bf 3)) (ao (mOp jt (mOp jt (ak (.str "other ")) (bf 3)) (ak (.str " b2 3"))) cu)))) (fj c7 (ao (bf 0) (ao (ak (.int 3)) cu)))))
 (sNew 1 (mj 1 (fj (ji 8) (ao (bf 0) (ao (ak (.int 1)) cu))))))
theorem a2j {j:Nat} {l:List Str} {n:Nat} (h:Gl l n) (hn:n<100) {a b:C.Slot} {sto:List SO} (hR:RL j sto):∃ (l':List Str) (b':C.Slot) (ae:List SO),Gl l' (n+1)/\RL j ae/\aac (Gs j l a b sto)=some (.next,Gs j l' a b' ae):=by
 obtain ⟨m,z1,m1,k1,e1⟩:=nq (j:=j) (m:=40) (s:=Gs j l a b sto) (l:=ao (bf 0) (ao (ak (.int 40)) cu)) hR rfl (by decide) (by decide);have A:ou 3 (j5 Gh (ao (fj c7 (ao (bf 0) (ao (ak (.int 40)) cu))) cu)) (Gs j l a b sto)=some (.next,Gs j l a (some (.str (num (m:Int)),false)) z1):=ys (zm (zc e1 rfl) (yx (by omega))) rfl;obtain ⟨i,z2,i1,k2,e2⟩:=nq (j:=j) (m:=3) (s:=Gs j l a (some (.str (num (m:Int)),false)) z1) (l:=ao (bf 0) (ao (ak (.int 3)) cu)) k1.rl rfl (by decide) (by decide);obtain ⟨r,d,hr,hd,hl⟩:=a3f (m:=m) (by omega) i1;obtain ⟨l2,z3,g,r3,e3⟩:=Ef (j:=j) 8 1 z2 (by decide) (by decide) k2.rl;have l1:Ln (num (m:Int)) 3:=ud (by omega);have I:gb (.lst ((a7o m).map .str)) (.int (i:Int))=some (.str r):=a67 hr
 have E:mOp gb (j5 (fun l=>some (.lst l)) (ao (ak (.str "start ann")) (ao (mOp jt (ak (.str "own ")) (bf 3)) (ao (mOp jt (mOp jt (ak (.str "other ")) (bf 3)) (ak (.str " b2 3"))) cu)))) (fj c7 (ao (bf 0) (ao (ak (.int 3)) cu))) (Gs j l a (some (.str (num (m:Int)),false)) z1)=some (.str r,Gs j l a (some (.str (num (m:Int)),false)) z2) :=
  zo (zm (zc rfl (zc (zo rfl rfl (Ax (Bq "own " 4) l1 (by decide))) (zc (zo (zo rfl rfl (Ax (Bq "other " 6) l1 (by decide))) rfl (Ax ((Bq "other " 6).app l1) (Bq " b2 3" 5) (by decide))) rfl))) rfl) e2 I
 have ll:l.length<1000:=by have:=h.le; omega
 have B:v7 1 (mOp gb (j5 (fun l=>some (.lst l)) (ao (ak (.str "start ann")) (ao (mOp jt (ak (.str "own ")) (bf 3)) (ao (mOp jt (mOp jt (ak (.str "other ")) (bf 3)) (ak (.str " b2 3"))) cu)))) (fj c7 (ao (bf 0) (ao (ak (.int 3)) cu)))) (Gs j l a (some (.str (num (m:Int)),false)) z1)=some (.next,Gs j (l++[r]) a (some (.str (num (m:Int)),false)) z2) :=
  za E rfl (by rw [List.length_map]; show _<1000000; omega) rfl (by
   show (⟨[some (T.obj j,false),some (.lst (l.map T.str++[.str r]),true),a,some (.str (num (m:Int)),false)],z2⟩:Sta)=_;rw [show l.map T.str++[T.str r]=(l++[r]).map T.str by simp])
 have P:fj (ji 8) (ao (bf 0) (ao (ak (.int 1)) cu)) (Gs j (l++[r]) a (some (.str (num (m:Int)),false)) z2)=some (paT l2,Gs j (l++[r]) a (some (.str (num (m:Int)),false)) z3):=zf (s1:=Gs j (l++[r]) a (some (.str (num (m:Int)),false)) z2) (zc rfl (zc rfl rfl)) e3
 have C':sNew 1 (mj 1 (fj (ji 8) (ao (bf 0) (ao (ak (.int 1)) cu)))) (Gs j (l++[r]) a (some (.str (num (m:Int)),false)) z2)=some (.next,Gs j (l++[r]++l2) a (some (.str (num (m:Int)),false)) z3):=by
  refine yn (t:=paT (l++[r]++l2)) (s1:=Gs j (l++[r]) a (some (.str (num (m:Int)),false)) z3) ?_ rfl;unfold mj;rw [if_pos (show Aj 1 (Gs j (l++[r]) a (some (.str (num (m:Int)),false)) z2)=true from rfl),P];dsimp only;rw [show (Gs j (l++[r]) a (some (.str (num (m:Int)),false)) z3).env[1]? = some (some (.lst ((l++[r]).map .str),true)) from rfl];dsimp only;have g7:=g.le;have:(2:Nat) ^ (4 - 1) - 1=7:=rfl;rw [if_pos (show ((l++[r]).map T.str).length+(l2.map T.str).length<1000000 by rw [List.length_map,List.length_map,List.length_append,List.length_singleton]; omega),<- List.map_append]
 exact ⟨_,_,z3,h.add hl hd g,r3,zq A (zq B C')⟩
theorem Vc {j:Nat}:∀ (ts:List T) (l:List Str) (n:Nat) (a b:C.Slot) (sto:List SO),Gl l n->n+ts.length<100->RL j sto->∃ (l':List Str) (a' b':C.Slot) (ae:List SO),Gl l' (n+ts.length)/\RL j ae/\forL (hName 2) aac ts (Gs j l a b sto)=some (.next,Gs j l' a' b' ae)
 | [],l,n,a,b,sto,h,hn,hR=>⟨l,a,b,sto,h,hR,by rw [forL]⟩
 | t::ts,l,n,a,b,sto,h,hn,hR=>by
  obtain ⟨l1,b1,z1,q1,q2,q3⟩:=a2j h (by rw [List.length_cons] at hn; omega) (a:=some (t,false)) (b:=b) hR;obtain ⟨l2,a2,b2,z2,w1,w2,w3⟩:=Vc ts l1 (n+1) (some (t,false)) b1 z1 q1 (by rw [List.length_cons] at hn; omega) q2;refine ⟨l2,a2,b2,z2,by rw [List.length_cons,show n+(ts.length+1)=n+1+ts.length by omega]; exact w1,w2,(Z5 rfl q3).trans w3⟩
theorem Y8 {j:Nat} {sto:List SO} (hR:RL j sto):∃ (l:List Str) (n:Nat) (ae:List SO),Gl l n/\1<=n/\n<=3/\RL j ae/\zj [.obj j] sto=some (paT l,ae):=by
 have A:sNew 1 (j5 (fun l=>some (.lst l)) cu) ⟨[some (.obj j,false),none,none,none],sto⟩=some (.next,Gs j [] none none sto):=yn rfl rfl;obtain ⟨m,z1,m1,k1,e1⟩:=nq (j:=j) (m:=3) (s:=Gs j [] none none sto) (l:=ao (bf 0) (ao (ak (.int 3)) cu)) hR rfl (by decide) (by decide)
 have a1:jt (.int 1) (.int (m:Int))=some (.int ((m+1:Nat):Int)):=by
  show some (T.int (1+(m:Int)))=_;congr 2; omega
 have I:Ay (mOp jt (ak (.int 1)) (fj c7 (ao (bf 0) (ao (ak (.int 3)) cu)))) (Gs j [] none none sto)=some ((List.range (m+1)).map (fun (k:Nat)=>T.int (k:Int)),Gs j [] none none z1):=zrg (zo rfl e1 a1) (by show _<1000000; omega);obtain ⟨l,a,b,z2,g,r2,e2⟩:=Vc (j:=j) ((List.range (m+1)).map (fun (k:Nat)=>T.int (k:Int))) [] 0 none none z1 .nil (by rw [List.length_map,List.length_range]; omega) k1.rl;have nl:0+((List.range (m+1)).map (fun (k:Nat)=>T.int (k:Int))).length=m+1:=by rw [List.length_map,List.length_range]; omega
 rw [nl] at g;exact ⟨l,m+1,z2,g,by omega,by omega,r2,zrun (zq A (zq (a9s I e2) (zr rfl))) rfl⟩
def rp (n:Nat) (x:Str):Str:=⟨((List.replicate n x.cps.toList).flatten).toArray⟩
def far:Str:=("1" : Str)++rp 400 "0"
abbrev sl (t:T):C.Slot:=some (t,false)
abbrev ow (l:List Str):C.Slot:=some (.lst (l.map .str),true)
noncomputable def bd0:List Str:=([""," ","sum "," sum","sum  0*1","sum 0*1 ","sum 0","sum 0*","sum *1","sum 0,1*2","sum 00*1"]:List Str)
noncomputable def bd1:List Str:=bd0++(["sum 0*01","sum 0*-0","sum -1*2","sum +1*2","sum 0*1*2","sum a*1",("sum 0*" : Str)++far,"Sum 0*1"]:List Str)
noncomputable def bd2:List Str:=bd1++(["rest","rest ","rest x 0*1","rest 2 0,1,2*3","rest 2 0,*3","rest 2 0*1,2","rest 02 0*1"]:List Str)
def bd3:List Str:=bd2++(["or 1"]:List Str)
noncomputable def bd4:List Str:=bd3++(["or 1 2 3","or -1 2","or x 2","cut x","cut x 1 2","cut X 1","cut 9x 1","cut @ 1","cut x 1.5"]:List Str)
noncomputable def bd5:List Str:=bd4++(["cut set 1","cut abcdefghi 1","start","start 1","sum 0*0","sum 0*-1","rest 1 0*1"]:List Str)
noncomputable def bd6:List Str:=bd5++(["rest 0 0*1","rest -2 0*1","rest 2 0*0","own x","own 01","own -1","own","start end"]:List Str)
noncomputable def bd7:List Str:=bd6++(["start abcdefghi","start a b","other 1 b2","other x b2 3","other 1 B 3","other 1 b2 3 4"]:List Str)
def a8m:List Str:=bd7++(["other 1 b2 -1"]:List Str)
variable {sto:List SO}
theorem bS0 {c:Int}:(ou 1 (mOp jt (ak (.str "1")) (mOp a0v (ak (.str "0")) (ak (.int 400))))) ⟨[sl (.int c),none,none],sto⟩=some (.next,⟨[sl (.int c),sl (.str far),none],sto⟩):=by kernel_rfl
theorem bS1 {c:Int}:(sNew 2 (j5 (fun l=>some (.lst l)) (Bv [""," ","sum "," sum","sum  0*1","sum 0*1 ","sum 0","sum 0*","sum *1","sum 0,1*2","sum 00*1"]))) ⟨[sl (.int c),sl (.str far),none],sto⟩=some (.next,⟨[sl (.int c),sl (.str far),ow bd0],sto⟩):=by kernel_rfl
theorem bS2 {c:Int}:(sNew 2 (mj 2 (j5 (fun l=>some (.lst l)) (ao (ak (.str "sum 0*01")) (ao (ak (.str "sum 0*-0")) (ao (ak (.str "sum -1*2")) (ao (ak (.str "sum +1*2")) (ao (ak (.str "sum 0*1*2")) (ao (ak (.str "sum a*1")) (ao (mOp jt (ak (.str "sum 0*")) (bf 1)) (ao (ak (.str "Sum 0*1")) cu))))))))))) ⟨[sl (.int c),sl (.str far),ow bd0],sto⟩=some (.next,⟨[sl (.int c),sl (.str far),ow bd1],sto⟩):=by kernel_rfl
theorem bS3 {c:Int}:(sNew 2 (mj 2 (j5 (fun l=>some (.lst l)) (Bv ["rest","rest ","rest x 0*1","rest 2 0,1,2*3","rest 2 0,*3","rest 2 0*1,2","rest 02 0*1"])))) ⟨[sl (.int c),sl (.str far),ow bd1],sto⟩=some (.next,⟨[sl (.int c),sl (.str far),ow bd2],sto⟩):=by kernel_rfl
theorem bS4 {c:Int}:(v7 2 (ak (.str "or 1"))) ⟨[sl (.int c),sl (.str far),ow bd2],sto⟩=some (.next,⟨[sl (.int c),sl (.str far),ow bd3],sto⟩):=by kernel_rfl
theorem bS5 {c:Int}:(sNew 2 (mj 2 (j5 (fun l=>some (.lst l)) (Bv ["or 1 2 3","or -1 2","or x 2","cut x","cut x 1 2","cut X 1","cut 9x 1","cut @ 1","cut x 1.5"])))) ⟨[sl (.int c),sl (.str far),ow bd3],sto⟩=some (.next,⟨[sl (.int c),sl (.str far),ow bd4],sto⟩):=by kernel_rfl
theorem bS6 {c:Int}:(sNew 2 (mj 2 (j5 (fun l=>some (.lst l)) (Bv ["cut set 1","cut abcdefghi 1","start","start 1","sum 0*0","sum 0*-1","rest 1 0*1"])))) ⟨[sl (.int c),sl (.str far),ow bd4],sto⟩=some (.next,⟨[sl (.int c),sl (.str far),ow bd5],sto⟩):=by kernel_rfl
theorem bS7 {c:Int}:(sNew 2 (mj 2 (j5 (fun l=>some (.lst l)) (Bv ["rest 0 0*1","rest -2 0*1","rest 2 0*0","own x","own 01","own -1","own","start end"])))) ⟨[sl (.int c),sl (.str far),ow bd5],sto⟩=some (.next,⟨[sl (.int c),sl (.str far),ow bd6],sto⟩):=by kernel_rfl
theorem bS8 {c:Int}:(sNew 2 (mj 2 (j5 (fun l=>some (.lst l)) (Bv ["start abcdefghi","start a b","other 1 b2","other x b2 3","other 1 B 3","other 1 b2 3 4"])))) ⟨[sl (.int c),sl (.str far),ow bd6],sto⟩=some (.next,⟨[sl (.int c),sl (.str far),ow bd7],sto⟩):=by kernel_rfl
theorem bSL {c:Int}:(mj 2 (j5 (fun l=>some (.lst l)) (ao (ak (.str "other 1 b2 -1")) cu))) ⟨[sl (.int c),sl (.str far),ow bd7],sto⟩=some (.lst (a8m.map .str),⟨[sl (.int c),sl (.str far),ow bd7],sto⟩):=by kernel_rfl
theorem pick (L:List Str) {c m:Int} (hm:m=(L.length:Int)) (h0:0<m):∃ x∈L,gb (.lst (L.map T.str)) (.int (c%m))=some (.str x):=by
 have p0:=Int.emod_nonneg c (show m≠0 by omega);have p1:=Int.emod_lt_of_pos c h0;obtain ⟨k,ek⟩:∃ k:Nat,c%m=(k:Int):=⟨(c%m).toNat,by omega⟩;have hk:k<L.length:=by omega
 exact ⟨L[k],List.getElem_mem hk,by rw [ek]; exact Bh T.str L hk⟩
theorem a80 {c:Int}:∃ x∈a8m,Ed [.int c] sto=some (.str x,sto):=by
 obtain ⟨x,hx,e⟩:=pick a8m (c:=c) (m:=58) (by decide +kernel) (by decide);exact ⟨x,hx,zrun (zq bS0 (zq bS1 (zq bS2 (zq bS3 (zq bS4 (zq bS5 (zq bS6 (zq bS7 (zq bS8 (zr (zo bSL (zo rfl rfl (md (by decide))) e))))))))))) rfl⟩
def a5n (r:Str):Bool:=(qt (ws r)).isNone&&(qj (ws r)).isNone&&lnB (cs r) 500
theorem Yx:a8m.all a5n=true:=by decide +kernel
theorem a1l {r:Str} (h:a5n r=true):qt (ws r)=none/\qj (ws r)=none/\Ln r 500:=by
 unfold a5n at h;rw [Bool.and_eq_true,Bool.and_eq_true,Option.isNone_iff_eq_none,Option.isNone_iff_eq_none] at h;exact ⟨h.1.1,h.1.2,a2u h.2⟩
theorem a0i {r:Str} (h:a5n r=true) (s:Ms):stepM s r=none:=by
 obtain ⟨h1,h2,_⟩:=a1l h;cases s with
 | idle acc=>rw [stepM,h1]; rfl
 | on acc d st=>rw [stepM,h2]
def O6:List Str:=["sum 0*1","cut x 1","or 0 0","rest 2 0*1","","own 1 2"]
theorem Xk:(O6.all fun r=>(qt (ws r)).isNone&&lnB (cs r) 60)=true:=by decide +kernel
end K
end
section
namespace K
open C PySem
variable {cR cN:Nat} {sto:List SO}
theorem Vx {n:Nat}:∀ {l:List Str},(∀ r∈l,Ln r n)->(l.map (·.length)).sum<=l.length * n
 | [],_=>Nat.zero_le _
 | x::l,h=>by
  have h1:=(h x List.mem_cons_self).le;have h2:=Vx (l:=l) fun w hw=>h w (List.mem_cons_of_mem _ hw);rw [<- uo] at h1;simp only [List.map_cons,List.sum_cons,List.length_cons,Nat.add_mul,Nat.one_mul];omega
theorem Cy {sep:Str}:∀ l:List Str,(Str.join sep l).length<=(l.map (·.length)).sum+l.length * sep.length
 | []=>by rw [Str.join]; exact Nat.zero_le _
 | [x]=>by rw [Str.join]; simp
 | x::y::r=>by
  have ih:=Cy (sep:=sep) (y::r);rw [Str.join]
  ·rw [uo,jc,jc,List.length_append,List.length_append,<- uo,<- uo,<- uo];simp only [List.map_cons,List.sum_cons,List.length_cons,Nat.add_mul,Nat.one_mul] at ih ⊢;omega
  all_goals simp
abbrev txt (l:List Str):Str:=Str.join "\n" l
theorem a1v:("\n" : Str).length=1:=by decide +kernel
theorem Jc {l:List Str} (h:∀ r∈l,Ln r 500) (hl:l.length<=1000):Ae (.str "\n") (paT l)=some (.str (txt l)):=a1q (by
 have:=Vx h;rw [a1v];omega)
theorem a2n {l:List Str} (h:∀ r∈l,Ln r 500) (hl:l.length<=1000):Ptx (txt l):=⟨fun c hc=>by
  rcases mem_join hc with e | ⟨w,hw,e⟩
  ·rw [Zi,List.mem_singleton] at e; omega
  ·exact ((h w hw).pl c e).2,by
  have h1:=Cy (sep := "\n") l;have h2:=Vx h;rw [a1v] at h1;rw [<- uo];show (Str.join "\n" l).length<1000000;omega⟩
def Nem (l:List Str):Prop:=l≠[]/\l≠([""]:List Str)
theorem Jz {l:List Str} (h:∀ r∈l,Ln r 500) (hn:Nem l):rowsOf (txt l)=l:=by
 have e:(txt l == "")=false:=by
  rw [beq_eq_false_iff_ne];intro z;have z:cs (txt l)=[]:=by rw [z]; decide +kernel
  match l,hn,z with
  | [],hn,_=>exact hn.1 rfl
  | [x],hn,z =>
   have:cs (Str.join "\n" [x])=[]:=z;rw [Str.join] at this;exact hn.2 (by rw [show x = "" from Ac (this.trans (by decide +kernel))])
  | x::y::r,_,z =>
   have:cs (Str.join "\n" (x::y::r))=[]:=z;rw [Str.join] at this
   ·rw [jc,jc,Zi] at this;simp at this
   all_goals simp
 unfold rowsOf;rw [e,if_neg (by decide)];exact Xx hn.1 fun w hw=>(h w hw).no
theorem a2g {l:List Str} {s:Ms} (h:runM (.idle []) l=.inl s) (hl:l≠[]):Nem l:=⟨hl,fun z=>by
 rw [z] at h
 have q:stepM (.idle []) "" = none:=by
  rw [stepM,show qt (ws "")=none by decide +kernel]; rfl
 rw [runM,q] at h;cases h⟩
theorem Ho {l:List Str} (h:2<=l.length):Nem l:=⟨fun z=>by rw [z] at h; exact absurd h (by decide),fun z=>by rw [z] at h; exact absurd h (by simp)⟩
theorem a4t {l:List Str} (h:∀ r∈l,Ln r 500) (hl:l.length<=1000):Prs l:=⟨by show _<1000000; omega,fun r hr=>(h r hr).pn (by decide)⟩
structure Rd (x:Str):Prop where
 ptx:Ptx x
 prs:Prs (rowsOf x)
theorem Jf {l:List Str} (h:∀ r∈l,Ln r 500) (hl:l.length<=1000) (hn:Nem l):Rd (txt l):=⟨a2n h hl,by rw [Jz h hn]; exact a4t h hl⟩
theorem Dc {l:List Str} (h:∀ r∈l,Ln r 500) (hl:l.length<=1000) (hn:Nem l):Cp (txt l)=(match runM (.idle []) l with
   | .inl (.idle a)=>.inl a
   | .inl (.on _ _ _)=>.inr (l.length+1)
   | .inr i=>.inr (i+1)):=by
 rw [Mz (by rw [Jz h hn]; omega),Jz h hn]
 try (cases runM (.idle []) l <;> first | rfl | (rename_i z;cases z <;> rfl))
theorem Ov {x:Str} (h:Rd x) {A:List T} (hr:Cp x=.inl A):∃ ae,sto.length<=ae.length/\(∀ i,i<sto.length->ae[i]? = sto[i]?)/\jy cR cN [.str x] sto=some (.lst A,ae):=by
 obtain ⟨z,h1,h2,e⟩:=Iu (cR:=cR) (cN:=cN) h.ptx h.prs (sto:=sto);rw [hr] at e;refine ⟨z,h1,h2,?_⟩;unfold jy norm;rw [e]
theorem Ue {x:Str} (h:Rd x) {m:Nat} (hr:Cp x=.inr m):∃ ae,m9 cR cN [.str x] sto=some (.int (m:Int),ae):=by
 obtain ⟨z,h1,h2,e⟩:=Iu (cR:=cR) (cN:=cN) h.ptx h.prs (sto:=sto);rw [hr] at e;obtain ⟨k,hk⟩:∃ k,k=z.length:=⟨_,rfl⟩
 have gx:(z++[SO.exc cN "row" (.int (m:Int))])[k]? = some (.exc cN "row" (.int (m:Int))):=by
  rw [hk,List.getElem?_append_right (Nat.le_refl _),Nat.sub_self]; rfl
 obtain ⟨Z,hZ⟩:∃ Z,Z=z++[SO.exc cN "row" (.int (m:Int))]:=⟨_,rfl⟩;rw [<- hZ] at gx;have V:∀ a b c:C.Slot,bf 3 ⟨[a,b,c,sl (.obj k)],Z⟩=some (.obj k,⟨[a,b,c,sl (.obj k)],Z⟩):=fun a b c=>rfl
 have I:∀ (a b c:C.Slot) (q:Bool),Gf [(cN,"row",q)] (bf 3) ⟨[a,b,c,sl (.obj k)],Z⟩=some (.bl q,⟨[a,b,c,sl (.obj k)],Z⟩):=fun a b c q=>by
  unfold Gf;rw [V a b c];dsimp only;rw [gx];simp
 have X:∀ a b c:C.Slot,mXf cN "row" (bf 3) ⟨[a,b,c,sl (.obj k)],Z⟩=some (.int (m:Int),⟨[a,b,c,sl (.obj k)],Z⟩):=fun a b c=>by
  unfold mXf;rw [V a b c];dsimp only;rw [gx];simp
 have B1:ou 1 (mXf cN "row" (bf 3)) ⟨[sl (.str x),sl .non,sl (.lst []),sl (.obj k)],Z⟩=some (.next,⟨[sl (.str x),sl (.int (m:Int)),sl (.lst []),sl (.obj k)],Z⟩):=ys (X _ _ _) rfl
 have B2:ou 2 (j5 (fun l=>some (.lst l)) (ao (Gf [(cN,"row",true)] (bf 3)) (ao (Gf [(cN,"row",true)] (bf 3)) (ao (Gf [(cN,"row",false)] (bf 3)) (ao (Gf [(cN,"row",false)] (bf 3)) (ao (Gf [(cN,"row",false)] (bf 3)) (ao (Gf [(cN,"row",false)] (bf 3)) (ao (Gf [(cN,"row",false)] (bf 3)) cu)))))))) ⟨[sl (.str x),sl (.int (m:Int)),sl (.lst []),sl (.obj k)],Z⟩=some (.next,⟨[sl (.str x),sl (.int (m:Int)),sl (.lst [.bl true,.bl true,.bl false,.bl false,.bl false,.bl false,.bl false]),sl (.obj k)],Z⟩) :=
  ys (zm (zc (I _ _ _ true) (zc (I _ _ _ true) (zc (I _ _ _ false) (zc (I _ _ _ false) (zc (I _ _ _ false) (zc (I _ _ _ false) (zc (I _ _ _ false) rfl))))))) rfl) rfl
 have B:=zq B1 B2
 have T1:Vf cN "row" (qy cR cN) (ao (bf 0) cu) 3 (qe (ou 1 (mXf cN "row" (bf 3))) (ou 2 (j5 (fun l=>some (.lst l)) (ao (Gf [(cN,"row",true)] (bf 3)) (ao (Gf [(cN,"row",true)] (bf 3)) (ao (Gf [(cN,"row",false)] (bf 3)) (ao (Gf [(cN,"row",false)] (bf 3)) (ao (Gf [(cN,"row",false)] (bf 3)) (ao (Gf [(cN,"row",false)] (bf 3)) (ao (Gf [(cN,"row",false)] (bf 3)) cu)))))))))) ⟨[sl (.str x),sl .non,sl (.lst []),none],sto⟩=some (.next,⟨[sl (.str x),sl (.int (m:Int)),sl (.lst [.bl true,.bl true,.bl false,.bl false,.bl false,.bl false,.bl false]),none],Z⟩):=by
  unfold Vf;rw [show ao (bf 0) cu ⟨[sl (.str x),sl .non,sl (.lst []),none],sto⟩=some ([.str x],⟨[sl (.str x),sl .non,sl (.lst []),none],sto⟩) from rfl];dsimp only;rw [e];dsimp only;rw [<- hZ,<- hk];rw [show (jr 3 (T.obj k) false ⟨[sl (.str x),sl .non,sl (.lst []),none],Z⟩:Sta)=⟨[sl (.str x),sl .non,sl (.lst []),sl (.obj k)],Z⟩ from rfl,B];rfl
 exact ⟨Z,zrun (zq (ys rfl rfl) (zq (ys rfl rfl) (zq T1 (zq (ze (zt (zo rfl (zm (zc rfl (zc rfl (zc rfl (zc rfl (zc rfl (zc rfl (zc rfl rfl))))))) rfl) rfl)) rfl) (zr rfl))))) rfl⟩
end K
end
section
namespace K
open C PySem
def pr (i:Nat):List Str:=[("cut x " : Str)++num (i:Int),"sum"]
def a1o:T:=qp (.sum []) []
def Sk:Nat->List Fr
 | 0=>[]
 | i+1=>(.cut "x" (i:Int),[a1o])::Sk i
theorem Qi:∀ i,(Sk i).length=i
 | 0=>rfl
 | i+1=>by rw [Sk,List.length_cons,Qi i]
theorem a9o {i:Nat} (h:i<100):qj (ws (("cut x " : Str)++num (i:Int)))=some (.cut "x" (i:Int)):=by
 have ej:("cut x " : Str)++num (i:Int)=Str.join " " (["cut","x",num (i:Int)]:List Str):=by
  rw [Str.join,Str.join,Str.join]
  ·apply Ac;rw [jc,jc,jc,jc,jc,show cs "cut x " = cs "cut" ++ (cs " " ++ (cs "x" ++ cs " ")) by decide +kernel];simp only [List.append_assoc]
  all_goals simp
 have e:ws (("cut x " : Str)++num (i:Int))=([("cut" : Str),"x",num (i:Int)]:List Str):=by
  rw [ej];refine Fz (List.cons_ne_nil _ _) fun w hw=>?_;simp only [List.mem_cons,List.not_mem_nil,or_false] at hw;rcases hw with rfl | rfl | rfl
  ·decide +kernel
  ·decide +kernel
  ·exact Ak (by omega)
 rw [e];exact Py (by decide +kernel) (by rw [Int.natAbs_natCast]; exact qu h)
theorem Wq:qj (ws "sum")=some (.sum []):=by
 have e:ws "sum" = ([("sum" : Str)]:List Str):=by decide +kernel
 rw [e];exact R8 (l:=([]:List It)) (f:=wdI) (g:=fun _=>.non) (fun x h=>(nomatch h))
theorem a7n:∃ d,qt (ws "own 1")=some d:=by
 have e:ws "own 1" = ([("own" : Str),num ((1:Nat):Int)]:List Str):=by decide +kernel
 rw [e];exact ⟨_,Qu (qu (by decide))⟩
theorem a8d {acc:List T} {d:T} {i:Nat} (h:i<100) {st:List Fr} (hs:st.length<90):stepM (.on acc d st) (("cut x " : Str)++num (i:Int))=some (.on acc d ((.cut "x" (i:Int),[])::st)):=by
 rw [Al (a9o h) hs,Fo (f:=(.cut "x" (i:Int),[])) (by show ¬ ((0:Nat):Int)=2; decide)]
theorem a5z {acc:List T} {d:T} {i:Nat} (h:i<=88):runM (.on acc d (Sk i)) (pr i)=.inl (.on acc d (Sk (i+1))):=by
 have l:=Qi i;rw [pr,runM,a8d (by omega) (by omega)];dsimp only
 have e:stepM (.on acc d ((.cut "x" (i:Int),[])::Sk i)) "sum" = some (.on acc d (Sk (i+1))):=by
  rw [Al Wq (by rw [List.length_cons]; omega),Hy (f:=(.sum [],[])) (by rfl),Fo (f:=(Hd.cut "x" (i:Int),[]++[qp (.sum []) []])) (by show ¬ ((1:Nat):Int)=2; decide)];rfl
 rw [Bf e]
theorem Nu {acc:List T} {d:T}:∀ i,i<=89->runM (.on acc d []) ((List.range i).flatMap pr)=.inl (.on acc d (Sk i))
 | 0,_=>rfl
 | i+1,h=>by
  rw [List.range_succ,List.flatMap_append,uf (Nu i (by omega)),List.flatMap_cons,List.flatMap_nil,List.append_nil,a5z (by omega)]
theorem Jx:∀ i,((List.range i).flatMap pr).length=2 * i
 | 0=>rfl
 | i+1=>by
  rw [List.range_succ,List.flatMap_append,List.length_append,Jx i];show 2 * i+2=_;omega
theorem a7s {acc:List T} {d:T}:∀ (i:Nat) (p:T),∃ q,fd acc d p (Sk i)=.idle (acc++[T.tup [d,q]])
 | 0,p=>⟨p,rfl⟩
 | i+1,p=>by
  obtain ⟨q,e⟩:=a7s (acc:=acc) (d:=d) i (qp (.cut "x" (i:Int)) [a1o,p]);refine ⟨q,?_⟩;rw [<- e,<- El (f:=(.cut "x" (i:Int),[a1o,p])) (by rfl)];rfl
noncomputable def zu (m:Nat) (ahead:List Str):List Str:=ahead++([("own 1" : Str)]:List Str)++(List.range m).flatMap pr++([("sum" : Str)]:List Str)
theorem Ur {l:List Str} {A:List T} (h:runM (.idle []) l=.inl (.idle A)):∃ d,runM (.idle []) (l++([("own 1" : Str)]:List Str))=.inl (.on A d []):=by
 obtain ⟨d,hd⟩:=a7n;refine ⟨d,?_⟩;rw [uf h,Bf (s':=.on A d []) (by rw [stepM,hd]; rfl)]
theorem a2w {l:List Str} {A:List T} (h:runM (.idle []) l=.inl (.idle A)):∃ x,runM (.idle []) (zu 89 l)=.inl (.idle (A++[x])):=by
 obtain ⟨d,h1⟩:=Ur h
 have h2:runM (.idle []) (l++([("own 1" : Str)]:List Str)++(List.range 89).flatMap pr)=.inl (.on A d (Sk 89)):=by
  rw [uf h1,Nu 89 (Nat.le_refl _)]
 obtain ⟨q,e⟩:=a7s (acc:=A) (d:=d) 89 a1o;refine ⟨T.tup [d,q],?_⟩;rw [zu,uf h2,Bf (s':=.idle (A++[T.tup [d,q]]))];rw [Al Wq (by rw [Qi]; decide),El (f:=(.sum [],[])) (by rfl)];exact congrArg some e
theorem a2s {m:Nat} (h:90<=m):runM (.idle []) (zu m [])=.inr 180:=by
 obtain ⟨d,h1⟩:=Ur (l:=[]) (A:=[]) rfl;rw [List.nil_append] at h1;obtain ⟨k,rfl⟩:∃ k,m=89+(k+1):=⟨m - 90,by omega⟩
 have er:(List.range (89+(k+1))).flatMap pr=(List.range 89).flatMap pr++(pr 89++((List.range k).map fun x=>89+(x+1)).flatMap pr):=by
  have e0:(List.range (k+1)).map (fun x=>89+x)=89::(List.range k).map fun x=>89+(x+1):=by
   rw [List.range_succ_eq_map,List.map_cons,List.map_map]; rfl
  rw [List.range_add,List.flatMap_append,e0,List.flatMap_cons]
 have h2:runM (.idle []) (([("own 1" : Str)]:List Str)++(List.range 89).flatMap pr)=.inl (.on [] d (Sk 89)):=by
  rw [uf h1,Nu 89 (Nat.le_refl _)]
 have ed:zu (89+(k+1)) []=(([("own 1" : Str)]:List Str)++(List.range 89).flatMap pr)++(pr 89++(((List.range k).map fun x=>89+(x+1)).flatMap pr++([("sum" : Str)]:List Str))):=by
  rw [zu,er,List.nil_append];simp only [List.append_assoc]
 have l:=Qi 89
 have e3:∀ rest,runM (.on [] d (Sk 89)) (pr 89++rest)=.inr 1:=fun rest=>by
  rw [pr,List.cons_append,runM,a8d (by decide) (by omega)];dsimp only
  have e:stepM (.on [] d ((.cut "x" ((89:Nat):Int),[])::Sk 89)) "sum" = none:=by
   rw [stepM,Wq];dsimp only;rw [if_neg (by rw [List.length_cons]; omega)]
  rw [List.cons_append,runM,e]
 rw [ed,uf h2,e3];dsimp only;rw [List.length_append,Jx];rfl
theorem Xd {m:Nat} (hm:m<100) {l:List Str} (h:∀ r∈l,Ln r 60):∀ r∈zu m l,Ln r 60:=by
 intro r hr;rcases List.mem_append.mp hr with hr | hr
 ·rcases List.mem_append.mp hr with hr | hr
  ·rcases List.mem_append.mp hr with hr | hr
   ·exact h r hr
   ·rw [List.mem_singleton.mp hr]; exact Bq _ _
  ·obtain ⟨i,hi,hr⟩:=List.mem_flatMap.mp hr;have hi:=List.mem_range.mp hi;rcases List.mem_cons.mp hr with rfl | hr
   ·exact ((Bq "cut x " 6).app (ud (by omega))).mono (by omega)
   ·rw [List.mem_singleton.mp hr]; exact Bq _ _
 ·rw [List.mem_singleton.mp hr]; exact Bq _ _
theorem Rg {m:Nat} {l:List Str}:(zu m l).length=l.length+2 * m+2:=by
 rw [zu,List.length_append,List.length_append,List.length_append,Jx];simp only [List.length_cons,List.length_nil];omega
variable {sto:List SO}
theorem W6 {m:Nat} (hm:m<100) {l:List Str} (hl:l.length<100):yd [.int (m:Int),paT l] sto=some (paT (zu m l),sto):=by
 let s:List Str->C.Slot->Sta:=fun c k=>⟨[sl (.int (m:Int)),sl (paT l),sl (paT c),k],sto⟩
 have A:ou 2 (mOp jt (bf 1) (j5 (fun l=>some (.lst l)) (ao (ak (.str "own 1")) cu))) ⟨[sl (.int (m:Int)),sl (paT l),none,none],sto⟩=some (.next,s (l++([("own 1" : Str)]:List Str)) none) :=
  ys (zo rfl rfl (add_l (b:=([("own 1" : Str)]:List Str)) (by rw [List.length_singleton]; show _<1000000; omega))) rfl
 have step:∀ (i:Nat) (c:List Str) (k:C.Slot),i<100->c.length<1000->ou 2 (mOp jt (bf 2) (j5 (fun l=>some (.lst l)) (ao (mOp jt (ak (.str "cut x ")) (j5 Gh (ao (bf 3) cu))) (ao (ak (.str "sum")) cu)))) (s c (sl (.int (i:Int))))=some (.next,s (c++pr i) (sl (.int (i:Int)))):=fun i c k hi hc =>
  ys (zo rfl (zm (zc (zo rfl (zm (zc rfl rfl) (yx hi)) (Ax (Bq "cut x " 6) (ud hi) (by decide))) (zc rfl rfl)) rfl) (add_l (b:=pr i) (by show c.length+2<1000000; omega))) rfl
 have loop:∀ (is:List Nat) (c:List Str) (k:C.Slot),(∀ i∈is,i<100)->c.length+2 * is.length<1000->∃ k',forL (hName 3) (ou 2 (mOp jt (bf 2) (j5 (fun l=>some (.lst l)) (ao (mOp jt (ak (.str "cut x ")) (j5 Gh (ao (bf 3) cu))) (ao (ak (.str "sum")) cu))))) (is.map fun i:Nat=>T.int (i:Int)) (s c k)=some (.next,s (c++is.flatMap pr) k'):=fun is=>by
  induction is with
  | nil=>intro c k _ _; exact ⟨k,by rw [List.map_nil,forL,List.flatMap_nil,List.append_nil]⟩
  | cons i is ih =>
   intro c k hi hc;rw [List.length_cons] at hc;obtain ⟨k',e⟩:=ih (c++pr i) (sl (.int (i:Int))) (fun x hx=>hi x (List.mem_cons_of_mem _ hx)) (by rw [List.length_append]; show c.length+2+2 * is.length<1000; omega);refine ⟨k',?_⟩;rw [List.map_cons,Z5 (s1:=s c (sl (.int (i:Int)))) rfl (step i c k (hi i List.mem_cons_self) (by omega)),e,List.flatMap_cons,List.append_assoc]
 obtain ⟨k',L⟩:=loop (List.range m) (l++([("own 1" : Str)]:List Str)) none (fun i hi=>by have:=List.mem_range.mp hi; omega) (by rw [List.length_range,List.length_append,List.length_singleton]; omega);have I:Ay (bf 0) (s (l++([("own 1" : Str)]:List Str)) none)=some ((List.range m).map (fun (k:Nat)=>T.int (k:Int)),s (l++([("own 1" : Str)]:List Str)) none):=zrg rfl (by show _<1000000; omega)
 have R:mOp jt (bf 2) (j5 (fun l=>some (.lst l)) (ao (ak (.str "sum")) cu)) (s (l++([("own 1" : Str)]:List Str)++(List.range m).flatMap pr) k')=some (paT (zu m l),s (l++([("own 1" : Str)]:List Str)++(List.range m).flatMap pr) k') :=
  zo rfl rfl (add_l (b:=([("sum" : Str)]:List Str)) (by rw [List.length_append,List.length_append,Jx,List.length_singleton,List.length_singleton]; show _<1000000; omega))
 exact zrun (zq A (zq (a9s I L) (zr R))) rfl
end K
end
section
namespace K
open C PySem
variable {cR cN:Nat}
theorem Wr {a b:List Str} {s z:Ms} (h:runM s (a++b)=.inl z):∃ y,runM s a=.inl y/\runM y b=.inl z:=by
 rw [Jy] at h;cases e:runM s a with
 | inl y =>
  rw [e] at h;dsimp only at h;refine ⟨y,rfl,?_⟩;cases e2:runM y b with
  | inl x=>rw [e2] at h; exact h
  | inr i=>rw [e2] at h; cases h
 | inr i=>rw [e] at h; cases h
theorem a95 {l:List Str} {n i:Nat} (h:Gl l n) (hi:i<l.length) {x:Str} (hx:a5n x=true):runM (.idle []) (l.take i++[x]++l.drop (i+1))=.inr i:=by
 obtain ⟨A,e,_⟩:=h.run;obtain ⟨y,e1,_⟩:=Wr (a:=l.take i) (b:=l.drop i) (by rw [List.take_append_drop]; exact e);rw [List.append_assoc,uf e1,List.singleton_append,runM,a0i hx];dsimp only;rw [List.length_take,Nat.min_eq_left (Nat.le_of_lt hi)];rfl
theorem short {l:List Str} {n:Nat} (h:Gl l n) (hn:1<=n):∃ acc d st,runM (.idle []) (l.take (l.length - 1))=.inl (.on acc d st):=by
 obtain ⟨A,e,_⟩:=h.run;have ge:=h.ge;obtain ⟨y,e1,e2⟩:=Wr (a:=l.take (l.length - 1)) (b:=l.drop (l.length - 1)) (by rw [List.take_append_drop]; exact e);have hl:l.length - 1<l.length:=by omega
 rw [List.drop_eq_getElem_cons hl,show l.length - 1+1=l.length by omega,List.drop_length] at e2;rw [e1];cases y with
 | on acc d st=>exact ⟨acc,d,st,rfl⟩
 | idle acc =>
  rw [runM,stepM] at e2;cases q:qt (ws l[l.length - 1]) with
  | none=>rw [q] at e2; cases e2
  | some d=>rw [q] at e2; cases e2
theorem more {l:List Str} {n:Nat} (h:Gl l n) {x:Str} (hx:qt (ws x)=none):runM (.idle []) (l++[x])=.inr l.length:=by
 obtain ⟨A,e,_⟩:=h.run;rw [uf e,runM,stepM,hx];rfl
theorem Ud {l:List Str} {s:Sta} {m e:M T} {i:Nat} (hm:m s=some (paT l,s)) (he:e s=some (.int (i:Int),s)):ni m (oh e) m6 s=some (paT (l.drop i),s):=by
 unfold ni;rw [hm]; dsimp only;rw [zos he]; dsimp only;rw [show m6 s=some (none,s) from rfl]; dsimp only;have q:=Ju (l:=l) (s:=s) (m:=m) (i:=i) hm;unfold ni at q;rw [hm] at q; dsimp only at q;rw [zos (show ak (.int (i:Int)) s=some (.int (i:Int),s) from rfl)] at q; dsimp only at q;rw [show m6 s=some (none,s) from rfl] at q; dsimp only at q;exact q
theorem G3 {l:List Str} {s:Sta} {m e:M T} {i:Nat} (hi:i<=l.length) (hm:m s=some (paT l,s)) (he:e s=some (.int (i:Int),s)):ni m m6 (oh e) s=some (paT (l.take i),s):=by
 unfold ni;rw [hm]; dsimp only;rw [show m6 s=some (none,s) from rfl]; dsimp only;rw [zos he]; dsimp only
 have e:a2o none (some (i:Int)) (paT l)=some (paT (l.take i)):=by
  show some (T.lst (a0j (l.map .str) none (some (i:Int))))=_;congr 2;unfold a0j;rw [a5s,show C.sIx (l.map T.str).length 0 none=0 from rfl,List.drop_zero,Nat.sub_zero,List.length_map,Nat.min_eq_left hi,List.map_take]
 rw [e]
abbrev oS (c:Int) (j way:Nat) (l:List Str) (o4 o5 o6 o7 o8:C.Slot) (z:List SO):Sta:=⟨[sl (.int c),sl (.obj j),sl (.int (way:Int)),sl (paT l),o4,o5,o6,o7,o8],z⟩
theorem Hr {x:Str} {m:Nat} {i:Int} {s:Sta} {a b:M T} (h:Rd x) (hr:Cp x=.inr m) (ha:a s=some (.str x,s)) (hb:∀ z,b ⟨s.env,z⟩=some (.int i,⟨s.env,z⟩)) (hi:i=(m:Int)):∃ z,mOp eqO (fj (m9 cR cN) (ao a cu)) b s=some (.bl true,⟨s.env,z⟩):=by
 obtain ⟨z,e⟩:=Ue (cR:=cR) (cN:=cN) (sto:=s.sto) h hr;refine ⟨z,zo (zf (zc ha rfl) e) (hb z) ?_⟩;rw [hi,Aa];congr 2;exact beq_self_eq_true _
theorem Oo {c:Int} {sto:List SO}:∃ z,vm cR cN [.int c] sto=some (.bl true,z):=by
 have R:Af [.int c] sto=some (.obj sto.length,sto++[cl2 c (1+c%2147483646)]):=zrun (zr (by unfold uh; rw [zc rfl (zc (zo rfl (zo rfl rfl (md (by decide))) rfl) rfl)])) rfl;have A:ou 1 (fj Af (ao (bf 0) cu)) ⟨[sl (.int c),none,none,none,none,none,none,none,none],sto⟩=some (.next,⟨[sl (.int c),sl (.obj sto.length),none,none,none,none,none,none,none],sto++[cl2 c (1+c%2147483646)]⟩):=ys (zf (s1:=⟨[sl (.int c),none,none,none,none,none,none,none,none],sto⟩) (zc rfl rfl) R) rfl;have r0:RL sto.length (sto++[cl2 c (1+c%2147483646)]):=⟨c,1+c%2147483646,by rw [List.getElem?_append_right (Nat.le_refl _),Nat.sub_self]; rfl⟩;generalize sto.length=j at A r0;generalize sto++[cl2 c (1+c%2147483646)]=z0 at A r0;obtain ⟨way,z1,w8,k1,e1⟩:=nq (j:=j) (m:=8) (s:=⟨[sl (.int c),sl (.obj j),none,none,none,none,none,none,none],z0⟩) (l:=ao (bf 1) (ao (ak (.int 8)) cu)) r0 rfl (by decide) (by decide);have B:ou 2 (fj c7 (ao (bf 1) (ao (ak (.int 8)) cu))) ⟨[sl (.int c),sl (.obj j),none,none,none,none,none,none,none],z0⟩=some (.next,⟨[sl (.int c),sl (.obj j),sl (.int (way:Int)),none,none,none,none,none,none],z1⟩):=ys e1 rfl;obtain ⟨l,n,z2,G,n1,n3,r2,e2⟩:=Y8 (j:=j) k1.rl;have ge:=G.ge;have le:=G.le;have bg:∀ r∈l,Ln r 500:=fun r hr=>(G.ln r hr).mono (by decide);obtain ⟨Ar,rn,rl⟩:=G.run;have C':ou 3 (fj zj (ao (bf 1) cu)) ⟨[sl (.int c),sl (.obj j),sl (.int (way:Int)),none,none,none,none,none,none],z1⟩=some (.next,oS c j way l none none none none none z2):=ys (zf (s1:=⟨[sl (.int c),sl (.obj j),sl (.int (way:Int)),none,none,none,none,none,none],z1⟩) (zc rfl rfl) e2) rfl;have nl:Nem l:=Ho (by omega);have rd:Rd (txt l):=Jf bg (by omega) nl;have rr:Cp (txt l)=.inl Ar:=by rw [Dc bg (by omega) nl,rn]
 obtain ⟨z3,g1,g2,e3⟩:=Ov (cR:=cR) (cN:=cN) (sto:=z2) rd rr
 have r3:RL j z3:=by
  obtain ⟨a,b,e⟩:=r2;exact ⟨a,b,by rw [g2 j (List.getElem?_eq_some_iff.mp e).1]; exact e⟩
 have D:dg (mOp eqO (j5 vf (ao (fj (jy cR cN) (ao (mOp Ae (ak (.str "\n")) (bf 3)) cu)) cu)) (ak (.int 0))) (oS c j way l none none none none none z2)=some (false,oS c j way l none none none none none z3):=by
  refine zt (zo (zm (zc (zf (zc (zo rfl rfl (Jc bg (by omega))) rfl) e3) rfl) rfl) rfl ?_);rw [Aa];congr 2;rw [beq_eq_false_iff_ne];show ((Ar.length:Nat):Int)≠0;omega
 obtain ⟨i,z4,i1,k4,e4⟩:=nq (j:=j) (m:=l.length) (s:=oS c j way l none none none none none z3) (l:=ao (bf 1) (ao (j5 vf (ao (bf 3) cu)) cu)) r3 (zc rfl (zc (zm (zc rfl rfl) Uk) rfl)) (by omega) (by omega);have E:ou 4 (fj c7 (ao (bf 1) (ao (j5 vf (ao (bf 3) cu)) cu))) (oS c j way l none none none none none z3)=some (.next,oS c j way l (sl (.int (i:Int))) none none none none z4):=ys e4 rfl
 have W5:dg (mOp ltT (bf 2) (ak (.int 5))) (oS c j way l (sl (.int (i:Int))) none none none none z4)=some (decide (way<5),oS c j way l (sl (.int (i:Int))) none none none none z4):=by
  refine zt (zo rfl rfl ?_);show some (T.bl (decide ((way:Int)<5)))=_;congr 2;rw [Bool.eq_iff_iff,decide_eq_true_eq,decide_eq_true_eq]; omega
 have Q5:dg (mOp eqO (bf 2) (ak (.int 5))) (oS c j way l (sl (.int (i:Int))) none none none none z4)=some (decide (way=5),oS c j way l (sl (.int (i:Int))) none none none none z4):=zt (zo rfl rfl (a5c (q:=5)));have Q6:dg (mOp eqO (bf 2) (ak (.int 6))) (oS c j way l (sl (.int (i:Int))) none none none none z4)=some (decide (way=6),oS c j way l (sl (.int (i:Int))) none none none none z4):=zt (zo rfl rfl (a5c (q:=6)));have head:∀ {q:S} {r:T} {z:List SO} {env:List C.Slot},q (oS c j way l (sl (.int (i:Int))) none none none none z4)=some (.ret r,⟨env,z⟩)->∀ (ret:S),qe (ou 1 (fj Af (ao (bf 0) cu))) (qe (ou 2 (fj c7 (ao (bf 1) (ao (ak (.int 8)) cu)))) (qe (ou 3 (fj zj (ao (bf 1) cu))) (qe (sIf (dg (mOp eqO (j5 vf (ao (fj (jy cR cN) (ao (mOp Ae (ak (.str "\n")) (bf 3)) cu)) cu)) (ak (.int 0)))) ret Ec) (qe (ou 4 (fj c7 (ao (bf 1) (ao (j5 vf (ao (bf 3) cu)) cu)))) q)))) ⟨[sl (.int c),none,none,none,none,none,none,none,none],sto⟩=some (.ret r,⟨env,z⟩):=fun h ret=>zq A (zq B (zq C' (zq (ze D rfl) (zq E h))));have bO:∀ (x:Nat),jt (.int (x:Int)) (.int 1)=some (.int ((x+1:Nat):Int)):=fun x=>rfl
 by_cases y5:way<5
 ·rw [decide_eq_true y5] at W5;obtain ⟨w,z5,w1,k5,e5⟩:=nq (j:=j) (m:=58) (s:=oS c j way l (sl (.int (i:Int))) none none none none z4) (l:=ao (bf 1) (ao (ak (.int 58)) cu)) k4.rl rfl (by decide) (by decide);obtain ⟨x,hx,ex⟩:=a80 (sto:=z5) (c:=(w:Int));have nx:a5n x=true:=List.all_eq_true.mp Yx x hx
  have bX:(l.take i++[x]++l.drop (i+1)).length=l.length:=by
   rw [List.length_append,List.length_append,List.length_take,List.length_drop,List.length_singleton]; omega
  have sn:∀ r∈l.take i++[x]++l.drop (i+1),Ln r 500:=fun r hr=>by
   rcases List.mem_append.mp hr with hr | hr
   ·rcases List.mem_append.mp hr with hr | hr
    ·exact bg r (List.mem_of_mem_take hr)
    ·rw [List.mem_singleton.mp hr]; exact (a1l nx).2.2
   ·exact bg r (List.mem_of_mem_drop hr)
  have nm:Nem (l.take i++[x]++l.drop (i+1)):=Ho (by rw [bX]; omega);have rs:Cp (txt (l.take i++[x]++l.drop (i+1)))=.inr (i+1):=by rw [Dc sn (by omega) nm,a95 G i1 nx]
  have F:ou 5 (mOp jt (mOp jt (ni (bf 3) m6 (oh (bf 4))) (j5 (fun l=>some (.lst l)) (ao (fj Ed (ao (fj c7 (ao (bf 1) (ao (ak (.int 58)) cu))) cu)) cu))) (ni (bf 3) (oh (mOp jt (bf 4) (ak (.int 1)))) m6)) (oS c j way l (sl (.int (i:Int))) none none none none z4)=some (.next,oS c j way l (sl (.int (i:Int))) (sl (paT (l.take i++[x]++l.drop (i+1)))) none none none z5):=by
   refine ys (zo (zo (G3 (Nat.le_of_lt i1) rfl rfl) (zm (zc (zf0 (zc e5 rfl) ex) rfl) rfl) (add_l (a:=l.take i) (b:=[x]) ?_)) (Ud (i:=i+1) rfl (zo rfl rfl (bO i))) (add_l ?_)) rfl
   ·rw [List.length_take,List.length_singleton]; show _<1000000; omega
   ·rw [<- List.length_append,bX]; show _<1000000; omega
  obtain ⟨z6,e6⟩:=Hr (cR:=cR) (cN:=cN) (s:=oS c j way l (sl (.int (i:Int))) (sl (paT (l.take i++[x]++l.drop (i+1)))) none none none z5) (a:=mOp Ae (ak (.str "\n")) (bf 5)) (b:=mOp jt (bf 4) (ak (.int 1))) (i:=((i+1:Nat):Int)) (Jf sn (by omega) nm) rs (zo rfl rfl (Jc sn (by omega))) (fun z=>zo rfl rfl (bO i)) rfl;exact ⟨z6,zrun (head (zqr (zk W5 (zq F (zr e6)))) _) rfl⟩
 ·rw [decide_eq_false y5] at W5
  by_cases y:way=5
  ·rw [decide_eq_true y] at Q5;obtain ⟨acc,d,st,es⟩:=short G n1;have tl:(l.take (l.length - 1)).length=l.length - 1:=by rw [List.length_take]; omega
   have sn:∀ r∈l.take (l.length - 1),Ln r 500:=fun r hr=>bg r (List.mem_of_mem_take hr);have nm:Nem (l.take (l.length - 1)):=a2g es (fun z=>by rw [z] at tl; rw [List.length_nil] at tl; omega);have rs:Cp (txt (l.take (l.length - 1)))=.inr (l.length - 1+1):=by rw [Dc sn (by omega) nm,es,tl]
   have F:ou 6 (ni (bf 3) m6 (oh (mOp Zq (j5 vf (ao (bf 3) cu)) (ak (.int 1))))) (oS c j way l (sl (.int (i:Int))) none none none none z4)=some (.next,oS c j way l (sl (.int (i:Int))) none (sl (paT (l.take (l.length - 1)))) none none z4):=by
    refine ys (G3 (i:=l.length - 1) (by omega) rfl (zo (zm (zc rfl rfl) Uk) rfl ?_)) rfl;show some (T.int ((l.length:Int) - 1))=_;congr 2; omega
   obtain ⟨z6,e6⟩:=Hr (cR:=cR) (cN:=cN) (s:=oS c j way l (sl (.int (i:Int))) none (sl (paT (l.take (l.length - 1)))) none none z4) (a:=mOp Ae (ak (.str "\n")) (bf 6)) (b:=mOp jt (j5 vf (ao (bf 6) cu)) (ak (.int 1))) (i:=(((l.take (l.length - 1)).length+1:Nat):Int)) (Jf sn (by omega) nm) rs (zo rfl rfl (Jc sn (by omega))) (fun z=>zo (zm (zc rfl rfl) Uk) rfl (bO _)) (by rw [tl]);exact ⟨z6,zrun (head (zq (ze W5 rfl) (zqr (zk Q5 (zq F (zr e6))))) _) rfl⟩
  ·rw [decide_eq_false y] at Q5
   by_cases y6:way=6
   ·rw [decide_eq_true y6] at Q6;obtain ⟨w,z5,w1,k5,e5⟩:=nq (j:=j) (m:=6) (s:=oS c j way l (sl (.int (i:Int))) none none none none z4) (l:=ao (bf 1) (ao (ak (.int 6)) cu)) k4.rl rfl (by decide) (by decide);have wl:w<O6.length:=w1;have nx:=List.all_eq_true.mp Xk O6[w] (List.getElem_mem wl);rw [Bool.and_eq_true,Option.isNone_iff_eq_none] at nx;have ix:gb (.lst (O6.map .str)) (.int (w:Int))=some (.str O6[w]):=Bh T.str O6 wl;generalize O6[w]=x at nx ix
    have sn:∀ r∈l++[x],Ln r 500:=fun r hr=>by
     rcases List.mem_append.mp hr with hr | hr
     ·exact bg r hr
     ·rw [List.mem_singleton.mp hr]; exact (a2u nx.2).mono (by decide)
    have bX:(l++[x]).length=l.length+1:=by rw [List.length_append]; rfl
    have nm:Nem (l++[x]):=Ho (by rw [bX]; omega);have rs:Cp (txt (l++[x]))=.inr (l.length+1):=by rw [Dc sn (by omega) nm,more G nx.1]
    have F:ou 7 (mOp jt (bf 3) (j5 (fun l=>some (.lst l)) (ao (mOp gb (j5 (fun l=>some (.lst l)) (Bv ["sum 0*1","cut x 1","or 0 0","rest 2 0*1","","own 1 2"])) (fj c7 (ao (bf 1) (ao (ak (.int 6)) cu)))) cu))) (oS c j way l (sl (.int (i:Int))) none none none none z4)=some (.next,oS c j way l (sl (.int (i:Int))) none none (sl (paT (l++[x]))) none z5) :=
     ys (zo rfl (zm (zc (zo rfl e5 ix) rfl) rfl) (add_l (b:=[x]) (by rw [List.length_singleton]; show _<1000000; omega))) rfl
    obtain ⟨z6,e6⟩:=Hr (cR:=cR) (cN:=cN) (s:=oS c j way l (sl (.int (i:Int))) none none (sl (paT (l++[x]))) none z5) (a:=mOp Ae (ak (.str "\n")) (bf 7)) (b:=mOp jt (j5 vf (ao (bf 3) cu)) (ak (.int 1))) (i:=((l.length+1:Nat):Int)) (Jf sn (by omega) nm) rs (zo rfl rfl (Jc sn (by omega))) (fun z=>zo (zm (zc rfl rfl) Uk) rfl (bO _)) rfl;exact ⟨z6,zrun (head (zq (ze W5 rfl) (zq (ze Q5 rfl) (zqr (zk Q6 (zq F (zr e6)))))) _) rfl⟩
   ·rw [decide_eq_false y6] at Q6;obtain ⟨w,z5,w1,k5,e5⟩:=nq (j:=j) (m:=3) (s:=oS c j way l (sl (.int (i:Int))) none none none none z4) (l:=ao (bf 1) (ao (ak (.int 3)) cu)) k4.rl rfl (by decide) (by decide)
    have am:jt (.int 90) (.int (w:Int))=some (.int ((w+90:Nat):Int)):=by
     show some (T.int (90+(w:Int)))=_;congr 2; omega
    have d0:=W6 (sto:=z5) (m:=w+90) (by omega) (l:=[]) (by decide);have s0:ni (bf 3) m6 (oh (ak (.int 0))) (oS c j way l (sl (.int (i:Int))) none none none none z5)=some (paT [],oS c j way l (sl (.int (i:Int))) none none none none z5):=G3 (l:=l) (i:=0) (Nat.zero_le _) rfl rfl
    have F:ou 8 (fj yd (ao (mOp jt (ak (.int 90)) (fj c7 (ao (bf 1) (ao (ak (.int 3)) cu)))) (ao (ni (bf 3) m6 (oh (ak (.int 0)))) cu))) (oS c j way l (sl (.int (i:Int))) none none none none z4)=some (.next,oS c j way l (sl (.int (i:Int))) none none none (sl (paT (zu (w+90) []))) z5) :=
     ys (zf0 (zc (zo rfl e5 am) (zc s0 rfl)) d0) rfl
    have dl:(zu (w+90) []).length=2 * (w+90)+2:=by rw [Rg,List.length_nil]; omega
    have dn:∀ r∈zu (w+90) [],Ln r 500:=fun r hr=>(Xd (by omega) (fun r h=>absurd h List.not_mem_nil) r hr).mono (by decide);have nm:Nem (zu (w+90) []):=Ho (by omega);have rs:Cp (txt (zu (w+90) []))=.inr (180+1):=by rw [Dc dn (by omega) nm,a2s (by omega)]
    obtain ⟨z6,e6⟩:=Hr (cR:=cR) (cN:=cN) (s:=oS c j way l (sl (.int (i:Int))) none none none (sl (paT (zu (w+90) []))) z5) (a:=mOp Ae (ak (.str "\n")) (bf 8)) (b:=ak (.int 181)) (i:=181) (Jf dn (by omega) nm) rs (zo rfl rfl (Jc dn (by omega))) (fun z=>rfl) rfl;obtain ⟨x,rx⟩:=a2w rn;have d9:=W6 (sto:=z6) (m:=89) (by decide) (l:=l) (by omega);have gy:(zu 89 l).length=l.length+180:=by rw [Rg]
    have dO:∀ r∈zu 89 l,Ln r 500:=fun r hr=>(Xd (by decide) G.ln r hr).mono (by decide);have eJ:Nem (zu 89 l):=Ho (by omega);have f6:Cp (txt (zu 89 l))=.inl (Ar++[x]):=by rw [Dc dO (by omega) eJ,rx]
    obtain ⟨z7,h1,h2,e7⟩:=Ov (cR:=cR) (cN:=cN) (sto:=z6) (Jf dO (by omega) eJ) f6
    have L:dg (mOp gtT (j5 vf (ao (fj (jy cR cN) (ao (mOp Ae (ak (.str "\n")) (fj yd (ao (ak (.int 89)) (ao (bf 3) cu)))) cu)) cu)) (ak (.int 1))) (oS c j way l (sl (.int (i:Int))) none none none (sl (paT (zu (w+90) []))) z6)=some (true,oS c j way l (sl (.int (i:Int))) none none none (sl (paT (zu (w+90) []))) z7):=by
     refine zt (zo (zm (zc (zf (zc (zo rfl (zf0 (zc rfl (zc rfl rfl)) d9) (Jc dO (by omega))) rfl) e7) rfl) rfl) rfl ?_);show some (T.bl (decide ((1:Int)<(((Ar++[x]).length:Nat):Int))))=_;rw [List.length_append,List.length_singleton,decide_eq_true (by omega)]
    exact ⟨z7,zrun (head (zq (ze W5 rfl) (zq (ze Q5 rfl) (zq (ze Q6 rfl) (zq F (zr (zb (a0k (zt e6) L))))))) _) rfl⟩
end K
end
section
namespace K
open C PySem
variable {cR cN:Nat}
def ra:List Nat:=cs "own 1"
def rb:List Nat:=cs "sum"
def ru:List Nat:=ra++10::(rb++[10])
def tx (n:Nat):List Nat:=(List.replicate n ru).flatten++(ra++10::rb)
def rs2 (n:Nat):List Str:=(List.replicate n [("own 1" : Str),"sum"]).flatten
theorem a7i:10∉ra:=by unfold ra; decide +kernel
theorem a6g:10∉rb:=by unfold rb; decide +kernel
theorem a1c:ra.length=5:=by unfold ra; decide +kernel
theorem a0u:rb.length=3:=by unfold rb; decide +kernel
theorem a7g:ru.length=10:=by unfold ru; rw [List.length_append,List.length_cons,List.length_append,a1c,a0u]; rfl
theorem Og (n:Nat):((List.replicate n ru).flatten).length=n * 10:=by
 induction n with
 | zero=>rfl
 | succ n ih=>rw [List.replicate_succ,List.flatten_cons,List.length_append,ih,a7g]; omega
theorem a1r (n:Nat):(tx n).length=n * 10+9:=by
 unfold tx;rw [List.length_append,Og,List.length_append,List.length_cons,a1c,a0u]
theorem a1w:∀ n,(cutAt 10 (tx n)).map Kr=rs2 (n+1)
 | 0=>by
  have e:tx 0=ra++10::rb:=rfl;rw [e,G4 a7i,Gi a6g];exact congr (congrArg List.cons (Fw "own 1")) (congrArg (fun x=>[x]) (Fw "sum"))
 | n+1=>by
  have e:tx (n+1)=ra++10::(rb++10::tx n):=by
   unfold tx;rw [List.replicate_succ,List.flatten_cons];unfold ru;simp only [List.append_assoc,List.cons_append,List.nil_append]
  rw [e,G4 a7i,G4 a6g,List.map_cons,List.map_cons,a1w n];have sa:Kr ra = "own 1" := Fw "own 1";have sb:Kr rb = "sum" := Fw "sum";rw [sa,sb];show _=(List.replicate (n+1+1) [("own 1" : Str),"sum"]).flatten;rw [List.replicate_succ];rfl
theorem a8z:∀ c∈ru,c<128:=by unfold ru ra rb; decide +kernel
theorem a7q:∀ c∈ra++10::rb,c<128:=by unfold ra rb; decide +kernel
theorem a9v {n:Nat}:∀ c∈tx n,c<128:=by
 intro c hc;unfold tx at hc;rcases List.mem_append.mp hc with h | h
 ·obtain ⟨l,hl,hc⟩:=List.mem_flatten.mp h;rw [List.eq_of_mem_replicate hl] at hc;exact a8z c hc
 ·exact a7q c h
theorem a3u {n:Nat}:∀ r∈rs2 n,r = "own 1" \/ r = "sum" := by
 intro r hr;obtain ⟨l,hl,hc⟩:=List.mem_flatten.mp hr;rw [List.eq_of_mem_replicate hl] at hc;rcases List.mem_cons.mp hc with h | h
 ·exact .inl h
 ·exact .inr (List.mem_singleton.mp h)
theorem Xw (n:Nat):(rs2 n).length=2 * n:=by
 unfold rs2
 induction n with
 | zero=>rfl
 | succ n ih=>rw [List.replicate_succ,List.flatten_cons,List.length_append,ih]; show 2+2 * n=_; omega
theorem K8 (n:Nat):rs2 (n+1)=("own 1" : Str)::("sum" : Str)::rs2 n:=by
 unfold rs2;rw [List.replicate_succ];rfl
theorem K1 (n:Nat):rowsOf (st (tx n))=rs2 (n+1):=by
 have e:(st (tx n) == "")=false:=ab2 (by
  intro z;have z:tx n=cs "" := z;have l:=a1r n;rw [z,show (cs "").length=0 by decide +kernel] at l;omega)
 unfold rowsOf;rw [e,if_neg (by decide)];exact a1w n
theorem a6u {n:Nat} (h:n<=3000):Rd (st (tx n)):=⟨⟨a9v,by show (tx n).length<1000000; rw [a1r]; omega⟩,by
 rw [K1];refine ⟨by rw [Xw]; show _<1000000; omega,fun r hr=>?_⟩;rcases a3u r hr with rfl | rfl
 ·exact (Bq "own 1" 5).pn (by decide)
 ·exact (Bq "sum" 5).pn (by decide)⟩
theorem Vi:∃ d,qt (ws "own 1")=some d/\∀ acc,stepM (.idle acc) "own 1" = some (.on acc d [])/\stepM (.on acc d []) "sum" = some (.idle (acc++[T.tup [d,a1o]])):=by
 obtain ⟨d,hd⟩:=a7n;refine ⟨d,hd,fun acc=>⟨by rw [stepM,hd]; rfl,?_⟩⟩;rw [Al Wq (by decide),Ek (f:=(.sum [],[])) (by rfl)];rfl
theorem a3i:∃ x,∀ (n:Nat) (acc:List T),runM (.idle acc) (rs2 n)=.inl (.idle (acc++List.replicate n x)):=by
 obtain ⟨d,_,h⟩:=Vi;refine ⟨T.tup [d,a1o],fun n=>?_⟩
 induction n with
 | zero=>intro acc; rw [List.replicate_zero,List.append_nil]; rfl
 | succ n ih =>
  intro acc;rw [K8,runM,(h acc).1];dsimp only;rw [runM,(h acc).2];dsimp only;rw [ih,List.replicate_succ,List.append_assoc];rfl
theorem Zc:∃ A,Cp (st (tx 2499))=.inl A/\A.length=2500:=by
 obtain ⟨x,h⟩:=a3i;refine ⟨List.replicate 2500 x,?_,List.length_replicate⟩;rw [Mz (by rw [K1,Xw]; decide),K1,h];dsimp only;rw [List.nil_append]
theorem a4g {rs:List Str} {n:Nat} (fu:Nat) (h:has rs n=true) (hr:row rs n = "sum"):goP rs (fu+1) n []=.inl (a1o,n+1):=by
 rw [goP,if_pos h,hr,Wq];dsimp only;rw [if_pos (by decide),Ek (f:=(.sum [],[])) (by rfl)];rfl
theorem Qq {N:Nat} (hN:2501<=N):∀ (fu i:Nat) (acc:List T),i<=2500->2501<=i+fu->goR (rs2 N) fu (2 * i) acc=.inr 5001
 | 0,i,acc,h1,h2=>absurd h2 (by omega)
 | fu+1,i,acc,h1,h2=>by
  have dr:∀ i k,(rs2 (i+k)).drop (2 * i)=rs2 k:=fun i=>by
   induction i with
   | zero=>intro k; rw [Nat.zero_add]; rfl
   | succ i ih =>
    intro k;rw [show i+1+k=i+(k+1) by omega,show 2 * (i+1)=2 * i+2 by omega,<- List.drop_drop,ih,K8];rfl
  have d0:=dr i (N - i - 1+1);rw [show i+(N - i - 1+1)=N by omega,K8] at d0;obtain ⟨a1,a2,a3⟩:=Qj d0;obtain ⟨b1,b2,b3⟩:=Qj a2;rw [goR,if_pos a3]
  by_cases z:i=2500
  ·have hh:has (rs2 N) (2 * i)=false:=by unfold has; rw [decide_eq_false (show ¬ 2 * i<5000 by omega),Bool.and_false]
   rw [hh,if_neg (by decide),z]
  ·obtain ⟨d,hd,_⟩:=Vi;have h1:has (rs2 N) (2 * i)=true:=by unfold has; rw [decide_eq_true a3,decide_eq_true (show 2 * i<5000 by omega)]; rfl
   have h2:has (rs2 N) (2 * i+1)=true:=by unfold has; rw [decide_eq_true b3,decide_eq_true (show 2 * i+1<5000 by omega)]; rfl
   rw [h1,if_pos rfl,a1,hd];dsimp only;rw [show goP (rs2 N) 6000 (2 * i+1) []=.inl (a1o,2 * i+1+1) from a4g 5999 h2 b1];dsimp only;exact Qq hN fu (i+1) _ (by omega) (by omega)
theorem Xr:Cp (st (tx 2500))=.inr 5001:=by
 unfold Cp;rw [K1];exact Qq (by decide) 6000 0 [] (by decide) (by decide)
theorem Zr {x:Str}:Ss x none (some (-1))=st ((cs x).dropLast):=by
 unfold Ss;have h0:HT.sIx x.length 0 none=0:=rfl;rw [h0];show (⟨_⟩:Str)=⟨_⟩;congr 2;rw [List.drop_zero,Nat.sub_zero];show (cs x).take _=_
 have h1:HT.sIx x.length x.length (some (-1))=(cs x).length - 1:=by
  rw [uo];simp only [HT.sIx,show ((-1:Int)<0) by decide,if_true];omega
 rw [h1,List.dropLast_eq_take]
def big:Str:=⟨((List.replicate 2500 ("own 1\nsum\n" : Str).cps.toList).flatten).toArray⟩
theorem a8q:cs "own 1\nsum\n" = ru:=by unfold ru ra rb; decide +kernel
theorem Qo:cs big=(List.replicate 2500 ru).flatten:=by
 show (List.replicate 2500 (cs "own 1\nsum\n")).flatten=_;rw [a8q]
theorem a4b:big.length<lim:=by
 rw [uo,Qo,Og]; decide
theorem Zu:Ss big none (some (-1))=st (tx 2499):=by
 rw [Zr,Qo]
 have e:(List.replicate 2500 ru).flatten=tx 2499++[10]:=by
  unfold tx;rw [show (2500:Nat)=2499+1 from rfl,List.replicate_succ',List.flatten_append];unfold ru;simp only [List.flatten_cons,List.flatten_nil,List.append_nil,List.append_assoc,List.cons_append,List.nil_append]
 rw [e,List.dropLast_concat]
theorem a3e:big++("own 1\nsum" : Str)=st (tx 2500):=by
 apply Ac;rw [jc,Qo];show _=tx 2500;unfold tx;rw [show cs "own 1\nsum" = ra++10::rb by unfold ra rb; decide +kernel]
abbrev scr (cs:List Int):T:=.lst (cs.map .int)
theorem Rj {g:G} {b:S} {it:M (List T)} {s s1:Sta} {ts:List T} {q:Option (C.Flow × Sta)} (h:it s=some (ts,s1)) (h2:forL g b ts s1=q):Tz g it b s=q:=by unfold Tz; rw [h]; exact h2
theorem Yb (xs:List Int) (p q:Option Int):∃ l:List Int,a0j (xs.map T.int) p q=l.map T.int/\l.length<=xs.length:=by
 unfold a0j;simp only [List.length_map,<- List.map_drop,<- List.map_take];exact ⟨_,rfl,by simp only [List.length_take,List.length_drop]; omega⟩
abbrev lS (xs:List Int) (a b:C.Slot) (z:List SO):Sta:=⟨[sl (scr xs),a,b],z⟩
theorem a04 {xs:List Int} (hl:xs.length<=63):∃ z,a5b cR cN [scr xs] []=some (.bl true,z):=by
 obtain ⟨l,e,hle⟩:=Yb xs none (some 24)
 have it:Nf (ni (bf 0) m6 (oh (ak (.int 24)))) (lS xs none none [])=some (l.map T.int,lS xs none none []):=by
  have m:ni (bf 0) m6 (oh (ak (.int 24))) (lS xs none none [])=some (.lst (l.map T.int),lS xs none none []):=by
   unfold ni;rw [show bf 0 (lS xs none none [])=some (scr xs,lS xs none none []) from rfl];dsimp only;rw [show m6 (lS xs none none [])=some (none,lS xs none none []) from rfl];dsimp only;rw [zos (p:=24) (a:=ak (.int 24)) (s1:=lS xs none none []) rfl];dsimp only;rw [show a2o none (some 24) (scr xs)=some (.lst (l.map T.int)) by simp only [a2o,e]]
  exact zis m (by show _<1000000; omega)
 have loop:∀ (l:List Int) (a:C.Slot) (z:List SO),∃ a' z',forL (hName 1) (sIf (Xe (dg (fj (vm cR cN) (ao (bf 1) cu)))) (Az (ak (.bl false))) Ec) (l.map T.int) (lS xs a none z)=some (.next,lS xs a' none z'):=fun l=>by
  induction l with
  | nil=>intro a z; exact ⟨a,z,by rw [List.map_nil,forL]⟩
  | cons c l ih =>
   intro a z;obtain ⟨z1,e1⟩:=Oo (cR:=cR) (cN:=cN) (c:=c) (sto:=z);obtain ⟨a',z',e2⟩:=ih (sl (.int c)) z1;refine ⟨a',z',?_⟩;rw [List.map_cons];have t:=a8l (zt (zf (s:=lS xs (sl (.int c)) none z) (s1:=lS xs (sl (.int c)) none z) (l:=ao (bf 1) cu) (zc rfl rfl) e1));exact (Z5 rfl (ze t rfl)).trans e2
 obtain ⟨a,z,L⟩:=loop l none []
 have fin:∃ z',Az (xu (Dj (dg (fj (vm cR cN) (ao (ak (.int 7)) cu))) (dg (fj (vm cR cN) (ao (ak (.int 5)) cu))))) (lS xs a none z)=some (.ret (.bl true),lS xs a none z'):=by
  obtain ⟨z1,e1⟩:=Oo (cR:=cR) (cN:=cN) (c:=7) (sto:=z);obtain ⟨z2,e2⟩:=Oo (cR:=cR) (cN:=cN) (c:=5) (sto:=z1);have t1:=zt (zf (s:=lS xs a none z) (s1:=lS xs a none z) (l:=ao (ak (.int 7)) cu) (zc rfl rfl) e1);have t2:=zt (zf (s:=lS xs a none z1) (s1:=lS xs a none z1) (l:=ao (ak (.int 5)) cu) (zc rfl rfl) e2);exact ⟨z2,zr (zb (a0k t1 t2))⟩
 obtain ⟨z',fin⟩:=fin;cases xs with
 | nil =>
  have c0:Dj (dg (mOp gtT (j5 vf (ao (bf 0) cu)) (ak (.int 0)))) (dg (mOp eqO (mOp Mr (mOp gb (bf 0) (ak (.int 0))) (ak (.int 16))) (ak (.int 3)))) (lS [] a none z)=some (false,lS [] a none z):=a8g (zt (zo (zm (zc rfl rfl) rfl) rfl rfl));exact ⟨z',zrun (zq (Rj it L) (zq (ze c0 rfl) fin)) rfl⟩
 | cons x xs =>
  have g0:dg (mOp gtT (j5 vf (ao (bf 0) cu)) (ak (.int 0))) (lS (x::xs) a none z)=some (true,lS (x::xs) a none z):=by
   refine zt (zo (zm (zc rfl rfl) Uk) rfl ?_);show some (T.bl (decide ((0:Int)<(((x::xs).length:Nat):Int))))=_;rw [decide_eq_true (by rw [List.length_cons]; omega)]
  have i0:mOp gb (bf 0) (ak (.int 0)) (lS (x::xs) a none z)=some (.int x,lS (x::xs) a none z):=zo rfl rfl (Bh T.int (x::xs) (k:=0) (by rw [List.length_cons]; omega));have c1:dg (mOp eqO (mOp Mr (mOp gb (bf 0) (ak (.int 0))) (ak (.int 16))) (ak (.int 3))) (lS (x::xs) a none z)=some (x%16==3,lS (x::xs) a none z):=zt (zo (zo i0 rfl (md (by decide))) rfl (by rw [Aa]));have c2:=a0k g0 c1;cases q:(x%16==3) with
  | false =>
   rw [q] at c2;exact ⟨z',zrun (zq (Rj it L) (zq (ze c2 rfl) fin)) rfl⟩
  | true =>
   rw [q] at c2
   have M:ou 2 (mOp Yp (ak (.str "own 1\nsum\n")) (ak (.int 2500))) (lS (x::xs) a none z)=some (.next,lS (x::xs) a (sl (.str big)) z):=by
    refine ys (t:=.str big) (zo rfl rfl ?_) rfl;show (if (0:Int)<=2500/\(2500:Int)<=10000/\("own 1\nsum\n" : Str).length<=100 then some (T.str big) else none)=_;rw [if_pos ⟨by decide,by decide,by decide +kernel⟩]
   have i1:mOp gb (bf 0) (ak (.int 0)) (lS (x::xs) a (sl (.str big)) z)=some (.int x,lS (x::xs) a (sl (.str big)) z):=zo rfl rfl (Bh T.int (x::xs) (k:=0) (by rw [List.length_cons]; omega));have c3:dg (mOp eqO (mOp Mr (mOp Kc (mOp gb (bf 0) (ak (.int 0))) (ak (.int 16))) (ak (.int 2))) (ak (.int 0))) (lS (x::xs) a (sl (.str big)) z)=some (x / 16%2==0,lS (x::xs) a (sl (.str big)) z):=zt (zo (zo (zo i1 rfl (fdv (by decide) (by decide))) rfl (md (by decide))) rfl (by rw [Aa]));cases q2:(x / 16%2==0) with
   | true =>
    rw [q2] at c3;obtain ⟨A,rA,lA⟩:=Zc;obtain ⟨z2,h1,h2,e2⟩:=Ov (cR:=cR) (cN:=cN) (sto:=z) (a6u (by decide)) rA
    have sc:lu (bf 2) m6 (oh (mUn Gg (ak (.int 1)))) (lS (x::xs) a (sl (.str big)) z)=some (.str (st (tx 2499)),lS (x::xs) a (sl (.str big)) z):=by
     unfold lu;rw [show bf 2 (lS (x::xs) a (sl (.str big)) z)=some (.str big,lS (x::xs) a (sl (.str big)) z) from rfl];dsimp only;rw [show m6 (lS (x::xs) a (sl (.str big)) z)=some (none,lS (x::xs) a (sl (.str big)) z) from rfl];dsimp only;rw [zos (p:=-1) (show mUn Gg (ak (.int 1)) (lS (x::xs) a (sl (.str big)) z)=some (.int (-1),lS (x::xs) a (sl (.str big)) z) from rfl)];dsimp only;unfold S8;dsimp only;rw [if_pos a4b,Zu]
    have R:mOp eqO (j5 vf (ao (fj (jy cR cN) (ao (lu (bf 2) m6 (oh (mUn Gg (ak (.int 1))))) cu)) cu)) (ak (.int 2500)) (lS (x::xs) a (sl (.str big)) z)=some (.bl true,lS (x::xs) a (sl (.str big)) z2):=by
     refine zo (zm (zc (zf (zc sc rfl) e2) rfl) rfl) rfl ?_;rw [lA,Aa];rfl
    exact ⟨z2,zrun (zq (Rj it L) (zqr (zk c2 (zq M (zqr (zk c3 (zr R))))))) rfl⟩
   | false =>
    rw [q2] at c3
    have aj:jt (.str big) (.str "own 1\nsum")=some (.str (st (tx 2500))):=by
     rw [<- a3e];refine ad ?_;rw [uo,Qo,Og]
     decide +kernel
    obtain ⟨z2,e2⟩:=Hr (cR:=cR) (cN:=cN) (s:=lS (x::xs) a (sl (.str big)) z) (a:=mOp jt (bf 2) (ak (.str "own 1\nsum"))) (b:=ak (.int 5001)) (i:=5001) (a6u (by decide)) Xr (zo rfl rfl aj) (fun z=>rfl) rfl;exact ⟨z2,zrun (zq (Rj it L) (zqr (zk c2 (zq M (zq (ze c3 rfl) (zr e2)))))) rfl⟩
end K
end
section
namespace D
open PySem L2 C
section
variable {K:PySem.W.Frag} {hp:Heap} {mg:Str->Option Value} (X:K.In hp) (G:hp.Ns mainGlobals mg)
include X G
theorem a9i {x:Str} {st:Stmt} {f:Addr} {oc:Value} {od an:Option Addr} {bA:Array (Option Value)} {kV doc pm aC ct:Value} (a:PySem.W.nsIn K mainGlobals x=some (some (.ref f)))
  (l:K.lookup f=some ⟨oc,od,.func (PySem.W.fnOf x x (Dq st) (v8 st) (gn st) .none kV doc pm an aC ct),bA⟩) (c:PySem.W.codeIn K aC x=true) (k:PySem.W.keepIn K (.ref f)=true):FA K mg x st:=⟨_,_,Rh l c k,PySem.W.mg_of X G a⟩
theorem a9p {Cl D fI:Addr} {f nm q:Str} {Na:Addr} {bs:List Value} {sn:List Str} {sub:List Value} {ab:Bool} {col:Option Bool} {dd:Option Addr} {k0 k1 k2 k3 k5:Option Value} {x q0:Str} {j:Nat} {Ca:Addr} {oc:Value} {od an:Option Addr} {bA:Array (Option Value)} {kV doc pm aC ct:Value} (a:PySem.W.nsIn K mainGlobals x=some (some (.ref Cl))) (lk:K.lookup Cl=some (excClassObj nm q Cl Na bs (.ref D::My.vB) true sn sub ab col dd k0 k1 k2 k3 k5 "ValueError.__new__")) (b:PySem.W.excIn K D My.vB "ValueError.__new__" = true) (i:PySem.W.findIn K (.ref Cl) "__init__" = some (some (.ref fI))) (fn:PySem.W.isFn K (.ref fI)=true)
  (sa:PySem.W.findIn K (.ref Cl) "__setattr__" = some (some (.builtin "object.__setattr__"))) (ob:PySem.W.mroIn K Cl (.type "object")=some true) (na:PySem.W.findIn K (.ref Cl) f=some none) (kp:PySem.W.keepIn K (.ref Cl)=true)
  (l:K.lookup fI=some ⟨oc,od,.func (PySem.W.fnOf "__init__" q0 (Dq (Jg 0 (top j))) (v8 (Jg 0 (top j))) (gn (Jg 0 (top j))) .none kV doc pm an aC ct),bA⟩) (c:PySem.W.codeIn K aC q0=true) (k:PySem.W.keepIn K (.ref fI)=true) (t:(Value.ref Cl :: .ref D::My.vB).contains (.ref Ca)=true):XE K mg x f q0 j Cl Ca :=
 ⟨D,fI,_,⟨⟨nm,q,Na,bs,sn,sub,ab,col,dd,k0,k1,k2,k3,k5,lk⟩,b,i,fn,sa,ob,na,kp⟩,⟨by simp,nm,q,Na,bs,true,sn,sub,ab,col,dd,k0,k1,k2,k3,k5,lk⟩,Rh l c k,t,PySem.W.mg_of X G a⟩
theorem a8v {x:Str} {n:Int} {t:Tok} (a:PySem.W.nsIn K mainGlobals x=some (some (.int n t))):∃ tk,mg x=some (.int n tk):=⟨_,PySem.W.mg_of X G a⟩
theorem Lf {q:Addr} {t0 t1 t2 t3 t4 t5 t6 t7 t8 t9 gr fm fh fM fx ff gp fH fY fF fZ gi gg:Tok} {n:Nat} {s:Array (Option Value)} (a:PySem.W.nsIn K mainGlobals "KEY_WORDS" = some (some (.ref q))) (l:K.lookup q=some ⟨.type "tuple",none,.seq [.str "box" t0,.str "lock" t1,.str "hand" t2,.str "own" t3,.str "end" t4,.str "set" t5,.str "wait" t6,.str "if" t7,.str "else" t8,.str "while" t9,.str "rounds" gr,.str "either" fm,.str "or" fh,.str "and" fM,.str "not" fx,.str "take" ff,.str "give" gp,.str "label" fH,.str "say" fY,.str "at" fF,.str "divides" fZ,.str "true" gi,.str "false" gg].toArray n,s⟩):∃ u,mg "KEY_WORDS" = some u/\Held K u (.tup [(.str "box"),(.str "lock"),(.str "hand"),(.str "own"),(.str "end"),(.str "set"),(.str "wait"),(.str "if"),(.str "else"),(.str "while"),(.str "rounds"),(.str "either"),(.str "or"),(.str "and"),(.str "not"),(.str "take"),(.str "give"),(.str "label"),(.str "say"),(.str "at"),(.str "divides"),(.str "true"),(.str "false")]):=⟨_,PySem.W.mg_of X G a,(Held.tup l (by simp) (ur.cons Held.str (ur.cons Held.str (ur.cons Held.str (ur.cons Held.str (ur.cons Held.str (ur.cons Held.str (ur.cons Held.str (ur.cons Held.str (ur.cons Held.str (ur.cons Held.str (ur.cons Held.str (ur.cons Held.str (ur.cons Held.str (ur.cons Held.str (ur.cons Held.str (ur.cons Held.str (ur.cons Held.str (ur.cons Held.str (ur.cons Held.str (ur.cons Held.str (ur.cons Held.str (ur.cons Held.str (ur.cons Held.str ur.nil))))))))))))))))))))))))⟩
theorem a98 {x v:Str} {t:Tok} (a:PySem.W.nsIn K mainGlobals x=some (some (.str v t))):∃ u,mg x=some u/\Held K u (.str v):=⟨_,PySem.W.mg_of X G a,Held.str⟩
end
theorem a6f {K:PySem.W.Frag} {Cl:Addr} {bm:List Value} {nm q:Str} {Na:Addr} {bs:List Value} {hd:Bool} {sn:List Str} {sub:List Value} {ab:Bool} {col:Option Bool} {dd:Option Addr} {k0 k1 k2 k3 k5:Option Value}
  (lk:K.lookup Cl=some (excClassObj nm q Cl Na bs bm hd sn sub ab col dd k0 k1 k2 k3 k5 "ValueError.__new__")) (b:bm.contains (.type "BaseException")=true):XCl K Cl bm:=⟨b,nm,q,Na,bs,hd,sn,sub,ab,col,dd,k0,k1,k2,k3,k5,lk⟩
def spL (K:PySem.W.Frag):Sp:=fun vs H Q E=>∀ cR cN,spF K 1 (_root_.K.a5b cR cN) vs H Q E
theorem fin {l:PySem.W.OpenLaw} {w:World} {K:PySem.W.Frag} {mg:Str->Option Value} {fa cR cN c1 c2 c3 c4 c5 Ca:Addr} {bm:List Value} (cz:mg "law" = some (.ref fa)) (Z:Zk K mg cR cN c1 c2 c3 c4 c5 Ca bm) :
  ∃ fd:FuncData,(∀ (s:Shared) (v:Value),BindsTo s fd ⟨[v],[]⟩ [("_law_script",v)])/\∀ base:Heap,K.In base->base.Ns mainGlobals mg->Bj l.prog w K mg base CX0 13 fa fd ["_law_script"] (spL K):=by
 obtain ⟨f,fd,F,m⟩:=Z.h24;cases cz.symm.trans m;refine ⟨fd,?_,fun base _ _=>(a6z Z F).imp fun _ _ _ _ h=>h _ _⟩;obtain ⟨oc,od,kV,doc,pm,an,aC,ct,bA,rfl,lk,a7⟩:=F.ex;exact fun s v=>.of_eq rfl
theorem walk {l:PySem.W.OpenLaw} {q:Program} {loose:List Str} {XP:(Str->Option Value)->Heap->Prop} {YP:World->Heap->Prop} {d:DefRec} {K:Params->PySem.W.Frag} (hn:l.most=some 63) (cS:d.params.defaults=[])
  (hY:∀ (w:World) (h:Heap),YP w h->(K w.params).In h)
  (F:∀ (w:World) (mg:Str->Option Value) (fa:Addr) (h:Heap),(K w.params).In h->h.Ns mainGlobals mg->mg d.name=some (.ref fa) ->
   ∃ fd:FuncData,(∀ (s:Shared) (u:Value),BindsTo s fd ⟨[u],[]⟩ [("_law_script",u)])/\∀ base:Heap,(K w.params).In base->base.Ns mainGlobals mg->Bj l.prog w (K w.params) mg base CX0 13 fa fd ["_law_script"] (spL (K w.params))) :
  PySem.W.WalkO q loose XP YP l.row.toRowW d [] (fun f vs=>PySem.call f vs) :=
 L2.a5f (n:=63) (k:=13) (x := "_law_script") (CX:=fun _=>CX0) (sp:=fun w=>spL (K w.params)) hn (by decide) cS ⟨rfl,by decide,by decide⟩ hY F (fun w H a ns hl _ hS=>fun cR cN=>a5e hS (_root_.K.a04 (xs:=ns) hl)) fun _ _ _ _ _ z=>z
end D
theorem PySem.W.Fast.tw17258268791306711424:True:=⟨⟩
theorem PySem.W.Fast.tw11625699053743514177:True:=⟨⟩
theorem PySem.W.Fast.tw6613068958891783010:True:=⟨⟩
theorem PySem.W.Fast.tw8809594714361643907:True:=⟨⟩
theorem PySem.W.Fast.tw5606404171616182660:True:=⟨⟩
theorem PySem.W.Fast.tw10456085898011983684:True:=⟨⟩
theorem PySem.W.Fast.tw16947847442547111301:True:=⟨⟩
theorem PySem.W.Fast.tw11082025316303959493:True:=⟨⟩
theorem PySem.W.Fast.tw15111391660935342629:True:=⟨⟩
theorem PySem.W.Fast.tw13336516781284636293:True:=⟨⟩
theorem PySem.W.Fast.tw9791028027238279271:True:=⟨⟩
theorem PySem.W.Fast.tw14546830693257649705:True:=⟨⟩
theorem PySem.W.Fast.tw15457421515319225484:True:=⟨⟩
theorem PySem.W.Fast.tw6001894440625655084:True:=⟨⟩
theorem PySem.W.Fast.tw5690257634843568974:True:=⟨⟩
theorem PySem.W.Fast.tw3175729284312669134:True:=⟨⟩
theorem PySem.W.Fast.tw17387049563427179791:True:=⟨⟩
theorem PySem.W.Fast.tw6516485124244300369:True:=⟨⟩
theorem PySem.W.Fast.tw9409514128978463378:True:=⟨⟩
theorem PySem.W.Fast.tw540148922006795571:True:=⟨⟩
theorem PySem.W.Fast.tw5184413879429426132:True:=⟨⟩
theorem PySem.W.Fast.tw16606096757898019000:True:=⟨⟩
theorem PySem.W.Fast.tw6526720226479951995:True:=⟨⟩
theorem PySem.W.Fast.tw16907968571790400251:True:=⟨⟩
theorem PySem.W.Fast.tw12747859310535721372:True:=⟨⟩
theorem PySem.W.Fast.tw16313752225536931423:True:=⟨⟩
theorem PySem.W.Fast.tw2987596433530591593:True:=⟨⟩
theorem PySem.W.Fast.tw14836137430169759954:True:=⟨⟩
open PySem PySem.W PyProof.Rows
set_option maxRecDepth 100000 in
set_option maxHeartbeats 0 in
theorem PySem.Challenge.cw_calm_k78_papers_refused_holds : PySem.Challenge.rw_calm_k78_papers_refused.Holds := by
 w_on; o_law; k_head; (case hw=>w_witness2)
 k_fill
 refine D.walk (l:=PySem.Challenge.rw_calm_k78_papers_refused) rfl rfl (fun w h Y=>PySem.W.kIn_of Y) ?F
 case F =>
  intro w mg fa h KX G cz;refine' D.fin cz ?Z
  case Z =>
   constructor
   case hR=>refine' PySem.W.mg_of KX G ?a; (case a=>k_is)
   case kc=>refine' ⟨D.a6f ?lj ?bj,PySem.W.mg_of KX G ?a⟩; (case a=>k_is); (case lj=>k_is); (case bj=>rfl)
   case e=>refine' D.a9p KX G ?a ?lk ?b ?i ?fn ?sa ?ob ?na ?kp ?l ?c ?k ?tt; (case a=>k_is); (case lk=>k_is); (case b=>k_exc); (case i=>k_is); (case fn=>k_is); (case sa=>k_is); (case ob=>k_is); (case na=>k_is); (case kp=>k_is); (case l=>k_is); (case c=>k_is); (case k=>k_is); (case tt=>rfl)
   case g=>refine' L2.XG.mk ?ga ?gt ?bx ?dc ?na ?cl ?cg ?ct ?ob ?ve; (case ve=>kit_is); (case ga=>k_is); (case gt=>k_is); (case bx=>k_is); (case dc=>k_is); (case na=>k_is); (case cl=>k_is); (case cg=>k_is); (case ct=>k_is); (case ob=>k_is)
   case t=>kit_is
   case m1 | m2 | m3 | m4 | m5=>refine' PySem.W.mg_of KX G ?a; (case a=>k_is)
   case tc=>kit_is
   case t1 | t2 | t3 | t4 | t5=>kit_is
   case cls=>refine' L2.Cls.mk ?_ ?_ ?_ ?_ <;> k_is
   case na_number | na_rows=>refine' (show PySem.W.findIn _ _ _=some none from ?a); (case a=>k_is)
   case h2=>refine' ⟨_,_,L2.Mk.mk ?ma ?mi ?mf ?mk,L2.Rh ?l ?c ?k⟩; (case ma=>k_is); (case mi=>k_is); (case mf=>k_is); (case mk=>k_is); (case l=>k_is); (case c=>k_is); (case k=>k_is)
   case h3 | h4=>refine' ⟨_,_,L2.Meth.mk ?ma ?mf ?mk,L2.Rh ?l ?c ?k⟩; (case ma=>k_is); (case mf=>k_is); (case mk=>k_is); (case l=>k_is); (case c=>k_is); (case k=>k_is)
   case c_KEY_WORDS=>refine' D.Lf KX G ?a ?l; (case a=>k_is); (case l=>k_is)
   case c_FIGURES | c_LETTERS | c_WORD_SIGNS=>refine' D.a98 KX G ?a; (case a=>k_is)
   case c_LONGEST_NAME | c_MOST_DEEP | c_MOST_FIGURES | c_MOST_ROWS=>refine' D.a8v KX G ?a; (case a=>k_is)
   case b_ValueError | b_all | b_int | b_isinstance | b_len | b_min | b_range | b_str | b_tuple=>refine' PySem.W.mg_none_of KX G ?a; (case a=>k_is)
   case h0 | h1 | h5 | h6 | h7 | h8 | h9 | h10 | h11 | h12 | h13 | h14 | h15 | h16 | h17 | h18 | h19 | h20 | h21 | h22 | h23 | h24=>refine' D.a9i KX G ?a ?l ?c ?k; (case a=>k_is); (case l=>k_is); (case c=>k_is); (case k=>k_is)
#print axioms PySem.Challenge.cw_calm_k78_papers_refused_holds
end
