import PyProof.Rows.All
import Wide.All
import OpenK.AllK
import Wide.FinOn
import PyProof.P3Statements
import PyProof.Lay0
import PyProof.TupleKey
import PyProof.DictRoadsH
import PyProof.Rows.TupTab
import Lean
import PyProof.EqAt
import PyProof.EqKinds
import PyProof.TupleCall
import PyProof.P3Eq
import PyProof.NeData
import KE.KEqDict
import PyProof.ListRange
import KE.KDictSum
import PyProof.AttrMissHeap
import PyProof.WalksS
import KE.KDictOf
import KE.KRevSl
import PyProof.ZipIter
import PyProof.WalksMore
import PyProof.Rows.FactsT2
import PyProof.Rows.SetFrom
import PyProof.Rows.SortStr
import KE.KDictList
import PyProof.FactsAll.set
import PyProof.CollectWalk
import PyProof.DictWalks
import PyProof.DictItems
import PyProof.EnumMake
import PyProof.Rows.EnumRows
import KE.KSortTup
import PyProof.MeetsSeq
import PyProof.SeqRoads2
import KE.KRevIter
import PyProof.TupleOfGen
import PyProof.CollectIter
import KE.KLam
import PyProof.Rows.TupDisplay
import KE.KNestM
import PySem.Challenge.RW_calm_k28_far_breaches
set_option Elab.async false
set_option linter.all false
set_option maxRecDepth 100000
set_option maxHeartbeats 8000000
noncomputable section
section
namespace C
open PySem
theorem jl {α:Type} {w:α} {P:Prop} (h:none=some w):P:=nomatch h
theorem Cv {α:Type} {c:Prop} [Decidable c] {o:Option α} {w:α} (h:(if c then o else none)=some w):c/\o=some w:=by
 by_cases z:c
 ·rw [if_pos z] at h; exact ⟨z,h⟩
 ·rw [if_neg z] at h; exact jl h
abbrev Key:=Sum Int Str
inductive T where
 | non | bl (b:Bool) | int (i:Int) | str (x:Str)
 | tup (xs:List T) | lst (xs:List T) | dic (aa:List (Key × T)) | obj (n:Nat)
 /-- a def that was made,by its address -/
 | adr (n:Nat)
instance:Inhabited T:=⟨.non⟩
inductive SO where
 | dic (aa:List (Key × T)) | lst (xs:List T) | dit (aa:List (List Key × T))
 /-- an exception of the class at C,what its field f holds -/
 | exc (C:Nat) (f:Str) (t:T)
 /-- an instance of the class at C,its attributes -/
 | ins (C:Nat) (fs:List (Str × T))
 /-- a dict that is being walked -/
 | fdc (aa:List (Key × T))
 /-- the table of the defs that a def makes,at P; their name -/
 | tab (P:Nat) (q:Str)
 /-- a dict whose keys are tuples of tuples -/
 | dnk (aa:List (List (List Key) × T))
abbrev Slot:=Option (T × Bool)
structure Sta where
 env:List Slot
 sto:List SO
abbrev M (α:Type):=Sta->Option (α × Sta)
def Av (k:Key):List (Key × T)->Option T
 | []=>none
 | (q,t)::r=>if q=k then some t else Av k r
noncomputable def Nj (k:Key) (t:T) (aa:List (Key × T)):List (Key × T) :=
 if aa.any fun p=>decide (p.1=k) then aa.map fun p=>if p.1=k then (p.1,t) else p else aa++[(k,t)]
def keyOf:T->Option Key
 | .int i=>some (.inl i)
 | .str x=>some (.inr x)
 | _=>none
def a1h:Key->T
 | .inl i=>.int i
 | .inr x=>.str x
mutual
def dat:T->Option PyData
 | .non=>some .none
 | .bl b=>some (.bool b)
 | .int i=>some (.int i)
 | .str x=>if PyData.canLay0 (.str x) then some (.str x) else none
 | .tup xs=>(Ik xs).map .tuple
 | .lst xs=>(Ik xs).map .list
 | .dic _=>none
 | .obj _=>none
 | .adr _=>none
def Ik:List T->Option (List PyData)
 | []=>some []
 | x::r=>match dat x with
  | some a=>(Ik r).map (a :: ·)
  | none=>none
end
noncomputable def eqD (a b:T):Option Bool:=match dat a with
 | some x=>match dat b with
  | some y=>if x.depth<=40 then some (PyData.eqv x y) else none
  | none=>none
 | none=>none
noncomputable def a6x:List (Key × T)->List (Key × T)->Option Bool
 | [],_=>some true
 | (k,x)::r,ys=>match Av k ys with
  | none=>some false
  | some y=>match eqD x y with
   | some e=>(a6x r ys).map (e && ·)
   | none=>none
noncomputable def eqT:T->T->Option Bool
 | .dic a,.dic b=>if a.length=b.length then a6x a b else some false
 | x,y=>eqD x y
def aq (t:T):M T:=fun s=>some (t,s)
noncomputable def bf (i:Nat):M T:=fun s=>match s.env[i]? with
 | some (some (t,false))=>some (t,s)
 | some (some (t,true))=>some (t,{ s with env:=s.env.set i (some (t,false)) })
 | _=>none
def dz:M (List T):=fun s=>some ([],s)
noncomputable def aj (a:M T) (r:M (List T)):M (List T):=fun s=>match a s with
 | some (t,s1)=>match r s1 with
  | some (ts,s2)=>some (t::ts,s2)
  | none=>none
 | none=>none
def a9m:List Str->M (List T)
 | []=>dz
 | x::r=>aj (aq (.str x)) (a9m r)
noncomputable def iy (f:List T->Option T) (a:M (List T)):M T:=fun s=>match a s with
 | some (ts,s1)=>match f ts with
  | some t=>some (t,s1)
  | none=>none
 | none=>none
noncomputable def mUn (f:T->Option T) (a:M T):M T:=fun s=>match a s with
 | some (t,s1)=>match f t with
  | some u=>some (u,s1)
  | none=>none
 | none=>none
noncomputable def mOp (f:T->T->Option T) (a b:M T):M T:=fun s=>match a s with
 | some (t,s1)=>match b s1 with
  | some (u,s2)=>match f t u with
   | some v=>some (v,s2)
   | none=>none
  | none=>none
 | none=>none
abbrev Fn:=List T->List SO->Option (T × List SO)
noncomputable def gk (F:Fn) (a:M (List T)):M T:=fun s=>match a s with
 | some (ts,s1)=>match F ts s1.sto with
  | some (t,sto)=>some (t,{ s1 with sto:=sto })
  | none=>none
 | none=>none
def gw (a:M T):M Bool:=fun s=>match a s with
 | some (.bl b,s1)=>some (b,s1)
 | _=>none
def U7 (a:M Bool):M Bool:=fun s=>match a s with
 | some (b,s1)=>some (!b,s1)
 | none=>none
noncomputable def a3h (a b:M Bool):M Bool:=fun s=>match a s with
 | some (true,s1)=>b s1
 | some (false,s1)=>some (false,s1)
 | none=>none
noncomputable def mOr (a b:M Bool):M Bool:=fun s=>match a s with
 | some (true,s1)=>some (true,s1)
 | some (false,s1)=>b s1
 | none=>none
def Sx (a:M Bool):M T:=fun s=>match a s with
 | some (b,s1)=>some (.bl b,s1)
 | none=>none
noncomputable def mIf (c:M Bool) (a b:M T):M T:=fun s=>match c s with
 | some (true,s1)=>a s1
 | some (false,s1)=>b s1
 | none=>none
abbrev lim:Nat:=1000000
def Rq (i:Int):Bool:=decide (-(2 ^ 64)<i/\i<2 ^ 64)
noncomputable def Cm:T->T->Option T
 | .int i,.int j=>some (.int (i+j))
 | .str x,.str y=>if x.length+y.length<lim then some (.str (x++y)) else none
 | .tup x,.tup y=>if x.length+y.length<lim then some (.tup (x++y)) else none
 | .lst x,.lst y=>if x.length+y.length<lim then some (.lst (x++y)) else none
 | _,_=>none
def Ss:T->T->Option T
 | .int i,.int j=>some (.int (i - j))
 | _,_=>none
noncomputable def Pj:T->T->Option T
 | .int i,.int j=>if Rq i||Rq j then some (.int (i * j)) else none
 | .str x,.int j=>if 0<=j/\j<=1000/\x.length<=100 then some (.str ⟨((List.replicate j.toNat x.cps.toList).flatten).toArray⟩) else none
 | _,_=>none
def Hs:T->T->Option T
 | .int i,.int j=>if 0<j then some (.int (i%j)) else none
 | _,_=>none
def fdl:Nat:=2 ^ 200
noncomputable def Hi:T->T->Option T
 | .int i,.int j=>if 0<j/\(j<1073741824\/j.natAbs<fdl) then some (.int (i / j)) else none
 | _,_=>none
noncomputable def a2p:T->T->Option T
 | .int i,.int j=>if 0<=j/\j<=1000/\i.natAbs<1000 then some (.int (i ^ j.toNat)) else none
 | _,_=>none
def a4s:T->Option T
 | .int i=>some (.int (-i))
 | _=>none
def ltT:T->T->Option T
 | .int i,.int j=>some (.bl (decide (i<j)))
 | _,_=>none
def leT:T->T->Option T
 | .int i,.int j=>some (.bl (decide (i<=j)))
 | _,_=>none
def gtT:T->T->Option T
 | .int i,.int j=>some (.bl (decide (j<i)))
 | _,_=>none
def eqO (x y:T):Option T:=match eqT x y with
 | some b=>some (.bl b)
 | none=>none
def neO (x y:T):Option T:=match eqT x y with
 | some b=>some (.bl (!b))
 | none=>none
noncomputable def ixI (n:Nat) (i:Int):Option Nat:=if 0<=i then (if i<n then some i.toNat else none) else if -(n:Int)<=i then some (i+n).toNat else none
noncomputable def fj:T->T->Option T
 | .tup xs,.int i=>(ixI xs.length i).bind (xs[·]?)
 | .lst xs,.int i=>(ixI xs.length i).bind (xs[·]?)
 | .str x,.int i=>if x.length<lim then (ixI x.cps.toList.length i).bind fun j=>(x.cps.toList[j]?).map fun c=>.str ⟨#[c]⟩ else none
 | .dic aa,k=>(keyOf k).bind (Av · aa)
 | _,_=>none
noncomputable def Ob:List T->Option T
 | [.tup xs]=>some (.int xs.length)
 | [.lst xs]=>some (.int xs.length)
 | [.str x]=>if x.length<lim then some (.int x.length) else none
 | [.dic aa]=>some (.int aa.length)
 | _=>none
noncomputable def inL (x:T):List T->Option Bool
 | []=>some false
 | y::r=>match eqD y x with
  | some e=>(inL x r).map (e || ·)
  | none=>none
noncomputable def inT (x y:T):Option T:=match y with
 | .dic aa=>(keyOf x).map fun q=>.bl (Av q aa).isSome
 | _=>if (dat x).isSome then (match y with
  | .tup ys=>(inL x ys).map .bl
  | .lst ys=>(inL x ys).map .bl
  | _=>none) else none
def Kr (x y:T):Option T:=match inT x y with
 | some (.bl b)=>some (.bl (!b))
 | _=>none
def Ag:List T->Option T
 | [.lst xs]=>some (.tup xs)
 | [.tup xs]=>some (.tup xs)
 | _=>none
noncomputable def qm:List T->Option (List (Key × T))
 | []=>some []
 | .tup [k,v]::r=>match keyOf k,qm r with
  | some q,some l=>some ((q,v)::l)
  | _,_=>none
 | _=>none
noncomputable def O6:List T->Option T
 | [.lst xs]=>if xs.length<lim then (qm xs).map fun l=>.dic (l.foldl (fun d p=>Nj p.1 p.2 d) []) else none
 | [.tup xs]=>if xs.length<lim then (qm xs).map fun l=>.dic (l.foldl (fun d p=>Nj p.1 p.2 d) []) else none
 | [.dic aa]=>some (.dic aa)
 | _=>none
def Xc:List T->Option (List Int)
 | []=>some []
 | .int i::r=>(Xc r).map (i :: ·)
 | _=>none
def aac:List T->Option T
 | [.lst xs]=>(Xc xs).map fun l=>.int l.sum
 | _=>none
noncomputable def isTup:List T->Option T
 | [.tup _]=>some (.bl true)
 | [.obj _]=>none
 | [.adr _]=>none
 | [_]=>some (.bl false)
 | _=>none
noncomputable def a99:T->Option T
 | .lst xs=>some (.lst xs.reverse)
 | .tup xs=>some (.tup xs.reverse)
 | _=>none
def Rh:T->Bool
 | .non=>true
 | _=>false
def a91 (x y:T):Option T:=if Rh y then some (.bl (Rh x)) else none
def Cj (x y:T):Option T:=if Rh y then some (.bl (!Rh x)) else none
def aci:List T->Option T
 | [.int i]=>some (.int (if i<0 then -i else i))
 | _=>none
noncomputable def Az (i:Nat):M T:=fun s=>match s.env[i]? with
 | some (some (.lst xs,_))=>some (.int xs.length,s)
 | some (some (.dic xs,_))=>some (.int xs.length,s)
 | _=>none
def El (i:Nat) (s:Sta):Bool:=match s.env[i]? with
 | some (some (.lst _,_))=>true
 | _=>false
inductive Flow where
 | next | ret (t:T) | brk | cont
abbrev S:=Sta->Option (Flow × Sta)
def yx:S:=fun s=>some (.next,s)
def kj (a b:S):S:=fun s=>match a s with
 | some (.next,s1)=>b s1
 | r=>r
def qd (e:M T):S:=fun s=>match e s with
 | some (t,s1)=>some (.ret t,s1)
 | none=>none
noncomputable def sIf (c:M Bool) (a b:S):S:=fun s=>match c s with
 | some (true,s1)=>a s1
 | some (false,s1)=>b s1
 | none=>none
def gn (i:Nat) (t:T) (own:Bool) (s:Sta):Sta:={ s with env:=s.env.set i (some (t,own)) }
noncomputable def qb (i:Nat) (e:M T):S:=fun s=>match e s with
 | some (t,s1)=>some (.next,gn i t false s1)
 | none=>none
noncomputable def sNew (i:Nat) (e:M T):S:=fun s=>match e s with
 | some (t,s1)=>some (.next,gn i t true s1)
 | none=>none
noncomputable def m9 (i:Nat) (e:M T):S:=fun s=>if El i s then (match e s with
 | some (t,s1)=>match s1.env[i]? with
  | some (some (.lst xs,true))=>if xs.length<lim then some (.next,gn i (.lst (xs++[t])) true s1) else none
  | _=>none
 | none=>none) else none
def K7:T->Option (List T)
 | .lst xs=>some xs
 | .tup xs=>some xs
 | _=>none
noncomputable def a5r (i:Nat) (e:M T):S:=fun s=>if El i s then (match e s with
 | some (t,s1)=>match K7 t,s1.env[i]? with
  | some ys,some (some (.lst xs,true))=>if xs.length+ys.length<lim then some (.next,gn i (.lst (xs++ys)) true s1) else none
  | _,_=>none
 | none=>none) else none
def a6p:S:=fun s=>some (.cont,s)
noncomputable def Zx (i:Nat):S:=fun s=>match s.env[i]? with
 | some (some (.lst xs,true))=>some (.next,gn i (.lst xs.reverse) true s)
 | _=>none
def sNx (u:S):S:=fun s=>match u s with
 | some (.next,s1)=>some (.next,s1)
 | _=>none
def a4q (i:Nat):S:=fun s=>match s.env[i]? with
 | some (some (t,true))=>some (.ret t,s)
 | _=>none
abbrev G:=T->Sta->Option Sta
def hName (i:Nat):G:=fun t s=>some (gn i t false s)
noncomputable def Em (is:List Nat):G:=fun t s=>match t with
 | .tup xs=>if xs.length=is.length then some ((is.zip xs).foldl (fun s p=>gn p.1 p.2 false s) s) else none
 | _=>none
noncomputable def sGo (g:G) (m:M T):S:=fun s=>match m s with
 | some (t,s1)=>match g t s1 with
  | some s2=>some (.next,s2)
  | none=>none
 | none=>none
noncomputable def forL (g:G) (b:S):List T->S
 | []=>fun s=>some (.next,s)
 | t::r=>fun s=>match g t s with
  | some s1=>match b s1 with
   | some (.next,s2)=>forL g b r s2
   | some (.cont,s2)=>forL g b r s2
   | some (.brk,s2)=>some (.next,s2)
   | some (.ret v,s2)=>some (.ret v,s2)
   | none=>none
  | none=>none
noncomputable def Yj (g:G) (it:M (List T)) (b:S):S:=fun s=>match it s with
 | some (ts,s1)=>forL g b ts s1
 | none=>none
def rangeT (n:Nat):List T:=(List.range n).map fun (k:Nat)=>.int (k:Int)
noncomputable def Dv (a:M T):M (List T):=fun s=>match a s with
 | some (.int n,s1)=>if n.natAbs<lim then some (rangeT n.toNat,s1) else none
 | _=>none
noncomputable def J5 (a:M T):M (List T):=fun s=>match a s with
 | some (.lst xs,s1)=>if xs.length<lim then some (xs,s1) else none
 | some (.tup xs,s1)=>if xs.length<lim then some (xs,s1) else none
 | _=>none
def Q9 (s:Slot):Slot:=match s with
 | some (t,_)=>some (t,false)
 | none=>none
def jo (s:Sta):Sta:={ s with env:=s.env.map Q9 }
noncomputable def Bg (g:G) (c:M Bool) (e:M T):List T->Sta->List T->Option (List T × Sta)
 | [],s,acc=>some (acc,s)
 | t::r,s,acc=>match g t s with
  | some s1=>match c s1 with
   | some (true,s2)=>match e s2 with
    | some (u,s3)=>if acc.length<lim then Bg g c e r (jo s3) (acc++[u]) else none
    | none=>none
   | some (false,s2)=>Bg g c e r (jo s2) acc
   | none=>none
  | none=>none
def En:M Bool:=fun s=>some (true,s)
noncomputable def j5 (is:List Nat) (env:List Slot):List Slot:=is.foldl (fun e i=>match e[i]? with
 | some (some (t,_))=>e.set i (some (t,false))
 | _=>e) env
noncomputable def v9 (nv:Nat) (cap:List Nat) (g:G) (it:M (List T)) (c:M Bool) (e:M T):M T:=fun s=>match it s with
 | some (ts,s1) =>
  let env:=j5 cap s1.env
  match Bg g c e ts ⟨List.replicate nv none++cap.map (fun i=>(env[i]?).getD none),s1.sto⟩ [] with
  | some (us,s2)=>some (.lst us,⟨env,s2.sto⟩)
  | none=>none
 | none=>none
noncomputable def uf (n:Nat) (b:S):Fn:=fun ts sto=>match b ⟨ts.map (fun t=>some (t,false))++List.replicate (n - ts.length) none,sto⟩ with
 | some (.ret t,s)=>some (t,s.sto)
 | some (.next,s)=>some (.non,s.sto)
 | _=>none
section
variable {s s':Sta} {t v:T} {a b:M T}
theorem Es {f:T->T->Option T} (h:mOp f a b s=some (v,s')):∃ t s1 u,a s=some (t,s1)/\b s1=some (u,s')/\f t u=some v:=by
 unfold mOp at h;cases ha:a s with
 | none=>rw [ha] at h; cases h
 | some p =>
  obtain ⟨t,s1⟩:=p; rw [ha] at h; dsimp only at h;cases hb:b s1 with
  | none=>rw [hb] at h; cases h
  | some p =>
   obtain ⟨u,s2⟩:=p; rw [hb] at h; dsimp only at h;cases hf:f t u with
   | none=>rw [hf] at h; cases h
   | some w=>rw [hf] at h; cases h; exact ⟨t,s1,u,rfl,hb,hf⟩
theorem Vu {f:T->Option T} (h:mUn f a s=some (v,s')):∃ t,a s=some (t,s')/\f t=some v:=by
 unfold mUn at h;cases ha:a s with
 | none=>rw [ha] at h; cases h
 | some p =>
  obtain ⟨t,s1⟩:=p; rw [ha] at h; dsimp only at h;cases hf:f t with
  | none=>rw [hf] at h; cases h
  | some w=>rw [hf] at h; cases h; exact ⟨t,rfl,hf⟩
theorem Bh {f:List T->Option T} {a:M (List T)} (h:iy f a s=some (v,s')):∃ ts,a s=some (ts,s')/\f ts=some v:=by
 unfold iy at h;cases ha:a s with
 | none=>rw [ha] at h; cases h
 | some p =>
  obtain ⟨t,s1⟩:=p; rw [ha] at h; dsimp only at h;cases hf:f t with
  | none=>rw [hf] at h; cases h
  | some w=>rw [hf] at h; cases h; exact ⟨t,rfl,hf⟩
theorem yu {r:M (List T)} {ts:List T} (h:aj a r s=some (ts,s')):∃ t s1 us,a s=some (t,s1)/\r s1=some (us,s')/\ts=t::us:=by
 unfold aj at h;cases ha:a s with
 | none=>rw [ha] at h; cases h
 | some p =>
  obtain ⟨t,s1⟩:=p; rw [ha] at h; dsimp only at h;cases hb:r s1 with
  | none=>rw [hb] at h; cases h
  | some p=>obtain ⟨u,s2⟩:=p; rw [hb] at h; cases h; exact ⟨t,s1,u,rfl,hb,rfl⟩
theorem Mg {F:Fn} {a:M (List T)} (h:gk F a s=some (v,s')):∃ ts s1 sto,a s=some (ts,s1)/\F ts s1.sto=some (v,sto)/\s' = { s1 with sto:=sto }:=by
 unfold gk at h;cases ha:a s with
 | none=>rw [ha] at h; cases h
 | some p =>
  obtain ⟨t,s1⟩:=p; rw [ha] at h; dsimp only at h;cases hf:F t s1.sto with
  | none=>rw [hf] at h; cases h
  | some w=>obtain ⟨w,sto⟩:=w; rw [hf] at h; cases h; exact ⟨t,s1,sto,rfl,hf,rfl⟩
theorem Gy {b:Bool} (h:gw a s=some (b,s')):a s=some (.bl b,s'):=by
 unfold gw at h;cases ha:a s with
 | none=>rw [ha] at h; cases h
 | some p =>
  obtain ⟨t,s1⟩:=p; rw [ha] at h;cases t <;> first | (cases h; rfl) | (cases h)
theorem Ub {c:M Bool} (h:Sx c s=some (v,s')):∃ b,c s=some (b,s')/\v=.bl b:=by
 unfold Sx at h;cases ha:c s with
 | none=>rw [ha] at h; cases h
 | some p=>obtain ⟨t,s1⟩:=p; rw [ha] at h; cases h; exact ⟨t,rfl,rfl⟩
theorem Pb {c:M Bool} {b:Bool} (h:U7 c s=some (b,s')):∃ k,c s=some (k,s')/\b=!k:=by
 unfold U7 at h;cases ha:c s with
 | none=>rw [ha] at h; cases h
 | some p=>obtain ⟨t,s1⟩:=p; rw [ha] at h; cases h; exact ⟨t,rfl,rfl⟩
theorem a0q {c d:M Bool} {b:Bool} (h:a3h c d s=some (b,s')):(∃ s1,c s=some (true,s1)/\d s1=some (b,s'))\/(c s=some (false,s')/\b=false):=by
 unfold a3h at h;cases ha:c s with
 | none=>rw [ha] at h; cases h
 | some p =>
  obtain ⟨k,s1⟩:=p; rw [ha] at h;cases k with
  | true=>exact .inl ⟨s1,rfl,h⟩
  | false=>cases h; exact .inr ⟨rfl,rfl⟩
theorem a4y {c d:M Bool} {b:Bool} (h:mOr c d s=some (b,s')):(∃ s1,c s=some (false,s1)/\d s1=some (b,s'))\/(c s=some (true,s')/\b=true):=by
 unfold mOr at h;cases ha:c s with
 | none=>rw [ha] at h; cases h
 | some p =>
  obtain ⟨k,s1⟩:=p; rw [ha] at h;cases k with
  | false=>exact .inl ⟨s1,rfl,h⟩
  | true=>cases h; exact .inr ⟨rfl,rfl⟩
theorem a6b {c:M Bool} (h:mIf c a b s=some (v,s')):(∃ s1,c s=some (true,s1)/\a s1=some (v,s'))\/(∃ s1,c s=some (false,s1)/\b s1=some (v,s')):=by
 unfold mIf at h;cases ha:c s with
 | none=>rw [ha] at h; cases h
 | some p =>
  obtain ⟨k,s1⟩:=p; rw [ha] at h;cases k with
  | true=>exact .inl ⟨s1,rfl,h⟩
  | false=>exact .inr ⟨s1,rfl,h⟩
theorem Pu {i:Nat} (h:bf i s=some (v,s')):(s.env[i]? = some (some (v,false))/\s'=s)\/(s.env[i]? = some (some (v,true))/\s' = { s with env:=s.env.set i (some (v,false)) }):=by
 unfold bf at h;split at h
 ·rename_i t e; cases h; exact .inl ⟨e,rfl⟩
 ·rename_i t e; cases h; exact .inr ⟨e,rfl⟩
 ·cases h
end
mutual
theorem Af:∀ (t:T) {d:PyData},dat t=some d->d.canLay0=true
 | .non,_,h=>by simp only [dat] at h; cases h; simp only [PyData.canLay0]
 | .bl b,_,h=>by simp only [dat] at h; cases h; simp only [PyData.canLay0]
 | .int i,_,h=>by simp only [dat] at h; cases h; simp only [PyData.canLay0]
 | .str x,_,h=>by
  simp only [dat] at h;split at h
  ·rename_i hx; cases h; exact hx
  ·cases h
 | .tup xs,_,h=>by
  simp only [dat] at h;obtain ⟨l,e1,e2⟩:=Option.map_eq_some_iff.mp h;subst e2;simp only [PyData.canLay0];exact K1 xs e1
 | .lst xs,_,h=>by
  simp only [dat] at h;obtain ⟨l,e1,e2⟩:=Option.map_eq_some_iff.mp h;subst e2;simp only [PyData.canLay0];exact K1 xs e1
 | .dic _,_,h=>by simp only [dat] at h; cases h
 | .obj _,_,h=>by simp only [dat] at h; cases h
theorem K1:∀ (ts:List T) {l:List PyData},Ik ts=some l->PyData.canLayAll0 l=true
 | [],_,h=>by simp only [Ik] at h; cases h; simp only [PyData.canLayAll0]
 | x::r,_,h=>by
  simp only [Ik] at h;split at h
  ·rename_i a ea;obtain ⟨l,e1,e2⟩:=Option.map_eq_some_iff.mp h;subst e2;simp only [PyData.canLayAll0];rw [Af x ea,K1 r e1]; rfl
  ·cases h
end
theorem Yd {x:T} {r:List T} {l:List PyData} (h:Ik (x::r)=some l):∃ a l',dat x=some a/\Ik r=some l'/\l=a::l':=by
 simp only [Ik] at h;split at h
 ·rename_i a ea;obtain ⟨l,e1,e2⟩:=Option.map_eq_some_iff.mp h;exact ⟨a,l,ea,e1,e2.symm⟩
 ·cases h
theorem Nx {t u:T} {b:Bool} (h:eqD t u=some b):∃ x y,dat t=some x/\dat u=some y/\x.depth<=40/\b=PyData.eqv x y:=by
 unfold eqD at h;split at h
 ·rename_i x ex;split at h
  ·rename_i y ey;split at h
   ·rename_i hd; cases h; exact ⟨x,y,ex,ey,hd,rfl⟩
   ·cases h
  ·cases h
 ·cases h
theorem a5u {t u:T} {b:Bool} (h:eqT t u=some b):(∃ x y,t=.dic x/\u=.dic y/\((x.length=y.length/\a6x x y=some b)\/(x.length≠y.length/\b=false)))\/eqD t u=some b:=by
 unfold eqT at h;split at h
 ·split at h
  ·rename_i hl; exact .inl ⟨_,_,rfl,rfl,.inl ⟨hl,h⟩⟩
  ·rename_i hl; cases h; exact .inl ⟨_,_,rfl,rfl,.inr ⟨hl,rfl⟩⟩
 ·exact .inr h
end C
end
section
namespace L2
open PySem PySem.Spec PyProof.Rows
open Sem (wp)
section
variable {prog:Program} {w:World} {Kt:Type} [DecidableEq Kt] {knd:KeyKind prog w Kt}
inductive pq (knd:KeyKind prog w Kt) (h:Heap):List (List Kt)->List Value->Prop
 | nil:pq knd h [] []
 | cons {k:List Kt} {b:Addr} {ks:List (List Kt)} {vs:List Value}:IsTupleKey knd h k b->pq knd h ks vs->pq knd h (k::ks) (.ref b::vs)
def vm (knd:KeyKind prog w Kt) (h:Heap) (ks:List (List Kt)) (a:Addr):Prop:=∃ o items n,h.get? a=some o/\o.cls=.type "tuple" /\ o.data=.seq items n/\pq knd h ks items.toList
theorem pq.inj {h:Heap} {x y:List (List Kt)} {vs:List Value} (hx:pq knd h x vs) (hy:pq knd h y vs):x=y:=by
 induction hx generalizing y with -- here
 | nil=>cases hy; rfl
 | cons h1 _ ih =>
  cases hy with
  | cons h2 t2=>rw [h1.inj h2,ih t2]
theorem vm.typeIs {s:Shared} {ks:List (List Kt)} {a:Addr} (x:vm knd s.heap ks a):s.TypeIs (.ref a) "tuple" := let ⟨o,_,_,ho,hc,_⟩:=x; ⟨o,ho,hc⟩
theorem vm.inj {h:Heap} {a:Addr} {x y:List (List Kt)} (hx:vm knd h x a) (hy:vm knd h y a):x=y:=by
 obtain ⟨o,items,n,ho,_,hd,hi⟩:=hx;obtain ⟨o',items',n',ho',_,hd',hi'⟩:=hy;rw [ho] at ho';cases ho';rw [hd] at hd';injection hd' with h1 _;subst h1;exact hi.inj hi'
theorem pq.keeps {h h':Heap} {ks:List (List Kt)} {vs:List Value} {d:Addr} {o:Obj} {es ep} (x:pq knd h ks vs) (ho:h.get? d=some o) (hd:o.data=.dict es ep) (hs:Heap.SameBut d h h'):pq knd h' ks vs:=by
 induction x with
 | nil=>exact .nil
 | cons h1 _ ih=>exact .cons (h1.keeps ho hd hs) ih
theorem vm.keeps {h h':Heap} {ks:List (List Kt)} {a d:Addr} {o:Obj} {es ep} (x:vm knd h ks a) (ho:h.get? d=some o) (hd:o.data=.dict es ep) (hs:Heap.SameBut d h h'):vm knd h' ks a:=by
 obtain ⟨o',items,n,ho',hc,hd',hi⟩:=x
 have dC:a≠d:=fun e=>by
  subst e;rw [ho] at ho';cases ho';rw [hd] at hd'; exact nomatch hd'
 exact ⟨o',items,n,(hs.2 a dC).trans ho',hc,hd',hi.keeps ho hd hs⟩
noncomputable def K5 (knd:KeyKind prog w Kt) (ks:List (List Kt)):Int:=reduceHash (Builtin.Tuple.tupleHashOf (ks.map (tupleKeyHash knd)))
def Hw (ks:List (List Kt)):Nat:=(ks.map fun k=>k.length+1).sum+1
variable {A:Around} {E:Value->Shared->Prop} {s:Shared}
theorem Uk {ks:List (List Kt)} {a:Addr} {Q:Int->Shared->Prop} (hu:A.units+1<cLine) (hk:vm knd s.heap ks a) (h:Q (K5 knd ks) { s with toks:=s.toks+Hw ks }) :
  wpAny (model prog w) A (pyHash (.ref a)) Q E s:=by
 have hT:=hk.typeIs;obtain ⟨o,items,n,ho,_,hd,hi⟩:=hk;unfold pyHash
 first | unfold pyHashByItsType | skip -- here
 first | refine wpAny_bind (wpAny_cRoomFor_or (.inr (by omega)) ?_) | skip
 refine wpAny_bind (wpAny_specialOf hT F.slot_tuple_hash.lookup ?_);show wpAny _ _ (if (some (Value.builtin "tuple.__hash__")==some Value.none)=true then _ else _) Q E s;rw [if_neg (by rw [beq_builtin_none]; exact Bool.false_ne_true)];refine wpAny_bind (wpAny_specialOf hT F.slot_tuple_hash.lookup ?_);show wpAny _ _ (callSpecialIfBoundUnlessNone? (.ref a) "__hash__" _ >>= _) Q E s;refine wpAny_bind (wpAny_callSpecialIfBoundUnlessNone?_slot hT F.slot_tuple_hash (wpAny_call_entry F.slot_tuple_hash hT F.entry_tuple_hash ?_ (F.args_tuple_hash_1 _)));show wpAny _ _ (Builtin.Tuple.tupleItemsOf (.ref a) >>= _) _ _ s;refine wpAny_bind (wpAny_tupleItemsOf ho hd ?_);refine wpAny_bind ?_;rw [<- Array.forIn_toList]
 refine wpAny_forIn_list _
  (fun rest (b:Array Int) s'=>∃ done left,ks=done++left/\pq knd s.heap left rest/\b.toList=done.map (tupleKeyHash knd)/\s' = { s with toks:=s.toks+(done.map fun k=>k.length+1).sum })
  _ ?_ ?_ _ _ ⟨[],ks,rfl,hi,rfl,rfl⟩
 ·rintro x rest b s' ⟨done,left,rfl,hl,hb,rfl⟩;cases hl with
  | @cons k b0 ks' _ h1 hl' =>
   refine wpAny_bind (wpAny_pyHash_tuple (knd:=knd) (ks:=k) hu h1 ?_)
   first
    | exact wpAny_pure ⟨done++[k],ks',by simp,hl',by simp [hb],by simp [Nat.add_assoc]⟩
    | exact wpAny_bind (wpAny_pure (wpAny_pure ⟨done++[k],ks',by simp,hl',by simp [hb],by simp [Nat.add_assoc]⟩))
 ·rintro b s' ⟨done,left,rfl,hl,hb,rfl⟩;cases hl;rw [List.append_nil] at h;show wpAny _ _ (retInt (Builtin.Tuple.tupleHashOf b.toList)) _ _ _;rw [hb];refine wpAny_ret_mkInt ?_;show wpAny _ _ (if (decide (-(2:Int) ^ 63<=Builtin.Tuple.tupleHashOf (done.map (tupleKeyHash knd)))&&decide (Builtin.Tuple.tupleHashOf (done.map (tupleKeyHash knd))<2 ^ 63))=true then _ else _) Q E _;unfold K5 reduceHash Hw at h
  by_cases hr:(decide (-(2:Int) ^ 63<=Builtin.Tuple.tupleHashOf (done.map (tupleKeyHash knd)))&&decide (Builtin.Tuple.tupleHashOf (done.map (tupleKeyHash knd))<2 ^ 63))=true
  ·rw [if_pos hr];rw [if_pos hr] at h;exact wpAny_pure (by simpa [Nat.add_assoc] using h)
  ·rw [if_neg hr];rw [if_neg hr] at h;exact wpAny_bind (wpAny_rule (wpAny_pure (by simpa [Nat.add_assoc] using h)))
theorem Lq {x y:List (List Kt)} {a b:Addr} {P:Fin->Shared->Prop} (hu:A.units<cLine) (hx:vm knd s.heap x a) (hy:vm knd s.heap y b) (h:P (.done (.ret (.bool (decide (x=y))))) s) :
  wpAny (model prog w) A (Builtin.«tuple.__eq__» ⟨[.ref a,.ref b],[]⟩) P E s:=by
 have hJ:=hy.typeIs;obtain ⟨oa,xs,na,hoa,_,hda,hia⟩:=hx;obtain ⟨ob,ys,nb,hob,_,bI,hib⟩:=hy;show wpAny _ _ (isInstance (.ref b) (.type "tuple") >>= _) _ _ s;refine wpAny_bind (wpAny_isInstance hJ isSubtype_tuple_tuple ?_);simp only [Bool.not_true,Bool.false_eq_true,if_false];refine wpAny_bind (wpAny_tupleItemsOf hoa hda ?_);refine wpAny_bind (wpAny_tupleItemsOf hob bI ?_);refine wpAny_bind ?_
 refine wpAny_forIn_list _
  (fun rest r s'=>r.1=none/\s'=s/\∃ x' y' dF ys',rest=List.zip dF ys'/\pq knd s.heap x' dF/\pq knd s.heap y' ys'/\decide (x'=y')=decide (x=y)/\(dF.length==ys'.length)=(xs.size==ys.size))
  _ ?_ ?_ _ _ ⟨rfl,rfl,x,y,xs.toList,ys.toList,rfl,hia,hib,rfl,by simp⟩
 ·rintro ⟨u,v⟩ rest r s' ⟨hr,rfl,x',y',dF,ys',hz,fU,fg,hdec,hlen⟩;cases fU with
  | nil=>simp at hz
  | @cons k1 u' x'' xs'' h1 hx'' => -- here
   cases fg with
   | nil=>simp at hz
   | @cons k2 v' y'' ys'' h2 hy'' => -- here
    simp only [List.zip_cons_cons,List.cons.injEq,Prod.mk.injEq] at hz;obtain ⟨⟨rfl,rfl⟩,rfl⟩:=hz;refine wpAny_bind (wpAny_eqBool_tuple (knd:=knd) (x:=k1) (y:=k2) hu h1 h2 ?_)
    by_cases hk:k1=k2
    ·subst hk;rw [decide_eq_true rfl];simp only [Bool.not_true,Bool.false_eq_true,if_false];refine wpAny_pure ⟨rfl,rfl,x'',y'',xs'',ys'',rfl,hx'',hy'',?_,by simpa using hlen⟩;rw [<- hdec]
     by_cases hxy:x''=y''
     ·simp [hxy]
     ·simp [hxy]
    ·rw [decide_eq_false hk];simp only [Bool.not_false,if_true];have hf:decide (x=y)=false:=by rw [<- hdec]; simp [hk]
     rw [hf] at h;exact wpAny_bind (wpAny_pure (wpAny_pure (wpAny_pure h)))
 ·rintro ⟨r1,r2⟩ s' ⟨hr,rfl,x',y',dF,ys',hz,fU,fg,hdec,hlen⟩;simp only at hr;subst hr;refine wpAny_pure ?_
  have iB:(xs.size==ys.size)=decide (x=y):=by
   rw [<- hdec,<- hlen];cases fU with
   | nil =>
    cases fg with
    | nil=>simp
    | cons _ _=>simp
   | cons _ _ =>
    cases fg with
    | nil=>simp
    | cons _ _=>simp at hz
  show P (.done (.ret (.bool (xs.size==ys.size)))) s';rw [iB]; exact h
theorem a4e {x y:List (List Kt)} {a b:Addr} {Q:Bool->Shared->Prop} (hu:A.units+3<cLine) (hx:vm knd s.heap x a) (hy:vm knd s.heap y b) (h:Q (decide (x=y)) s) :
  wpAny (model prog w) A (eqBool (.ref a) (.ref b)) Q E s:=by
 unfold eqBool
 try with_reducible refine wpAny_holding ?_
 show wpAny _ _ (if (Value.ref a==Value.ref b)=true then _ else _) Q E s
 by_cases fX:(Value.ref a==Value.ref b)=true
 ·rw [if_pos fX];have e:a=b:=by have:=eq_of_beq fX; injection this
  subst e;obtain rfl:=hx.inj hy;exact wpAny_bind (wpAny_rule (wpAny_pure (by simpa using h)))
 ·rw [if_neg fX]
  refine wpAny_bind (wpAny_richCompare_same_room (op:=.Eq) hx.typeIs hy.typeIs F.slot_tuple_eq
   (wpAny_call_entry F.slot_tuple_eq hx.typeIs F.entry_tuple_eq (Lq ?_ hx hy ⟨_,rfl,(fun e=>nomatch e),wpAny_truthy_bool h⟩) (F.args_tuple_eq_2 _ _)) (by omega))
  show A.units+_<cLine;omega
theorem T3 {ks:List Kt} {a:Addr} {m:Nat} {Q:Bool->Shared->Prop} (hk:IsTupleKey knd s.heap ks a) (h:Q true s):wpAny (model prog w) A (eqIsQuiet (m+1) (.ref a)) Q E s:=by
 have hT:=hk.typeIs;obtain ⟨o,items,n,ho,_,hd,hi⟩:=hk;unfold eqIsQuiet;refine wpAny_bind (wpAny_specialOf hT F.slot_tuple_eq.lookup ?_);show wpAny _ _ (isInstance (.ref a) (.type "tuple") >>= _) _ _ s;refine wpAny_bind (wpAny_isInstance hT isSubtype_tuple_tuple ?_);simp only [Bool.not_true,Bool.false_eq_true,if_false];refine wpAny_bind (wpAny_seqItems ho hd ?_);refine wpAny_bind ?_;show wpAny _ _ (forIn items _ _) _ _ s;rw [<- Array.forIn_toList];refine wpAny_forIn_list _ (fun rest r s'=>r.1=none/\s'=s/\∀ v∈rest,carriedByValue v=true) _ ?_ ?_ _ _ ⟨rfl,rfl,hi.byValue⟩
 ·rintro v rest r s' ⟨hr,rfl,hall⟩;rw [eqIsQuiet_byValue _ (hall v List.mem_cons_self)];refine wpAny_bind (wpAny_pure ?_);simp only [Bool.not_true,Bool.false_eq_true,if_false];exact wpAny_pure ⟨rfl,rfl,fun u kd=>hall u (List.mem_cons_of_mem _ kd)⟩
 ·rintro ⟨r1,r2⟩ s' ⟨hr,rfl,_⟩;simp only at hr;subst hr;exact wpAny_pure h
theorem T7 {ks:List (List Kt)} {a:Addr} {Q:Bool->Shared->Prop} (hk:vm knd s.heap ks a) (h:Q true s):wpAny (model prog w) A (eqIsQuiet 8 (.ref a)) Q E s:=by
 have hT:=hk.typeIs;obtain ⟨o,items,n,ho,_,hd,hi⟩:=hk;unfold eqIsQuiet;refine wpAny_bind (wpAny_specialOf hT F.slot_tuple_eq.lookup ?_);show wpAny _ _ (isInstance (.ref a) (.type "tuple") >>= _) _ _ s;refine wpAny_bind (wpAny_isInstance hT isSubtype_tuple_tuple ?_);simp only [Bool.not_true,Bool.false_eq_true,if_false];refine wpAny_bind (wpAny_seqItems ho hd ?_);refine wpAny_bind ?_;show wpAny _ _ (forIn items _ _) _ _ s;rw [<- Array.forIn_toList];refine wpAny_forIn_list _ (fun rest r s'=>r.1=none/\s'=s/\∃ left,pq knd s.heap left rest) _ ?_ ?_ _ _ ⟨rfl,rfl,ks,hi⟩
 ·rintro v rest r s' ⟨hr,rfl,left,hl⟩;cases hl with
  | cons h1 h2 =>
   refine wpAny_bind (T3 (m:=6) h1 ?_);simp only [Bool.not_true,Bool.false_eq_true,if_false];exact wpAny_pure ⟨rfl,rfl,_,h2⟩
 ·rintro ⟨r1,r2⟩ s' ⟨hr,rfl,_⟩;simp only at hr;subst hr;exact wpAny_pure h
end
noncomputable def Ac {prog:Program} {w:World} {Kt:Type} [DecidableEq Kt] (knd:KeyKind prog w Kt):HeapKind prog w (List (List Kt)) where
 is:=vm knd
 hash:=K5 knd
 draws:=Hw
 room:=fun A=>A.units+3<cLine
 inj:=fun hx hy=>hx.inj hy
 keeps:=fun x ho hd hs=>x.keeps ho hd hs
 pyHash:=fun hu hk h=>Uk (by omega) hk h
 eqBool:=fun hu hx hy h=>a4e hu hx hy h
 quiet:=fun hk h=>T7 hk h
end L2
end
section
namespace L2
open PySem PySem.Spec PyProof.Rows
abbrev Key:=Sum Int Str
def Om:Key->Value->Bool
 | .inl k,v=>Value.isInt k v
 | .inr x,v=>Value.isStrOf x v
def ad3 (w:World):Key->Int
 | .inl k=>hashInt k
 | .inr x=>hashStr w x
theorem jz:∀ {k:Key} {v:Value},Om k v=true->(∃ i t,k=Sum.inl i/\v=Value.int i t)\/(∃ x t,k=Sum.inr x/\v=Value.str x t)
 | .inl i,v,h=>by
  obtain ⟨t,e⟩:=Value.isInt_shape (k:=i) (v:=v) h;exact .inl ⟨i,t,rfl,e⟩
 | .inr x,v,h=>by
  obtain ⟨t,e⟩:=Value.isStrOf_shape (x:=x) (v:=v) h;exact .inr ⟨x,t,rfl,e⟩
theorem Ux (i:Int) (t:Tok):Om (.inl i) (.int i t)=true:=by simp [Om,Value.isInt]
theorem X7 (x:Str) (t:Tok):Om (.inr x) (.str x t)=true:=by simp [Om,Value.isStrOf]
theorem a9b (a b:Int):decide ((Sum.inl a:Key)=Sum.inl b)=(a==b):=by
 by_cases e:a=b
 ·subst e; simp
 ·have h:¬ (Sum.inl a:Key)=Sum.inl b:=fun q=>e (Sum.inl.inj q);rw [decide_eq_false h];exact (beq_eq_false_iff_ne.mpr e).symm
theorem a9e (a b:Str):decide ((Sum.inr a:Key)=Sum.inr b)=decide (a=b):=by
 by_cases e:a=b
 ·subst e; simp
 ·have h:¬ (Sum.inr a:Key)=Sum.inr b:=fun q=>e (Sum.inr.inj q);rw [decide_eq_false h,decide_eq_false e]
theorem a7o (a:Int) (b:Str):decide ((Sum.inl a:Key)=Sum.inr b)=false:=decide_eq_false (fun q=>nomatch q)
theorem a7r (a:Str) (b:Int):decide ((Sum.inr a:Key)=Sum.inl b)=false:=decide_eq_false (fun q=>nomatch q)
noncomputable def j6 (prog:Program) (w:World):PySem.KeyKind prog w Key where
 is:=Om
 hash:=ad3 w
 inj:=fun v a b ha hb=>by
  rcases jz ha with ⟨i,t,rfl,rfl⟩ | ⟨x,t,rfl,rfl⟩
  ·rcases jz hb with ⟨j,u,rfl,e⟩ | ⟨y,u,rfl,e⟩
   ·injection e with e1 _; rw [e1]
   ·exact nomatch e
  ·rcases jz hb with ⟨j,u,rfl,e⟩ | ⟨y,u,rfl,e⟩
   ·exact nomatch e
   ·injection e with e1 _; rw [e1]
 byValue:=fun k v h=>by
  rcases jz h with ⟨i,t,rfl,rfl⟩ | ⟨x,t,rfl,rfl⟩ <;> rfl
 pyHash:=fun hv h=>by
  rcases jz hv with ⟨i,t,rfl,rfl⟩ | ⟨x,t,rfl,rfl⟩
  ·exact wpAny_pyHash_int h
  ·exact wpAny_pyHash_str h
 eqBool:=fun hu hv h=>by
  rcases jz hu with ⟨i,t,rfl,rfl⟩ | ⟨x,t,rfl,rfl⟩
  ·rcases jz hv with ⟨j,u,rfl,rfl⟩ | ⟨y,u,rfl,rfl⟩
   ·rw [a9b] at h; exact wpAny_eqBool_int h
   ·rw [a7o] at h; exact SeqAt.EqAt.int_str i t y u _ _ _ _ h
  ·rcases jz hv with ⟨j,u,rfl,rfl⟩ | ⟨y,u,rfl,rfl⟩
   ·rw [a7r] at h; exact SeqAt.EqAt.str_int x t j u _ _ _ _ h
   ·rw [a9e] at h; exact wpAny_eqBool_str h
 «strs»:=fun k x t v h=>by
  rcases jz h with ⟨i,u,rfl,e⟩ | ⟨y,u,rfl,e⟩
  ·exact nomatch e
  ·injection e with e1 _;subst e1;cases v <;> rfl
theorem Nm (prog:Program) (w:World) (i:Int) (t:Tok):(j6 prog w).is (.inl i) (.int i t)=true:=Ux i t
theorem O4 (prog:Program) (w:World) (x:Str) (t:Tok):(j6 prog w).is (.inr x) (.str x t)=true:=X7 x t
end L2
namespace L2
open PySem PySem.Spec PyProof.Rows
inductive V where
 | non | bl (b:Bool) | int (i:Int) | str (x:Str) | byt (b:Array UInt8) | flt (b:UInt64) | ref (a:Addr) | ty (n:String)
 deriving DecidableEq
def RelV:V->Value->Prop
 | .non,u=>u=Value.none
 | .bl b,u=>u=Value.bool b
 | .int i,u=>∃ t,u=Value.int i t
 | .str x,u=>∃ t,u=Value.str x t
 | .byt b,u=>∃ t,u=Value.bytes b t
 | .flt b,u=>∃ t,u=Value.float b t
 | .ref a,u=>u=Value.ref a
 | .ty n,u=>u=Value.type n
abbrev Vals:List V->List Value->Prop:=Paired RelV
theorem Vals.length {xs:List V} {us:List Value} (r:Vals xs us):xs.length=us.length:=Paired.length r
theorem Vals.get:∀ {xs:List V} {us:List Value} {i:Nat} {x:V},Vals xs us->xs[i]? = some x->∃ u,us[i]? = some u/\RelV x u
 | _,_,_,_,.nil,e=>by simp at e
 | _,_,0,_,.cons r _,e=>by simp at e; subst e; exact ⟨_,rfl,r⟩
 | _,_,i+1,x,.cons _ t,e=>by
  obtain ⟨u,h1,h2⟩:=Vals.get (i:=i) (x:=x) t (by simpa using e);exact ⟨u,by simpa using h1,h2⟩
theorem Vals.set {x:V} {u:Value} (r:RelV x u):∀ {xs:List V} {us:List Value} (i:Nat),Vals xs us->Vals (xs.set i x) (us.set i u)
 | _,_,_,.nil=>.nil
 | _,_,0,.cons _ t=>.cons r t
 | _,_,i+1,.cons q t=>.cons q (Vals.set r i t)
theorem Vals.append {xs ys:List V} {us ws:List Value} (r:Vals xs us) (s:Vals ys ws):Vals (xs++ys) (us++ws):=by
 induction r with
 | nil=>exact s
 | cons r _ ih=>exact .cons r ih
theorem Vals.take:∀ {xs:List V} {us:List Value} (n:Nat),Vals xs us->Vals (xs.take n) (us.take n)
 | _,_,0,_=>.nil
 | _,_,_+1,.nil=>.nil
 | _,_,n+1,.cons r t=>.cons r (Vals.take n t)
theorem Vals.drop:∀ {xs:List V} {us:List Value} (n:Nat),Vals xs us->Vals (xs.drop n) (us.drop n)
 | _,_,0,r=>r
 | _,_,_+1,.nil=>.nil
 | _,_,n+1,.cons _ t=>Vals.drop n t
def Kq:Option V->Option Value->Prop
 | some v,some u=>RelV v u
 | none,none=>True
 | _,_=>False
def KV {κ:Type}:List (κ × V)->List (κ × Value)->Prop:=Paired fun (p:κ × V) (q:κ × Value)=>p.1=q.1/\RelV p.2 q.2
def kV:Key->V
 | .inl i=>.int i
 | .inr x=>.str x
inductive HO where
 /-- a list -/
 | lst (xs:List V)
 /-- a tuple (never changes) -/
 | tup (xs:List V)
 /-- a dict whose keys are ints and texts; one whose keys are tuples of ints and texts (the empty one is both) -/
 | dK (aa:List (Key × V)) | dT (aa:List (List Key × V))
 /-- a dict whose keys are tuples of tuples,with the keys' places -/
 | dN (xs:List (List (List Key) × Addr × V))
 /-- a set of ints: its members,its size -/
 | set (S:Int->Bool) (n:Nat)
 /-- an instance of the class at C,its dict at dx,its attributes -/
 | ins (C dx:Addr) (fs:List (Str × V))
 /-- the dict of the instance at x -/
 | own (x:Addr)
 /-- the dict of an exception -/
 | xd (fs:List (Str × V))
 /-- a bound method,f of x -/
 | met (f x:Addr)
 /-- a range object lo,lo+1,.. below hi -/
 | rng (lo hi:Int)
 /-- a thing that is known to the object (the script; a dict while a loop walks it): read,never written while it is so -/
 | frz (o:Obj) (u:HO)
 /-- a code object's table -/
 | tbl (ps:Array Value)
 /-- any other thing,by what is true of its one object (a def of jF own: SetO a S n:=HO.ext fun h=>..) -/
 | ext (φ:Heap->Prop)
abbrev Hp:=Addr->Option HO
def upd (H:Hp) (a:Addr) (o:HO):Hp:=fun b=>if b=a then some o else H b
theorem bw {H:Hp} {a:Addr} {o:HO}:upd H a o a=some o:=by unfold upd; rw [if_pos rfl]
theorem c7 {H:Hp} {a b:Addr} {o:HO} (h:b≠a):upd H a o b=H b:=by unfold upd; rw [if_neg h]
theorem jh {H:Hp} {a b:Addr} {o:HO} (h:H a=some o) (h':H b=none):a≠b:=by
 intro e; subst e; rw [h] at h'; cases h'
def Ye (h:Heap) (a:Addr) (items:Array Value):Prop:=∃ o,h.get? a=some o/\o.cls=.type "tuple" /\ o.dict=none/\∃ n,o.data=.seq items n
theorem Ye.is {h:Heap} {a:Addr} {items:Array Value} (x:Ye h a items):IsTup h a items:=let ⟨o,e,c,_,d⟩:=x; ⟨o,e,c,d⟩
theorem Ye.new (h:Heap) (items:Array Value):Ye (h.push { cls:=.type "tuple",data:=.seq items }) h.objs.size items:=⟨_,Heap.get?_push_size _ rfl,rfl,rfl,0,rfl⟩
section
variable (P:Program) (w:World)
def jy (H:Hp) (h:Heap) (a:Addr):HO->Prop
 | .lst xs=>xs.length<=sizeLine/\∃ (its:List Value) (n:Nat),Vals xs its/\h.get? a=some { cls:=.type "list",data:=.seq its.toArray n }
 | .tup xs=>xs.length<=sizeLine/\∃ its:List Value,Vals xs its/\Ye h a its.toArray
 | .dK aa=>aa.length<=sizeLine/\(a==sysModules)=false/\∃ vs,KV aa vs/\h.DictOf (j6 P w) a vs
 | .dT aa=>aa.length<=sizeLine/\(a==sysModules)=false/\∃ xs:List (List Key × Addr × Value),
   Paired (fun (p:List Key × V) (q:List Key × Addr × Value)=>p.1=q.1/\H q.2.1=some (.tup (p.1.map kV))/\RelV p.2 q.2.2) aa xs /\
   ∃ o es ep,h.get? a=some o/\o.ExactDict/\o.data=.dict es ep/\es.toList=xs.map (entryOfKey (tupleKind (j6 P w)))/\(xs.map (·.1)).Nodup
 | .dN xs=>xs.length<=sizeLine/\(a==sysModules)=false/\∃ ys:List (List (List Key) × Addr × Value),
   Paired (fun (p:List (List Key) × Addr × V) (q:List (List Key) × Addr × Value)=>p.1=q.1/\p.2.1=q.2.1/\RelV p.2.2 q.2.2) xs ys /\
   ∃ o es ep,h.get? a=some o/\o.ExactDict/\o.data=.dict es ep/\es.toList=ys.map (entryOfKey (Ac (j6 P w)))/\(ys.map (·.1)).Nodup
 | .set S n=>h.SetOf (intKind P w) a S n
 | .ins C dx fs=>H dx=some (.own a)/\fs.length<=1000/\dx≠a/\h.get? a=some (PySem.W.instObj C dx) /\
   ∃ mA,h.Ns1 dx mA/\(∀ f,Kq (fs.lookup f) (mA f))/\PySem.Within mA (fs.map (·.1))
 | .own _=>∃ o,h.get? a=some o
 | .xd fs=>∃ mA,h.Ns1 a mA/\∀ f,Kq (fs.lookup f) (mA f)
 | .rng lo hi=>∃ t u v,h.get? a=some { cls:=.type "range",data:=.fields #[.int lo t,.int hi u,.int 1 v] }
 | .frz o u=>h.get? a=some o/\jy H h a u
 | .tbl ps=>h.get? a=some { cls:=.none,data:=.fields ps }
 | .met f x=>h.get? a=some (PySem.W.methodObj (.ref f) (.ref x))
 | .ext φ=>φ h/\(∃ o,h.get? a=some o)/\∀ h1 h2:Heap,φ h1->(∀ o,h1.get? a=some o->h2.get? a=some o)->φ h2
def HOk (H:Hp) (h:Heap):Prop:=∀ a o,H a=some o->jy P w H h a o
end
section
variable {P:Program} {w:World} {H H':Hp} {h h':Heap} {a:Addr} {o:HO}
theorem jy.lt (x:jy P w H h a o):a<h.objs.size:=by
 cases o with
 | lst xs=>obtain ⟨_,_,_,_,e⟩:=x; exact Heap.lt_size e
 | tup xs=>obtain ⟨_,_,_,p⟩:=x; exact p.is.lt
 | dK aa=>obtain ⟨_,_,_,_,o,_,_,e,_⟩:=x; exact Heap.lt_size e
 | dT aa=>obtain ⟨_,_,_,_,o,_,_,e,_⟩:=x; exact Heap.lt_size e
 | dN aa=>obtain ⟨_,_,_,_,o,_,_,e,_⟩:=x; exact Heap.lt_size e
 | set S n=>obtain ⟨o,_,_,_,e,_⟩:=x; exact Heap.lt_size e
 | ins C dx fs=>obtain ⟨_,_,_,e,_⟩:=x; exact Heap.lt_size e
 | own y=>obtain ⟨_,e⟩:=x; exact Heap.lt_size e
 | xd fs=>obtain ⟨_,⟨_,_,_,e,_⟩,_⟩:=x; exact Heap.lt_size e
 | rng lo hi=>obtain ⟨_,_,_,e⟩:=x; exact Heap.lt_size e
 | frz ob u=>obtain ⟨e,_⟩:=x; exact Heap.lt_size e
 | tbl ps=>exact Heap.lt_size (show h.get? a=some _ from x)
 | met f y=>exact Heap.lt_size (show h.get? a=some _ from x)
 | ext φ=>obtain ⟨_,⟨_,e⟩,_⟩:=x; exact Heap.lt_size e
theorem Paired.aae {α β:Type} {F G:α->β->Prop} {fL:List α} {fQ:List β} (r:Paired F fL fQ) (f:∀ a b,F a b->G a b):Paired G fL fQ:=by
 induction r with
 | nil=>exact .nil
 | cons r _ ih=>exact .cons (f _ _ r) ih
theorem jy.stay (x:jy P w H h a o) (k:∀ b u,(b=a\/H b=some (.own a))->h.get? b=some u->h'.get? b=some u)
  (ho:∀ b,H b=some (.own a)->H' b=some (.own a)) (ht:∀ b xs,H b=some (.tup xs)->H' b=some (.tup xs)):jy P w H' h' a o:=by
 induction o with
 | lst xs=>obtain ⟨z,its,n,r,e⟩:=x; exact ⟨z,its,n,r,k _ _ (.inl rfl) e⟩
 | tup xs=>obtain ⟨z,its,r,ob,e,c⟩:=x; exact ⟨z,its,r,ob,k _ _ (.inl rfl) e,c⟩
 | dK aa=>obtain ⟨z,y,vs,r,ob,es,ep,e,c⟩:=x; exact ⟨z,y,vs,r,ob,es,ep,k _ _ (.inl rfl) e,c⟩
 | dT aa =>
  obtain ⟨z,y,xs,r,ob,es,ep,e,c⟩:=x;exact ⟨z,y,xs,Paired.aae r fun p q z=>⟨z.1,ht _ _ z.2.1,z.2.2⟩,ob,es,ep,k _ _ (.inl rfl) e,c⟩
 | dN aa=>obtain ⟨z,y,vs,r,ob,es,ep,e,c⟩:=x; exact ⟨z,y,vs,r,ob,es,ep,k _ _ (.inl rfl) e,c⟩
 | set S n=>obtain ⟨ob,es,ep,t,e,c⟩:=x; exact ⟨ob,es,ep,t,k _ _ (.inl rfl) e,c⟩
 | ins C dx fs =>
  obtain ⟨d,z,ne,e,mA,⟨od,es,ep,e2,c⟩,r⟩:=x;exact ⟨ho _ d,z,ne,k _ _ (.inl rfl) e,mA,⟨od,es,ep,k _ _ (.inr d) e2,c⟩,r⟩
 | own y=>obtain ⟨ob,e⟩:=x; exact ⟨ob,k _ _ (.inl rfl) e⟩
 | xd fs=>obtain ⟨mA,⟨od,es,ep,e,c⟩,r⟩:=x; exact ⟨mA,⟨od,es,ep,k _ _ (.inl rfl) e,c⟩,r⟩
 | rng lo hi=>obtain ⟨t,u,v,e⟩:=x; exact ⟨t,u,v,k _ _ (.inl rfl) e⟩
 | frz ob u ih=>obtain ⟨e,q⟩:=x; exact ⟨k _ _ (.inl rfl) e,ih q⟩
 | tbl ps =>
  have e:h.get? a=some { cls:=.none,data:=.fields ps }:=x;show h'.get? a=some { cls:=.none,data:=.fields ps };exact k a _ (.inl rfl) e
 | met f y =>
  have e:h.get? a=some (PySem.W.methodObj (.ref f) (.ref y)):=x;show h'.get? a=some (PySem.W.methodObj (.ref f) (.ref y));exact k a _ (.inl rfl) e
 | ext φ=>obtain ⟨p,⟨o,e⟩,st⟩:=x; exact ⟨st _ _ p fun o q=>k _ _ (.inl rfl) q,⟨o,k _ _ (.inl rfl) e⟩,st⟩
theorem HOk.lt (x:HOk P w H h) (e:H a=some o):a<h.objs.size:=(x a o e).lt
theorem HOk.fresh (x:HOk P w H h) (e:h.objs.size<=a):H a=none:=by
 cases q:H a with
 | none=>rfl
 | some u=>exact absurd (Nat.lt_of_lt_of_le (x.lt q) e) (Nat.lt_irrefl _)
theorem HOk.kept (x:HOk P w H h) (k:∀ b u,h.get? b=some u->h'.get? b=some u):HOk P w H h':=fun a o e =>
 (x a o e).stay (fun b u _ q=>k b u q) (fun _ q=>q) fun _ _ q=>q
theorem HOk.laid (x:HOk P w H h) (k:∀ b u,h.get? b=some u->h'.get? b=some u) (hp:h.objs.size<=a) (new:jy P w (upd H a o) h' a o):HOk P w (upd H a o) h':=fun b u e=>by
 have hn:=x.fresh hp
 by_cases hb:b=a
 ·subst hb; rw [bw] at e; cases e; exact new
 ·rw [c7 hb] at e;exact (x b u e).stay (fun c v _ q=>k c v q) (fun c q=>by rw [c7 (jh q hn)]; exact q) fun c xs q=>by rw [c7 (jh q hn)]; exact q
end
def Rd (H:Hp) (a:Addr) (u:HO):Prop:=H a=some u\/∃ o,H a=some (.frz o u)
theorem Rd.ok {P:Program} {w:World} {H:Hp} {h:Heap} {a:Addr} {u:HO} (r:Rd H a u) (x:HOk P w H h):jy P w H h a u:=by
 rcases r with r | ⟨o,r⟩
 ·exact x a u r
 ·obtain ⟨_,q⟩:=x a _ r;exact q
def Mut:Option HO->Prop
 | some (.lst _)=>True
 | some (.dK _)=>True
 | some (.dT _)=>True
 | some (.dN _)=>True
 | some (.set _ _)=>True
 | some (.ins _ _ _)=>True
 | some (.ext _)=>True
 | _=>False
section
variable {P:Program} {w:World} {H:Hp} {h h':Heap} {x e:Addr} {o':HO}
theorem HOk.write (ok:HOk P w H h) (mu:Mut (H x)) (he:e=x\/H e=some (.own x)) (k:∀ b u,b≠e->h.get? b=some u->h'.get? b=some u) (dW:∃ u,h'.get? e=some u)
  (new:jy P w (upd H x o') h' x o'):HOk P w (upd H x o') h':=fun b u q=>by
 have dv:∀ c y,H c=some (.own y)->c≠x:=fun c y r z=>by subst z; rw [r] at mu; exact mu
 have gQ:∀ c xs,H c=some (.tup xs)->c≠x:=fun c xs r z=>by subst z; rw [r] at mu; exact mu
 by_cases hb:b=x
 ·subst hb; rw [bw] at q; cases q; exact new
 ·rw [c7 hb] at q
  by_cases hbe:b=e
  ·have q':H b=some (.own x):=by
    rcases he with z | z
    ·exact absurd (hbe.trans z) hb
    ·rw [hbe]; exact z
   rw [q] at q'; cases q';obtain ⟨v,hv⟩:=dW;exact ⟨v,by rw [hbe]; exact hv⟩
  ·refine (ok b u q).stay (fun c v hc r=>k c v ?_ r) (fun c r=>by rw [c7 (dv c b r)]; exact r) fun c xs r=>by rw [c7 (gQ c xs r)]; exact r
   rcases hc with rfl | hc
   ·exact hbe
   ·rintro rfl;rcases he with z | z
    ·exact dv c b hc z
    ·rw [hc] at z; cases z; exact hb rfl
end
structure Un (fs ex:List Addr) (H H':Hp) (h h':Heap):Prop where
 keep:∀ b o,h.get? b=some o->H b=none->b∉fs->b∉ex->h'.get? b=some o
 slot:∀ b o,h.get? b=some o->H b=none->b∈fs->b∉ex->∃ sl,h'.get? b=some { o with slots:=sl }
 free:∀ b o,h.get? b=some o->H b=none->b∉ex->H' b=none
 there:∀ b o,h.get? b=some o->b∉ex->∃ o',h'.get? b=some o'
 tups:∀ b xs,H b=some (.tup xs)->H' b=some (.tup xs)
 frzs:∀ b o u,H b=some (.frz o u)->H' b=some (.frz o u)
 tbls:∀ b ps,H b=some (.tbl ps)->∃ more,H' b=some (.tbl (ps++more))
section
variable {fs eY ex iU:List Addr} {H H1 H2:Hp} {h h1 h2 h':Heap} {a x e:Addr} {o:HO}
theorem Un.any (u:Un fs ex H H1 h h1) {b:Addr} {ob:Obj} (q:h.get? b=some ob) (n:H b=none) (hx:b∉ex):∃ sl,h1.get? b=some { ob with slots:=sl }:=by
 by_cases hb:b∈fs
 ·exact u.slot b ob q n hb hx
 ·exact ⟨ob.slots,u.keep b ob q n hb hx⟩
theorem Un.trans (a:Un fs ex H H1 h h1) (b:Un fs ex H1 H2 h1 h2):Un fs ex H H2 h h2 where
 keep:=fun c ob q n hc hx=>b.keep c ob (a.keep c ob q n hc hx) (a.free c ob q n hx) hc hx
 slot:=fun c ob q n hc hx=>by
  obtain ⟨sl,e1⟩:=a.slot c ob q n hc hx;obtain ⟨sl',e2⟩:=b.slot c _ e1 (a.free c ob q n hx) hc hx;exact ⟨sl',e2⟩
 free:=fun c ob q n hx=>by
  obtain ⟨o',e1⟩:=a.there c ob q hx;exact b.free c o' e1 (a.free c ob q n hx) hx
 there:=fun c ob q hx=>by
  obtain ⟨o',e1⟩:=a.there c ob q hx;exact b.there c o' e1 hx
 tups:=fun c xs q=>b.tups c xs (a.tups c xs q)
 frzs:=fun c ob xs q=>b.frzs c ob xs (a.frzs c ob xs q)
 tbls:=fun c ps q=>by
  obtain ⟨m1,e1⟩:=a.tbls c ps q;obtain ⟨m2,e2⟩:=b.tbls c _ e1;exact ⟨m1++m2,by rw [e2,Array.append_assoc]⟩
theorem Un.kept (k:∀ b u,h.get? b=some u->h'.get? b=some u):Un fs ex H H h h' :=
 ⟨fun b ob q _ _ _=>k b ob q,fun b ob q _ _ _=>⟨ob.slots,k b ob q⟩,fun _ _ _ n _=>n,fun b ob q _=>⟨ob,k b ob q⟩,fun _ _ q=>q,fun _ _ _ q=>q,fun _ ps q=>⟨#[],by rw [q]; simp⟩⟩
theorem Un.refl:Un fs ex H H h h:=Un.kept fun _ _ q=>q
theorem Un.laid (k:∀ b u,h.get? b=some u->h'.get? b=some u) (hp:h.objs.size<=a) (hn:H a=none):Un fs ex H (upd H a o) h h' where
 keep:=fun b u q _ _ _=>k b u q
 slot:=fun b u q _ _ _=>⟨u.slots,k b u q⟩
 free:=fun b u q n _=>by rw [c7 (Nat.ne_of_lt (Nat.lt_of_lt_of_le (Heap.lt_size q) hp))]; exact n
 there:=fun b u q _=>⟨u,k b u q⟩
 tups:=fun b xs q=>by rw [c7 (jh q hn)]; exact q
 frzs:=fun b u xs q=>by rw [c7 (jh q hn)]; exact q
 tbls:=fun b ps q=>⟨#[],by rw [c7 (jh q hn),q]; simp⟩
theorem Un.write (mu:Mut (H x)) (he:e=x\/H e=some (.own x)) (k:∀ b u,b≠e->h.get? b=some u->h'.get? b=some u) (dW:∃ u,h'.get? e=some u):Un fs ex H (upd H x o) h h':=by
 have hx:∀ b,H b=none->b≠x:=fun b n z=>by subst z; rw [n] at mu; exact mu
 have hb:∀ b,H b=none->b≠e:=fun b n z=>by
  subst z;rcases he with r | r
  ·exact hx b n r
  ·rw [n] at r; cases r
 have hm:∀ b u,H b=some u->¬ Mut (some u)->b≠x:=fun b u q nm z=>by subst z; rw [q] at mu; exact nm mu
 refine ⟨fun b u q n _ _=>k b u (hb b n) q,fun b u q n _ _=>⟨u.slots,k b u (hb b n) q⟩,fun b u q n _=>by rw [c7 (hx b n)]; exact n,fun b u q _=>?_,
  fun b xs q=>by rw [c7 (hm b _ q fun z=>z)]; exact q,fun b u xs q=>by rw [c7 (hm b _ q fun z=>z)]; exact q,fun b ps q=>⟨#[],by rw [c7 (hm b _ q fun z=>z),q]; simp⟩⟩
 by_cases hbe:b=e
 ·subst hbe; exact dW
 ·exact ⟨u,k b u hbe q⟩
theorem Un.mono (u:Un fs ex H H1 h h1) (hs:∀ b∈fs,b∈eY) (hx:∀ b∈ex,b∈iU):Un eY iU H H1 h h1 :=
 ⟨fun b ob q n hb he=>u.keep b ob q n (fun z=>hb (hs b z)) fun z=>he (hx b z),fun _ _ q n _ he=>u.any q n fun z=>he (hx _ z),fun b ob q n he=>u.free b ob q n fun z=>he (hx b z),fun b ob q he=>u.there b ob q fun z=>he (hx b z),u.tups,u.frzs,u.tbls⟩
end
def trk (h:Heap) (H:Hp):List Addr:=(List.range h.objs.size).filter fun a=>(H a).isSome
def Yh (h:Heap) (H:Hp):Heap:=PySem.W.hideAll h (trk h H)
theorem Uc (h:Heap) (H:Hp):(Yh h H).objs.size=h.objs.size:=PySem.W.hideAll_size _ _
theorem a09 {h:Heap} {H:Hp} {b:Addr} {o:Obj} (e:h.get? b=some o) (n:H b=none):(Yh h H).get? b=some o :=
 PySem.W.hideAll_get _ e fun hm=>by
  have q:(H b).isSome=true:=(List.mem_filter.mp hm).2;rw [n] at q; simp at q
theorem a6q {h:Heap} {H:Hp} {b:Addr} {o:Obj} (e:(Yh h H).get? b=some o):h.get? b=some o/\H b=none:=by
 have e':h.get? b=some o:=PySem.W.of_hideAll (trk h H) e;refine ⟨e',?_⟩;cases q:H b with
 | none=>rfl
 | some x =>
  have hm:b∈trk h H:=List.mem_filter.mpr ⟨List.mem_range.mpr (Heap.lt_size e'),by simp [q]⟩;have z:(Yh h H).get? b=none:=PySem.W.hideAll_none (trk h H) hm;rw [z] at e; cases e
noncomputable def a5x (g h:Heap) (L:Addr):List (Addr × Obj):=(List.range h.objs.size).filterMap fun a=>if a=L\/(g.get? a).isSome=true then none else (h.get? a).map fun o=>(a,o)
def rest (g h:Heap) (L d:Addr):List (Addr × Obj):=(a5x g h L).filter fun p=>decide (p.1≠d)
end L2
namespace L2
open PySem PySem.Spec PyProof.Rows
structure Mod (K:PySem.W.Frag) (mg:Str->Option Value) (base:Heap):Prop where
 kin:K.In base
 glob:base.Ns mainGlobals mg
 blt:∃ mb,base.Ns builtinsNs mb/\∀ x:Str,x ≠ "__name__" -> mb x=bootBuiltins x
 nolimit:base.NoLimit
structure Cx where
 prog:Program
 w:World
 K:PySem.W.Frag
 mg:Str->Option Value
 base:Heap
 A:Around
 N:List Str
 s₀:Shared
 H₀:Hp
 env:Env
 outer:List Env
 stack:List Env
 ex:List Addr
 fn:Str->Bool
 calm:Bool
 pn:List (Addr × Obj)
 xe:Value->Shared->Prop
def frs (l:List Env):List Addr:=l.filterMap (·.frame)
abbrev Cx.fs (X:Cx):List Addr:=frs X.outer
def Vis (sc:Scope) (x:Str):Prop:=sc.names.lookup x=some .local\/sc.names.lookup x=some .cell\/sc.names.lookup x=some .free
def Loc (sc:Scope) (x:Str):Prop:=sc.names.lookup x=some .local\/sc.names.lookup x=some .cell
def Look (env:Env) (h:Heap) (m:Str->Option Value) (x:Str) (u:Value):Prop :=
 (env.kindOf x=some .local/\m x=some u)\/((env.kindOf x=some .cell\/env.kindOf x=some .free)/\∃ c,env.cells.lookup x=some c/\h.IsCell c (some u))
structure Cx.Ok (X:Cx):Prop where
 mod:Mod X.K X.mg X.base
 kind:X.env.scope.kind=.function
 glob:X.env.globals=mainGlobals
 blt:X.env.builtins=builtinsNs
 above:X.s₀.heap.objs.size<=X.env.locals
 inj:∀ x y c,X.env.cells.lookup x=some c->X.env.cells.lookup y=some c->x=y
 has:∀ x,(X.env.kindOf x=some .cell\/X.env.kindOf x=some .free)->∃ c,X.env.cells.lookup x=some c
 cab:∀ x c,X.fn x=true->X.env.cells.lookup x=some c->X.s₀.heap.objs.size<=c
 hd:X.calm=true->X.A.handled=none
 frames:X.A.frames=some X.stack
 stk:X.stack=X.outer\/(X.stack=X.env::X.outer/\X.env.frame=some X.env.locals)
 exf:∀ b∈X.ex,b≠X.env.locals/\∀ x c,X.env.cells.lookup x=some c->c≠b
 bs:∀ b o,X.base.get? b=some o->X.s₀.heap.get? b=some o/\X.H₀ b=none
 bsz:X.base.objs.size<=X.s₀.heap.objs.size
 noex:∀ b o,X.base.get? b=some o->b∉X.ex
 exfs:∀ b∈X.ex,b∉X.fs
 Ko:X.s₀.heap.FunFrames X.base X.outer
 frf:∀ b∈X.fs,X.H₀ b=none
structure Inv (X:Cx) (pins:List (Addr × Obj)) (σ:List (Option V)) (H:Hp) (s:Shared):Prop where
 ok:X.Ok
 os:s.os=X.s₀.os
 bare:AllBare s.gens
 base:Un X.fs X.ex X.H₀ H X.s₀.heap s.heap
 loc:∃ m,s.heap.Ns X.env.locals m/\∀ (i:Nat) (x:Str) (v:V),X.N[i]? = some x->σ[i]? = some (some v)->Vis X.env.scope x->∃ u,RelV v u/\Look X.env s.heap m x u
 cell:∀ x c,X.env.cells.lookup x=some c->∃ v,s.heap.IsCell c v
 free:H X.env.locals=none
 freeC:∀ x c,X.env.cells.lookup x=some c->H c=none
 pin:∀ p∈X.pn++pins,s.heap.get? p.1=some p.2/\H p.1=none/\p.1≠X.env.locals/\p.1∉X.fs/\∀ v,p.2.data≠.cell v
 hok:HOk X.prog X.w H s.heap
 len:σ.length=X.N.length
section
variable {X:Cx} {pins:List (Addr × Obj)} {σ:List (Option V)} {H H':Hp} {s:Shared} {h':Heap}
theorem Cx.Ok.acp (ok:X.Ok) {b:Addr} {o:Obj} (e:X.base.get? b=some o):b∉X.fs:=fun hb=>by
 have:=(ok.Ko.mem hb).1;rw [e] at this; cases this
theorem Inv.bs (I:Inv X pins σ H s):∀ b o,X.base.get? b=some o->s.heap.get? b=some o/\H b=none:=fun b o e =>
 ⟨I.base.keep b o (I.ok.bs b o e).1 (I.ok.bs b o e).2 (I.ok.acp e) (I.ok.noex b o e),I.base.free b o (I.ok.bs b o e).1 (I.ok.bs b o e).2 (I.ok.noex b o e)⟩
theorem Inv.bk (I:Inv X pins σ H s):∀ b o,X.base.get? b=some o->s.heap.get? b=some o:=fun b o e=>(I.bs b o e).1
theorem Inv.mod (I:Inv X pins σ H s):Mod X.K X.mg X.base:=I.ok.mod
theorem Inv.kIn (I:Inv X pins σ H s):X.K.In s.heap:=I.ok.mod.kin.keeps I.bk
theorem Inv.fr (I:Inv X pins σ H s):∃ m,Fr X.base X.env.locals s.heap m :=
 let ⟨m,hn,_⟩:=I.loc
 ⟨m,hn,I.bk,Nat.le_trans I.ok.bsz I.ok.above⟩
theorem Inv.lt (I:Inv X pins σ H s):X.env.locals<s.heap.objs.size:=let ⟨_,hn,_⟩:=I.loc; hn.lt
theorem Inv.sz (I:Inv X pins σ H s):X.s₀.heap.objs.size<=s.heap.objs.size:=Nat.le_trans I.ok.above (Nat.le_of_lt I.lt)
theorem Inv.ad0 (I:Inv X pins σ H s) {a:Addr} (h:s.heap.objs.size<=a):a∉X.fs:=fun hb=>by
 obtain ⟨_,o,ho,_⟩:=I.ok.Ko.mem hb;exact absurd (Nat.lt_of_lt_of_le (Heap.lt_size ho) (Nat.le_trans I.sz h)) (Nat.lt_irrefl _)
theorem Inv.cne (I:Inv X pins σ H s):∀ x c,X.env.cells.lookup x=some c->c≠X.env.locals:=fun x c e z=>by
 obtain ⟨v,o,ho,hd⟩:=I.cell x c e;obtain ⟨m,⟨o',es,ep,ho',hd',_⟩,_⟩:=I.loc;rw [z,ho'] at ho; cases ho; rw [hd'] at hd; cases hd
theorem Inv.Ko (I:Inv X pins σ H s):s.heap.FunFrames X.base X.outer:=by
 have all:∀ (l:List Env),(∀ b∈frs l,b∈X.fs)->X.s₀.heap.FunFrames X.base l->s.heap.FunFrames X.base l:=by
  intro l
  induction l with
  | nil=>intro _ _; trivial
  | cons env r ih =>
   intro hs hl;obtain ⟨hk,⟨L,o,hf,hn,ho,hd⟩,hr⟩:=hl;have hL:L∈X.fs:=hs L (by unfold frs; rw [List.filterMap_cons,hf]; exact List.mem_cons_self);obtain ⟨sl,e⟩:=I.base.slot L o ho (I.ok.frf L hL) hL fun z=>I.ok.exfs L z hL;exact ⟨hk,⟨L,_,hf,hn,e,hd⟩,ih (fun b hb=>hs b (by unfold frs; rw [List.filterMap_cons,hf]; exact List.mem_cons_of_mem _ hb)) hr⟩
 exact all X.outer (fun _ hb=>hb) I.ok.Ko
theorem Inv.stack (I:Inv X pins σ H s):s.heap.FunFrames X.base X.stack:=by
 rcases I.ok.stk with e | ⟨e,hf⟩
 ·rw [e]; exact I.Ko
 ·rw [e];obtain ⟨m,hn,_⟩:=I.loc;refine .cons (by rw [I.ok.kind]; decide) hf hn ?_ I.Ko;exact Heap.get?_none_of_le (Nat.le_trans I.ok.bsz I.ok.above)
theorem Inv.Mw (I:Inv X pins σ H s):∀ b∈frs X.stack,b∈X.env.locals::X.fs:=fun b hb=>by
 rcases I.ok.stk with e | ⟨e,hf⟩
 ·rw [e] at hb; exact List.mem_cons_of_mem _ hb
 ·rw [e] at hb;unfold frs at hb;rw [List.filterMap_cons,hf] at hb;exact hb
theorem Inv.Ju (I:Inv X pins σ H s):∀ b∈frs X.stack,H b=none:=fun b hb=>by
 rcases List.mem_cons.mp (I.Mw b hb) with e | hb
 ·rw [e]; exact I.free
 ·obtain ⟨_,o,ho,_⟩:=I.ok.Ko.mem hb;exact I.base.free b o ho (I.ok.frf b hb) fun z=>I.ok.exfs b z hb
theorem Inv.step {g':Array GenState} {t':Nat} {d':Drawn} {ch:List Addr} (I:Inv X pins σ H s)
  (bS:∀ b∈ch,(b∈X.ex\/X.s₀.heap.objs.size<=b)/\b≠X.env.locals/\(∀ x c,X.env.cells.lookup x=some c->c≠b)/\∀ p∈X.pn++pins,p.1≠b)
  (keep:∀ b o,b≠X.env.locals->b∉X.fs->b∉ch->s.heap.get? b=some o->H b=none->h'.get? b=some o)
  (slot:∀ b o,b≠X.env.locals->b∈X.fs->b∉ch->s.heap.get? b=some o->H b=none->∃ sl,h'.get? b=some { o with slots:=sl }) (free:∀ b o,b∉ch->s.heap.get? b=some o->H b=none->H' b=none)
  (there:∀ b o,b∉ch->s.heap.get? b=some o->∃ o',h'.get? b=some o')
  (tups:∀ b xs,H b=some (.tup xs)->H' b=some (.tup xs)) (frzs:∀ b o u,H b=some (.frz o u)->H' b=some (.frz o u)) (tbls:∀ b ps,H b=some (.tbl ps)->∃ more,H' b=some (.tbl (ps++more)))
  (ns:∀ m,s.heap.Ns X.env.locals m->h'.Ns X.env.locals m) (hok:HOk X.prog X.w H' h') (hg:AllBare g') :
  Inv X pins σ H' { s with heap:=h',gens:=g',drawn:=d',toks:=t' }:=by
 have i7:∀ b o,X.s₀.heap.get? b=some o->b≠X.env.locals:=fun b o e=>Nat.ne_of_lt (Nat.lt_of_lt_of_le (Heap.lt_size e) I.ok.above)
 have neC:∀ b o,X.s₀.heap.get? b=some o->b∉X.ex->b∉ch:=fun b o e hx hb=>by
  rcases (bS b hb).1 with z | z
  ·exact hx z
  ·exact absurd (Nat.lt_of_lt_of_le (Heap.lt_size e) z) (Nat.lt_irrefl _)
 have cellK:∀ x c,X.env.cells.lookup x=some c->∀ v,s.heap.IsCell c v->h'.IsCell c v:=fun x c e v z9=>by
  obtain ⟨o,ho,hd⟩:=z9;have dr:c∉ch:=fun z=>(bS c z).2.2.1 x c e rfl
  by_cases hc:c∈X.fs
  ·obtain ⟨sl,q⟩:=slot c o (I.cne x c e) hc dr ho (I.freeC x c e);exact ⟨_,q,hd⟩
  ·exact ⟨o,keep c o (I.cne x c e) hc dr ho (I.freeC x c e),hd⟩
 refine ⟨I.ok,I.os,hg,⟨fun b o e n hb hx=>?_,fun b o e n hb hx=>?_,fun b o e n hx=>?_,fun b o e hx=>?_,fun b xs e=>tups b xs (I.base.tups b xs e),fun b o xs e=>frzs b o xs (I.base.frzs b o xs e),fun b ps e=>?_⟩,?_,fun x c e=>?_,?_,fun x c e=>?_,fun p hp=>?_,hok,I.len⟩
 ·exact keep b o (i7 b o e) hb (neC b o e hx) (I.base.keep b o e n hb hx) (I.base.free b o e n hx)
 ·obtain ⟨sl,e1⟩:=I.base.slot b o e n hb hx;obtain ⟨sl',e2⟩:=slot b _ (i7 b o e) hb (neC b o e hx) e1 (I.base.free b o e n hx);exact ⟨sl',e2⟩
 ·obtain ⟨o',e1⟩:=I.base.there b o e hx;exact free b o' (neC b o e hx) e1 (I.base.free b o e n hx)
 ·obtain ⟨o',e1⟩:=I.base.there b o e hx;exact there b o' (neC b o e hx) e1
 ·obtain ⟨m1,e1⟩:=I.base.tbls b ps e;obtain ⟨m2,e2⟩:=tbls b _ e1;exact ⟨m1++m2,by rw [e2,Array.append_assoc]⟩
 ·obtain ⟨m,hn,hl⟩:=I.loc;refine ⟨m,ns m hn,fun i x v e1 e2 e3=>?_⟩;obtain ⟨u,r,l⟩:=hl i x v e1 e2 e3;refine ⟨u,r,?_⟩;rcases l with l | ⟨k,c,e,z⟩
  ·exact .inl l
  ·exact .inr ⟨k,c,e,cellK x c e _ z⟩
 ·obtain ⟨v,z⟩:=I.cell x c e;exact ⟨v,cellK x c e v z⟩
 ·obtain ⟨m,⟨o,_,_,ho,_⟩,_⟩:=I.loc;exact free _ o (fun z=>(bS _ z).2.1 rfl) ho I.free
 ·obtain ⟨v,o,ho,hd⟩:=I.cell x c e;exact free c o (fun z=>(bS c z).2.2.1 x c e rfl) ho (I.freeC x c e)
 ·obtain ⟨e,n,ne,nf,d⟩:=I.pin p hp;have dr:p.1∉ch:=fun z=>(bS p.1 z).2.2.2 p hp rfl;exact ⟨keep p.1 p.2 ne nf dr e n,free p.1 p.2 dr e n,ne,nf,d⟩
theorem Inv.un {t':Nat} (I:Inv X pins σ H s) (u:Un X.fs [] H H' s.heap h') (hok:HOk X.prog X.w H' h'):Inv X pins σ H' { s with heap:=h',toks:=t' }:=by
 obtain ⟨m,⟨o,es,ep,ho,r⟩,_⟩:=id I.loc;obtain ⟨sl,hL⟩:=u.any ho I.free (by simp)
 exact I.step (g':=s.gens) (d':=s.drawn) (ch:=[]) (fun _ z=>nomatch z) (fun b o _ hb _ e n=>u.keep b o e n hb (by simp)) (fun b o _ hb _ e n=>u.slot b o e n hb (by simp)) (fun b o _ e n=>u.free b o e n (by simp)) (fun b o _ e=>u.there b o e (by simp)) u.tups u.frzs u.tbls (fun m' hm=>by
  obtain ⟨o',es',ep',ho',r'⟩:=hm;rw [ho] at ho'; cases ho';exact ⟨_,es',ep',hL,r'⟩) hok I.bare
theorem Inv.call {g':Array GenState} {t':Nat} {d':Drawn} {ch:List Addr} (I:Inv X pins σ H s) (u:Un (frs X.stack) ch H H' s.heap h') (hok:HOk X.prog X.w H' h') (hg:AllBare g')
  (bS:∀ b∈ch,(b∈X.ex\/X.s₀.heap.objs.size<=b)/\b≠X.env.locals/\(∀ x c,X.env.cells.lookup x=some c->c≠b)/\∀ p∈X.pn++pins,p.1≠b) :
  Inv X pins σ H' { s with heap:=h',gens:=g',drawn:=d',toks:=t' }:=by
 obtain ⟨m,⟨o,es,ep,ho,r⟩,_⟩:=id I.loc;obtain ⟨sl,hL⟩:=u.any ho I.free fun z=>(bS _ z).2.1 rfl
 exact I.step (ch:=ch) bS (fun b o hL hb hc e n=>u.keep b o e n (fun z=>(List.mem_cons.mp (I.Mw b z)).elim hL hb) hc) (fun b o _ _ hc e n=>u.any e n hc) (fun b o hc e n=>u.free b o e n hc) (fun b o hc e=>u.there b o e hc) u.tups u.frzs u.tbls (fun m' hm=>by
  obtain ⟨o',es',ep',ho',r'⟩:=hm;rw [ho] at ho'; cases ho';exact ⟨_,es',ep',hL,r'⟩) hok hg
theorem Inv.turned {t':Nat} {it:Addr} (I:Inv X pins σ H s) (k:∀ b o,b≠it->s.heap.get? b=some o->h'.get? b=some o) (hn:H it=none) (hL:it≠X.env.locals)
  (h1:it∈X.ex\/X.s₀.heap.objs.size<=it) (h2:∀ x c,X.env.cells.lookup x=some c->c≠it) (h3:∀ p∈X.pn++pins,p.1≠it):Inv X pins σ H { s with heap:=h',toks:=t' }:=by
 have jK:∀ b u,H b=some u->b≠it:=fun b u e z=>by rw [z,hn] at e; cases e
 refine I.step (g':=s.gens) (d':=s.drawn) (ch:=[it]) (fun b hb=>?_) (fun b o _ _ hc e _=>k b o (fun z=>hc (by simp [z])) e) (fun b o _ _ hc e _=>⟨o.slots,k b o (fun z=>hc (by simp [z])) e⟩) (fun _ _ _ _ n=>n)
  (fun b o hc e=>⟨o,k b o (fun z=>hc (by simp [z])) e⟩) (fun _ _ e=>e) (fun _ _ _ e=>e) (fun b ps e=>⟨#[],by rw [e]; simp⟩) (fun m hm=>?_) (fun b u e=>?_) I.bare
 ·have e:b=it:=by simpa using hb
  subst e;exact ⟨h1,hL,h2,h3⟩
 ·obtain ⟨o,es,ep,ho,r⟩:=hm;exact ⟨o,es,ep,k _ o (Ne.symm hL) ho,r⟩
 ·refine (I.hok b u e).stay (fun c v hc q=>k c v ?_ q) (fun _ q=>q) fun _ _ q=>q;rcases hc with z | z
  ·rw [z]; exact jK b u e
  ·exact jK c _ z
theorem Inv.tok (I:Inv X pins σ H s) (t:Nat):Inv X pins σ H { s with toks:=t }:=I.un (h':=s.heap) (t':=t) Un.refl I.hok
theorem Inv.kept {t':Nat} (I:Inv X pins σ H s) (k:∀ b u,s.heap.get? b=some u->h'.get? b=some u):Inv X pins σ H { s with heap:=h',toks:=t' }:=I.un (Un.kept k) (I.hok.kept k)
theorem Inv.laid {a:Addr} {o:HO} {t':Nat} (I:Inv X pins σ H s) (k:∀ b u,s.heap.get? b=some u->h'.get? b=some u) (hp:s.heap.objs.size<=a) (new:jy X.prog X.w (upd H a o) h' a o) :
  Inv X pins σ (upd H a o) { s with heap:=h',toks:=t' }:=I.un (Un.laid k hp (I.hok.fresh hp)) (I.hok.laid k hp new)
theorem Inv.write {x e:Addr} {o:HO} {t':Nat} (I:Inv X pins σ H s) (mu:Mut (H x)) (he:e=x\/H e=some (.own x)) (k:∀ b u,b≠e->s.heap.get? b=some u->h'.get? b=some u) (dW:∃ u,h'.get? e=some u)
  (new:jy X.prog X.w (upd H x o) h' x o):Inv X pins σ (upd H x o) { s with heap:=h',toks:=t' }:=I.un (Un.write mu he k dW) (I.hok.write mu he k dW new)
theorem Inv.Eh {pins':List (Addr × Obj)} (I:Inv X pins σ H s) (h:∀ p∈pins',s.heap.get? p.1=some p.2/\H p.1=none/\p.1≠X.env.locals/\p.1∉X.fs/\∀ v,p.2.data≠.cell v):Inv X pins' σ H s :=
 ⟨I.ok,I.os,I.bare,I.base,I.loc,I.cell,I.free,I.freeC,fun p hp=>(List.mem_append.mp hp).elim (fun z=>I.pin p (List.mem_append_left _ z)) (h p),I.hok,I.len⟩
theorem Jz {N:List Str} (hN:N.Nodup) {i j:Nat} {x:Str} (a:N[i]? = some x) (b:N[j]? = some x):i=j:=by
 obtain ⟨h1,e1⟩:=List.getElem?_eq_some_iff.mp a;obtain ⟨h2,e2⟩:=List.getElem?_eq_some_iff.mp b;exact (List.getElem_inj hN).mp (e1.trans e2.symm)
theorem Xg {M:Model} {A:Around} {E:Value->Shared->Prop} {i:Nat} {x:Str} {v:V} {u:Value} {Q:Unit->Shared->Prop} (I:Inv X pins σ H s) (hN:X.N.Nodup) (hi:X.N[i]? = some x) (hx:Loc X.env.scope x) (r:RelV v u)
  (h:∀ s',Inv X pins (σ.set i (some v)) H s'->(∃ a,Heap.SameBut a s.heap s'.heap/\(a=X.env.locals\/X.env.cells.lookup x=some a))->Q () s') (hf:X.fn x=true\/X.env.scope.names.lookup x=some .local:=by first | exact .inl rfl | exact .inr rfl | assumption):wpAny M A (storeName X.env x u) Q E s:=by
 obtain ⟨m,hn,hl⟩:=id I.loc;have eI:(X.env.scope.kind == .class||(X.env.scope.kind == .module&&X.env.locals != X.env.globals))=false:=by rw [I.ok.kind]; rfl
 have dI:i<σ.length:=by rw [I.len]; exact (List.getElem?_eq_some_iff.mp hi).1
 have cne:=I.cne
 have tracked:∀ {a:Addr} {h':Heap},(∃ o,s.heap.get? a=some o/\H a=none)->Heap.SameBut a s.heap h'->HOk X.prog X.w H h':=fun {a h'} ha hs b ob e=>by
  obtain ⟨_,_,hfree⟩:=ha;refine (I.hok b ob e).stay (fun c w' hc q=>(hs.2 c ?_).trans q) (fun _ q=>q) fun _ _ q=>q;rintro rfl;rcases hc with rfl | hc
  ·rw [hfree] at e; cases e
  ·rw [hfree] at hc; cases hc
 rcases hx with hk | hk
 ·refine wpAny_storeName_local hk hn (fun h' ij hs=>?_) eI;obtain ⟨oL,_,_,hoL,_⟩:=id hn;refine h _ ⟨I.ok,I.os,I.bare,⟨fun b o e n hb hx=>?_,fun b o e n hb hx=>?_,I.base.free,fun b o e hx=>?_,I.base.tups,I.base.frzs,I.base.tbls⟩,⟨_,ij,fun j y v' e1 e2 e3=>?_⟩,fun y c e=>?_,I.free,I.freeC,fun p hp=>?_,tracked ⟨oL,hoL,I.free⟩ hs,by simpa using I.len⟩ ⟨_,hs,.inl rfl⟩
  ·exact (hs.2 b (Nat.ne_of_lt (Nat.lt_of_lt_of_le (Heap.lt_size e) I.ok.above))).trans (I.base.keep b o e n hb hx)
  ·obtain ⟨sl,e1⟩:=I.base.slot b o e n hb hx;exact ⟨sl,(hs.2 b (Nat.ne_of_lt (Nat.lt_of_lt_of_le (Heap.lt_size e) I.ok.above))).trans e1⟩
  ·obtain ⟨o',e1⟩:=I.base.there b o e hx;exact ⟨o',(hs.2 b (Nat.ne_of_lt (Nat.lt_of_lt_of_le (Heap.lt_size e) I.ok.above))).trans e1⟩
  ·by_cases hj:j=i
   ·subst hj;rw [hi] at e1; cases e1;rw [List.getElem?_set_self dI] at e2;cases e2;exact ⟨u,r,.inl ⟨hk,by simp⟩⟩
   ·rw [List.getElem?_set_ne (Ne.symm hj)] at e2;obtain ⟨u',r',q⟩:=hl j y v' e1 e2 e3;refine ⟨u',r',?_⟩;rcases q with ⟨k,e⟩ | ⟨k,c,e,z⟩
    ·refine .inl ⟨k,?_⟩;have:y≠x:=fun e=>hj (Jz hN e1 (e ▸ hi));simp [this,e]
    ·exact .inr ⟨k,c,e,z.sameBut hs (cne y c e)⟩
  ·obtain ⟨w',z⟩:=I.cell y c e;exact ⟨w',z.sameBut hs (cne y c e)⟩
  ·obtain ⟨e,n,ne,nf,d⟩:=I.pin p hp;exact ⟨(hs.2 p.1 ne).trans e,n,ne,nf,d⟩
 ·have fK:X.fn x=true:=by
   rcases hf with z | z
   ·exact z
   ·rw [z] at hk; cases hk
  obtain ⟨c,hc⟩:=I.ok.has x (.inl hk);obtain ⟨w',z⟩:=I.cell x c hc;refine wpAny_storeName_cell I.ok.kind hk hc z (fun h' cW hs=>?_);obtain ⟨oc,hoc,hocd⟩:=id z;refine h { s with heap:=h' } ⟨I.ok,I.os,I.bare,⟨fun b o e n hb hx=>?_,fun b o e n hb hx=>?_,I.base.free,fun b o e hx=>?_,I.base.tups,I.base.frzs,I.base.tbls⟩,⟨m,hn.sameBut hs (Ne.symm (cne x c hc)),fun j y v' e1 e2 e3=>?_⟩,fun y c' e=>?_,I.free,I.freeC,fun p hp=>?_,tracked ⟨oc,hoc,I.freeC x c hc⟩ hs,by simpa using I.len⟩ ⟨c,hs,.inr hc⟩
  ·exact (hs.2 b (Nat.ne_of_lt (Nat.lt_of_lt_of_le (Heap.lt_size e) (I.ok.cab x c fK hc)))).trans (I.base.keep b o e n hb hx)
  ·obtain ⟨sl,e1⟩:=I.base.slot b o e n hb hx;exact ⟨sl,(hs.2 b (Nat.ne_of_lt (Nat.lt_of_lt_of_le (Heap.lt_size e) (I.ok.cab x c fK hc)))).trans e1⟩
  ·obtain ⟨o',e1⟩:=I.base.there b o e hx;exact ⟨o',(hs.2 b (Nat.ne_of_lt (Nat.lt_of_lt_of_le (Heap.lt_size e) (I.ok.cab x c fK hc)))).trans e1⟩
  ·by_cases hj:j=i
   ·subst hj;rw [hi] at e1; cases e1;rw [List.getElem?_set_self dI] at e2;cases e2;exact ⟨u,r,.inr ⟨.inl hk,c,hc,cW⟩⟩
   ·rw [List.getElem?_set_ne (Ne.symm hj)] at e2;obtain ⟨u',r',q⟩:=hl j y v' e1 e2 e3;refine ⟨u',r',?_⟩;rcases q with q | ⟨k,c',e,z'⟩
    ·exact .inl q
    ·refine .inr ⟨k,c',e,z'.sameBut hs ?_⟩;rintro rfl;exact hj (Jz hN e1 (I.ok.inj _ _ _ e hc ▸ hi))
  ·by_cases hcc:c'=c
   ·subst hcc; exact ⟨_,cW⟩
   ·obtain ⟨w2,z2⟩:=I.cell y c' e;exact ⟨w2,z2.sameBut hs hcc⟩
  ·obtain ⟨e,n,ne,nf,d⟩:=I.pin p hp;refine ⟨(hs.2 p.1 ?_).trans e,n,ne,nf,d⟩;intro q;rw [q,hoc] at e;have q':oc=p.2:=Option.some.inj e;exact d w' (by rw [<- q']; exact hocd)
theorem Bs {M:Model} {A:Around} {E:Value->Shared->Prop} {i:Nat} {x:Str} {v:V} {u:Value} {Q:Unit->Shared->Prop} (I:Inv X pins σ H s) (hN:X.N.Nodup) (hi:X.N[i]? = some x) (hx:Loc X.env.scope x) (r:RelV v u)
  (h:∀ s',Inv X pins (σ.set i (some v)) H s'->Q () s') (hf:X.fn x=true\/X.env.scope.names.lookup x=some .local:=by first | exact .inl rfl | exact .inr rfl | assumption):wpAny M A (storeName X.env x u) Q E s :=
 Xg I hN hi hx r (fun s' I' _=>h s' I') hf
theorem Inv.call' {s':Shared} {ch:List Addr} (I:Inv X pins σ H s) (ho:s'.os=s.os) (u:Un (frs X.stack) ch H H' s.heap s'.heap) (hok:HOk X.prog X.w H' s'.heap) (hg:AllBare s'.gens)
  (bS:∀ b∈ch,(b∈X.ex\/X.s₀.heap.objs.size<=b)/\b≠X.env.locals/\(∀ x c,X.env.cells.lookup x=some c->c≠b)/\∀ p∈X.pn++pins,p.1≠b):Inv X pins σ H' s':=by
 obtain ⟨h',g',d',t',o'⟩:=s';have e:o'=s.os:=ho;subst e;exact I.call (g':=g') (t':=t') (d':=d') u hok hg bS
end
abbrev XK:=Value->Option Addr->Hp->Prop
abbrev St:=List (Option V)
abbrev VK:=V->Hp->Prop
abbrev TE:=St->Hp->VK->Prop
abbrev TT:=St->Hp->(Bool->Hp->Prop)->Prop
abbrev TA:=St->Hp->(List V->Hp->Prop)->Prop
structure Ends where
 nx:St->Hp->Prop
 rt:VK
 bk:St->Hp->Prop:=fun _ _=>False
 ct:St->Hp->Prop:=fun _ _=>False
abbrev TS:=Ends->St->Hp->Prop
inductive EP (X:Cx) (pins:List (Addr × Obj)) (σ:St) (Q:VK) (u:Value) (s':Shared):Prop
 | mk (v:V) (H':Hp) (I:Inv X pins σ H' s') (r:RelV v u) (q:Q v H')
def TP (X:Cx) (pins:List (Addr × Obj)) (σ:St) (Q:Bool->Hp->Prop) (b:Bool) (s':Shared):Prop:=∃ H',Inv X pins σ H' s'/\Q b H'
inductive AP (X:Cx) (pins:List (Addr × Obj)) (σ:St) (Q:List V->Hp->Prop) (us:List Value) (s':Shared):Prop
 | mk (vs:List V) (H':Hp) (I:Inv X pins σ H' s') (r:Vals vs us) (q:Q vs H')
def SP (X:Cx) (pins:List (Addr × Obj)) (D:Ends) (f:Flow) (s':Shared):Prop :=
 match f with
 | .next=>∃ σ' H',Inv X pins σ' H' s'/\D.nx σ' H'
 | .brk=>∃ σ' H',Inv X pins σ' H' s'/\D.bk σ' H'
 | .cont=>∃ σ' H',Inv X pins σ' H' s'/\D.ct σ' H'
 | .ret u=>∃ v σ' H',Inv X pins σ' H' s'/\RelV v u/\D.rt v H'
def PE (X:Cx) (e:Expr) (t:TE):Prop :=
 ∀ (pins:List (Addr × Obj)) (s:Shared) (σ:St) (H:Hp) (Q:VK),Inv X pins σ H s->t σ H Q->wpAny (model X.prog X.w) X.A (eval e X.env) (EP X pins σ Q) X.xe s
def PT (X:Cx) (e:Expr) (t:TT):Prop :=
 ∀ (pins:List (Addr × Obj)) (s:Shared) (σ:St) (H:Hp) (Q:Bool->Hp->Prop),Inv X pins σ H s->t σ H Q->wpAny (model X.prog X.w) X.A (isTrue e X.env (eval e X.env)) (TP X pins σ Q) X.xe s
def PW (X:Cx) (e:Expr) (t:TT):Prop :=
 ∀ (whole:Sem Value) (pins:List (Addr × Obj)) (s:Shared) (σ:St) (H:Hp) (Q:Bool->Hp->Prop),Inv X pins σ H s->t σ H Q->wpAny (model X.prog X.w) X.A (isTrue e X.env whole) (TP X pins σ Q) X.xe s
theorem PW.pt {X:Cx} {e:Expr} {t:TT} (h:PW X e t):PT X e t:=h _
def PA (X:Cx) (es:List Expr) (t:TA):Prop :=
 ∀ (pos:Pos) (pins:List (Addr × Obj)) (s:Shared) (σ:St) (H:Hp) (Q:List V->Hp->Prop),Inv X pins σ H s->t σ H Q->wpAny (model X.prog X.w) X.A (spliced (backTo pos (starEach es X.env))) (AP X pins σ Q) X.xe s
def PS (X:Cx) (st:Stmt) (t:TS):Prop :=
 ∀ (pins:List (Addr × Obj)) (s:Shared) (σ:St) (H:Hp) (D:Ends),Inv X pins σ H s->t D σ H->wpAny (model X.prog X.w) X.A (exec st X.env) (SP X pins D) X.xe s
def PSs (X:Cx) (st:List Stmt) (t:TS):Prop :=
 ∀ (pins:List (Addr × Obj)) (s:Shared) (σ:St) (H:Hp) (D:Ends),Inv X pins σ H s->t D σ H->wpAny (model X.prog X.w) X.A (execs st X.env) (SP X pins D) X.xe s
theorem thn {α:Type} {t:Sem α} {Q Q':α->Shared->Prop} {M:Model} {A:Around} {E:Value->Shared->Prop} {s:Shared} (h:wpAny M A t Q E s) (hQ:∀ a s,Q a s->Q' a s):wpAny M A t Q' E s:=wpAny_mono h hQ fun _ _ x=>x
end L2
namespace L2
open PySem PySem.Spec PyProof.Rows
section
variable {X:Cx}
def Xm (i:Nat):TE:=fun σ H Q=>∃ v,σ[i]? = some (some v)/\Q v H
def tC (v:V):TE:=fun _ H Q=>Q v H
theorem Vr {i:Nat} {x:Str} {pos:Pos} (hN:X.N[i]? = some x) (hv:Vis X.env.scope x) (hd:(x==("__debug__" : Str))=false:=by decide) (bG:(x==("__classdict__" : Str))=false:=by decide):PE X (.Name x pos) (Xm i):=by
 intro pins s σ H Q I h;obtain ⟨v,e,h⟩:=h;obtain ⟨m,hn,hl⟩:=I.loc;obtain ⟨u,r,l⟩:=hl i x v hN e hv;have fin:EP X pins σ Q u s:=⟨v,H,I,r,h⟩;rcases l with ⟨hk,hm⟩ | ⟨hk,c,hc,hcell⟩
 ·exact wpAny_Name (wpAny_loadName_local I.ok.kind hk hn hm fin) hd
 ·rcases hk with hk | hk
  ·exact wpAny_Name (wpAny_loadName_cell I.ok.kind hk hc hcell fin) hd
  ·exact wpAny_Name (wpAny_loadName_free I.ok.kind hk hc hcell fin bG) hd
theorem Xw {i j pos}:PE X (.Constant (.int i) j pos) (tC (.int i)):=fun _ _ _ H _ I h=>wpAny_Constant_int ⟨.int i,H,I.tok _,⟨_,rfl⟩,h⟩
theorem aax {b j pos}:PE X (.Constant (.bool b) j pos) (tC (.bl b)):=fun _ _ _ H _ I h=>Constant_bool ⟨.bl b,H,I,rfl,h⟩
theorem a8p {j pos}:PE X (.Constant .none j pos) (tC .non):=fun _ _ _ H _ I h=>Constant_none ⟨.non,H,I,rfl,h⟩
theorem a8a {x j pos}:PE X (.Constant (.str x) j pos) (tC (.str x)):=fun _ _ _ H _ I h=>Calls.Constant_str ⟨.str x,H,I.tok _,⟨_,rfl⟩,h⟩
def Gl (X:Cx) (x:Str):Prop:=X.env.kindOf x=some .globalImplicit
theorem Ih {E:Value->Shared->Prop} {pins:List (Addr × Obj)} {s:Shared} {σ:St} {H:Hp} {x:Str} {u:Value} {pos:Pos} {Q:Value->Shared->Prop} (I:Inv X pins σ H s) (hg:Gl X x) (hm:X.mg x=some u) (h:Q u s)
  (hd:(x==("__debug__" : Str))=false:=by decide):wpAny (model X.prog X.w) X.A (eval (.Name x pos) X.env) Q E s :=
 Calls.Name_function_global I.ok.kind hg (Calls.loadGlobal_global (by rw [I.ok.glob]; exact I.mod.glob.keeps I.bk) hm h) hd
theorem Ht {E:Value->Shared->Prop} {pins:List (Addr × Obj)} {s:Shared} {σ:St} {H:Hp} {x:Str} {u:Value} {pos:Pos} {Q:Value->Shared->Prop} (I:Inv X pins σ H s) (hg:Gl X x) (hm:X.mg x=none) (hv:bootBuiltins x=some u) (h:Q u s)
  (hn:x ≠ "__name__" := by decide) (hd:(x==("__debug__" : Str))=false:=by decide):wpAny (model X.prog X.w) X.A (eval (.Name x pos) X.env) Q E s:=by
 obtain ⟨mb,h1,h2⟩:=I.mod.blt;exact Calls.Name_function_global I.ok.kind hg (Calls.loadGlobal_builtin (by rw [I.ok.glob]; exact I.mod.glob.keeps I.bk) hm (by rw [I.ok.blt]; exact h1.keeps I.bk) ((h2 x hn).trans hv) h) hd
theorem a5s {x:Str} {v:V} {u:Value} {pos:Pos} (hg:Gl X x) (hm:X.mg x=some u) (r:RelV v u) (hd:(x==("__debug__" : Str))=false:=by decide):PE X (.Name x pos) (tC v) :=
 fun _ _ _ H _ I h=>Ih I hg hm ⟨v,H,I,r,h⟩ hd
theorem a4z {x:Str} {v:V} {u:Value} {pos:Pos} (hg:Gl X x) (hm:X.mg x=none) (hv:bootBuiltins x=some u) (r:RelV v u) (hn:x ≠ "__name__" := by decide) (hd:(x==("__debug__" : Str))=false:=by decide):PE X (.Name x pos) (tC v) :=
 fun _ _ _ H _ I h=>Ht I hg hm hv ⟨v,H,I,r,h⟩ hn hd
variable {a b:Expr} {ta tb:TE} {pos:Pos}
def tB (t:TE):TT:=fun σ H Q=>t σ H fun x H1=>∃ c,x=.bl c/\Q c H1
theorem a8v {e:Expr} {t:TE} (h:PE X e t) (he:∀ whole,isTrue e X.env whole=(do let v <- whole; standAt e.pos; holding [v] (truthy v)):=by intro _; rfl):PT X e (tB t):=by
 intro pins s σ H Q I hw;refine isTrue_plain (thn (h pins s σ H _ I hw) fun v s1 z0=>?_) (he _);obtain ⟨x,H1,I1,r1,q1⟩:=z0;obtain ⟨d,rfl,q⟩:=q1;cases r1;exact wpAny_truthy_bool ⟨H1,I1,q⟩
variable {tA gu:TT} {rest:List Expr}
def aby (t u:TT):TT:=fun σ H Q=>t σ H fun c H1=>if c=true then u σ H1 Q else Q false H1
def tOr (t u:TT):TT:=fun σ H Q=>t σ H fun c H1=>if c=true then Q true H1 else u σ H1 Q
def acv (t:TT):TT:=fun σ H Q=>t σ H fun c H1=>Q (!c) H1
theorem pw_and1 (ha:PT X a tA):PW X (.BoolOp .And [a] pos) tA:=by
 intro wh pins s σ H Q I h;refine isTrue_and (thn (ha pins s σ H Q I h) fun c s1 e=>?_);cases c with
 | true=>exact isTrue_and_nil e
 | false=>exact e
theorem pw_or1 (ha:PT X a tA):PW X (.BoolOp .Or [a] pos) tA:=by
 intro wh pins s σ H Q I h;refine isTrue_or (thn (ha pins s σ H Q I h) fun c s1 e=>?_);cases c with
 | false=>exact isTrue_or_nil e
 | true=>exact e
theorem pw_and (ha:PT X a tA) (hb:PW X (.BoolOp .And (b::rest) pos) gu):PW X (.BoolOp .And (a::b::rest) pos) (aby tA gu):=by
 intro wh pins s σ H Q I h;refine isTrue_and (thn (ha pins s σ H _ I h) fun c s1 z0=>?_);obtain ⟨H1,I1,q1⟩:=z0;cases c with
 | true=>exact hb wh pins s1 σ H1 Q I1 q1
 | false=>exact ⟨H1,I1,q1⟩
theorem pw_or (ha:PT X a tA) (hb:PW X (.BoolOp .Or (b::rest) pos) gu):PW X (.BoolOp .Or (a::b::rest) pos) (tOr tA gu):=by
 intro wh pins s σ H Q I h;refine isTrue_or (thn (ha pins s σ H _ I h) fun c s1 z0=>?_);obtain ⟨H1,I1,q1⟩:=z0;cases c with
 | true=>exact ⟨H1,I1,q1⟩
 | false=>exact hb wh pins s1 σ H1 Q I1 q1
theorem a7l (ha:PT X a tA):PT X (.UnaryOp .Not a pos) (acv tA):=by
 intro pins s σ H Q I h;exact isTrue_not (ha pins s σ H (fun c H1=>Q (!c) H1) I h)
def aas (ta:TE):TE:=fun σ H Q=>ta σ H fun x H1=>∃ c,x=.bl c/\Q (.bl (!c)) H1
theorem a93 (ha:PE X a ta):PE X (.UnaryOp .Not a pos) (aas ta):=by
 intro pins s σ H Q I h;refine UnaryOp_ (thn (ha pins s σ H _ I h) fun v s1 z0=>?_);obtain ⟨x,H1,I1,r1,q1⟩:=z0;obtain ⟨c,rfl,q1⟩:=q1;cases r1;exact not_of (wpAny_truthy_bool ⟨.bl (!c),H1,I1,rfl,q1⟩)
noncomputable def tIf (t:TT) (ta tb:TE):TE:=fun σ H Q=>t σ H fun c H1=>if c=true then ta σ H1 Q else tb σ H1 Q
theorem a03 {c:Expr} (hc:PT X c tA) (ha:PE X a ta) (hb:PE X b tb):PE X (.IfExp c a b pos) (tIf tA ta tb):=by
 intro pins s σ H Q I h;refine wpAny_IfExp (thn (hc pins s σ H _ I h) fun d s1 z0=>?_);obtain ⟨H1,I1,q1⟩:=z0;cases d with
 | true=>exact ha pins s1 σ H1 Q I1 q1
 | false=>exact hb pins s1 σ H1 Q I1 q1
end
end L2
namespace L2
open PySem PySem.Spec PyProof.Rows
def SqL (K:PySem.W.Frag) (H:Hp) (a:Addr) (xs:List V):Prop :=
 Rd H a (.lst xs) \/
  ∃ (o:Obj) (its:Array Value) (n:Nat),K.lookup a=some o/\o.cls=.type "list" /\ o.dict=none/\o.data=.seq its n/\its.size<=sizeLine/\Vals xs its.toList
def SqT (K:PySem.W.Frag) (H:Hp) (a:Addr) (xs:List V):Prop :=
 Rd H a (.tup xs) \/
  ∃ (o:Obj) (its:Array Value) (n:Nat),K.lookup a=some o/\o.cls=.type "tuple" /\ o.dict=none/\o.data=.seq its n/\its.size<=sizeLine/\Vals xs its.toList
noncomputable def ad4:Value->Option V
 | .none=>some .non
 | .bool b=>some (.bl b)
 | .int i _=>some (.int i)
 | .str x _=>some (.str x)
 | .bytes b _=>some (.byt b)
 | .float b _=>some (.flt b)
 | .ref a=>some (.ref a)
 | .type n=>some (.ty n)
 | _=>none
theorem RelV.abs {x:V} {u:Value} (r:RelV x u):ad4 u=some x:=by
 cases x with
 | non=>cases r; rfl
 | bl _=>cases r; rfl
 | int _=>obtain ⟨t,rfl⟩:=r; rfl
 | str _=>obtain ⟨t,rfl⟩:=r; rfl
 | byt _=>obtain ⟨t,rfl⟩:=r; rfl
 | flt _=>obtain ⟨t,rfl⟩:=r; rfl
 | ref _=>cases r; rfl
 | ty _=>cases r; rfl
theorem RelV.inj {x y:V} {u:Value} (r:RelV x u) (q:RelV y u):x=y:=Option.some.inj (r.abs.symm.trans q.abs)
theorem Vals.inj {xs ys:List V} {us:List Value} (h:Vals xs us):Vals ys us->xs=ys:=by
 induction h generalizing ys with
 | nil=>intro k; cases k; rfl
 | cons r t ih=>intro k; cases k with | cons r' t'=>rw [r.inj r',ih t']
section
variable {X:Cx} {pins:List (Addr × Obj)} {σ:St} {H:Hp} {s:Shared} {a:Addr} {xs ys:List V}
theorem SqL.of {K:PySem.W.Frag} (h:H a=some (.lst xs)):SqL K H a xs:=.inl (.inl h)
theorem SqT.of {K:PySem.W.Frag} (h:H a=some (.tup xs)):SqT K H a xs:=.inl (.inl h)
theorem Inv.list (I:Inv X pins σ H s) (h:SqL X.K H a xs):∃ its:List Value,Vals xs its/\PlainL s.heap a its.toArray/\xs.length<=sizeLine:=by
 rcases h with h | ⟨o,its,n,hk,hc,hd,hs,hz,r⟩
 ·obtain ⟨z,its,n,r,e⟩:=h.ok I.hok;exact ⟨its,r,⟨_,n,e,rfl,rfl,rfl⟩,z⟩
 ·refine ⟨its.toList,r,⟨o,n,I.kIn a o hk,hc,hd,by simpa using hs⟩,?_⟩;have e:=r.length;simp only [Array.length_toList] at e;omega
theorem Inv.tuple (I:Inv X pins σ H s) (h:SqT X.K H a xs):∃ its:List Value,Vals xs its/\IsTup s.heap a its.toArray/\xs.length<=sizeLine:=by
 rcases h with h | ⟨o,its,n,hk,hc,hdn,hs,hz,r⟩
 ·obtain ⟨z,its,r,p⟩:=h.ok I.hok;exact ⟨its,r,p.is,z⟩
 ·refine ⟨its.toList,r,⟨o,I.kIn a o hk,hc,n,by simpa using hs⟩,?_⟩;have e:=r.length;simp only [Array.length_toList] at e;omega
theorem Inv.a8r (I:Inv X pins σ H s) (h:SqT X.K H a xs):∃ its:List Value,Vals xs its/\Ye s.heap a its.toArray/\xs.length<=sizeLine:=by
 rcases h with h | ⟨o,its,n,hk,hc,hdn,hs,hz,r⟩
 ·obtain ⟨z,its,r,p⟩:=h.ok I.hok;exact ⟨its,r,p,z⟩
 ·refine ⟨its.toList,r,⟨o,I.kIn a o hk,hc,hdn,n,by simpa using hs⟩,?_⟩;have e:=r.length;simp only [Array.length_toList] at e;omega
theorem Inv.R9 (I:Inv X pins σ H s) (h:SqL X.K H a xs) (h':SqL X.K H a ys):xs=ys:=by
 obtain ⟨its,r,⟨o,n,e,_,_,d⟩,_⟩:=I.list h;obtain ⟨its',r',⟨o',n',e',_,_,d'⟩,_⟩:=I.list h';rw [e] at e'; cases e';rw [d] at d';injection d' with d1 _;have:its=its':=by simpa using congrArg Array.toList d1
 subst this;exact r.inj r'
theorem Inv.Ut (I:Inv X pins σ H s) (h:SqT X.K H a xs) (h':SqT X.K H a ys):xs=ys:=by
 obtain ⟨its,r,⟨o,e,_,n,d⟩,_⟩:=I.tuple h;obtain ⟨its',r',⟨o',e',_,n',d'⟩,_⟩:=I.tuple h';rw [e] at e'; cases e';rw [d] at d';injection d' with d1 _;have:its=its':=by simpa using congrArg Array.toList d1
 subst this;exact r.inj r'
end
abbrev Cx.wish (X:Cx) (E:Value->Shared->Prop):Cx:={ X with xe:=E }
abbrev Cx.nox (X:Cx):Cx:=X.wish fun _ _=>False
theorem Cx.Ok.wish {X:Cx} (ok:X.Ok) (E:Value->Shared->Prop):(X.wish E).Ok :=
 ⟨ok.mod,ok.kind,ok.glob,ok.blt,ok.above,ok.inj,ok.has,ok.cab,ok.hd,ok.frames,ok.stk,ok.exf,ok.bs,ok.bsz,ok.noex,ok.exfs,ok.Ko,ok.frf⟩
theorem Cx.Ok.Aq {X:Cx} {E:Value->Shared->Prop} (ok:(X.wish E).Ok):X.Ok :=
 ⟨ok.mod,ok.kind,ok.glob,ok.blt,ok.above,ok.inj,ok.has,ok.cab,ok.hd,ok.frames,ok.stk,ok.exf,ok.bs,ok.bsz,ok.noex,ok.exfs,ok.Ko,ok.frf⟩
section
variable {X:Cx} {pins:List (Addr × Obj)} {σ:St} {H:Hp} {s:Shared} {E:Value->Shared->Prop}
theorem Inv.wish (I:Inv X pins σ H s) (E:Value->Shared->Prop):Inv (X.wish E) pins σ H s:=⟨I.ok.wish E,I.os,I.bare,I.base,I.loc,I.cell,I.free,I.freeC,I.pin,I.hok,I.len⟩
theorem Inv.Aq (I:Inv (X.wish E) pins σ H s):Inv X pins σ H s:=⟨I.ok.Aq,I.os,I.bare,I.base,I.loc,I.cell,I.free,I.freeC,I.pin,I.hok,I.len⟩
theorem SP.Aq {D:Ends} {f:Flow} {s':Shared} (h:SP (X.wish E) pins D f s'):SP X pins D f s':=by
 cases f with
 | next=>obtain ⟨σ',H',I,q⟩:=h; exact ⟨σ',H',I.Aq,q⟩
 | brk=>obtain ⟨σ',H',I,q⟩:=h; exact ⟨σ',H',I.Aq,q⟩
 | cont=>obtain ⟨σ',H',I,q⟩:=h; exact ⟨σ',H',I.Aq,q⟩
 | ret u=>obtain ⟨v,σ',H',I,r,q⟩:=h; exact ⟨v,σ',H',I.Aq,r,q⟩
theorem PE.nox {e:Expr} {t:TE} (h:PE X.nox e t):PE X e t:=fun pins s σ H Q I hw =>
 wpAny_mono (h pins s σ H Q (I.wish _) hw) (fun _ _ z7=>by obtain ⟨v,H',I',r,q⟩:=z7; exact ⟨v,H',I'.Aq,r,q⟩) fun _ _ z=>False.elim z
theorem PT.nox {e:Expr} {t:TT} (h:PT X.nox e t):PT X e t:=fun pins s σ H Q I hw =>
 wpAny_mono (h pins s σ H Q (I.wish _) hw) (fun _ _ z7=>by obtain ⟨H',I',q⟩:=z7; exact ⟨H',I'.Aq,q⟩) fun _ _ z=>False.elim z
theorem PSs.nox {st:List Stmt} {t:TS} (h:PSs X.nox st t):PSs X st t:=fun pins s σ H D I hw =>
 wpAny_mono (h pins s σ H D (I.wish _) hw) (fun _ _ q=>q.Aq) fun _ _ z=>False.elim z
end
section
variable {X:Cx} {st:Stmt} {rest:List Stmt} {t u:TS} {e:Expr} {te:TE} {pos:Pos}
def aam:TS:=fun D σ H=>D.nx σ H
def ac5 (t u:TS):TS:=fun D σ H=>t { D with nx:=u D } σ H
theorem a4d:PSs X [] aam:=fun _ _ σ H _ I h=>wpAny_execs_nil ⟨σ,H,I,h⟩
theorem Ph (h1:PS X st t) (h2:PSs X rest u):PSs X (st::rest) (ac5 t u):=by
 intro pins s σ H D I h;refine wpAny_execs_cons (thn (h1 pins s σ H { D with nx:=u D } I h) fun f s1 q=>?_);cases f with
 | next =>
  obtain ⟨σ',H',I',q⟩:=q;exact h2 pins s1 σ' H' D I' q
 | ret v=>exact q
 | brk=>exact q
 | cont=>exact q
theorem K4 (h1:PS X st t):PSs X [st] t:=by
 intro pins s σ H D I h;refine wpAny_execs_cons (thn (h1 pins s σ H D I h) fun f s1 q=>?_);cases f with
 | next=>exact wpAny_execs_nil q
 | ret v=>exact q
 | brk=>exact q
 | cont=>exact q
def abe:TS:=fun D σ H=>D.ct σ H
theorem Ox:PS X (.Continue pos) abe:=fun _ _ σ H _ I h=>wpAny_Continue ⟨σ,H,I,h⟩
theorem Inv.quiet {pins:List (Addr × Obj)} {σ:St} {H:Hp} {s:Shared} (I:Inv X pins σ H s):interactive X.env=false:=by simp [interactive,I.ok.kind]
def a8k (te:TE):TS:=fun D σ H=>te σ H fun _ H1=>D.nx σ H1
theorem Eo (he:PE X e te) (hs:swapsWith e none pos.line X.env=pure false:=by rfl):PS X (.Expr e pos) (a8k te):=by
 intro pins s σ H D I h;exact wpAny_Expr_any (thn (he pins s σ H _ I h) fun v s1 z7=>by obtain ⟨x,H1,I1,r1,q1⟩:=z7; exact ⟨σ,H1,I1,q1⟩) I.quiet hs
def acg (te:TE):TS:=fun D σ H=>te σ H D.rt
theorem a2g (he:PE X e te):PS X (.Return (some e) pos) (acg te):=by
 intro pins s σ H D I h;exact wpAny_Return_some (thn (he pins s σ H _ I h) fun v s1 z7=>by obtain ⟨x,H1,I1,r1,q1⟩:=z7; exact ⟨x,σ,H1,I1,r1,q1⟩)
def acz (c:TT) (t u:TS):TS:=fun D σ H=>c σ H fun b H1=>if b=true then t D σ H1 else u D σ H1
theorem a9d {c:Expr} {a b:List Stmt} {tc:TT} (hc:PT X c tc) (ha:PSs X a t) (hb:PSs X b u):PS X (.If c a b pos) (acz tc t u):=by
 intro pins s σ H D I h;refine wpAny_If (thn (hc pins s σ H _ I h) fun d s1 z0=>?_);obtain ⟨H1,I1,q1⟩:=z0;cases d with
 | true=>exact ha pins s1 σ H1 D I1 q1
 | false=>exact hb pins s1 σ H1 D I1 q1
end
abbrev TG:=V->St->Hp->(St->Hp->Prop)->Prop
abbrev TGs:=List V->St->Hp->(St->Hp->Prop)->Prop
def PG (X:Cx) (target:Expr) (t:TG):Prop :=
 ∀ (pins:List (Addr × Obj)) (s:Shared) (σ:St) (H:Hp) (v:V) (u:Value) (Q:St->Hp->Prop),Inv X pins σ H s->RelV v u->t v σ H Q ->
  wpAny (model X.prog X.w) X.A (assign target X.env u) (fun _ s'=>∃ σ' H',Inv X pins σ' H' s'/\Q σ' H') X.xe s
def PGs (X:Cx) (ts:List Expr) (t:TGs):Prop :=
 ∀ (pins:List (Addr × Obj)) (s:Shared) (σ:St) (H:Hp) (vs:List V) (us:List Value) (Q:St->Hp->Prop),Inv X pins σ H s->Vals vs us->t vs σ H Q ->
  wpAny (model X.prog X.w) X.A (assignInOrder ((assignEach ts X.env).map (·.2)) us) (fun _ s'=>∃ σ' H',Inv X pins σ' H' s'/\Q σ' H') X.xe s
section
variable {X:Cx} {pos:Pos}
def Nu (i:Nat):TG:=fun v σ H Q=>Q (σ.set i (some v)) H
theorem jr {i:Nat} {x:Str} (hN:X.N.Nodup) (hi:X.N[i]? = some x) (hx:Loc X.env.scope x) (hf:X.fn x=true\/X.env.scope.names.lookup x=some .local:=by first | exact .inl rfl | exact .inr rfl | assumption):PG X (.Name x pos) (Nu i):=by
 intro pins s σ H v u Q I r h;exact wpAny_assign_Name (Bs I hN hi hx r (fun s' I'=>⟨_,H,I',h⟩) hf)
def abl:TGs:=fun vs σ H Q=>vs=[]/\Q σ H
def a8f (t:TG) (u:TGs):TGs:=fun vs σ H Q=>∃ v r,vs=v::r/\t v σ H fun σ' H'=>u r σ' H' Q
theorem Cw:PGs X [] abl:=by
 intro pins s σ H vs us Q I r h;obtain ⟨e,h⟩:=h;subst e;cases r;exact assignInOrder_nil ⟨σ,H,I,h⟩
theorem jx {e:Expr} {es:List Expr} {t:TG} {u:TGs} (h1:PG X e t) (h2:PGs X es u)
  (hs:(assignEach (e::es) X.env).map (·.2)=assign e X.env::(assignEach es X.env).map (·.2):=by rfl):PGs X (e::es) (a8f t u):=by
 intro pins s σ H vs us Q I r h;obtain ⟨v,vr,e1,h⟩:=h;subst e1;cases r with
 | cons r rr =>
  rw [hs];refine assignInOrder_cons (thn (h1 pins s σ H _ _ _ I r h) fun _ s1 z0=>?_);obtain ⟨σ1,H1,I1,q1⟩:=z0;exact h2 pins s1 σ1 H1 _ _ Q I1 rr q1
noncomputable def abt (K:PySem.W.Frag) (n:Nat) (t:TGs):TG:=fun v σ H Q=>∃ a xs,v=.ref a/\SqT K H a xs/\xs.length=n/\t xs σ H Q
theorem Hq {es:List Expr} {k:Nat} {t:TGs} {n:Nat} (hc:X.calm=true) (h:PGs X es t)
  (hn:(assignEach es X.env).length=n:=by rfl) (cC:(assignEach es X.env).findIdx? (·.1)=none:=by rfl):PG X (.Tuple es k pos) (abt X.K n t):=by
 intro pins s σ H v u Q I r hw;obtain ⟨a,xs,e1,hq,hl,hw⟩:=hw;subst e1;cases r;obtain ⟨its,rv,ht,hz⟩:=I.tuple hq;refine assign_Tuple_tuple (I.ok.hd hc) ht (by simp [hn,<- hl,rv.length]) cC fun h' hx=>?_;have I1:Inv X pins σ H { s with heap:=h' }:=I.kept (t':=s.toks) fun b o e=>hx b o (Nat.ne_of_lt (Heap.lt_size e)) e;exact h pins _ σ H xs _ Q I1 (by simpa using rv) hw
def a9q (te:TE) (g:TG):TS:=fun D σ H=>te σ H fun x H1=>g x σ H1 D.nx
theorem j7 {i:Nat} {x:Str} {e:Expr} {te:TE} {pos':Pos} (hN:X.N.Nodup) (hi:X.N[i]? = some x) (hx:Loc X.env.scope x) (he:PE X e te) (hs:swapsWith e (some (.Name x pos')) pos.line X.env=pure false:=by rfl) (hf:X.fn x=true\/X.env.scope.names.lookup x=some .local:=by first | exact .inl rfl | exact .inr rfl | assumption) :
  PS X (.Assign [.Name x pos'] e pos) (a9q te (Nu i)):=by
 intro pins s σ H D I h;refine wpAny_Assign_Name (thn (he pins s σ H _ I h) fun v s1 z0=>?_) hs;obtain ⟨y,H1,I1,r1,q1⟩:=z0;exact Bs I1 hN hi hx r1 (fun s2 I2=>⟨_,H1,I2,q1⟩) hf
noncomputable def ac6 (i j:Nat) (ta:TA):TS:=fun D σ H=>ta σ H fun vs H1=>∃ v w,vs=[v,w]/\D.nx ((σ.set i (some v)).set j (some w)) H1
theorem a88 {i j:Nat} {x y:Str} {a b:Expr} {ta:TA} {px py pt:Pos} {kt k2 eV} (hc:X.calm=true) (hN:X.N.Nodup) (hi:X.N[i]? = some x) (hj:X.N[j]? = some y) (bt:i≠j)
  (hx:X.env.scope.names.lookup x=some .local) (hy:X.env.scope.names.lookup y=some .local) (ha:PA X [a,b] ta)
  (hw:swappedStores [.Tuple [.Name x px,.Name y py] kt pt] (.Tuple [a,b] k2 eV) X.env=pure (some [x,y]))
  (hs:swapsWithSole [.Tuple [.Name x px,.Name y py] kt pt] (.Tuple [a,b] k2 eV) pos.line X.env=pure false:=by rfl) :
  PS X (.Assign [.Tuple [.Name x px,.Name y py] kt pt] (.Tuple [a,b] k2 eV) pos) (ac6 i j ta):=by
 intro pins s σ H D I h;rw [exec_Assign_arm];refine wpAny_bind (wpAny_standAt ?_);rw [hs];refine wpAny_bind (wpAny_pure ?_);rw [if_neg (by decide)];refine wpAny_bind (Tuple_ (thn (ha _ pins s σ H _ I h) fun us s1 z0=>?_));obtain ⟨vs,H1,I1,r1,q1⟩:=z0;obtain ⟨v,w,e1,q1⟩:=q1;subst e1
 obtain ⟨u1,u2,rfl,rv,cJ⟩:∃ u1 u2,us=[u1,u2]/\RelV v u1/\RelV w u2:=by
  cases r1 with
  | cons p q =>
   cases q with
   | cons p' q' =>
    cases q';exact ⟨_,_,rfl,p,p'⟩
 refine wpAny_newObj_type ?_ (by show 2<=sizeLine; decide);have I2:Inv X pins σ H1 { s1 with heap:=s1.heap.push { cls:=.type "tuple",data:=.seq [u1,u2].toArray } }:=I1.kept (t':=s1.toks) fun b o e=>Heap.get?_push_of_some _ e;rw [hw];refine wpAny_bind (wpAny_pure ?_);show wpAny (model X.prog X.w) X.A (do rule "assign.swapped-stores"; let items <- unpackItems (.ref s1.heap.objs.size) 2 none; assignInOrder [fun v=>bindName X.env y v,fun v=>bindName X.env x v] items.reverse; pure Flow.next) _ _ _;refine wpAny_bind (wpAny_rule (wpAny_bind (unpackItems_tuple (items:=#[u1,u2]) (I.ok.hd hc) (IsTup.new s1.heap _) fun h' fU=>?_)));have I3:=I2.kept (h':=h') (t':=s1.toks) fun b o e=>fU b o (Nat.ne_of_lt (Heap.lt_size e)) e;show wpAny _ _ (assignInOrder [fun v=>bindName X.env y v,fun v=>bindName X.env x v] [u2,u1] >>= fun _=>pure Flow.next) _ _ _;refine wpAny_bind (assignInOrder_cons (wpAny_bindName (Bs I3 hN hj (.inl hy) cJ (fun s2 I4=>?_) (.inr hy))));refine assignInOrder_cons (wpAny_bindName (Bs I4 hN hi (.inl hx) rv (fun s3 I5=>assignInOrder_nil (wpAny_pure ?_)) (.inr hx)));rw [List.set_comm _ _ (Ne.symm bt)] at I5;exact ⟨_,H1,I5,q1⟩
end
section
variable {X:Cx} {pos:Pos}
noncomputable def a7p (c:TT) (tb:TS):TS:=fun D σ H=>∃ W:Nat->St->Hp->Prop,(∃ m,W m σ H)/\∀ m σ H,W m σ H ->
 c σ H fun b H1=>if b=true then ∃ N:St->Hp->Prop,(∀ σ' H',N σ' H'->∃ m',m'<m/\W m' σ' H')/\tb { D with nx:=N,ct:=N,bk:=D.nx } σ H1 else D.nx σ H1
theorem Qs {c:Expr} {body:List Stmt} {tc:TT} {tb:TS} (hp:PassesOwn (model X.prog X.w) X.A X.env X.xe) (hc:PT X c tc) (hb:PSs X body tb):PS X (.While c body [] pos) (a7p tc tb):=by
 intro pins s σ H D I h;obtain ⟨W,⟨m0,w0⟩,turn⟩:=h;refine wpAny_While (codeAny_whileLoop (fun n s'=>∃ σ' H',Inv X pins σ' H' s'/\W n σ' H') ?_ m0 ⟨σ,H,I,w0⟩);rintro n s1 ⟨σ1,H1,I1,w1⟩;refine wpAny_passesOwn hp (thn (hc pins s1 σ1 H1 _ I1 (turn n σ1 H1 w1)) fun b s2 z0=>?_);obtain ⟨H2,I2,q2⟩:=z0;cases b with
 | true =>
  obtain ⟨N,hN,q2⟩:=q2;rw [if_pos rfl];refine wpAny_passesOwn hp (thn (hb pins s2 σ1 H2 _ I2 q2) fun f s3 q3=>?_);cases f with
  | next =>
   obtain ⟨cU,H3,I3,n3⟩:=q3;obtain ⟨m',hm,w3⟩:=hN cU H3 n3;exact ⟨m',hm,cU,H3,I3,w3⟩
  | cont =>
   obtain ⟨cU,H3,I3,n3⟩:=q3;obtain ⟨m',hm,w3⟩:=hN cU H3 n3;exact ⟨m',hm,cU,H3,I3,w3⟩
  | brk=>exact q3
  | ret v=>exact q3
 | false =>
  rw [if_neg Bool.false_ne_true];exact wpAny_execs_nil ⟨σ1,H2,I2,q2⟩
end
structure It where
 go:Nat->Hp->Prop
 yld:Nat->Hp->V->Hp->Prop
 stop:Nat->Hp->Prop
def Nk (X:Cx) (pins:List (Addr × Obj)) (H:Hp) (b:Addr):Prop :=
 H b=none/\b≠X.env.locals/\b∉X.fs/\(b∈X.ex\/X.s₀.heap.objs.size<=b)/\(∀ x c,X.env.cells.lookup x=some c->c≠b)/\∀ p∈X.pn++pins,p.1≠b
theorem Inv.a81 {X:Cx} {pins:List (Addr × Obj)} {σ:St} {H H':Hp} {s:Shared} {b:Addr} (I:Inv X pins σ H s) (hb:s.heap.objs.size<=b) (hn:H' b=none):Nk X pins H' b:=by
 refine ⟨hn,Nat.ne_of_gt (Nat.lt_of_lt_of_le I.lt hb),I.ad0 hb,.inr (Nat.le_trans I.sz hb),fun x c e z=>?_,fun p hp z=>?_⟩
 ·obtain ⟨v,q⟩:=I.cell x c e;exact absurd (Nat.lt_of_lt_of_le q.lt (by rw [z]; exact hb)) (Nat.lt_irrefl _)
 ·exact absurd (Nat.lt_of_lt_of_le (Heap.lt_size (I.pin p hp).1) (by rw [z]; exact hb)) (Nat.lt_irrefl _)
structure Turn (P:Program) (w:World) (K:PySem.W.Frag) (tg:Expr) (J:It) (fp:List Addr) (it:Addr) (tn:Nat->Heap->Prop):Prop where
 mem:it∈fp
 obj:∀ i h,tn i h->∀ b∈fp,∃ o,h.get? b=some o/\∀ v,o.data≠.cell v
 keep:∀ i h h',tn i h->(∀ b∈fp,∀ o,h.get? b=some o->h'.get? b=some o)->tn i h'
 item:∀ (X:Cx),X.prog=P->X.w=w->X.K=K->X.calm=true->∀ (i:Nat) (pins:List (Addr × Obj)) (s:Shared) (σ:St) (H:Hp) (E:Value->Shared->Prop),Inv X pins σ H s->(∀ b∈fp,Nk X pins H b)->tn i s.heap->J.go i H ->
  wpAny (model P w) X.A (pyNext (.ref it)) (fun r s1=>∃ u,r=some u /\
   wpAny (model P w) X.A (letOwnedTupleGo tg (.ref it) u) (fun _ s2=>∃ x H',Inv X pins σ H' s2/\RelV x u/\J.yld i H x H'/\tn (i+1) s2.heap/\∀ b∈fp,H' b=none) E s1) E s
 done:∀ (X:Cx),X.prog=P->X.w=w->X.K=K->X.calm=true->∀ (i:Nat) (pins:List (Addr × Obj)) (s:Shared) (σ:St) (H:Hp) (E:Value->Shared->Prop),Inv X pins σ H s->(∀ b∈fp,Nk X pins H b)->tn i s.heap->J.stop i H ->
  wpAny (model P w) X.A (pyNext (.ref it)) (fun r s1=>r=none/\Inv X pins σ H s1) E s
 self:∀ (A:Around) (i:Nat) (s:Shared) (Q:Value->Shared->Prop) (E:Value->Shared->Prop),tn i s.heap->Q (.ref it) s->wpAny (model P w) A (pyIter (.ref it)) Q E s
abbrev TI:=St->Hp->(It->Hp->Prop)->Prop
def PIE (X:Cx) (pins:List (Addr × Obj)) (σ:St) (tg:Expr) (R:It->Hp->Prop) (dS:Value) (s2:Shared):Prop :=
 ∃ (it:Addr) (fp:List Addr) (tn:Nat->Heap->Prop) (J:It) (H':Hp),dS=.ref it/\Inv X pins σ H' s2/\Turn X.prog X.w X.K tg J fp it tn/\tn 0 s2.heap/\(∀ b∈fp,Nk X pins H' b)/\R J H'
def PI (X:Cx) (tg iter:Expr) (wi:TI):Prop :=
 ∀ (pins:List (Addr × Obj)) (s:Shared) (σ:St) (H:Hp) (R:It->Hp->Prop),Inv X pins σ H s->wi σ H R ->
  wpAny (model X.prog X.w) X.A (eval iter X.env) (fun v s1=>wpAny (model X.prog X.w) X.A (pyIter v) (PIE X pins σ tg R) X.xe s1) X.xe s
theorem a3x {M:Model} {A:Around} {E:Value->Shared->Prop} {s:Shared} {tg:Expr} {it:Addr} {u:Value} {o:Obj} {n:String} {vs:Array Value} {Q:Unit->Shared->Prop} (ho:s.heap.get? it=some o) (hc:o.cls=.type n) (hd:o.data=.fields vs)
  (hn:["enumerate","zip","dict_itemiterator","dict_reverseitemiterator","odict_iterator","itertools.zip_longest","itertools.pairwise"].contains n=false) (hQ:Q () s):wpAny M A (letOwnedTupleGo tg (.ref it) u) Q E s:=by
 unfold letOwnedTupleGo
 cases tg <;> first
  | exact wpAny_pure hQ
  | (cases u <;> first
    | exact wpAny_pure hQ
    | (refine wpAny_bind (wpAny_load ho ?_)
       rw [hc,hd];show wpAny M A (if (["enumerate","zip","dict_itemiterator","dict_reverseitemiterator","odict_iterator","itertools.zip_longest","itertools.pairwise"].contains n&&vs[0]? == some (rawInt _))=true then _ else _) Q E s;rw [if_neg (by intro h; rw [hn,Bool.false_and] at h; cases h)];exact wpAny_pure hQ))
noncomputable def Itl (K:PySem.W.Frag) (a:Addr):It :=
 ⟨fun i H=>∃ xs x,SqL K H a xs/\xs[i]? = some x,fun i H x H'=>H'=H/\∀ xs,SqL K H a xs->xs[i]? = some x,fun i H=>∃ xs,SqL K H a xs/\xs.length<=i⟩
noncomputable def Itt (K:PySem.W.Frag) (a:Addr):It :=
 ⟨fun i H=>∃ xs x,SqT K H a xs/\xs[i]? = some x,fun i H x H'=>H'=H/\∀ xs,SqT K H a xs->xs[i]? = some x,fun i H=>∃ xs,SqT K H a xs/\xs.length<=i⟩
def Itr (lo:Int) (n:Nat):It:=⟨fun i _=>i<n,fun i H x H'=>H'=H/\x=.int (lo+i),fun i _=>n<=i⟩
theorem Wc {P:Program} {w:World} {K:PySem.W.Frag} {tg:Expr} (a it:Addr):Turn P w K tg (Itl K a) [it] it (fun i h=>h.IsListIter it a i) where
 mem:=by simp
 obj:=fun i h st b hb=>by
  have e:b=it:=by simpa using hb
  subst e;obtain ⟨o,e,c,d⟩:=st;exact ⟨o,e,fun v z=>by rw [d] at z; cases z⟩
 keep:=fun i h h' st k=>st.at fun o e=>k it (by simp) o e
 item:=by
  intro X hP hw hK hc i pins s σ H E I hf st hg;subst hP hw hK;obtain ⟨xs,x,hq,hx⟩:=hg;obtain ⟨its,rv,p,hz⟩:=I.list hq;obtain ⟨u,hu,ru⟩:=rv.get hx;obtain ⟨f0,f1,f2,f3,f4,f5⟩:=hf it (by simp);refine wpAny_pyNext_list_item st p.isList (x:=u) (by simpa using hu) fun h' ae sb=>?_;have I1:Inv X pins σ H { s with heap:=h' }:=I.turned (t':=s.toks) (fun b o hb e=>(sb.2 b hb).trans e) f0 f1 f3 f4 f5;obtain ⟨o,e,c,d⟩:=id ae;exact ⟨u,rfl,a3x (s:={ s with heap:=h' }) e c d (by decide) ⟨x,H,I1,ru,⟨rfl,fun ys hy=>by rw [I.R9 hy hq]; exact hx⟩,ae,fun b hb=>(hf b hb).1⟩⟩
 done:=by
  intro X hP hw hK hc i pins s σ H E I hf st hg;subst hP hw hK;obtain ⟨xs,hq,hx⟩:=hg;obtain ⟨its,rv,p,hz⟩:=I.list hq;obtain ⟨f0,f1,f2,f3,f4,f5⟩:=hf it (by simp);have hl:=rv.length;exact wpAny_pyNext_list_end (I.ok.hd hc) st p.isList (by simp; omega) fun h' eb=>⟨rfl,I.turned (t':=s.toks) (fun b o hb e=>eb b o hb e) f0 f1 f3 f4 f5⟩
 self:=fun _ _ _ _ _ st h=>wpAny_pyIter_listiter st h
theorem Ti {P:Program} {w:World} {K:PySem.W.Frag} {tg:Expr} (a it:Addr):Turn P w K tg (Itt K a) [it] it (fun i h=>h.IsTupleIter it a i) where
 mem:=by simp
 obj:=fun i h st b hb=>by
  have e:b=it:=by simpa using hb
  subst e;obtain ⟨o,e,c,d⟩:=st;exact ⟨o,e,fun v z=>by rw [d] at z; cases z⟩
 keep:=fun i h h' st k=>st.at fun o e=>k it (by simp) o e
 item:=by
  intro X hP hw hK hc i pins s σ H E I hf st hg;subst hP hw hK;obtain ⟨xs,x,hq,hx⟩:=hg;obtain ⟨its,rv,p,hz⟩:=I.tuple hq;obtain ⟨u,hu,ru⟩:=rv.get hx;obtain ⟨f0,f1,f2,f3,f4,f5⟩:=hf it (by simp);refine wpAny_pyNext_tuple_item st (show s.heap.IsTuple a its.toArray from p) (x:=u) (by simpa using hu) fun h' ae sb=>?_;have I1:Inv X pins σ H { s with heap:=h' }:=I.turned (t':=s.toks) (fun b o hb e=>(sb.2 b hb).trans e) f0 f1 f3 f4 f5;obtain ⟨o,e,c,d⟩:=id ae;exact ⟨u,rfl,a3x (s:={ s with heap:=h' }) e c d (by decide) ⟨x,H,I1,ru,⟨rfl,fun ys hy=>by rw [I.Ut hy hq]; exact hx⟩,ae,fun b hb=>(hf b hb).1⟩⟩
 done:=by
  intro X hP hw hK hc i pins s σ H E I hf st hg;subst hP hw hK;obtain ⟨xs,hq,hx⟩:=hg;obtain ⟨its,rv,p,hz⟩:=I.tuple hq;obtain ⟨f0,f1,f2,f3,f4,f5⟩:=hf it (by simp);have hl:=rv.length;exact wpAny_pyNext_tuple_end (I.ok.hd hc) st (show s.heap.IsTuple a its.toArray from p) (by simp; omega) fun h' eb=>⟨rfl,I.turned (t':=s.toks) (fun b o hb e=>eb b o hb e) f0 f1 f3 f4 f5⟩
 self:=fun _ _ _ _ _ st h=>wpAny_pyIter_tupleiter st h
theorem Rz {P:Program} {w:World} {K:PySem.W.Frag} {tg:Expr} (it:Addr) (lo:Int) (n:Nat):Turn P w K tg (Itr lo n) [it] it (fun i h=>IsRangeIter h it (lo+(i:Nat) * 1) ((n:Int) - (i:Nat)) 1) where
 mem:=by simp
 obj:=fun i h st b hb=>by
  have e:b=it:=by simpa using hb
  subst e
  exact ⟨_,st,fun v z=>by
   have z':Data.fields _=Data.cell v:=z;cases z'⟩
 keep:=fun i h h' st k=>k it (by simp) _ st
 item:=by
  intro X hP hw hK hc i pins s σ H E I hf st hg;subst hP hw hK;obtain ⟨f0,f1,f2,f3,f4,f5⟩:=hf it (by simp);have W:=Walks.range (prog:=X.prog) (w:=X.w) (I.ok.hd hc) it lo 1 n;refine W.item i s _ _ hg st fun v h' tk hv ae kk=>?_;obtain ⟨t,rfl⟩:=hv;have I1:Inv X pins σ H { s with heap:=h',toks:=tk }:=I.turned (fun b o hb e=>kk b o (by simpa using hb) e) f0 f1 f3 f4 f5;refine ⟨_,rfl,a3x (s:={ s with heap:=h',toks:=tk }) (n := "range_iterator") ae rfl rfl (by decide) ⟨.int (lo+i),H,I1,⟨t,?_⟩,⟨rfl,rfl⟩,ae,fun b hb=>(hf b hb).1⟩⟩;rw [Int.mul_one]
 done:=by
  intro X hP hw hK hc i pins s σ H E I hf st hg;subst hP hw hK;obtain ⟨f0,f1,f2,f3,f4,f5⟩:=hf it (by simp);exact wpAny_pyNext_range_end (I.ok.hd hc) st (by have:n<=i:=hg; omega) fun h' eb=>⟨rfl,I.turned (t':=s.toks) (fun b o hb e=>eb b o hb e) f0 f1 f3 f4 f5⟩
 self:=fun _ _ _ _ _ st h=>wpAny_pyIter_rangeiter st h
end L2
namespace L2
open PySem PySem.Spec PyProof.Rows
section
variable {X:Cx} {tg:Expr}
theorem Yq {pins:List (Addr × Obj)} {σ:St} {H:Hp} {s:Shared} {R:It->Hp->Prop} {E:Value->Shared->Prop} {lo hi:Int} {t u v:Tok} {tk:Nat} (I:Inv X pins σ H s) (h1:-(2 ^ 62)<=lo) (h2:lo<2 ^ 62) (h3:-(2 ^ 62)<=hi) (h4:hi<2 ^ 62)
  (q:R (Itr lo (hi - lo).toNat) H):wpAny (model X.prog X.w) X.A (pyIter (.ref s.heap.objs.size)) (PIE X pins σ tg R) E { s with heap:=s.heap.push { cls:=.type "range",data:=.fields #[.int lo t,.int hi u,.int 1 v] },toks:=tk }:=by
 refine wpAny_pyIter_range (IsRange.new ..) (small_one h1 h2 h3 h4) ?_;have I1:Inv X pins σ H { s with heap:=s.heap.push { cls:=.type "range",data:=.fields #[.int lo t,.int hi u,.int 1 v] },toks:=tk }:=I.kept fun b o e=>Heap.get?_push_of_some _ e
 refine ⟨(s.heap.push { cls:=.type "range",data:=.fields #[.int lo t,.int hi u,.int 1 v] }).objs.size,[(s.heap.push { cls:=.type "range",data:=.fields #[.int lo t,.int hi u,.int 1 v] }).objs.size],_,_,H,rfl,
  I1.kept (t':=tk) fun b o e=>Heap.get?_push_of_some _ e,Rz _ lo (hi - lo).toNat,?_,fun b hb=>?_,q⟩
 ·have e1:lo+((0:Nat):Int) * 1=lo:=by simp
  have e2:(((hi - lo).toNat:Nat):Int) - ((0:Nat):Int)=Builtin.Range.rangeSize lo hi 1:=by rw [rangeSize_one]; split <;> omega
  show IsRangeIter _ _ (lo+((0:Nat):Int) * 1) ((((hi - lo).toNat:Nat):Int) - ((0:Nat):Int)) 1;rw [e1,e2];exact Heap.get?_push_size _ rfl
 ·have e:b=(s.heap.push { cls:=.type "range",data:=.fields #[.int lo t,.int hi u,.int 1 v] }).objs.size:=by simpa using hb
  subst e;exact I1.a81 (Nat.le_refl _) (I1.hok.fresh (Nat.le_refl _))
noncomputable def aa6 (ta:TA):TI:=fun σ H R=>ta σ H fun vs H1=>∃ j:Int,vs=[.int j]/\-(2 ^ 62)<=j/\j<2 ^ 62/\R (Itr 0 j.toNat) H1
theorem Y6 {a:Expr} {ta:TA} {p pos:Pos} (hg:Gl X "range") (hm:X.mg "range" = none) (ha:PA X [a] ta) (hs:starEach [a] X.env=[(false,eval a X.env)]:=by rfl):PI X tg (.Call (.Name "range" p) [a] [] pos) (aa6 ta):=by
 intro pins s σ H R I h;refine Call_ (Ht I hg hm boot_range (PyProof.Rows.callWith_type1 (thn (ha pos pins s σ H _ I h) fun us s1 z0=>?_) hs rfl));obtain ⟨vs,H1,I1,r1,q1⟩:=z0;obtain ⟨j,e,q1,q2,q⟩:=q1;subst e;cases r1 with
 | cons r rr =>
  cases rr;obtain ⟨t,rfl⟩:=r;exact call_range_1 (Yq I1 (by omega) (by omega) q1 q2 (by simpa using q))
noncomputable def acs (wi:TI) (g:TG) (tb:TS):TS:=fun D σ H=>wi σ H fun J H1=>∃ W:Nat->Nat->St->Hp->Prop,(∃ m,W 0 m σ H1)/\∀ i m σ H,W i m σ H ->
 (J.stop i H/\D.nx σ H)\/(J.go i H/\∃ N:St->Hp->Prop,(∀ σ' H',N σ' H'->∃ m',m'<m/\W (i+1) m' σ' H')/\∀ x H',J.yld i H x H'->g x σ H' fun cV H2=>tb { D with nx:=N,ct:=N,bk:=D.nx } cV H2)
def Mp (fp:List Addr) (h:Heap):List (Addr × Obj):=fp.filterMap fun b=>(h.get? b).map fun o=>(b,o)
theorem Bv {fp:List Addr} {h:Heap} {b:Addr} {o:Obj} (hb:b∈fp) (e:h.get? b=some o):(b,o)∈Mp fp h:=List.mem_filterMap.mpr ⟨b,hb,by rw [e]; rfl⟩
theorem Vx {fp:List Addr} {h:Heap} {p:Addr × Obj} (hp:p∈Mp fp h):p.1∈fp/\h.get? p.1=some p.2:=by
 obtain ⟨b,hb,e⟩:=List.mem_filterMap.mp hp;cases q:h.get? b with
 | none=>rw [q] at e; cases e
 | some o =>
  rw [q] at e;have e':(b,o)=p:=Option.some.inj e;subst e';exact ⟨hb,q⟩
theorem Inv.pinned {pins:List (Addr × Obj)} {σ:St} {H:Hp} {s:Shared} {fp:List Addr} (I:Inv X pins σ H s) (hf:∀ b∈fp,Nk X pins H b) (ho:∀ b∈fp,∃ o,s.heap.get? b=some o/\∀ v,o.data≠.cell v):Inv X (pins++Mp fp s.heap) σ H s :=
 I.Eh fun p hp=>(List.mem_append.mp hp).elim (fun z=>I.pin p (List.mem_append_right _ z)) fun z=>by
  obtain ⟨hb,e⟩:=Vx z;obtain ⟨f0,f1,f2,_⟩:=hf p.1 hb;obtain ⟨o,e',d⟩:=ho p.1 hb;rw [e] at e'; cases e';exact ⟨e,f0,f1,f2,d⟩
theorem Inv.Ft {pins pl:List (Addr × Obj)} {σ:St} {H:Hp} {s:Shared} (I:Inv X (pins++pl) σ H s):Inv X pins σ H s:=I.Eh fun p hp=>I.pin p (List.mem_append_right _ (List.mem_append_left _ hp))
theorem a2r {iter:Expr} {body:List Stmt} {wi:TI} {g:TG} {tb:TS} {pos:Pos} (hp:PassesOwn (model X.prog X.w) X.A X.env X.xe) (hc:X.calm=true) (hi:PI X tg iter wi) (hg:PG X tg g) (hb:PSs X body tb)
  (hs:∀ x,foldedSetIterable iter X.env x=pure x:=by intro _; rfl):PS X (.For tg iter body [] pos) (acs wi g tb):=by
 intro pins s σ H D I h;refine wpAny_For (thn (hi pins s σ H _ I h) fun v s1 h1=>thn h1 fun dS s2 h2=>?_) hs;obtain ⟨it,fp,tn,J,H2,e,I2,T,dX,f2,W,⟨m0,w0⟩,turn⟩:=h2;subst e;have cG:∀ {H':Hp},(∀ b∈fp,H' b=none)->∀ b∈fp,Nk X pins H' b:=fun hn b hb=>⟨hn b hb,(f2 b hb).2⟩;refine codeAny_forLoop_any (fun n s'=>∃ i σ' H',Inv X pins σ' H' s'/\tn i s'.heap/\(∀ b∈fp,H' b=none)/\W i n σ' H') ?_ m0 ⟨0,σ,H2,I2,dX,fun b hb=>(f2 b hb).1,w0⟩;rintro n s3 ⟨i,cU,H3,I3,st3,fr3,w3⟩;rcases turn i n cU H3 w3 with ⟨stop,qn⟩ | ⟨go,N,hN,step⟩
 ·refine wpAny_passesOwn hp (thn (T.done X rfl rfl rfl hc i pins s3 cU H3 X.xe I3 (cG fr3) st3 stop) fun r s4 z0=>?_);obtain ⟨hr,I4⟩:=z0;subst hr;exact wpAny_execs_nil ⟨cU,H3,I4,qn⟩
 ·refine wpAny_passesOwn hp (thn (T.item X rfl rfl rfl hc i pins s3 cU H3 X.xe I3 (cG fr3) st3 go) fun r s4 z0=>?_);obtain ⟨u,hr,h4⟩:=z0;subst hr;refine wpAny_passesOwn hp (thn h4 fun _ s5 z0=>?_);obtain ⟨x,H5,I5,r5,y5,st5,fr5⟩:=z0;have jT:=I5.pinned (cG fr5) (T.obj _ _ st5);refine wpAny_passesOwn hp (thn (hg _ s5 cU H5 x u _ jT r5 (step x H5 y5)) fun _ s6 z0=>?_);obtain ⟨σ6,H6,I6,q6⟩:=z0;refine wpAny_passesOwn hp (thn (hb _ s6 σ6 H6 _ I6 q6) fun f s7 q7=>?_)
  have again:∀ {cD:St} {H7:Hp},Inv X (pins++Mp fp s5.heap) cD H7 s7->N cD H7->∃ m,m<n/\∃ i σ' H',Inv X pins σ' H' s7/\tn i s7.heap/\(∀ b∈fp,H' b=none)/\W i m σ' H':=fun {cD H7} I7 n7=>by
   obtain ⟨m',hm,w7⟩:=hN cD H7 n7;refine ⟨m',hm,i+1,cD,H7,I7.Ft,T.keep _ _ _ st5 fun b hb o e=>(I7.pin (b,o) (List.mem_append_right _ (List.mem_append_right _ (Bv hb e)))).1,fun b hb=>?_,w7⟩;obtain ⟨o,e,d⟩:=T.obj _ _ st5 b hb;exact (I7.pin (b,o) (List.mem_append_right _ (List.mem_append_right _ (Bv hb e)))).2.1
  cases f with
  | next=>obtain ⟨cD,H7,I7,n7⟩:=q7; exact again I7 n7
  | cont=>obtain ⟨cD,H7,I7,n7⟩:=q7; exact again I7 n7
  | brk=>obtain ⟨cD,H7,I7,q7⟩:=q7; exact ⟨cD,H7,I7.Ft,q7⟩
  | ret v=>obtain ⟨x7,cD,H7,I7,r7,q7⟩:=q7; exact ⟨x7,cD,H7,I7.Ft,r7,q7⟩
end
end L2
namespace L2
open PySem PySem.Spec PyProof.Rows
abbrev R2:=V->V->Hp->VK->Prop
def OpR (X:Cx) (f:Value->Value->Sem Value) (r:R2):Prop :=
 ∀ (pins:List (Addr × Obj)) (s:Shared) (σ:St) (H:Hp) (x y:V) (v u:Value) (Q:VK),Inv X pins σ H s->RelV x v->RelV y u->r x y H Q ->
  wpAny (model X.prog X.w) X.A (f v u) (EP X pins σ Q) X.xe s
def UnR (X:Cx) (f:Value->Sem Value) (r:V->Hp->VK->Prop):Prop :=
 ∀ (pins:List (Addr × Obj)) (s:Shared) (σ:St) (H:Hp) (x:V) (v:Value) (Q:VK),Inv X pins σ H s->RelV x v->r x H Q ->
  wpAny (model X.prog X.w) X.A (f v) (EP X pins σ Q) X.xe s
def Dy (X:Cx) (f:Value) (r:List V->Hp->VK->Prop):Prop :=
 ∀ (pins:List (Addr × Obj)) (s:Shared) (σ:St) (H:Hp) (xs:List V) (us:List Value) (Q:VK),Inv X pins σ H s->Vals xs us->r xs H Q ->
  wpAny (model X.prog X.w) X.A (call f us) (EP X pins σ Q) X.xe s
def tOp (r:R2) (ta tb:TE):TE:=fun σ H Q=>ta σ H fun x H1=>tb σ H1 fun y H2=>r x y H2 Q
def tUn (r:V->Hp->VK->Prop) (ta:TE):TE:=fun σ H Q=>ta σ H fun x H1=>r x H1 Q
def rI (C:Int->Int->Prop) (g:Int->Int->V):R2:=fun x y H Q=>∃ i j,x=.int i/\y=.int j/\C i j/\Q (g i j) H
def rI0 (g:Int->Int->V):R2:=fun x y H Q=>∃ i j,x=.int i/\y=.int j/\Q (g i j) H
def rU (g:Int->V):V->Hp->VK->Prop:=fun x H Q=>∃ i,x=.int i/\Q (g i) H
section
variable {X:Cx} {a b c:Expr} {ta tb tc:TE} {pos:Pos}
theorem abb (ha:PE X a ta) (hb:PE X b tb) {pins:List (Addr × Obj)} {s:Shared} {σ:St} {H:Hp} {R:V->V->Hp->Prop} (I:Inv X pins σ H s)
  (h:ta σ H fun x H1=>tb σ H1 fun y H2=>R x y H2) {Q:Value->Shared->Prop} {f:Value->Value->Sem Value}
  (hf:∀ v u s2 x y H2,Inv X pins σ H2 s2->RelV x v->RelV y u->R x y H2->wpAny (model X.prog X.w) X.A (f v u) Q X.xe s2) :
  wpAny (model X.prog X.w) X.A (eval a X.env) (fun v ax=>wpAny (model X.prog X.w) X.A (eval b X.env) (fun u aO=>wpAny (model X.prog X.w) X.A (f v u) Q X.xe aO) X.xe ax) X.xe s:=by
 refine thn (ha pins s σ H _ I h) fun v s1 z0=>?_;obtain ⟨x,H1,I1,r1,q1⟩:=z0;refine thn (hb pins s1 σ H1 _ I1 q1) fun u s2 z0=>?_;obtain ⟨y,H2,I2,r2,q2⟩:=z0;exact hf v u s2 x y H2 I2 r1 r2 q2
theorem a3o {op:Operator} {r:R2} (ho:OpR X (binaryOp op) r) (ha:PE X a ta) (hb:PE X b tb):PE X (.BinOp a op b pos) (tOp r ta tb):=by
 intro pins s σ H Q I h;exact wpAny_BinOp (abb ha hb I h fun v u s2 x y H2 I2 rx ry q=>ho pins s2 σ H2 x y v u Q I2 rx ry q)
theorem a8w {op:UnaryOp} {r:V->Hp->VK->Prop} (ho:UnR X (unaryOp op) r) (ha:PE X a ta):PE X (.UnaryOp op a pos) (tUn r ta):=by
 intro pins s σ H Q I h;exact UnaryOp_ (thn (ha pins s σ H _ I h) fun v s1 z7=>by obtain ⟨x,H1,I1,r1,q1⟩:=z7; exact ho pins s1 σ H1 x v Q I1 r1 q1)
theorem opI {f:Value->Value->Sem Value} {C:Int->Int->Prop} {g:Int->Int->Int}
  (rule:∀ (i j:Int) (t u:Tok) (s:Shared) (Q:Value->Shared->Prop) (E:Value->Shared->Prop),C i j->Q (.int (g i j) s.toks) { s with toks:=s.toks+1 }->wpAny (model X.prog X.w) X.A (f (.int i t) (.int j u)) Q E s) :
  OpR X f (rI C fun i j=>.int (g i j)):=by
 intro pins s σ H x y v u Q I rx ry h;obtain ⟨i,j,rfl,rfl,hc,q⟩:=h;obtain ⟨t,rfl⟩:=rx;obtain ⟨t',rfl⟩:=ry;exact rule i j t t' s _ _ hc ⟨.int (g i j),H,I.tok _,⟨_,rfl⟩,q⟩
theorem abp {f:Value->Value->Sem Value} {g:Int->Int->Int}
  (rule:∀ (i j:Int) (t u:Tok) (s:Shared) (Q:Value->Shared->Prop) (E:Value->Shared->Prop),Q (.int (g i j) s.toks) { s with toks:=s.toks+1 }->wpAny (model X.prog X.w) X.A (f (.int i t) (.int j u)) Q E s) :
  OpR X f (rI0 fun i j=>.int (g i j)):=by
 intro pins s σ H x y v u Q I rx ry h;obtain ⟨i,j,rfl,rfl,q⟩:=h;obtain ⟨t,rfl⟩:=rx;obtain ⟨t',rfl⟩:=ry;exact rule i j t t' s _ _ ⟨.int (g i j),H,I.tok _,⟨_,rfl⟩,q⟩
theorem abg {f:Value->Value->Sem Value} {g:Int->Int->Bool}
  (rule:∀ (i j:Int) (t u:Tok) (s:Shared) (Q:Value->Shared->Prop) (E:Value->Shared->Prop),Q (.bool (g i j)) s->wpAny (model X.prog X.w) X.A (f (.int i t) (.int j u)) Q E s) :
  OpR X f (rI0 fun i j=>.bl (g i j)):=by
 intro pins s σ H x y v u Q I rx ry h;obtain ⟨i,j,rfl,rfl,q⟩:=h;obtain ⟨t,rfl⟩:=rx;obtain ⟨t',rfl⟩:=ry;exact rule i j t t' s _ _ ⟨.bl (g i j),H,I,rfl,q⟩
def acd (i j:Int):Prop:=0<=j/\j<=1000000/\i.natAbs<2 ^ 64
def ab2 (i j:Int):Prop:=(-(2 ^ 64)<i/\i<2 ^ 64)\/(-(2 ^ 64)<j/\j<2 ^ 64)
theorem ab2.ok {i j:Int} (h:ab2 i j):IntMulOk i j:=by
 rcases h with ⟨h1,h2⟩ | ⟨h1,h2⟩
 ·exact .of_left (intBits_le_64 h1 h2)
 ·exact .of_right (intBits_le_64 h1 h2)
theorem a8c:OpR X (binaryOp .Add) (rI0 fun i j=>.int (i+j)):=abp fun _ _ _ _ _ _ _ q=>add_int q
theorem a7c:OpR X (binaryOp .Sub) (rI0 fun i j=>.int (i - j)):=abp fun _ _ _ _ _ _ _ q=>sub_int q
theorem a79:OpR X (binaryOp .Mult) (rI ab2 fun i j=>.int (i * j)):=opI fun _ _ _ _ _ _ _ hc q=>mul_int q hc.ok
theorem a7d:OpR X (binaryOp .Mod) (rI (fun _ j=>0<j) fun i j=>.int (i%j)):=opI fun i j _ _ _ _ _ hc q=>by
 have h1:(0:Int)<j:=hc;exact mod_int' (by omega) (by rw [Int.fmod_eq_emod_of_nonneg i (by omega)]; exact q)
theorem a8x:OpR X (binaryOp .Pow) (rI acd fun i j=>.int (i ^ j.toNat)):=opI fun _ _ _ _ _ _ _ hc q=>pow_int_small hc.1 hc.2.1 hc.2.2 q
theorem unI {f:Value->Sem Value} {g:Int->Int}
  (rule:∀ (i:Int) (t:Tok) (s:Shared) (Q:Value->Shared->Prop) (E:Value->Shared->Prop),Q (.int (g i) s.toks) { s with toks:=s.toks+1 }->wpAny (model X.prog X.w) X.A (f (.int i t)) Q E s) :
  UnR X f (rU fun i=>.int (g i)):=by
 intro pins s σ H x v Q I rx h;obtain ⟨i,rfl,q⟩:=h;obtain ⟨t,rfl⟩:=rx;exact rule i t s _ _ ⟨.int (g i),H,I.tok _,⟨_,rfl⟩,q⟩
theorem a2l:UnR X (unaryOp .USub) (rU fun i=>.int (-i)):=unI fun _ _ _ _ _ q=>neg_int q
end
section
variable {X:Cx} {a b c:Expr} {ta tb tc:TE} {pos:Pos}
theorem a2i {pins:List (Addr × Obj)} {σ:St} {H:Hp} {s:Shared} {Q:VK} {k k':Bool} (I:Inv X pins σ H s) (q:Q (.bl k) H) (e:k=k'):EP X pins σ Q (.bool k') s:=by
 subst e;exact ⟨.bl k,H,I,rfl,q⟩
theorem ab6:OpR X (compareOp .Lt) (rI0 fun i j=>.bl (decide (i<j))):=abg fun _ _ _ _ _ _ _ q=>lt_int q
theorem aa3:OpR X (compareOp .LtE) (rI0 fun i j=>.bl (decide (i<=j))):=abg fun _ _ _ _ _ _ _ q=>le_int q
theorem aao:OpR X (compareOp .Gt) (rI0 fun i j=>.bl (decide (j<i))):=abg fun _ _ _ _ _ _ _ q=>gt_int q
theorem a75:OpR X (compareOp .Is) (fun x y H Q=>y=.non/\Q (.bl (decide (x=.non))) H):=by
 intro pins s σ H x y v u Q I rx ry h;obtain ⟨rfl,q⟩:=h;cases ry;refine is_none_gen (a2i I q ?_)
 cases x <;> first
  | (cases rx; rfl)
  | (obtain ⟨t,rfl⟩:=rx; rfl)
theorem a4o:OpR X (compareOp .IsNot) (fun x y H Q=>y=.non/\Q (.bl (!decide (x=.non))) H):=by
 intro pins s σ H x y v u Q I rx ry h;obtain ⟨rfl,q⟩:=h;cases ry;refine isnot_none_gen (a2i I q ?_)
 cases x <;> first
  | (cases rx; rfl)
  | (obtain ⟨t,rfl⟩:=rx; rfl)
theorem OpR.or {f:Value->Value->Sem Value} {r r':R2} (h:OpR X f r) (h':OpR X f r'):OpR X f (fun x y H Q=>r x y H Q\/r' x y H Q):=by
 intro pins s σ H x y v u Q I rx ry q;rcases q with q | q
 ·exact h pins s σ H x y v u Q I rx ry q
 ·exact h' pins s σ H x y v u Q I rx ry q
theorem lg (b:Expr) {op:CmpOp} (h:op≠.In:=by decide) (h2:op≠.NotIn:=by decide):behindInMarks op b=false:=by
 have e1:(op==CmpOp.In)=false:=by cases op <;> first | rfl | exact absurd rfl h
 have e2:(op==CmpOp.NotIn)=false:=by cases op <;> first | rfl | exact absurd rfl h2
 cases b <;> simp [behindInMarks,e1,e2]
theorem a65 {op:CmpOp} {r:R2} (ho:OpR X (compareOp op) r) (ha:PE X a ta) (hb:PE X b tb) (hm:behindInMarks op b=false):PE X (.Compare a [op] [b] pos) (tOp r ta tb):=by
 intro pins s σ H Q I h;exact wpAny_Compare1 (abb ha hb I h fun v u s2 x y H2 I2 rx ry q=>ho pins s2 σ H2 x y v u Q I2 rx ry q) hm
def a87 (t:TE):TT:=fun σ H Q=>t σ H fun x H'=>∃ k,x=.bl k/\Q k H'
theorem Vk {op:CmpOp} {r:R2} (ho:OpR X (compareOp op) r) (ha:PE X a ta) (hb:PE X b tb) (hm:behindInMarks op b=false):PT X (.Compare a [op] [b] pos) (a87 (tOp r ta tb)):=by
 intro pins s σ H Q I h
 refine wpAny_isTrue_Compare1 (thn (ha pins s σ H _ I h) fun v s1 ⟨x,H1,I1,r1,q1⟩=>thn (hb pins s1 σ H1 _ I1 q1) fun u s2 ⟨y,H2,I2,r2,q2⟩ =>
  thn (ho pins s2 σ H2 x y v u _ I2 r1 r2 q2) fun c s3 ⟨z,H3,I3,r3,k,e,q3⟩=>?_) hm
 subst e;cases r3;exact wpAny_truthy_bool ⟨H3,I3,q3⟩
theorem Lp:(sizeLine:Nat)<2 ^ 63:=by rw [sizeLine_eq]; decide
theorem Rm:OpR X (binaryOp .Add) (fun x y H Q=>∃ i j,x=.str i/\y=.str j/\i.length+j.length<=sizeLine/\Q (.str (i++j)) H):=by
 intro pins s σ H x y v u Q I rx ry h;obtain ⟨i,j,rfl,rfl,hz,q⟩:=h;obtain ⟨t,rfl⟩:=rx;obtain ⟨t',rfl⟩:=ry;exact add_str (fun t' tk=>⟨.str (i++j),H,I.tok _,⟨_,rfl⟩,q⟩) hz
theorem vals1 {x:V} {us:List Value} (r:Vals [x] us):∃ u,us=[u]/\RelV x u:=by
 cases r with
 | cons r1 r2=>cases r2; exact ⟨_,rfl,r1⟩
end
end L2
namespace L2
open PySem PySem.Spec PyProof.Rows
structure abd (h:Heap) (x dx C:Addr) (mA:Str->Option Value):Prop where
 obj:h.get? x=some (PySem.W.instObj C dx)
 ns:h.Ns1 dx mA
 ne:dx≠x
theorem Xb {h:Heap} {dx:Addr} {mA:Str->Option Value} (n:h.Ns1 dx mA):∃ od,h.get? dx=some od/\∀ name,PySem.W.lookIn name od=some (mA name):=by
 obtain ⟨o,es,ep,ho,hd,hk,_,hm⟩:=n;refine ⟨o,ho,fun name=>?_⟩;have e:=hm name;unfold nsFind findBy at e;rw [<- Array.find?_toList] at e;unfold PySem.W.lookIn;rw [hd];dsimp only;split
 ·rename_i y q;rw [q] at e;exact congrArg some e
 ·rename_i q;rw [q] at e
  have a:es.toList.any (·.refKey)=false:=by
   rw [List.any_eq_false];intro y hy;obtain ⟨z,t,df⟩:=hk y (Array.mem_toList_iff.mp hy);simp [DictEntry.refKey,df]
  have a':¬ es.toList.any (·.refKey)=true:=by rw [a]; exact Bool.false_ne_true
  rw [if_neg a'];exact congrArg some e
theorem abd.look {h:Heap} {x dx C:Addr} {mA:Str->Option Value} (I:abd h x dx C mA):∃ od,PySem.W.InstAt h x (PySem.W.instObj C dx) C (some od)/\∀ name,PySem.W.lookIn name od=some (mA name) :=
 let ⟨od,ho,hl⟩:=Xb I.ns
 ⟨od,⟨I.obj,rfl,rfl,ho⟩,hl⟩
section
variable {prog:Program} {w:World} {A:Around} {E:Value->Shared->Prop} {s:Shared} {K:PySem.W.Frag} {x dx C f:Addr} {mA:Str->Option Value} {name:Str} {v:Value}
end
theorem Kq.some_of {v:V} {o:Option Value} (r:Kq (some v) o):∃ u,o=some u/\RelV v u:=by
 cases o with
 | none=>exact (show False from r).elim
 | some u=>exact ⟨u,rfl,r⟩
theorem Kq.none_of {o:Option Value} (r:Kq none o):o=none:=by
 cases o with
 | none=>rfl
 | some u=>exact (show False from r).elim
section
variable {P:Program} {w:World} {H H':Hp} {h h':Heap} {a C dx:Addr} {fs eY:List (Str × V)}
theorem a5h (hok:HOk P w H h) (e:H a=some (.ins C dx fs)):∃ mA,abd h a dx C mA/\(∀ f,Kq (fs.lookup f) (mA f))/\PySem.Within mA (fs.map (·.1))/\fs.length<=1000/\H dx=some (.own a):=by
 obtain ⟨d,z,ne,ob,mA,n,r,q⟩:=(show jy P w H h a (.ins C dx fs) from hok a _ e);exact ⟨mA,⟨ob,n,ne⟩,r,q,z,d⟩
end
structure Cls (K:PySem.W.Frag) (C:Addr):Prop where
 pg:PySem.W.plainGet K C Str.empty=true
 hd:PySem.W.hasDictIn K C=true
 po:PySem.W.plainOver K C=true
 sa:PySem.W.findIn K (.ref C) "__setattr__" = some (some (.builtin "object.__setattr__"))
theorem Cls.get {K:PySem.W.Frag} {C:Addr} (c:Cls K C) (f:Str):PySem.W.plainGet K C f=true:=c.pg
structure Con (K:PySem.W.Frag) (C:Addr) (f:Str) (v:V) (u:Value):Prop where
 at_:PySem.W.findIn K (.ref C) f=some (some u)
 rel:RelV v u
 get:PySem.W.specialIn K u "__get__" = some none
 cp:PySem.W.copiedNames.contains f=false
structure Meth (K:PySem.W.Frag) (C:Addr) (m:Str) (f:Addr):Prop where
 at_:PySem.W.findIn K (.ref C) m=some (some (.ref f))
 fn:PySem.W.isFn K (.ref f)=true
 kp:PySem.W.keepIn K (.ref f)=true
section
variable {X:Cx} {pins:List (Addr × Obj)} {σ:St} {H:Hp} {s:Shared} {a C dx:Addr} {fs:List (Str × V)} {f:Str} {v:V} {A:Around} {E:Value->Shared->Prop}
theorem a6g {prog:Program} {w:World} {env:Env} {e:Expr} {f:Str} {pos:Pos} {s:Shared} {Q:Value->Shared->Prop} (hb:attributeBase e f env (eval e env)=eval e env)
  (h:wpAny (model prog w) A (eval e env) (fun o ax=>wpAny (model prog w) A (getAttr o f true) Q E ax) E s):wpAny (model prog w) A (eval (.Attribute e f pos) env) Q E s :=
 Attribute_any_ h (by rw [arm_eval_Attribute,hb])
end
section
variable {X:Cx} {o e value:Expr} {f:Str} {pos pos' a8:Pos} {ta tv:TE}
end
section
variable {X:Cx} {pins:List (Addr × Obj)} {σ:St} {H:Hp} {s:Shared} {A:Around} {E:Value->Shared->Prop} {Q:Value->Shared->Prop} {c:Value} {b:Bool}
inductive U8 (K:PySem.W.Frag) (H:Hp):V->Value->Prop where
 | non:U8 K H .non (.type "NoneType")
 | bl (x:Bool):U8 K H (.bl x) (.type "bool")
 | int (i:Int):U8 K H (.int i) (.type "int")
 | str (x:Str):U8 K H (.str x) (.type "str")
 | flt (x:UInt64):U8 K H (.flt x) (.type "float")
 | lst {a:Addr} {xs:List V} (e:H a=some (.lst xs)):U8 K H (.ref a) (.type "list")
 | frz {a:Addr} {o:Obj} {xs:List V} (e:H a=some (.frz o (.lst xs))):U8 K H (.ref a) (.type "list")
 | tup {a:Addr} {xs:List V} (e:H a=some (.tup xs)):U8 K H (.ref a) (.type "tuple")
 | dK {a:Addr} {aa:List (Key × V)} (e:H a=some (.dK aa)):U8 K H (.ref a) (.type "dict")
 | dT {a:Addr} {aa:List (List Key × V)} (e:H a=some (.dT aa)):U8 K H (.ref a) (.type "dict")
 | ins {a C dx:Addr} {fs:List (Str × V)} (e:H a=some (.ins C dx fs)) (cl:Cls K C) (ha:PySem.W.findIn K (.ref C) "__class__" = some (some (.builtin "object.__class__")))
   (hn:PySem.W.specialIn K (.builtin "object.__class__") "__get__" = some (some (.builtin "getset_descriptor.__get__"))) (i8:PySem.W.takesIn K (.builtin "object.__class__")=some true)
   (hm:PySem.W.mroIn K C (.type "object")=some true):U8 K H (.ref a) (.ref C)
theorem Di {x:V} {u t:Value} (I:Inv X pins σ H s) (rx:RelV x u) (ty:U8 X.K H x t) (e:PySem.W.kitOne X.K t c=some b) (h:∀ tk,Q (.bool b) { s with toks:=tk }) :
  wpAny (model X.prog X.w) A (call (.builtin "isinstance") [u,c]) Q E s:=by
 cases ty with
 | non=>cases (show u=Value.none from rx); exact PySem.W.kia_one PySem.W.kitx_none I.kIn True.intro e (fun z=>nomatch z) h
 | bl y=>cases (show u=Value.bool y from rx); exact PySem.W.kia_one PySem.W.kitx_bool I.kIn True.intro e (fun z=>nomatch z) h
 | int i=>obtain ⟨t,q⟩:=(show ∃ t,u=Value.int i t from rx); cases q; exact PySem.W.kia_one PySem.W.kitx_int I.kIn True.intro e (fun z=>nomatch z) h
 | str y=>obtain ⟨t,q⟩:=(show ∃ t,u=Value.str y t from rx); cases q; exact PySem.W.kia_one PySem.W.kitx_str I.kIn True.intro e (fun z=>nomatch z) h
 | flt y=>obtain ⟨t,q⟩:=(show ∃ t,u=Value.float y t from rx); cases q; exact PySem.W.kia_one PySem.W.kitx_float I.kIn True.intro e (fun z=>nomatch z) h
 | @lst a xs ea =>
  cases (show u=Value.ref a from rx);obtain ⟨_,_,n,_,h1⟩:=(show jy X.prog X.w H s.heap a (.lst xs) from I.hok a _ ea);exact PySem.W.kia_one PySem.W.kitx_list I.kIn ⟨_,h1,rfl⟩ e (fun z=>nomatch z) h
 | @frz a ob xs ea =>
  cases (show u=Value.ref a from rx);obtain ⟨_,_,_,n,_,h1⟩:=(show jy X.prog X.w H s.heap a (.frz ob (.lst xs)) from I.hok a _ ea);exact PySem.W.kia_one PySem.W.kitx_list I.kIn ⟨_,h1,rfl⟩ e (fun z=>nomatch z) h
 | @tup a xs ea =>
  cases (show u=Value.ref a from rx);obtain ⟨_,_,_,p⟩:=(show jy X.prog X.w H s.heap a (.tup xs) from I.hok a _ ea);obtain ⟨o,h1,h2,_⟩:=p;exact PySem.W.kia_one PySem.W.kitx_tuple I.kIn ⟨o,h1,h2⟩ e (fun z=>nomatch z) h
 | @dK a aa ea =>
  cases (show u=Value.ref a from rx);obtain ⟨_,_,vs,_,p⟩:=(show jy X.prog X.w H s.heap a (.dK aa) from I.hok a _ ea);obtain ⟨o,es,ep,h1,h2,_⟩:=p;exact PySem.W.kia_one PySem.W.kitx_dict I.kIn ⟨o,h1,h2.1⟩ e (fun z=>nomatch z) h
 | @dT a aa ea =>
  cases (show u=Value.ref a from rx);obtain ⟨_,_,xs,_,o,es,ep,h1,h2,_⟩:=(show jy X.prog X.w H s.heap a (.dT aa) from I.hok a _ ea);exact PySem.W.kia_one PySem.W.kitx_dict I.kIn ⟨o,h1,h2.1⟩ e (fun z=>nomatch z) h
 | @ins a C dx fs ea cl ha hn i8 hm =>
  cases (show u=Value.ref a from rx);obtain ⟨mA,O,_⟩:=a5h I.hok ea;obtain ⟨od,J,_⟩:=O.look;exact PySem.W.kia_one (PySem.W.kitx_own (cl.get _) cl.hd ha hn i8 hm) I.kIn J e (fun z=>nomatch z) h
end
end L2
namespace L2
open PySem PySem.Spec PyProof.Rows
structure zy (k:Nat) (A:Around):Prop where
 hd:A.handled=none
 dp:A.depth+3 * k+5<recursionLimit
 un:A.units+16 * k+200<cLine
theorem zy.mono {j k:Nat} {A:Around} (r:zy k A) (h:j<=k):zy j A:=⟨r.hd,by have:=r.dp; omega,by have:=r.un; omega⟩
theorem zy.deeper {k:Nat} {A:Around} (r:zy (k+1) A) (env:Env):zy k (A.deeper env) :=
 ⟨r.hd,by have:=r.dp; show A.depth+1+3 * k+5<_; omega,by have:=r.un; show A.units+3+16 * k+200<_; omega⟩
theorem U4 {A:Around} {C:Addr} {us:List Value} {kw:List (Str × Value)}:(A.under (.builtin "type.__call__" ⟨.ref C::us,kw⟩)).depth=A.depth+1:=by
 first | rfl | simp [Around.under,Code.weight,Code.isCreation,Code.isGuard,Code.isCaller,Code.frames,Code.isFrame,guardIds]
theorem Tt {A:Around} {C:Addr} {us:List Value} {kw:List (Str × Value)}:(A.under (.builtin "type.__call__" ⟨.ref C::us,kw⟩)).units=A.units+1:=by
 first | rfl | simp [Around.under,Code.cUnits,Code.frames,Code.isFrame]
theorem zy.make {k:Nat} {A:Around} (r:zy (k+1) A) (C:Addr) (us:List Value) (kw:List (Str × Value)):zy k (A.under (.builtin "type.__call__" ⟨.ref C::us,kw⟩)) :=
 ⟨r.hd,by have:=r.dp; rw [U4]; omega,by have:=r.un; rw [Tt]; omega⟩
theorem zy.depth {k:Nat} {A:Around} (r:zy k A):A.depth<recursionLimit:=by have:=r.dp; omega
theorem zy.units {k:Nat} {A:Around} (r:zy k A):A.units+64<cLine:=by have:=r.un; omega
def a9s:TA:=fun _ H Q=>Q [] H
def Zo (ta:TE) (tr:TA):TA:=fun σ H Q=>ta σ H fun x H1=>tr σ H1 fun xs H2=>Q (x::xs) H2
section
variable {X:Cx} {e:Expr} {es:List Expr} {te:TE} {t:TA} {pos:Pos}
theorem wg:PA X [] a9s:=fun _ _ _ _ H Q I h=>Calls.spliced_nil ⟨[],H,I,.nil,h⟩
theorem nq (ha:PE X e te) (hr:PA X es t) (hs:starEach (e::es) X.env=(false,eval e X.env)::starEach es X.env:=by rfl):PA X (e::es) (Zo te t):=by
 intro pos pins s σ H Q I h;rw [hs];show wpAny _ _ (spliced ((false,eval e X.env)::backTo pos (starEach es X.env))) _ _ s;refine Calls.spliced_cons (thn (ha pins s σ H _ I h) fun u s1 z0=>?_);obtain ⟨x,H1,I1,r1,q1⟩:=z0;exact thn (hr pos pins s1 σ H1 _ I1 q1) fun us s2 ⟨xs,H2,I2,r2,q2⟩=>⟨x::xs,H2,I2,.cons r1 r2,q2⟩
noncomputable def ach (t:TA):TE:=fun σ H Q=>t σ H fun xs H1=>xs.length<=sizeLine/\∀ p,H1 p=none->Q (.ref p) (upd H1 p (.tup xs))
noncomputable def ac3 (t:TA):TE:=fun σ H Q=>t σ H fun xs H1=>xs.length<=sizeLine/\∀ p,H1 p=none->Q (.ref p) (upd H1 p (.lst xs))
theorem a2f {x1} (h:PA X es t):PE X (.Tuple es x1 pos) (ach t):=by
 intro pins s σ H Q I hq;refine wpAny_Tuple_spliced (thn (h pos pins s σ H _ I hq) fun us s1 ⟨xs,H1,I1,r,z,q⟩=>⟨by rw [<- r.length]; exact z,?_⟩);have hf:H1 s1.heap.objs.size=none:=I1.hok.fresh (Nat.le_refl _);refine ⟨.ref s1.heap.objs.size,upd H1 s1.heap.objs.size (.tup xs),I1.laid (t':=s1.toks) (fun b u e=>Heap.get?_push_of_some _ e) (Nat.le_refl _) ?_,rfl,q _ hf⟩;exact ⟨z,us,r,⟨_,Heap.get?_push_size _ rfl,rfl,rfl,_,rfl⟩⟩
theorem Xo (h:PA X es t):PE X (.List es pos) (ac3 t):=by
 intro pins s σ H Q I hq;refine wpAny_List_spliced (thn (h pos pins s σ H _ I hq) fun us s1 ⟨xs,H1,I1,r,z,q⟩=>⟨by rw [<- r.length]; exact z,?_⟩);have hf:H1 s1.heap.objs.size=none:=I1.hok.fresh (Nat.le_refl _);refine ⟨.ref s1.heap.objs.size,upd H1 s1.heap.objs.size (.lst xs),I1.laid (t':=s1.toks) (fun b u e=>Heap.get?_push_of_some _ e) (Nat.le_refl _) ?_,rfl,q _ hf⟩;exact ⟨z,us,0,r,Heap.get?_push_size _ rfl⟩
end
abbrev Sp:=List V->Hp->VK->XK->Prop
abbrev CXT:=List Env->Hp->Shared->XK->Value->Shared->Prop
structure Zu (P:Program) (w:World) (K:PySem.W.Frag) (mg:Str->Option Value) (base:Heap) (A:Around) (outer:List Env) (s:Shared) (H:Hp):Prop where
 frames:A.frames=some outer
 mod:Mod K mg base
 bs:∀ b o,base.get? b=some o->s.heap.get? b=some o/\H b=none
 bsz:base.objs.size<=s.heap.objs.size
 Ko:s.heap.FunFrames base outer
 frf:∀ b∈frs outer,H b=none
 hok:HOk P w H s.heap
 bare:AllBare s.gens
def CE (outer:List Env) (P:Program) (w:World) (H:Hp) (s:Shared) (Q:VK) (u:Value) (s':Shared):Prop :=
 ∃ v H',s'.os=s.os/\AllBare s'.gens/\Un (frs outer) [] H H' s.heap s'.heap/\HOk P w H' s'.heap/\RelV v u/\Q v H'
def CR (CX:CXT) (outer:List Env) (P:Program) (w:World) (H:Hp) (s:Shared) (Q:VK) (E:XK) (r:Result) (s':Shared):Prop :=
 match r with
 | .ok (.ret u)=>CE outer P w H s Q u s'
 | .ok _=>False
 | .error e=>CX outer H s E e s'
structure qz (P:Program) (w:World) (K:PySem.W.Frag) (mg:Str->Option Value) (base:Heap) (CX:CXT) (k:Nat) (f:Addr) (fd:FuncData) (ps:List Str) (sp:Sp):Prop where
 len:∀ vs H Q E,sp vs H Q E->vs.length=ps.length
 run:∀ (A:Around) (outer:List Env) (s:Shared) (H:Hp) (args:Args) (us:List Value) (vs:List V) (Q:VK) (E:XK),zy k A->Zu P w K mg base A outer s H->BindsTo s fd args (ps.zip us)->Vals vs us->sp vs H Q E ->
  codeAny (model P w) A (.call (.ref f) args) (CR CX outer P w H s Q E) s
theorem qz.mono {P:Program} {w:World} {K:PySem.W.Frag} {mg:Str->Option Value} {base:Heap} {CX:CXT} {j k:Nat} {f:Addr} {fd:FuncData} {ps:List Str} {sp:Sp} (F:qz P w K mg base CX j f fd ps sp) (h:j<=k) :
  qz P w K mg base CX k f fd ps sp:=⟨F.len,fun A outer s H args us vs Q E hr=>F.run A outer s H args us vs Q E (hr.mono h)⟩
theorem qz.imp {P:Program} {w:World} {K:PySem.W.Frag} {mg:Str->Option Value} {base:Heap} {CX:CXT} {k:Nat} {f:Addr} {fd:FuncData} {ps:List Str} {sp i9:Sp} (F:qz P w K mg base CX k f fd ps sp)
  (h:∀ vs H Q E,i9 vs H Q E->sp vs H Q E):qz P w K mg base CX k f fd ps i9 :=
 ⟨fun vs H Q E q=>F.len vs H Q E (h _ _ _ _ q),fun A outer s H args us vs Q E hr he hb hv hs=>F.run A outer s H args us vs Q E hr he hb hv (h _ _ _ _ hs)⟩
theorem Zu.make {P:Program} {w:World} {K:PySem.W.Frag} {mg:Str->Option Value} {base:Heap} {A:Around} {outer:List Env} {s:Shared} {H:Hp} (e:Zu P w K mg base A outer s H) (C:Addr) (us:List Value) (kw:List (Str × Value)) :
  Zu P w K mg base (A.under (.builtin "type.__call__" ⟨.ref C::us,kw⟩)) outer s H:=⟨by first | exact e.frames | (simpa [Around.under,Code.envs,Code.isFrame,pushEnvs] using e.frames),e.mod,e.bs,e.bsz,e.Ko,e.frf,e.hok,e.bare⟩
section
variable {X:Cx} {pins:List (Addr × Obj)} {σ:St} {H:Hp} {s s':Shared}
theorem Inv.env0 (I:Inv X pins σ H s):Zu X.prog X.w X.K X.mg X.base X.A X.stack s H :=
 ⟨I.ok.frames,I.ok.mod,I.bs,Nat.le_trans I.ok.bsz I.sz,I.stack,I.Ju,I.hok,I.bare⟩
theorem Inv.after {Q:VK} {u:Value} (I:Inv X pins σ H s) (h:CE X.stack X.prog X.w H s Q u s'):EP X pins σ Q u s':=by
 obtain ⟨v,H',os,bare,un,hok,r,q⟩:=h;obtain ⟨hh,g,d,t,os'⟩:=s';obtain rfl:os'=s.os:=os;exact ⟨v,H',I.call (h':=hh) (g':=g) (d':=d) (t':=t) (ch:=[]) un hok bare (fun b z=>absurd z (by simp)),r,q⟩
end
def aaf (sp:Sp) (dvs:List V) (E:XK) (t:TA):TE:=fun σ H Q=>t σ H fun vs H1=>sp (vs++dvs) H1 Q E
def Binds (K:PySem.W.Frag) (fd:FuncData) (ps:List Str) (ds:List Value):Prop :=
 ∀ (s:Shared) (us:List Value),K.In s.heap->(us++ds).length=ps.length->BindsTo s fd ⟨us,[]⟩ (ps.zip (us++ds))
theorem Binds.all {K:PySem.W.Frag} {fd:FuncData} {ps:List Str} (h:∀ us:List Value,us.length=ps.length->bindArgs fd ⟨us,[]⟩=pure (ps.zip us)):Binds K fd ps []:=fun s us _ hl=>by
 rw [List.append_nil] at hl ⊢;exact .of_eq (h us hl)
def Passes (CX:CXT) (X:Cx) (E:XK):Prop:=∀ (pins:List (Addr × Obj)) (σ:St) (H:Hp) (s:Shared) (e:Value) (s':Shared),Inv X pins σ H s->CX X.stack H s E e s'->X.xe e s'
section
variable {X:Cx} {CX:CXT} {k:Nat} {f C:Addr} {fd:FuncData} {ps:List Str} {sp:Sp} {dvs:List V} {ds:List Value} {E:XK} {x m:Str} {p pos apos:Pos} {e o:Expr} {es:List Expr} {ta:TE} {t:TA}
theorem a3m {pins:List (Addr × Obj)} {σ:St} {H:Hp} {s:Shared} {Q:VK} {us:List Value} {vs:List V} (F:qz X.prog X.w X.K X.mg X.base CX k f fd ps sp) (hr:zy k X.A) (hb:Binds X.K fd ps ds) (hd:Vals dvs ds) (hx:Passes CX X E)
  (I:Inv X pins σ H s) (r:Vals vs us) (h:sp (vs++dvs) H Q E):wpAny (model X.prog X.w) X.A (call (.ref f) us) (EP X pins σ Q) X.xe s:=by
 have r2:Vals (vs++dvs) (us++ds):=r.append hd;have hl:(us++ds).length=ps.length:=by rw [<- r2.length]; exact F.len _ _ _ _ h
 refine wpAny_call (codeAny_mono (F.run X.A X.stack s H ⟨us,[]⟩ (us++ds) (vs++dvs) Q E hr I.env0 (hb s us I.kIn hl) r2 h) fun r s' hq=>?_);cases r with
 | error e=>exact hx pins σ H s e s' I hq
 | ok fl =>
  cases fl with
  | ret u=>exact I.after hq
  | next=>exact False.elim hq
  | brk=>exact False.elim hq
  | cont=>exact False.elim hq
theorem a4j (F:qz X.prog X.w X.K X.mg X.base CX k f fd ps sp) (hr:zy k X.A) (hg:Gl X x) (hm:X.mg x=some (.ref f)) (hk:PySem.W.keepIn X.K (.ref f)=true) (hb:Binds X.K fd ps ds) (hd:Vals dvs ds) (hx:Passes CX X E)
  (ha:PA X (e::es) t) (bI:(x==("__debug__" : Str))=false:=by decide) (he:starEach (e::es) X.env=(false,eval e X.env)::starEach es X.env:=by rfl) (bB:(backTo pos (starEach es X.env)).any (·.1)=false:=by rfl) :
  PE X (.Call (.Name x p) (e::es) [] pos) (aaf sp dvs E t):=by
 intro pins s σ H Q I h;refine wpAny_Call_Name_kw (Ih I hg hm ?_ bI);refine PySem.W.callWith_K (h₀:=X.base) I.ok.mod.kin hk (thn (ha pos pins s σ H _ I h) fun us s1 ⟨vs,H1,I1,r,q⟩=>⟨I1.kIn,?_⟩) he bB;exact a3m F hr hb hd hx I1 r q
structure Mk (K:PySem.W.Frag) (C f:Addr):Prop where
 makes:PySem.W.makesIn K C=true
 init:PySem.W.findIn K (.ref C) "__init__" = some (some (.ref f))
 fn:PySem.W.isFn K (.ref f)=true
 kp:PySem.W.keepIn K (.ref C)=true
end
section
variable {X:Cx} {CX:CXT} {k:Nat} {f C:Addr} {fd:FuncData} {ps ks:List Str} {sp:Sp} {E:XK} {x m:Str} {p pos apos kO:Pos} {e o:Expr} {es:List Expr} {ly:List Keyword} {te ta:TE} {t tk:TA} {nm:Option Str}
structure abv (K:PySem.W.Frag) (fd:FuncData) (ps ks:List Str) (g:List Value->List Value->List Value) (gV:List V->List V->List V):Prop where
 to:∀ (s:Shared) (us ws:List Value),K.In s.heap->(g us ws).length=ps.length->BindsTo s fd ⟨us,ks.zip ws⟩ (ps.zip (g us ws))
 rel:∀ {vs:List V} {us:List Value} {zs:List V} {ws:List Value},Vals vs us->Vals zs ws->Vals (gV vs zs) (g us ws)
variable {g:List Value->List Value->List Value} {gV:List V->List V->List V}
end
structure jc (N P:List Str) (sc:Scope):Prop where
 kind:sc.kind=.function
 co:sc.isCoroutine=false
 gen:sc.isGenerator=false
 nd:N.Nodup
 pre:N.take P.length=P
 par:∀ x∈P,sc.names.lookup x=some .local\/sc.names.lookup x=some .cell
 nofree:∀ y∈sc.names,y.2≠.free
theorem M5 {kindOf:Str->Option NameKind} {x:Str}:∀ {binds:List (Str × Value)} {m:Str->Option Value},(∀ v,(x,v)∉binds)->bindL kindOf binds m x=m x
 | [],_,_=>rfl
 | (n,v)::r,m,h=>by
  unfold bindL;rw [M5 fun w hw=>h w (List.mem_cons_of_mem _ hw)];split
  ·have:x≠n:=by rintro rfl; exact h v List.mem_cons_self
   simp [this]
  ·rfl
theorem Nb {kindOf:Str->Option NameKind} {x:Str}:∀ {binds:List (Str × Value)} {m:Str->Option Value},(∀ v,(x,v)∉binds)->bindC kindOf binds m x=m x
 | [],_,_=>rfl
 | (n,v)::r,m,h=>by
  unfold bindC;rw [Nb fun w hw=>h w (List.mem_cons_of_mem _ hw)];split
  ·rfl
  ·have:x≠n:=by rintro rfl; exact h v List.mem_cons_self
   simp [this]
theorem Lg {kindOf:Str->Option NameKind} {x:Str} {v:Value}:∀ {P:List Str} {vs:List Value} {i:Nat} {m:Str->Option Value},P.Nodup->P[i]? = some x->vs[i]? = some v->kindOf x=some .local ->
  bindL kindOf (P.zip vs) m x=some v
 | [],_,_,_,_,h,_,_=>by simp at h
 | _::_,[],_,_,_,_,h,_=>by simp at h
 | p::P,w::vs,0,m,nd,h1,h2,hk=>by
  simp at h1 h2; subst h1; subst h2;show bindL kindOf ((p,w)::P.zip vs) m p=_;unfold bindL;rw [M5 fun v hv=>(List.nodup_cons.mp nd).1 (List.of_mem_zip hv).1,if_pos hk];simp
 | p::P,w::vs,i+1,m,nd,h1,h2,hk=>by
  show bindL kindOf ((p,w)::P.zip vs) m x=_;unfold bindL;exact Lg (i:=i) (List.nodup_cons.mp nd).2 (by simpa using h1) (by simpa using h2) hk
theorem Mz {kindOf:Str->Option NameKind} {x:Str} {v:Value}:∀ {P:List Str} {vs:List Value} {i:Nat} {m:Str->Option Value},P.Nodup->P[i]? = some x->vs[i]? = some v->kindOf x≠some .local ->
  bindC kindOf (P.zip vs) m x=some v
 | [],_,_,_,_,h,_,_=>by simp at h
 | _::_,[],_,_,_,_,h,_=>by simp at h
 | p::P,w::vs,0,m,nd,h1,h2,hk=>by
  simp at h1 h2; subst h1; subst h2;show bindC kindOf ((p,w)::P.zip vs) m p=_;unfold bindC;rw [Nb fun v hv=>(List.nodup_cons.mp nd).1 (List.of_mem_zip hv).1,if_neg hk];simp
 | p::P,w::vs,i+1,m,nd,h1,h2,hk=>by
  show bindC kindOf ((p,w)::P.zip vs) m x=_;unfold bindC;exact Mz (i:=i) (List.nodup_cons.mp nd).2 (by simpa using h1) (by simpa using h2) hk
def start (N:List Str) (vs:List V):St:=vs.map some++List.replicate (N.length - vs.length) none
noncomputable def Og (CX:CXT) (P:Program) (w:World) (K:PySem.W.Frag) (mg:Str->Option Value) (base:Heap) (N:List Str) (qual:Str) (scope:Scope) (f:Addr) (cd:Value) (A:Around) (outer:List Env) (s:Shared) (H:Hp) (E:XK):Cx where
 prog:=P
 w:=w
 K:=K
 mg:=mg
 base:=base
 A:=A.deeper (envOfC qual scope s.heap.objs.size f cd)
 N:=N
 s₀:=s
 H₀:=H
 env:=envOfC qual scope s.heap.objs.size f cd
 outer:=outer
 stack:=envOfC qual scope s.heap.objs.size f cd::outer
 ex:=[]
 calm:=true
 fn:=fun _=>true
 pn:=[]
 xe:=fun e s'=>wpAny (model P w) (A.deeper (envOfC qual scope s.heap.objs.size f cd)) (leaving (envOfC qual scope s.heap.objs.size f cd) e) (fun _ ib=>CX outer H s E e ib) (fun e' ib=>CX outer H s E e' ib) s'
theorem Q8 {sc:Scope} {n:Nat} {x:Str} (h:sc.names.lookup x=some .cell):∃ c,(cellsFrom n sc.names []).lookup x=some c:=by
 have q:=PySem.W.cellsFrom_some sc.names n [] (.inl h);exact Option.isSome_iff_exists.mp q
theorem W5 {CX:CXT} {P:Program} {w:World} {K:PySem.W.Frag} {mg:Str->Option Value} {base:Heap} {N ps:List Str} {qual:Str} {scope:Scope} {f:Addr} {cd:Value} {A:Around} {outer:List Env} {s s1:Shared} {H:Hp} {E:XK} {us:List Value} {vs:List V}
  (S:jc N ps scope) (hd:A.handled=none) (e0:Zu P w K mg base A outer s H) (hl:vs.length=ps.length) (r:Vals vs us)
  (x:InCallC s s.heap.objs.size (bindL (envOfC qual scope s.heap.objs.size f cd).kindOf (ps.zip us) fun _=>none) (cellsFrom (s.heap.objs.size+1) scope.names []) (bindC (envOfC qual scope s.heap.objs.size f cd).kindOf (ps.zip us) fun _=>none) s1) :
  Inv (Og CX P w K mg base N qual scope f cd A outer s H E) [] (start N vs) H s1:=by
 have bB:ps.length<=N.length:=by have:=congrArg List.length S.pre; rw [List.length_take] at this; omega
 obtain ⟨h1,tk,rfl,hk⟩:=x.done;have eP:∀ b:Addr,b∉(Og CX P w K mg base N qual scope f cd A outer s H E).ex:=fun b z=>absurd (show b∈([]:List Addr) from z) (by simp)
 refine ⟨⟨e0.mod,S.kind,rfl,rfl,Nat.le_refl _,fun y z c h1 h2=>?_,fun y hy=>?_,fun y c _ h=>?_,fun _=>hd,Around.frames_deeper e0.frames,.inr ⟨rfl,rfl⟩,fun b z=>absurd z (eP b),e0.bs,e0.bsz,fun b _ _=>eP b,fun b z=>absurd z (eP b),e0.Ko,e0.frf⟩,
  rfl,e0.bare,Un.kept hk,⟨_,x.toInCall.ns,fun i y v h1 h2 h3=>?_⟩,fun y c h=>⟨_,x.cell y c h⟩,e0.hok.fresh (Nat.le_refl _),fun y c h=>?_,fun p hp=>absurd (show p∈([]:List (Addr × Obj)) from hp) (by simp),e0.hok.kept hk,?_⟩
 ·exact name_of_addr x.apart (PySem.mem_of_lookup h1) (PySem.mem_of_lookup h2)
 ·have hy:scope.names.lookup y=some .cell\/scope.names.lookup y=some .free:=hy;rcases hy with hy | hy
  ·exact Q8 hy
  ·exact absurd rfl (S.nofree _ (PySem.mem_of_lookup hy))
 ·exact Nat.le_of_lt (x.above y c (PySem.mem_of_lookup h))
 ·have hi:i<vs.length:=by
   unfold start at h2
   by_cases hi:i<vs.length
   ·exact hi
   ·rw [List.getElem?_append_right (by simpa using hi)] at h2;rw [List.getElem?_replicate] at h2;split at h2 <;> cases h2
  have ha:vs[i]? = some v:=by
   unfold start at h2;rw [List.getElem?_append_left (by simpa using hi),List.getElem?_map] at h2;cases e:vs[i]? with
   | none=>rw [e] at h2; cases h2
   | some a=>rw [e] at h2; cases h2; rfl
  obtain ⟨u,hu,rv⟩:=r.get ha
  have hp:ps[i]? = some y:=by
   rw [<- S.pre,List.getElem?_take_of_lt (by omega)]; exact h1
  have jG:ps.Nodup:=by rw [<- S.pre]; exact S.nd.sublist (List.take_sublist _ _)
  refine ⟨u,rv,?_⟩;rcases S.par y (List.mem_of_getElem? hp) with k | k
  ·exact .inl ⟨k,Lg jG hp hu k⟩
  ·obtain ⟨c,e⟩:=Q8 (n:=s.heap.objs.size+1) k;refine .inr ⟨.inl k,c,e,?_⟩;have q:=x.cell y c e;rw [Mz jG hp hu (by show scope.names.lookup y≠_; rw [k]; decide)] at q;exact q
 ·exact e0.hok.fresh (Nat.le_of_lt (x.above y c (PySem.mem_of_lookup h)))
 ·unfold start;show _=N.length;rw [List.length_append,List.length_map,List.length_replicate];omega
theorem Yo {CX:CXT} {P:Program} {w:World} {K:PySem.W.Frag} {mg:Str->Option Value} {base:Heap} {k:Nat} {f:Addr} {name qual:Str} {params:Arguments} {body:List Stmt} {scope:Scope} {dV kV doc pm aS ct oc:Value} {an od:Option Addr}
  {cM:Array (Option Value)} {N ps:List Str} {sp:Sp} (lk:K.lookup f=some ⟨oc,od,.func (PySem.W.fnOf name qual params body scope dV kV doc pm an aS ct),cM⟩) (bG:PySem.W.codeIn K aS qual=true) (S:jc N ps scope)
  (len:∀ vs H Q E,sp vs H Q E->vs.length=ps.length)
  (cm:∀ (A:Around) (outer:List Env) (s:Shared) (H:Hp) (vs:List V) (Q:VK) (E:XK),zy k (A.deeper (envOfC qual scope s.heap.objs.size f aS))->sp vs H Q E ->
   ∃ t,PSs (Og CX P w K mg base N qual scope f aS A outer s H E) body t/\t { nx:=fun _ H'=>Q .non H',rt:=Q } (start N vs) H) :
  qz P w K mg base CX (k+1) f (PySem.W.fnOf name qual params body scope dV kV doc pm an aS ct) ps sp:=by
 refine ⟨len,fun A outer s H args us vs Q E hr e0 hb r dD=>?_⟩;have hl:=len _ _ _ _ dD;have KX:K.In s.heap:=e0.mod.kin.keeps fun b o e=>(e0.bs b o e).1;have lim:s.heap.NoLimit:=e0.mod.nolimit.keeps fun b o e=>(e0.bs b o e).1
 have gc:∀ y∈ps.zip us,scope.names.lookup y.1=some .local\/(scope.names.lookup y.1=some .cell/\((cellsFrom (s.heap.objs.size+1) scope.names []).lookup y.1).isSome=true):=fun ⟨n,v⟩ hy=>by
  rcases S.par n (List.of_mem_zip hy).1 with q | q
  ·exact .inl q
  ·exact .inr ⟨q,PySem.W.cellsFrom_some _ _ _ (.inl q)⟩
 refine codeAny_call_function hr.depth (KX _ _ lk) rfl S.co S.gen rfl (PySem.W.codeRec_of KX bG) (hb _ _ _ _ ?_);refine wpAny_newFunctionEnv_cells S.kind gc fun env he s1 x=>?_;subst he;refine ⟨lim.keeps x.toInCall.keep,codeAny_func ?_⟩;obtain ⟨t,ht,hq⟩:=cm A outer s H vs Q E (hr.deeper _) dD;have I:Inv (Og CX P w K mg base N qual scope f aS A outer s H E) [] (start N vs) H s1:=W5 S hr.hd e0 hl r x;refine wpAny_mono (ht [] s1 (start N vs) H _ I hq) (fun fl s' hs=>?_) fun e s' hs=>hs
 have fin:∀ {σ':St} {H':Hp} {v:V} {u:Value},Inv (Og CX P w K mg base N qual scope f aS A outer s H E) [] σ' H' s'->RelV v u->Q v H'->CE outer P w H s Q u s' :=
  fun {σ' H' v u} J rv q=>⟨v,H',J.os,J.bare,J.base,J.hok,rv,q⟩
 cases fl with
 | ret u =>
  obtain ⟨v,σ',H',J,rv,q⟩:=hs;exact fin J rv q
 | next =>
  obtain ⟨σ',H',J,q⟩:=hs;exact fin (v:=V.non) (u:=Value.none) J rfl q
 | brk =>
  obtain ⟨_,_,_,q⟩:=hs;exact False.elim q
 | cont =>
  obtain ⟨_,_,_,q⟩:=hs;exact False.elim q
end L2
namespace L2
open PySem PySem.Spec PyProof.Rows
section
variable {X:Cx} {x:Str} {p pos:Pos} {e:Expr} {es:List Expr} {t:TA} {id T:String} {r:List V->Hp->VK->Prop}
def tCB (r:List V->Hp->VK->Prop) (t:TA):TE:=fun σ H Q=>t σ H fun vs H1=>r vs H1 Q
theorem Ca (hc:Dy X (.builtin id) r) (hg:Gl X x) (hm:X.mg x=none) (hv:bootBuiltins x=some (.builtin id)) (ha:PA X (e::es) t) (hn:x ≠ "__name__" := by decide) (bI:(x==("__debug__" : Str))=false:=by decide)
  (he:starEach (e::es) X.env=(false,eval e X.env)::starEach es X.env:=by rfl) (bB:(backTo pos (starEach es X.env)).any (·.1)=false:=by rfl):PE X (.Call (.Name x p) (e::es) [] pos) (tCB r t):=by
 intro pins s σ H Q I h;refine wpAny_Call_Name_kw (Ht I hg hm hv ?_ hn bI);exact PyProof.Rows.callWith_builtin1 (thn (ha pos pins s σ H _ I h) fun us s1 z7=>by obtain ⟨vs,H1,I1,r1,q1⟩:=z7; exact hc pins s1 σ H1 vs us Q I1 r1 q1) he bB
theorem vh (hc:Dy X (.type T) r) (hg:Gl X x) (hm:X.mg x=none) (hv:bootBuiltins x=some (.type T)) (ha:PA X (e::es) t) (hn:x ≠ "__name__" := by decide) (bI:(x==("__debug__" : Str))=false:=by decide)
  (he:starEach (e::es) X.env=(false,eval e X.env)::starEach es X.env:=by rfl) (bB:(backTo pos (starEach es X.env)).any (·.1)=false:=by rfl):PE X (.Call (.Name x p) (e::es) [] pos) (tCB r t):=by
 intro pins s σ H Q I h;refine wpAny_Call_Name_kw (Ht I hg hm hv ?_ hn bI);exact PyProof.Rows.callWith_type1 (thn (ha pos pins s σ H _ I h) fun us s1 z7=>by obtain ⟨vs,H1,I1,r1,q1⟩:=z7; exact hc pins s1 σ H1 vs us Q I1 r1 q1) he bB
end
end L2
end
section
namespace HT
open PySem PyProof.Rows
section
open PySem.SeqAt
open PySem.AutoSeq1 (wpAny_loadPart')
open PySem.MeetsSeq PySem.MeetsSeq2 PySem.MeetsSeq3
end
section
variable {prog:Program} {w:World} {A:Around} {E:Value->Shared->Prop} {s:Shared}
theorem a5p {t b:Addr} {vs ws:List Value} {Q:Value->Shared->Prop} (ht:IsTup s.heap t vs.toArray) (hb:IsTup s.heap b ws.toArray) (hv:vs≠[])
  (h1:ws=[]->Q (.ref t) s) (h2:ws≠[]->Q (.ref s.heap.objs.size) { s with heap:=s.heap.push { cls:=.type "tuple",data:=.seq (vs++ws).toArray } })
  (bE:vs.length+ws.length<=sizeLine):wpAny (model prog w) A (binaryOp .Add (.ref t) (.ref b)) Q E s:=by
 obtain ⟨⟨cls,dd,data,sl⟩,ho,hc,n,hd⟩:=id ht;obtain ⟨⟨cls2,dd2,data2,sl2⟩,ho2,hc2,n2,hd2⟩:=id hb;simp only at hc hd hc2 hd2;subst hc hd hc2 hd2;have e:vs.toArray++ws.toArray=(vs++ws).toArray:=by simp
 by_cases hw:ws=[]
 ·exact concat_meets ⟨_,ho,rfl⟩ ⟨_,ho2,rfl⟩ noFill_tuple_add seq_tuple_add PySem.F.slot_tuple_add PySem.F.entry_tuple_add (PySem.F.args_tuple_add_2 _ _)
   (tuple_addW1 t b vs.toArray ws.toArray n n2 dd dd2 sl sl2 (by simpa using hv) (by simp [hw])) ⟨ho,ho2,h1 hw⟩
 ·refine concat_meets ⟨_,ho,rfl⟩ ⟨_,ho2,rfl⟩ noFill_tuple_add seq_tuple_add PySem.F.slot_tuple_add PySem.F.entry_tuple_add (PySem.F.args_tuple_add_2 _ _)
   (tuple_addW2 t b vs.toArray ws.toArray n n2 dd dd2 sl sl2 (by simpa using hv) (by simpa using hw) (by rw [List.size_toArray,List.size_toArray]; exact bE)) ⟨ho,ho2,?_⟩
  rw [e];exact h2 hw
noncomputable def sIx (n d:Nat):Option Int->Nat
 | none=>d
 | some v=>if v<0 then (v+(n:Int)).toNat else min v.toNat n
theorem a85 (n d:Nat) (hd:d<=n) (o:Option Int):sIx n d o<=n:=by
 cases o with
 | none=>exact hd
 | some v =>
  show (if v<0 then (v+(n:Int)).toNat else min v.toNat n)<=n
  by_cases hv:v<0
  ·rw [if_pos hv]; omega
  ·rw [if_neg hv]; exact Nat.min_le_right _ _
theorem V0 (v:Int) (n d:Nat):(if v<0 then max (v+(n:Int)) 0 else min v (n:Int))=((sIx n d (some v):Nat):Int):=by
 show (if v<0 then max (v+(n:Int)) 0 else min v (n:Int))=(((if v<0 then (v+(n:Int)).toNat else min v.toNat n):Nat):Int)
 by_cases hv:v<0
 ·simp only [if_pos hv]; omega
 ·simp only [if_neg hv]; omega
theorem Ru (lo hi:Option Int) (n:Nat):Builtin.Slice.sliceAdjust lo hi 1 (n:Int)=(((sIx n 0 lo:Nat):Int),((sIx n n hi:Nat):Int)):=by
 have h1:¬ ((1:Int)<0):=by omega
 unfold Builtin.Slice.sliceAdjust;simp only [h1,if_false];refine Prod.ext ?_ ?_
 ·cases lo with
  | none=>rfl
  | some v=>exact V0 v n 0
 ·cases hi with
  | none=>rfl
  | some v=>exact V0 v n n
theorem T6 (i j:Nat):Builtin.Slice.slicePlaces (i:Int) (j:Int) 1=j - i:=by
 unfold Builtin.Slice.slicePlaces;have h1:(1:Int) > 0:=by omega
 simp only [h1,if_true,Int.ediv_one];split <;> omega
theorem zj {v:Value} {o:Option Int} {Q:Option Int->Shared->Prop} (p:IsPart v o) (h:Q o s):wpAny (model prog w) A (Builtin.Slice.slicePartIndex v) Q E s:=by
 cases p with
 | none=>exact slicePart_none h
 | int i t=>exact slicePart_int h
theorem Fi {sl:Addr} {vl vu:Value} {lo hi:Option Int} {n:Nat} {Q:Int × Int × Nat->Shared->Prop} (hs:s.heap.IsSliceOf sl vl vu .none) (pl:IsPart vl lo) (pu:IsPart vu hi)
  (h:Q (((sIx n 0 lo:Nat):Int),1,sIx n n hi - sIx n 0 lo) s):wpAny (model prog w) A (Builtin.Slice.sliceApplied (.ref sl) (pure (n:Int))) Q E s:=by
 obtain ⟨os,eK,hcs,hds⟩:=id hs;unfold Builtin.Slice.sliceApplied Builtin.Slice.sliceFields;refine wpAny_bind (wpAny_bind (wpAny_field eK hds (x:=vl) rfl (wpAny_bind (wpAny_field eK hds (x:=vu) rfl (wpAny_bind (wpAny_field eK hds (x:=.none) rfl (wpAny_pure ?_)))))));refine wpAny_bind (slicePart_none ?_);show wpAny _ _ (if ((1:Int)==0)=true then _ else _) _ _ s;rw [if_neg (by decide)];refine wpAny_bind (zj pl (wpAny_bind (zj pu (wpAny_bind (wpAny_pure ?_)))));show wpAny _ _ (match Builtin.Slice.sliceAdjust lo hi 1 (n:Int) with | (lo,hi)=>pure (lo,(1:Int),Builtin.Slice.slicePlaces lo hi 1)) _ _ s;rw [Ru lo hi n];show wpAny _ _ (pure (((sIx n 0 lo:Nat):Int),(1:Int),Builtin.Slice.slicePlaces ((sIx n 0 lo:Nat):Int) ((sIx n n hi:Nat):Int) 1)) _ _ s;rw [T6];exact wpAny_pure h
theorem a0k (xs:Array Value) (i k:Nat):((List.range k).filterMap fun (m:Nat)=>xs[((i:Int)+(m:Int) * 1).toNat]?).toArray=((xs.toList.drop i).take k).toArray:=by
 have e:(fun (m:Nat)=>xs[((i:Int)+(m:Int) * 1).toNat]?)=fun m=>xs[i+m]?:=by
  funext m;have:((i:Int)+(m:Int) * 1).toNat=i+m:=by omega
  rw [this]
 rw [e];have:=pick_run xs i k;rw [List.filterMap_map] at this;have e2:((fun x=>xs[x]?) ∘ fun x=>i+x)=fun m=>xs[i+m]?:=rfl;rw [e2] at this;rw [this]
theorem Ej {t sl:Addr} {items:Array Value} {vl vu:Value} {lo hi:Option Int} {Q:Value->Shared->Prop} (ht:IsTup s.heap t items) (hs:s.heap.IsSliceOf sl vl vu .none) (pl:IsPart vl lo) (pu:IsPart vu hi)
  (hw:¬ (sIx items.size 0 lo=0/\sIx items.size items.size hi=items.size))
  (h:Q (.ref s.heap.objs.size) { s with heap:=s.heap.push { cls:=.type "tuple",data:=.seq ((items.toList.drop (sIx items.size 0 lo)).take (sIx items.size items.size hi - sIx items.size 0 lo)).toArray } })
  (bE:items.size<=sizeLine):wpAny (model prog w) A (getItem (.ref t) (.ref sl)) Q E s:=by
 have cP:sizeOk (.seq ((items.toList.drop (sIx items.size 0 lo)).take (sIx items.size items.size hi - sIx items.size 0 lo)).toArray):=by
  show ((items.toList.drop (sIx items.size 0 lo)).take (sIx items.size items.size hi - sIx items.size 0 lo)).toArray.size<=sizeLine;rw [List.size_toArray,List.length_take,List.length_drop,Array.length_toList];omega
 have hj:sIx items.size items.size hi<=items.size:=a85 _ _ (Nat.le_refl _) hi;obtain ⟨os,eK,hcs,hds⟩:=id hs;have jM:s.TypeIs (.ref sl) "slice" := ⟨os,eK,hcs⟩;unfold getItem
 try with_reducible refine wpAny_holding ?_
 first | refine wpAny_bind (wpAny_pure ?_) | skip
 refine wpAny_bind (wpAny_sequenceKey ht.typeIs (by decide) ?_)
 refine wpAny_bind (wpAny_callSpecial?_slot (name:=Str.ofString "__getitem__") ht.typeIs PyProof.Rows.slot_tuple_getitem
  (wpAny_call_entry PyProof.Rows.slot_tuple_getitem ht.typeIs entry_tuple_getitem ?_ (args_tuple_getitem _ _)))
 show wpAny _ _ (Builtin.Tuple.tupleItemsOf (.ref t) >>= _) _ _ s;refine wpAny_bind (tupleItemsOf_ ht ?_);refine wpAny_bind (wpAny_typeOf jM ?_);rw [if_pos (by decide)];refine wpAny_bind (Fi hs pl pu ?_)
 have eC:¬ ((((sIx items.size 0 lo:Nat):Int)==0&&(1:Int)==1&&(sIx items.size items.size hi - sIx items.size 0 lo)==items.size)=true):=by
  intro q;rw [Bool.and_eq_true,Bool.and_eq_true] at q;have q1:((sIx items.size 0 lo:Nat):Int)=0:=eq_of_beq q.1.1;have q2:sIx items.size items.size hi - sIx items.size 0 lo=items.size:=eq_of_beq q.2;exact hw ⟨by omega,by omega⟩
 show wpAny _ _ (if (((sIx items.size 0 lo:Nat):Int)==0&&(1:Int)==1&&(sIx items.size items.size hi - sIx items.size 0 lo)==items.size)=true then _ else _) _ _ s;rw [if_neg eC,a0k]
 first
  | exact wpAny_bind (m:=Builtin.Tuple.tupleExact _) (wpAny_newObj_type (wpAny_pure ⟨_,rfl,wpAny_pure h⟩) cP)
  | exact wpAny_bind (m:=Builtin.Tuple.tupleExact _) (wpAny_newObj_type (wpAny_bind (wpAny_pure (wpAny_pure ⟨_,rfl,wpAny_pure h⟩))) cP)
  | exact wpAny_bind (wpAny_bind (m:=Builtin.Tuple.tupleExact _) (wpAny_newObj_type (wpAny_pure (wpAny_pure ⟨_,rfl,wpAny_pure h⟩)) cP))
  | exact wpAny_bind (wpAny_bind (m:=Builtin.Tuple.tupleExact _) (wpAny_newObj_type (wpAny_pure ⟨_,rfl,wpAny_pure h⟩) cP))
end
end HT
namespace L2
open PySem PySem.Spec PyProof.Rows
abbrev TO:=St->Hp->(Option Int->Hp->Prop)->Prop
def PO (X:Cx) (e:Option Expr) (t:TO):Prop :=
 ∀ (pins:List (Addr × Obj)) (s:Shared) (σ:St) (H:Hp) (Q:Option Int->Hp->Prop),Inv X pins σ H s->t σ H Q ->
  wpAny (model X.prog X.w) X.A (evalPart e X.env) (fun u s'=>∃ o H',Inv X pins σ H' s'/\IsPart u o/\Q o H') X.xe s
def a6e:TO:=fun _ H Q=>Q none H
def aag (t:TE):TO:=fun σ H Q=>t σ H fun x H1=>∃ i,x=.int i/\Q (some i) H1
section
variable {X:Cx} {e:Expr} {te:TE} {lo hi:Option Expr} {tl th:TO} {pos p2:Pos}
theorem a4u:PO X none a6e:=by
 intro pins s σ H Q I h;rw [evalPart_none];exact wpAny_pure ⟨none,H,I,.none,h⟩
theorem a5o (h:PE X e te):PO X (some e) (aag te):=by
 intro pins s σ H Q I hw;rw [evalPart_some];refine thn (h pins s σ H _ I hw) fun u s1 z0=>?_;obtain ⟨x,H1,I1,r1,q1⟩:=z0;obtain ⟨i,rfl,q⟩:=q1;obtain ⟨t,rfl⟩:=r1;exact ⟨some i,H1,I1,.int i t,q⟩
def SlR (X:Cx) (r:V->Option Int->Option Int->Hp->VK->Prop):Prop :=
 ∀ (pins:List (Addr × Obj)) (s:Shared) (σ:St) (H:Hp) (x:V) (v vl vu:Value) (lo hi:Option Int) (sl:Addr) (Q:VK),Inv X pins σ H s->RelV x v->s.heap.IsSliceOf sl vl vu .none->IsPart vl lo->IsPart vu hi->r x lo hi H Q ->
  ∃ T id,typeLookup (.type T) "__getitem__" = pure (some (.builtin id))/\s.TypeIs v T/\wpAny (model X.prog X.w) X.A (getItem v (.ref sl)) (EP X pins σ Q) X.xe s
theorem SlR.or {r r':V->Option Int->Option Int->Hp->VK->Prop} (h:SlR X r) (h':SlR X r'):SlR X (fun x lo hi H Q=>r x lo hi H Q\/r' x lo hi H Q):=by
 intro pins s σ H x v vl vu lo hi sl Q I rx hs pl pu q;rcases q with q | q
 ·exact h pins s σ H x v vl vu lo hi sl Q I rx hs pl pu q
 ·exact h' pins s σ H x v vl vu lo hi sl Q I rx hs pl pu q
def tSl (r:V->Option Int->Option Int->Hp->VK->Prop) (te:TE) (tl th:TO):TE:=fun σ H Q=>te σ H fun x H1=>tl σ H1 fun l H2=>th σ H2 fun u H3=>r x l u H3 Q
theorem a0c {r:V->Option Int->Option Int->Hp->VK->Prop} (hr:SlR X r) (he:PE X e te) (hl:PO X lo tl) (hu:PO X hi th):PE X (.Subscript e (.Slice lo hi none p2) pos) (tSl r te tl th):=by
 intro pins s σ H Q I h;refine Subscript_ (thn (he pins s σ H _ I h) fun v s1 z0=>?_);obtain ⟨x,H1,I1,r1,q1⟩:=z0;refine wpAny_Slice (thn (hl pins s1 σ H1 _ I1 q1) fun vl s2 ⟨l,H2,I2,pl,q2⟩=>thn (hu pins s2 σ H2 _ I2 q2) fun vu s3 ⟨u,H3,I3,pu,q3⟩=>?_);rw [evalPart_none];refine wpAny_pure ?_;have I4:Inv X pins σ H3 { s3 with heap:=s3.heap.push { cls:=.type "slice",data:=.fields #[vl,vu,.none] } }:=I3.kept (t':=s3.toks) fun b ob q=>Heap.get?_push_of_some _ q;obtain ⟨T,id,hT,ht,hg⟩:=hr pins { s3 with heap:=s3.heap.push { cls:=.type "slice",data:=.fields #[vl,vu,.none] } } σ H3 x v vl vu l u s3.heap.objs.size Q I4 r1 (Heap.IsSliceOf.new ..) pl pu q3;show wpAny (model X.prog X.w) X.A (subscriptTail e (.Slice lo hi none p2) v (.ref s3.heap.objs.size)) (EP X pins σ Q) X.xe { s3 with heap:=s3.heap.push { cls:=.type "slice",data:=.fields #[vl,vu,.none] } };exact tail_any (ops:=[.ref s3.heap.objs.size,v]) ht hT hg (by with_unfolding_all rfl)
noncomputable def Za (xs:List V) (lo hi:Option Int):List V:=(xs.drop (HT.sIx xs.length 0 lo)).take (HT.sIx xs.length xs.length hi - HT.sIx xs.length 0 lo)
theorem Gg (xs:List V) (lo hi:Option Int):(Za xs lo hi).length<=xs.length:=by
 unfold Za;rw [List.length_take,List.length_drop];omega
def aco (K:PySem.W.Frag):V->Option Int->Option Int->Hp->VK->Prop:=fun x lo hi H Q=>∃ a xs,x=.ref a/\SqT K H a xs /\
 ¬ (HT.sIx xs.length 0 lo=0/\HT.sIx xs.length xs.length hi=xs.length)/\∀ p,H p=none->Q (.ref p) (upd H p (.tup (Za xs lo hi)))
theorem a7z:SlR X (aco X.K):=by
 intro pins s σ H x v vl vu lo hi sl Q I rx hs pl pu h;obtain ⟨a,xs,rfl,hx,hw,q⟩:=h;cases rx;obtain ⟨its,r,ht,hz⟩:=I.tuple hx;have hlen:its.toArray.size=xs.length:=by rw [List.size_toArray]; exact r.length.symm
 refine ⟨"tuple",_,PyProof.Rows.slot_tuple_getitem.lookup,ht.typeIs,?_⟩;refine HT.Ej ht hs pl pu (by rw [hlen]; exact hw) ?_ (by rw [hlen]; exact hz);rw [hlen];refine ⟨.ref s.heap.objs.size,_,I.laid (t':=s.toks) (o:=.tup (Za xs lo hi)) (fun b ob q=>Heap.get?_push_of_some _ q) (Nat.le_refl _) ?_,rfl,q _ (I.hok.fresh (Nat.le_refl _))⟩;exact ⟨Nat.le_trans (Gg xs lo hi) hz,_,(r.drop (HT.sIx xs.length 0 lo)).take (HT.sIx xs.length xs.length hi - HT.sIx xs.length 0 lo),Ye.new _ _⟩
noncomputable def aah (K:PySem.W.Frag):R2:=fun x y H Q=>∃ a b xs ys,x=.ref a/\y=.ref b/\SqT K H a xs/\SqT K H b ys/\xs≠[]/\xs.length+ys.length<=sizeLine /\
 (ys=[]->Q (.ref a) H)/\(ys≠[]->∀ p,H p=none->Q (.ref p) (upd H p (.tup (xs++ys))))
theorem Vals.Ow {xs:List V} {us:List Value} (r:Vals xs us):us=[]↔xs=[]:=by
 cases r with
 | nil=>simp
 | cons _ _=>simp
theorem a4m:OpR X (binaryOp .Add) (aah X.K):=by
 intro pins s σ H x y v u Q I rx ry h;obtain ⟨a,b,xs,ys,rfl,rfl,ha,hb,hx,hz,q1,q2⟩:=h;cases rx;cases ry;obtain ⟨its,r1,p1,_⟩:=I.tuple ha;obtain ⟨its2,r2,p2,_⟩:=I.tuple hb;refine HT.a5p p1 p2 (fun z=>hx (r1.Ow.mp z)) (fun z=>⟨.ref a,H,I,rfl,q1 (r2.Ow.mp z)⟩) (fun z=>?_) (by rw [<- r1.length,<- r2.length]; exact hz);refine ⟨.ref s.heap.objs.size,_,I.laid (t':=s.toks) (o:=.tup (xs++ys)) (fun b ob q=>Heap.get?_push_of_some _ q) (Nat.le_refl _) ?_,rfl,q2 (fun w=>z (r2.Ow.mpr w)) _ (I.hok.fresh (Nat.le_refl _))⟩;exact ⟨by rw [List.length_append]; exact hz,_,r1.append r2,Ye.new _ _⟩
end
end L2
namespace L2
open PySem PySem.Spec PyProof.Rows
noncomputable def ixN (n:Nat) (i:Int):Option Nat:=if 0<=i then (if i<n then some i.toNat else none) else if -(n:Int)<=i then some (i+n).toNat else none
def atI {α:Type} (xs:List α) (i:Int):Option α:=(ixN xs.length i).bind fun j=>xs[j]?
theorem a4k {n:Nat} {i:Int} {j:Nat} (h:ixN n i=some j):seqIndex? i n=some j/\j<n/\-(n:Int)<=i/\i<n:=by
 unfold ixN at h
 by_cases h0:0<=i
 ·rw [if_pos h0] at h
  by_cases h1:i<n
  ·rw [if_pos h1] at h;have e:i.toNat=j:=Option.some.inj h;exact ⟨by rw [seqIndex_of h0 h1,e],by omega,by omega,h1⟩
  ·rw [if_neg h1] at h; cases h
 ·rw [if_neg h0] at h
  by_cases h1:-(n:Int)<=i
  ·rw [if_pos h1] at h;have e:(i+n).toNat=j:=Option.some.inj h;exact ⟨by rw [seqIndex_neg (by omega) h1,e],by omega,h1,by omega⟩
  ·rw [if_neg h1] at h; cases h
theorem Nz {α:Type} {xs:List α} {i:Int} {v:α} (h:atI xs i=some v):∃ j,seqIndex? i xs.length=some j/\xs[j]? = some v/\j<xs.length/\-(xs.length:Int)<=i/\i<xs.length:=by
 unfold atI at h;cases e:ixN xs.length i with
 | none=>rw [e] at h; cases h
 | some j =>
  rw [e] at h;obtain ⟨h1,h2,h3,h4⟩:=a4k e;exact ⟨j,h1,h,h2,h3,h4⟩
def Kc (b:Expr):Prop:=∀ o i,subscripted b false o i=operate [o,i] (getItem o i)
def IxR (X:Cx) (r:R2):Prop :=
 ∀ (value slice:Expr) (pins:List (Addr × Obj)) (s:Shared) (σ:St) (H:Hp) (x y:V) (v u:Value) (Q:VK),Inv X pins σ H s->RelV x v->RelV y u->r x y H Q ->
  subscripted slice false v u=operate [v,u] (getItem v u)->wpAny (model X.prog X.w) X.A (subscriptTail value slice v u) (EP X pins σ Q) X.xe s
def MtR (X:Cx) (id:String) (r:V->List V->Hp->VK->Prop):Prop :=
 ∀ (pins:List (Addr × Obj)) (s:Shared) (σ:St) (H:Hp) (x:V) (xs:List V) (v:Value) (us:List Value) (Q:VK),Inv X pins σ H s->RelV x v->Vals xs us->r x xs H Q ->
  wpAny (model X.prog X.w) X.A (call (.builtin id) (v::us)) (EP X pins σ Q) X.xe s
section
variable {X:Cx} {a b:Expr} {ta tb:TE} {pos:Pos}
theorem IxR.or {r r':R2} (h:IxR X r) (h':IxR X r'):IxR X (fun x y H Q=>r x y H Q\/r' x y H Q):=by
 intro value slice pins s σ H x y v u Q I rx ry q hs;rcases q with q | q
 ·exact h value slice pins s σ H x y v u Q I rx ry q hs
 ·exact h' value slice pins s σ H x y v u Q I rx ry q hs
theorem MtR.or {id:String} {r r':V->List V->Hp->VK->Prop} (h:MtR X id r) (h':MtR X id r'):MtR X id (fun x xs H Q=>r x xs H Q\/r' x xs H Q):=by
 intro pins s σ H x xs v us Q I rx rs q;rcases q with q | q
 ·exact h pins s σ H x xs v us Q I rx rs q
 ·exact h' pins s σ H x xs v us Q I rx rs q
theorem a4x {r:R2} (hr:IxR X r) (ha:PE X a ta) (hb:PE X b tb) (hs:Kc b):PE X (.Subscript a b pos) (tOp r ta tb):=by
 intro pins s σ H Q I h;exact Subscript_ (abb ha hb I h fun v u s2 x y H2 I2 rx ry q=>hr a b pins s2 σ H2 x y v u Q I2 rx ry q (hs _ _))
noncomputable def acj (K:PySem.W.Frag):R2:=fun x y H Q=>∃ p xs i v,x=.ref p/\y=.int i/\SqL K H p xs/\atI xs i=some v/\Q v H
noncomputable def ac0 (K:PySem.W.Frag):R2:=fun x y H Q=>∃ p xs i v,x=.ref p/\y=.int i/\SqT K H p xs/\atI xs i=some v/\Q v H
noncomputable def ac2:R2:=fun x y H Q=>∃ z i c,x=.str z/\y=.int i/\z.length<=sizeLine/\atI z.cps.toList i=some c/\Q (.str ⟨#[c]⟩) H
theorem Vw:IxR X (acj X.K):=by
 intro value slice pins s σ H x y v u Q I rx ry h hs;obtain ⟨p,xs,i,z,rfl,rfl,hq,he,q⟩:=h;cases rx;obtain ⟨t,rfl⟩:=ry;obtain ⟨its,r,pl,hz⟩:=I.list hq;obtain ⟨j,h1,h2,h3,h4,h5⟩:=Nz he;obtain ⟨w,ew,cJ⟩:=r.get h2;have hl:=r.length;have hn:=Lp;have fin:EP X pins σ Q w s:=⟨z,H,I,cJ,q⟩
 by_cases h0:0<=i
 ·have hj:i.toNat=j:=by
   rw [seqIndex_of h0 h5] at h1;exact Option.some.inj h1
  exact item_listR pl.isList h0 (by omega) (by rw [hj]; simpa using ew) fin hs
 ·have hj:(i+(its.toArray.size:Int)).toNat=j:=by
   rw [seqIndex_neg (by omega) h4] at h1;rw [List.size_toArray,<- hl];exact Option.some.inj h1
  exact subscriptTail_builtinR (x:=w) pl.isList.typeIs slot_list_getitem.lookup
   (wpAny_getItem_list_neg (Q:=fun r s'=>r=w/\EP X pins σ Q r s') pl.isList (by omega) (by rw [List.size_toArray] <;> omega) (by omega) (by rw [hj]; simpa using ew) ⟨rfl,fin⟩) hs
theorem a2w:IxR X (ac0 X.K):=by
 intro value slice pins s σ H x y v u Q I rx ry h hs;obtain ⟨p,xs,i,z,rfl,rfl,hq,he,q⟩:=h;cases rx;obtain ⟨t,rfl⟩:=ry;obtain ⟨its,r,pl,hz⟩:=I.tuple hq;obtain ⟨j,h1,h2,h3,h4,h5⟩:=Nz he;obtain ⟨w,ew,cJ⟩:=r.get h2;have hl:=r.length;have hn:=Lp;have fin:EP X pins σ Q w s:=⟨z,H,I,cJ,q⟩
 exact subscriptTail_builtinR (x:=w) pl.typeIs slot_tuple_getitem.lookup
  (getItem_tuple (j:=j) (Q:=fun r s'=>r=w/\EP X pins σ Q r s') pl (by omega) (by omega) (by rw [List.size_toArray,<- hl]; exact h1) (by simpa using ew) ⟨rfl,fin⟩) hs
theorem a8b:IxR X ac2:=by
 intro value slice pins s σ H x y v u Q I rx ry h hs;obtain ⟨z,i,c,rfl,rfl,hz,he,q⟩:=h;obtain ⟨t,rfl⟩:=rx;obtain ⟨t',rfl⟩:=ry;obtain ⟨j,h1,h2,h3,h4,h5⟩:=Nz he;have hl:z.cps.toList.length=z.length:=by simp [Str.length]
 rw [hl] at h1 h4 h5;have hn:=Lp
 exact tail_any (typeIs_str s z t) slot_str_getitem.lookup (getItem_str (c:=c) (by
  have e1:decide (i < -(2 ^ 63:Int))=false:=decide_eq_false (by omega);have e2:decide (i >= 2 ^ 63)=false:=decide_eq_false (by omega);rw [e1,e2,Bool.or_false]) (by rw [h1]; simpa using h2) ⟨.str ⟨#[c]⟩,H,I.tok _,⟨_,rfl⟩,q⟩) hs
theorem Inv.lst {pins:List (Addr × Obj)} {σ:St} {H:Hp} {s:Shared} {p:Addr} {xs:List V} (I:Inv X pins σ H s) (h:H p=some (.lst xs)) :
  ∃ (its:List Value) (n:Nat),Vals xs its/\s.heap.get? p=some { cls:=.type "list",data:=.seq its.toArray n }/\xs.length<=sizeLine:=by
 obtain ⟨z,its,n,r,e⟩:=I.hok p _ h;exact ⟨its,n,r,e,z⟩
theorem M6 (lo hi:Option Int) (n:Nat):(sliceBounds lo hi none n).1=((HT.sIx n 0 lo:Nat):Int)/\(sliceBounds lo hi none n).2.1=((HT.sIx n n hi:Nat):Int)/\(sliceBounds lo hi none n).2.2=1:=by
 refine ⟨?_,?_,rfl⟩
 ·cases lo with
  | none=>simp [sliceBounds,HT.sIx]
  | some i =>
   simp only [sliceBounds,HT.sIx,Option.getD_none,show (1:Int) > 0 by decide,if_true]
   by_cases h:i<0
   ·simp only [h,if_true] <;> omega
   ·simp only [h,if_false] <;> omega
 ·cases hi with
  | none=>simp [sliceBounds,HT.sIx]
  | some i =>
   simp only [sliceBounds,HT.sIx,Option.getD_none,show (1:Int) > 0 by decide,if_true]
   by_cases h:i<0
   ·simp only [h,if_true] <;> omega
   ·simp only [h,if_false] <;> omega
theorem Jx (its:List Value) (lo hi:Option Int):slicePick its.toArray lo hi none=((its.drop (HT.sIx its.length 0 lo)).take (HT.sIx its.length its.length hi - HT.sIx its.length 0 lo)).toArray:=by
 obtain ⟨h1,h2,h3⟩:=M6 lo hi its.toArray.size;unfold slicePick;rw [h1,h2,h3];simp only [sliceRange_one,pick_run,List.size_toArray] <;> rfl
def ace (K:PySem.W.Frag):V->Option Int->Option Int->Hp->VK->Prop:=fun x lo hi H Q=>∃ a xs,x=.ref a/\SqL K H a xs/\∀ p,H p=none->Q (.ref p) (upd H p (.lst (Za xs lo hi)))
theorem a4b:SlR X (ace X.K):=by
 intro pins s σ H x v vl vu lo hi sl Q I rx hs pl pu h;obtain ⟨a,xs,rfl,hx,q⟩:=h;cases rx;obtain ⟨its,r,ht,hz⟩:=I.list hx;have hlen:=r.length;refine ⟨"list",_,slot_list_getitem.lookup,ht.isList.typeIs,?_⟩;refine wpAny_getItem_list_slice ht.isList hs pl pu .none (by simp) ?_ (by rw [List.size_toArray] <;> omega);rw [Jx,<- hlen];refine ⟨.ref s.heap.objs.size,_,I.laid (t':=s.toks) (o:=.lst (Za xs lo hi)) (fun b ob q=>Heap.get?_push_of_some _ q) (Nat.le_refl _) ?_,rfl,q _ (I.hok.fresh (Nat.le_refl _))⟩;exact ⟨Nat.le_trans (Gg xs lo hi) hz,_,0,(r.drop (HT.sIx xs.length 0 lo)).take (HT.sIx xs.length xs.length hi - HT.sIx xs.length 0 lo),Heap.get?_push_size _ rfl⟩
theorem Ay:Dy X (.builtin "len") (fun xs H Q=>∃ p ys,xs=[.ref p]/\(SqL X.K H p ys\/SqT X.K H p ys)/\Q (.int ys.length) H):=by
 intro pins s σ H xs us Q I r h;obtain ⟨p,ys,rfl,hq,q⟩:=h;obtain ⟨u,rfl,rx⟩:=vals1 r;cases rx;have hn:=Lp;rcases hq with hq | hq
 ·obtain ⟨its,r',pl,hz⟩:=I.list hq;have hlen:=r'.length;exact Calls.call_len_list pl.isList (by simp only [List.size_toArray] <;> omega) ⟨.int ys.length,H,I.tok _,⟨s.toks+1,by rw [List.size_toArray,hlen]⟩,q⟩
 ·obtain ⟨its,r',pl,hz⟩:=I.tuple hq;have hlen:=r'.length;exact len_tuple pl (by simp only [List.size_toArray] <;> omega) ⟨.int ys.length,H,I.tok _,⟨s.toks+1,by rw [List.size_toArray,hlen]⟩,q⟩
theorem Ln:Dy X (.builtin "len") (fun xs H Q=>∃ z,xs=[.str z]/\z.length<=sizeLine/\Q (.int z.length) H):=by
 intro pins s σ H xs us Q I r h;obtain ⟨z,rfl,hz,q⟩:=h;obtain ⟨u,rfl,t,rfl⟩:=vals1 r;have hn:=Lp;exact len_str (by omega) ⟨.int z.length,H,I.tok _,⟨_,rfl⟩,q⟩
theorem Dy.or {f:Value} {r r':List V->Hp->VK->Prop} (h:Dy X f r) (h':Dy X f r'):Dy X f (fun xs H Q=>r xs H Q\/r' xs H Q):=by
 intro pins s σ H xs us Q I rs q;rcases q with q | q
 ·exact h pins s σ H xs us Q I rs q
 ·exact h' pins s σ H xs us Q I rs q
theorem Ds:Dy X (.type "tuple") (fun xs H Q=>∃ p ys,xs=[.ref p]/\((SqL X.K H p ys/\∀ l,H l=none->Q (.ref l) (upd H l (.tup ys)))\/(SqT X.K H p ys/\Q (.ref p) H))):=by
 intro pins s σ H xs us Q I r h;obtain ⟨p,ys,rfl,h⟩:=h;obtain ⟨u,rfl,rx⟩:=vals1 r;cases rx;rcases h with ⟨hq,q⟩ | ⟨hq,q⟩
 ·obtain ⟨its,r',pl,hz⟩:=I.list hq;have hlen:=r'.length;refine call_tuple_list pl.isList (fun h' kp=>?_) (by simp only [List.size_toArray] <;> omega);have I1:Inv X pins σ H { s with heap:=h' }:=I.kept (t':=s.toks) kp
  have I2:Inv X pins σ (upd H h'.objs.size (.tup ys)) { s with heap:=h'.push { cls:=.type "tuple",data:=.seq its.toArray } } :=
   I1.laid (t':=s.toks) (fun b o e=>Heap.get?_push_of_some _ e) (Nat.le_refl _) (show jy X.prog X.w _ _ _ (.tup ys) from ⟨hz,its,r',Ye.new _ _⟩)
  exact ⟨.ref h'.objs.size,_,I2,rfl,q _ (I1.hok.fresh (Nat.le_refl _))⟩
 ·obtain ⟨its,r',pl,hz⟩:=I.tuple hq;exact call_tuple_same pl ⟨.ref p,H,I,rfl,q⟩
def tyV (K:PySem.W.Frag) (T:String) (x:V) (H:Hp):Prop:=match x with
 | .str _=>T = "str"
 | .int _=>T = "int"
 | .ref p=>(T = "list" /\ ∃ xs,SqL K H p xs)\/(T = "tuple" /\ ∃ o,K.lookup p=some o/\o.cls=.type "tuple" /\ o.dict=none) \/
   (T = "dict" /\ ((∃ aa,H p=some (.dK aa))\/∃ aa,H p=some (.dT aa)))\/(T = "set" /\ ∃ S n,H p=some (.set S n))
 | _=>False
theorem a7t {pins:List (Addr × Obj)} {σ:St} {H:Hp} {s:Shared} {T:String} {x:V} {v:Value} (I:Inv X pins σ H s) (r:RelV x v) (ty:tyV X.K T x H) :
  s.TypeIs v T/\∀ a,v=.ref a->∃ ob,s.heap.get? a=some ob/\ob.dict=none:=by
 cases x with
 | str z =>
  obtain ⟨t,rfl⟩:=r;cases (show T = "str" from ty);exact ⟨typeIs_str s z t,fun _ e=>nomatch e⟩
 | int i =>
  obtain ⟨t,rfl⟩:=r;cases (show T = "int" from ty);exact ⟨typeIs_int s i t,fun _ e=>nomatch e⟩
 | ref p =>
  cases r;rcases ty with ⟨rfl,xs,hq⟩ | ⟨rfl,o,hk,hc,hd⟩ | ⟨rfl,hk⟩ | ⟨rfl,S,n,hk⟩
  ·obtain ⟨its,_,pl,_⟩:=I.list hq;refine ⟨pl.isList.typeIs,fun a e=>?_⟩;cases e;obtain ⟨o,n,e,c,hd,_⟩:=pl;exact ⟨o,e,hd⟩
  ·refine ⟨⟨o,I.kIn p o hk,hc⟩,fun a e=>?_⟩;cases e;exact ⟨o,I.kIn _ o hk,hd⟩
  ·have z:∃ o,s.heap.get? p=some o/\o.ExactDict:=by
    rcases hk with ⟨aa,hk⟩ | ⟨aa,hk⟩
    ·obtain ⟨_,_,_,_,o,_,_,e,ex,_⟩:=I.hok p _ hk;exact ⟨o,e,ex⟩
    ·obtain ⟨_,_,_,_,o,_,_,e,ex,_⟩:=I.hok p _ hk;exact ⟨o,e,ex⟩
   obtain ⟨o,e,ex⟩:=z;refine ⟨⟨o,e,ex.1⟩,fun a e2=>?_⟩;cases e2;exact ⟨o,e,ex.2.1⟩
  ·obtain ⟨o,_,_,_,e,ex,_⟩:=I.hok p _ hk;refine ⟨⟨o,e,ex.1⟩,fun a e2=>?_⟩;cases e2;exact ⟨o,e,ex.2.1⟩
 | _=>exact False.elim ty
def tBM (K:PySem.W.Frag) (T:String) (r:V->List V->Hp->VK->Prop) (to:TE) (t:TA):TE:=fun σ H Q=>to σ H fun x H1=>tyV K T x H1/\t σ H1 fun xs H2=>r x xs H2 Q
variable {o e:Expr} {es:List Expr} {to:TE} {t:TA} {name:Str} {apos aL:Pos} {T id:String} {r:V->List V->Hp->VK->Prop}
theorem Tf (pa:PlainAttrs T) (slot:Slot T name id) (cO:typeOf (.builtin id)=pure (.type "method_descriptor")) (hm:MtR X id r) (ho:PE X o to) (ha:PA X (e::es) t)
  (bO:attributeBase o name X.env (eval o X.env)=eval o X.env:=by rfl)
  (gS:((backTo aL (starEach (e::es) X.env)).all (fun x=>!x.1)&&(backToKw aL (keywordEach [] X.env)).all (fun x=>x.1.isSome)
   && decide ((e::es).length+([]:List Keyword).length+(if ([]:List Keyword).isEmpty then 0 else 1)<30))=true:=by rfl)
  (cw:(apos.endLine==aL.line)=true:=by rfl) (hs:starEach (e::es) X.env=(false,eval e X.env)::starEach es X.env:=by rfl) (eD:(backTo aL (starEach es X.env)).any (·.1)=false:=by rfl) :
  PE X (.Call (.Attribute o name apos) (e::es) [] aL) (tBM X.K T r to t):=by
 intro pins s σ H Q I h;refine wpAny_Call_method_late bO gS cw rfl (thn (ho pins s σ H _ I h) fun v s1 z0=>?_);obtain ⟨x,H1,I1,r1,ty,q1⟩:=z0;obtain ⟨h1,h2⟩:=a7t I1 r1 ty;refine ⟨T,id,pa,slot,cO,h1,h2,?_⟩;have hA:=ha aL pins s1 σ H1 _ I1 q1;rw [hs] at hA ⊢;refine Calls.callWith_builtin (by show (false||(backTo aL (starEach es X.env)).any (·.1))=false; rw [eD] <;> rfl) (Calls.evalArgs_plain ?_);exact thn hA fun us s2 ⟨vs,H2,I2,r2,q2⟩=>hm pins s2 σ H2 x vs v us Q I2 r1 r2 q2
end
end L2
namespace L2
open PySem PySem.Spec PyProof.Rows
def MtM (X:Cx) (id:String) (r:V->List V->Hp->VK->Prop):Prop :=
 ∀ (pins:List (Addr × Obj)) (s:Shared) (σ:St) (H:Hp) (x:V) (xs:List V) (v:Value) (us:List Value) (Q:VK),Inv X pins σ H s->RelV x v->Vals xs us->r x xs H Q ->
  wpAny (model X.prog X.w) X.A (call (.builtin id) (v::us)) (EP X pins σ Q) X.xe s
theorem Vals.one {x:V} {us:List Value} (h:Vals [x] us):∃ u,us=[u]/\RelV x u:=by
 cases h with
 | cons r t=>cases t; exact ⟨_,rfl,r⟩
theorem Vals.two {x y:V} {us:List Value} (h:Vals [x,y] us):∃ u v,us=[u,v]/\RelV x u/\RelV y v:=by
 cases h with
 | cons r t=>obtain ⟨v,e,q⟩:=Vals.one t; exact ⟨_,v,congrArg _ e,r,q⟩
theorem Vals.zero:∀ {us:List Value},Vals [] us->us=[]
 | _,.nil=>rfl
theorem Vals.reverse {xs:List V} {us:List Value} (h:Vals xs us):Vals xs.reverse us.reverse:=by
 induction h with
 | nil=>exact .nil
 | cons r t ih=>rw [List.reverse_cons,List.reverse_cons]; exact Vals.append ih (.cons r .nil)
theorem Vals.rep {xs:List V} {us:List Value} (h:Vals xs us):∀ k:Nat,Vals (List.replicate k xs).flatten (List.replicate k us).flatten
 | 0=>.nil
 | k+1=>by
  rw [List.replicate_succ,List.replicate_succ,List.flatten_cons,List.flatten_cons];exact Vals.append h (Vals.rep h k)
theorem foldl_rep (its:List Value):∀ (k:Nat) (acc:List Value),
  List.foldl (fun x1 x2=>x1++x2) acc.toArray (List.replicate k its.toArray)=(acc++(List.replicate k its).flatten).toArray
 | 0,acc=>by simp
 | k+1,acc=>by
  have e:acc.toArray++its.toArray=(acc++its).toArray:=by simp
  have e2:(acc++its)++(List.replicate k its).flatten=acc++(List.replicate (k+1) its).flatten:=by
   rw [List.replicate_succ,List.flatten_cons,List.append_assoc]
  rw [<- e2,<- foldl_rep its k (acc++its),<- e,List.replicate_succ,List.foldl_cons]
section
variable {X:Cx} {pins:List (Addr × Obj)} {σ:St} {H:Hp} {s:Shared} {l b:Addr} {xs ys zs:List V}
theorem Inv.acf {its its':List Value} {n:Nat} {f:Array Value->Array Value} {t':Nat} (I:Inv X pins σ H s) (hH:H l=some (.lst xs))
  (e:s.heap.get? l=some { cls:=.type "list",data:=.seq its.toArray n }) (hf:f its.toArray=its'.toArray) (hv:Vals ys its') (hz:ys.length<=sizeLine) :
  Inv X pins σ (upd H l (.lst ys)) { s with heap:=s.heap.update l (Obj.mapSeq f),toks:=t' }:=by
 have q:=PySem.IsL.update e f;rw [hf] at q;refine I.write (x:=l) (e:=l) (by rw [hH]; exact trivial) (.inl rfl) (fun b' u hb hu=>(Heap.get?_update_other s.heap (Obj.mapSeq f) (Ne.symm hb)).trans hu) ⟨_,q⟩ ?_;exact ⟨hz,its',_,hv,q⟩
theorem Inv.abo {its:List Value} {t':Nat} (I:Inv X pins σ H s) (hv:Vals ys its) (hz:ys.length<=sizeLine) :
  Inv X pins σ (upd H s.heap.objs.size (.lst ys)) { s with heap:=s.heap.push { cls:=.type "list",data:=.seq its.toArray },toks:=t' } :=
 I.laid (fun _ _ q=>Heap.get?_push_of_some _ q) (Nat.le_refl _) ⟨hz,its,0,hv,Heap.get?_push_size _ rfl⟩
theorem Inv.fresh (I:Inv X pins σ H s):H s.heap.objs.size=none:=I.hok.fresh (Nat.le_refl _)
theorem Inv.abj (I:Inv X pins σ H s) (hH:H l=some (.lst xs)):xs.length<=sizeLine/\∃ (its:List Value) (n:Nat),Vals xs its/\xs.length=its.length/\s.heap.get? l=some { cls:=.type "list",data:=.seq its.toArray n }:=by
 obtain ⟨z,its,n,r,e⟩:=I.hok l _ hH;exact ⟨z,its,n,r,r.length,e⟩
theorem a1g {n:Nat} (h:n<=sizeLine):Builtin.List.listTooLong n=false:=by
 unfold Builtin.List.listTooLong;exact decide_eq_false (by omega)
end
section
variable {X:Cx}
def Wj:V->List V->Hp->VK->Prop:=fun x vs H Q=>∃ l xs y,x=.ref l/\vs=[y]/\H l=some (.lst xs)/\xs.length<sizeLine/\Q .non (upd H l (.lst (xs++[y])))
theorem vf:MtM X "list.append" Wj:=by
 intro pins s σ H x vs v us Q I rx rv h;obtain ⟨l,xs,y,rfl,rfl,hH,hz,q⟩:=h;cases rx;obtain ⟨u,rfl,ru⟩:=rv.one;obtain ⟨z,its,n,r,hl,e⟩:=I.abj hH;refine call_meets F.slot_list_append ⟨_,e,rfl⟩ F.entry_list_append (F.args_list_append_2 _ _) (PySem.list_append l its.toArray n u (by rw [List.size_toArray]; omega)) ⟨e,?_⟩;refine ⟨.non,_,I.acf (its':=its++[u]) hH e (by simp) (r.append (.cons ru .nil)) ?_,rfl,q⟩;rw [List.length_append,List.length_singleton];omega
noncomputable def ac9:R2:=fun x y H Q=>∃ l k xs,x=.ref l/\y=.int k/\H l=some (.lst xs)/\-(2 ^ 63)<=k/\k<2 ^ 63/\xs.length * k.toNat<=sizeLine /\
 ∀ p,H p=none->Q (.ref p) (upd H p (.lst (List.replicate k.toNat xs).flatten))
theorem len_rep {α:Type} (xs:List α) (k:Nat):(List.replicate k xs).flatten.length=k * xs.length:=by
 induction k with
 | zero=>simp
 | succ k ih=>rw [List.replicate_succ,List.flatten_cons,List.length_append,ih,Nat.succ_mul,Nat.add_comm]
theorem a7m:OpR X (binaryOp .Mult) ac9:=by
 intro pins s σ H x y v u Q I rx ry h;obtain ⟨l,k,xs,rfl,rfl,hH,h1,h2,hz,q⟩:=h;cases rx;obtain ⟨t,rfl⟩:=ry;obtain ⟨z,its,n,r,hl,e⟩:=I.abj hH;have hlen:its.toArray.size * k.toNat<=sizeLine:=by rw [List.size_toArray,<- hl]; exact hz
 have bb:¬ its.toArray.size * k.toNat > (2 ^ 63 - 1) / 8:=by
  have:(sizeLine:Nat)<=(2 ^ 63 - 1) / 8:=by decide
  omega
 have dM:¬ (!Builtin.List.listFitsIndex k)=true:=by
  rw [fitsIndex_both h1 h2];exact Bool.false_ne_true
 have fW:¬ Builtin.List.listTooLong (its.toArray.size * k.toNat)=true:=by
  rw [a1g hlen];exact Bool.false_ne_true
 have ip:List.foldl (fun x1 x2=>x1++x2) #[] (List.replicate (if its.toArray.isEmpty=true then 0 else k.toNat) its.toArray)=(List.replicate k.toNat its).flatten.toArray:=by
  have f0:∀ m:Nat,List.foldl (fun x1 x2=>x1++x2) #[] (List.replicate m its.toArray)=(List.replicate m its).flatten.toArray:=fun m=>by
   have:=foldl_rep its m [];rw [List.nil_append] at this;exact this
  rw [f0];cases its with
  | nil=>simp
  | cons a r'=>rw [if_neg (by simp)]
 refine wpAny_binaryOp_repeat_ref (T := "list") (U := "int") (by decide) ⟨_,e,rfl⟩ (fun s'=>typeIs_int s' k t) noFill_list_mul F.fills_int_mul F.slot_int_rmul repeat_list F.slot_int_index.lookup
  (call_meets F.slot_int_rmul (typeIs_int s k t) F.entry_int_rmul (F.args_int_rmul_2 _ _) (int___rmul___int_list k t l its.toArray n)
   ⟨e,rfl,⟨_,e,rfl⟩,call_meets F.slot_list_mul ⟨_,e,rfl⟩ F.entry_list_mul (F.args_list_mul_2 _ _) (AutoListH.list___mul___list_int_3 l its.toArray n k t dM bb fW) ⟨e,?_⟩⟩)
 rw [ip];exact ⟨.ref _,_,I.abo (t':=s.toks) (r.rep k.toNat) (by rw [len_rep,Nat.mul_comm]; exact hz),rfl,q _ I.fresh⟩
end
section
variable {prog:Program} {w:World} {A:Around} {E:Value->Shared->Prop} {s:Shared}
end
section
variable {X:Cx}
end
section
variable {κ:Type} [DecidableEq κ]
def K9 (aa:List (κ × V)) (k:κ):Option V:=(aa.find? fun kv=>decide (kv.1=k)).map (·.2)
noncomputable def putK (aa:List (κ × V)) (k:κ) (v:V):List (κ × V) :=
 if (aa.any fun kv=>decide (kv.1=k))=true then aa.map (fun kv=>if kv.1=k then (kv.1,v) else kv) else aa++[(k,v)]
def a77 (aa:List (κ × V)) (k:κ):List (κ × V):=aa.filter fun kv=>decide (kv.1≠k)
theorem Dq {p:κ × V} {r:List (κ × V)} {k:κ} (e:p.1=k):K9 (p::r) k=some p.2:=by simp [K9,List.find?_cons,e]
theorem Dl {p:κ × V} {r:List (κ × V)} {k:κ} (e:¬ p.1=k):K9 (p::r) k=K9 r k:=by simp [K9,List.find?_cons,e]
theorem Zf (k:κ):∀ aa:List (κ × V),(aa.any fun kv=>decide (kv.1=k))=(K9 aa k).isSome
 | []=>rfl
 | p::r=>by
  rw [List.any_cons]
  by_cases e:p.1=k
  ·simp only [Dq e,decide_eq_true e,Bool.true_or,Option.isSome_some]
  ·rw [Dl e,decide_eq_false e,Bool.false_or]; exact Zf k r
theorem Kq.Dg {o:Option V} {u:Option Value} (r:Kq o u):o.isSome=u.isSome:=by
 cases o with
 | none=>cases u with
  | none=>rfl
  | some _=>exact (show False from r).elim
 | some _=>cases u with
  | none=>exact (show False from r).elim
  | some _=>rfl
theorem Kq.getD {o:Option V} {u:Option Value} {d:V} {d':Value} (r:Kq o u) (rd:RelV d d'):RelV (o.getD d) (u.getD d'):=by
 cases o with
 | none=>cases u with
  | none=>exact rd
  | some _=>exact (show False from r).elim
 | some _=>cases u with
  | none=>exact (show False from r).elim
  | some _=>exact r
theorem KV.val {aa:List (κ × V)} {vs:List (κ × Value)} (r:KV aa vs) (k:κ):Kq (K9 aa k) (valueAt vs k):=by
 unfold KV at r
 induction r with
 | nil=>exact True.intro
 | @cons p q ps qs h t ih =>
  obtain ⟨h1,h2⟩:=h
  by_cases e:p.1=k
  ·have e':q.1=k:=h1.symm.trans e;have b:valueAt (q::qs) k=some q.2:=by simp [valueAt,List.find?_cons,e']
   rw [Dq e,b]; exact h2
  ·have e':¬ q.1=k:=fun z=>e (h1.trans z);have b:valueAt (q::qs) k=valueAt qs k:=by simp [valueAt,List.find?_cons,e']
   rw [Dl e,b]; exact ih
theorem KV.any {aa:List (κ × V)} {vs:List (κ × Value)} (r:KV aa vs) (k:κ):(aa.any fun kv=>decide (kv.1=k))=vs.any fun kv=>decide (kv.1=k):=by
 unfold KV at r
 induction r with
 | nil=>rfl
 | cons h t ih=>rw [List.any_cons,List.any_cons,ih,h.1]
theorem KV.repl {aa:List (κ × V)} {vs:List (κ × Value)} (r:KV aa vs) (k:κ) {y:V} {u:Value} (ry:RelV y u) :
  KV (aa.map fun kv=>if kv.1=k then (kv.1,y) else kv) (vs.map fun kv=>if kv.1=k then (kv.1,u) else kv):=by
 unfold KV at r ⊢
 induction r with
 | nil=>exact .nil
 | @cons p q ps qs h t ih =>
  rw [List.map_cons,List.map_cons];refine .cons ?_ ih;obtain ⟨h1,h2⟩:=h
  by_cases e:p.1=k
  ·rw [if_pos e,if_pos (h1.symm.trans e)]; exact ⟨h1,ry⟩
  ·rw [if_neg e,if_neg (fun z=>e (h1.trans z))]; exact ⟨h1,h2⟩
theorem KV.put {aa:List (κ × V)} {vs:List (κ × Value)} (r:KV aa vs) (k:κ) {y:V} {u:Value} (ry:RelV y u):KV (putK aa k y) (stored vs k u):=by
 unfold putK stored;rw [r.any k]
 by_cases e:(vs.any fun kv=>decide (kv.1=k))=true
 ·rw [if_pos e,if_pos e]; exact r.repl k ry
 ·rw [if_neg e,if_neg e]; exact Paired.snoc r ⟨rfl,ry⟩
theorem KV.drop {aa:List (κ × V)} {vs:List (κ × Value)} (r:KV aa vs) (k:κ):KV (a77 aa k) (without vs k):=by
 unfold KV at r ⊢;unfold a77 without
 induction r with
 | nil=>exact .nil
 | @cons p q ps qs h t ih =>
  obtain ⟨h1,h2⟩:=h;rw [List.filter_cons,List.filter_cons]
  by_cases e:p.1=k
  ·have a:¬ decide (p.1≠k)=true:=by simp [e]
   have b:¬ decide (q.1≠k)=true:=by simp [h1.symm.trans e]
   rw [if_neg a,if_neg b]; exact ih
  ·have e':¬ q.1=k:=fun z=>e (h1.trans z);have a:decide (p.1≠k)=true:=by simp [e]
   have b:decide (q.1≠k)=true:=by simp [e']
   rw [if_pos a,if_pos b]; exact .cons ⟨h1,h2⟩ ih
theorem KV.keys {aa:List (κ × V)} {vs:List (κ × Value)} (r:KV aa vs):aa.map (·.1)=vs.map (·.1):=by
 unfold KV at r
 induction r with
 | nil=>rfl
 | cons h t ih=>rw [List.map_cons,List.map_cons,ih,h.1]
theorem KV.length {aa:List (κ × V)} {vs:List (κ × Value)} (r:KV aa vs):aa.length=vs.length:=Paired.length r
end
theorem U5 {P:Program} {w:World} {k:Key} {u:Value} (r:RelV (kV k) u):(j6 P w).is k u=true:=by
 cases k with
 | inl i=>obtain ⟨t,e⟩:=(show ∃ t,u=Value.int i t from r); subst e; exact Nm P w i t
 | inr x=>obtain ⟨t,e⟩:=(show ∃ t,u=Value.str x t from r); subst e; exact O4 P w x t
theorem Gi {P:Program} {w:World}:∀ {ks:List Key} {us:List Value},Vals (ks.map kV) us->ItemsAre (j6 P w) ks us
 | [],_,r=>by rw [List.map_nil] at r; cases r; exact .nil
 | k::ks,_,r=>by
  rw [List.map_cons] at r;cases r with
  | cons h t=>exact .cons (U5 h) (Gi t)
abbrev KT (H:Hp):List (List Key × V)->List (List Key × Addr × Value)->Prop:=Paired fun p q=>p.1=q.1/\H q.2.1=some (.tup (p.1.map kV))/\RelV p.2 q.2.2
theorem KT.val {H:Hp} {aa:List (List Key × V)} {xs:List (List Key × Addr × Value)} (r:KT H aa xs) (k:List Key):Kq (K9 aa k) ((atKey xs k).map (·.2)):=by
 induction r with
 | nil=>exact True.intro
 | @cons p q ps qs h t ih =>
  obtain ⟨h1,_,h2⟩:=h
  by_cases e:p.1=k
  ·have e':q.1=k:=h1.symm.trans e;have b:atKey (q::qs) k=some q.2:=by simp [atKey,List.find?_cons,e']
   rw [Dq e,b]; exact h2
  ·have e':¬ q.1=k:=fun z=>e (h1.trans z);have b:atKey (q::qs) k=atKey qs k:=by simp [atKey,List.find?_cons,e']
   rw [Dl e,b]; exact ih
section
variable {P:Program} {w:World} {H:Hp} {h:Heap} {a:Addr}
theorem a8u {u:HO} (ok:HOk P w H h) (e:Rd H a u):jy P w H h a u:=e.ok ok
theorem Km {aa:List (Key × V)} (ok:HOk P w H h) (e:Rd H a (.dK aa)):aa.length<=sizeLine/\(a==sysModules)=false/\∃ vs,KV aa vs/\h.DictOf (j6 P w) a vs :=
 show jy P w H h a (.dK aa) from a8u ok e
theorem Ma {ks:List Key} (ok:HOk P w H h) (e:H a=some (.tup (ks.map kV))):(tupleKind (j6 P w)).is h ks a:=by
 obtain ⟨_,its,r,o,h1,h2,_,n,h3⟩:=(show jy P w H h a (.tup (ks.map kV)) from ok a _ e);exact ⟨o,its.toArray,n,h1,h2,h3,by simpa using Gi r⟩
theorem Oq {aa:List (List Key × V)} (ok:HOk P w H h) (e:Rd H a (.dT aa)):aa.length<=sizeLine/\(a==sysModules)=false /\
  ∃ xs,KT H aa xs/\h.DictOfH (tupleKind (j6 P w)) a xs:=by
 obtain ⟨z,y,xs,r,o,es,ep,h1,h2,h3,h4,h5⟩:=(show jy P w H h a (.dT aa) from a8u ok e);refine ⟨z,y,xs,r,o,es,ep,h1,h2,h3,h4,fun x hx=>?_,h5⟩
 have all:∀ {l:List (List Key × V)} {m:List (List Key × Addr × Value)},KT H l m->∀ x∈m,(tupleKind (j6 P w)).is h x.1 x.2.1:=by
  intro l m q
  induction q with
  | nil=>intro x hx; exact nomatch hx
  | @cons p q ps qs hq t ih =>
   intro x hx;rcases List.mem_cons.mp hx with e | hx
   ·subst e;exact Ma ok (by rw [<- hq.1]; exact hq.2.1)
   ·exact ih x hx
 exact all r x hx
theorem aa7 {aa:List (List Key × V)} (ok:HOk P w H h) (e:H a=some (.dT aa)):aa.length<=sizeLine/\(a==sysModules)=false /\
  ∃ xs,KT H aa xs/\h.DictOfH (tupleKind (j6 P w)) a xs:=Oq ok (.inl e)
end
def Yg (H:Hp) (a:Addr) (y:V) (r:Option V):Prop :=
 (∃ aa k,Rd H a (.dK aa)/\y=kV k/\r=K9 aa k)\/∃ aa k b,Rd H a (.dT aa)/\y=.ref b/\H b=some (.tup (k.map kV))/\r=K9 aa k
def aa1 (H:Hp) (a:Addr) (y v:V) (H':Hp):Prop :=
 (∃ aa k,H a=some (.dK aa)/\y=kV k/\aa.length<sizeLine/\H'=upd H a (.dK (putK aa k v))) \/
 ∃ aa k b,H a=some (.dT aa)/\y=.ref b/\H b=some (.tup (k.map kV))/\aa.length<sizeLine/\H'=upd H a (.dT (putK aa k v))
theorem Yg.k {H:Hp} {a:Addr} {aa:List (Key × V)} {k:Key} (e:H a=some (.dK aa)):Yg H a (kV k) (K9 aa k):=.inl ⟨aa,k,.inl e,rfl,rfl⟩
theorem Yg.t {H:Hp} {a b:Addr} {aa:List (List Key × V)} {k:List Key} (e:H a=some (.dT aa)) (eb:H b=some (.tup (k.map kV))):Yg H a (.ref b) (K9 aa k):=.inr ⟨aa,k,b,.inl e,rfl,eb,rfl⟩
theorem aa1.k {H:Hp} {a:Addr} {aa:List (Key × V)} {k:Key} {v:V} (e:H a=some (.dK aa)) (hl:aa.length<sizeLine):aa1 H a (kV k) v (upd H a (.dK (putK aa k v))):=.inl ⟨aa,k,e,rfl,hl,rfl⟩
theorem aa1.t {H:Hp} {a b:Addr} {aa:List (List Key × V)} {k:List Key} {v:V} (e:H a=some (.dT aa)) (eb:H b=some (.tup (k.map kV))) (hl:aa.length<sizeLine) :
  aa1 H a (.ref b) v (upd H a (.dT (putK aa k v))):=.inr ⟨aa,k,b,e,rfl,eb,hl,rfl⟩
section
variable {X:Cx} {pins:List (Addr × Obj)} {σ:St} {H:Hp} {s:Shared} {a:Addr} {y v:V} {u r:Value} {o:Option V} {A:Around} {E:Value->Shared->Prop}
theorem Inv.big (I:Inv X pins σ H s):sysModules<s.heap.objs.size:=by
 have h:mainGlobals<s.heap.objs.size:=(I.mod.glob.keeps I.bk).lt;exact Nat.lt_trans (by decide) h
theorem W6 {Q:Value->Shared->Prop} (hu:A.units+1<cLine) (I:Inv X pins σ H s) (g:Yg H a y (some v)) (ry:RelV y u) (h:∀ w' s',Inv X pins σ H s'->RelV v w'->Q w' s') :
  wpAny (model X.prog X.w) A (getItem (.ref a) u) Q E s:=by
 rcases g with ⟨aa,k,e,ey,l⟩ | ⟨aa,k,b,e,ey,eb,l⟩
 ·subst ey;obtain ⟨z,hd,vs,rel,dd⟩:=Km I.hok e;obtain ⟨w',hw,cJ⟩:=Kq.some_of (v:=v) (o:=valueAt vs k) (by rw [l]; exact rel.val k);exact wpAny_getItem_of (U5 ry) dd.mapOf hw (h w' _ (I.tok _) cJ)
 ·subst ey;cases (show u=Value.ref b from ry);obtain ⟨z,hd,xs,rel,dd⟩:=Oq I.hok e;obtain ⟨w',hw,cJ⟩:=Kq.some_of (v:=v) (o:=(atKey xs k).map (·.2)) (by rw [l]; exact rel.val k);obtain ⟨p,hp,ft⟩:=Option.map_eq_some_iff.mp hw;refine wpAny_getItem_heap (tupleKind_room_in1 hu) (Ma I.hok eb) dd hp ?_;rw [ft];exact h w' _ (I.tok _) cJ
theorem ad1 {Q:Value->Shared->Prop} (hu:A.units+1<cLine) (I:Inv X pins σ H s) (g:Yg H a y o) (ry:RelV y u) (h:∀ s',Inv X pins σ H s'->Q (.bool o.isSome) s') :
  wpAny (model X.prog X.w) A (compareOp .In u (.ref a)) Q E s:=by
 rcases g with ⟨aa,k,e,ey,l⟩ | ⟨aa,k,b,e,ey,eb,l⟩
 ·subst ey;obtain ⟨z,hd,vs,rel,dd⟩:=Km I.hok e;refine wpAny_in_of (U5 ry) hd dd.mapOf ?_;rw [<- (rel.val k).Dg,<- l];exact h _ (I.tok _)
 ·subst ey;cases (show u=Value.ref b from ry);obtain ⟨z,hd,xs,rel,dd⟩:=Oq I.hok e;refine wpAny_in_heap (tupleKind_room_in1 hu) (Ma I.hok eb) hd dd ?_;have q:=(rel.val k).Dg;rw [Option.isSome_map] at q;rw [<- q,<- l];exact h _ (I.tok _)
theorem a68 {Q:Value->Shared->Prop} (hu:A.units+1<cLine) (I:Inv X pins σ H s) (g:Yg H a y o) (ry:RelV y u) (h:∀ s',Inv X pins σ H s'->Q (.bool (!o.isSome)) s') :
  wpAny (model X.prog X.w) A (compareOp .NotIn u (.ref a)) Q E s:=by
 rcases g with ⟨aa,k,e,ey,l⟩ | ⟨aa,k,b,e,ey,eb,l⟩
 ·subst ey;obtain ⟨z,hd,vs,rel,dd⟩:=Km I.hok e;refine wpAny_notIn_of (U5 ry) hd dd.mapOf ?_;rw [<- (rel.val k).Dg,<- l];exact h _ (I.tok _)
 ·subst ey;cases (show u=Value.ref b from ry);obtain ⟨z,hd,xs,rel,dd⟩:=Oq I.hok e;refine wpAny_notIn_heap (tupleKind_room_in1 hu) (Ma I.hok eb) hd dd ?_;have q:=(rel.val k).Dg;rw [Option.isSome_map] at q;rw [<- q,<- l];exact h _ (I.tok _)
theorem Nv {h':Heap} {t':Nat} {ob:HO} (I:Inv X pins σ H s) (mu:Mut (H a)) (hs:Heap.SameBut a s.heap h') (he:∃ q,h'.get? a=some q) (new:jy X.prog X.w (upd H a ob) h' a ob) :
  Inv X pins σ (upd H a ob) { s with heap:=h',toks:=t' } :=
 I.write (x:=a) (e:=a) mu (.inl rfl) (fun b q hb z=>(hs.2 b hb).trans z) he new
theorem Pr {P:Program} {w:World} {H':Hp} {h':Heap} {aa:List (Key × V)} {vs:List (Key × Value)} (z:aa.length<=sizeLine) (hd:(a==sysModules)=false) (rel:KV aa vs) (dd:h'.DictOf (j6 P w) a vs) :
  jy P w H' h' a (.dK aa):=⟨z,hd,vs,rel,dd⟩
end
section
variable {X:Cx} {pins:List (Addr × Obj)} {σ:St} {H:Hp} {s:Shared} {a:Addr} {aa:List (Key × V)} {k:Key} {u:Value} {A:Around} {E:Value->Shared->Prop}
theorem a95 {Q:Value->Shared->Prop} (I:Inv X pins σ H s) (e:Rd H a (.dK aa)) (h:∀ t s',Inv X pins σ H s'->Q (.int aa.length t) s'):wpAny (model X.prog X.w) A (call (.builtin "len") [.ref a]) Q E s:=by
 obtain ⟨z,hd,vs,rel,dd⟩:=Km I.hok e;refine call_len_dict hd dd (by rw [<- rel.length]; rw [sizeLine_eq] at z; omega) ?_;rw [<- rel.length];exact h _ _ (I.tok _)
end
def a9w (i:Expr):Prop:=∀ ov iv,subscripted i false ov iv=operate [ov,iv] (getItem ov iv)
theorem Xv {prog:Program} {w:World} {A:Around} {E:Value->Shared->Prop} {s:Shared} {env:Env} {value slice:Expr} {pos:Pos} {T id:String} {Q:Value->Shared->Prop}
  (hl:typeLookup (.type T) "__getitem__" = pure (some (.builtin id))) (hs:a9w slice)
  (h:wpAny (model prog w) A (eval value env) (fun o ax=>wpAny (model prog w) A (eval slice env) (fun i aO=>aO.TypeIs o T/\wpAny (model prog w) A (getItem o i) Q E aO) E ax) E s) :
  wpAny (model prog w) A (eval (.Subscript value slice pos) env) Q E s:=by
 refine Subscript_ (wpAny_mono h (fun o ax cN=>wpAny_mono cN (fun i aO de=>?_) fun _ _ x=>x) fun _ _ x=>x);obtain ⟨hT,de⟩:=de;unfold subscriptTail;refine wpAny_bind ?_;rw [getitemInPython_of_ne hT.not_modules];refine wpAny_bind (wpAny_specialOf hT hl ?_)
 have fin:wpAny (model prog w) A (subscripted slice false o i) (fun r a5=>wpAny (model prog w) A (letTemporaryGo value o r >>= fun _=>pure r) Q E a5) E aO:=by
  rw [hs o i];exact wpAny_operating (wpAny_mono de (fun r a5 iJ=>wpAny_bind (wpAny_letTemporaryGo (wpAny_pure iJ))) fun _ _ x=>x)
 first
  | exact wpAny_pure (wpAny_bind fin)
  | exact wpAny_bind (wpAny_pure (wpAny_bind fin))
  | exact wpAny_bind fin
theorem Oe {X:Cx} {pins:List (Addr × Obj)} {σ:St} {H:Hp} {s:Shared} {a:Addr} {y:V} {o:Option V} (I:Inv X pins σ H s) (g:Yg H a y o):s.TypeIs (.ref a) "dict" := by
 rcases g with ⟨aa,k,e,_,_⟩ | ⟨aa,k,b,e,_,_,_⟩
 ·obtain ⟨_,_,vs,_,dd⟩:=Km I.hok e;exact dd.typeIs
 ·obtain ⟨_,_,xs,_,dd⟩:=Oq I.hok e;exact dd.typeIs
section
variable {X:Cx} {o i e value:Expr} {pos pos' a8:Pos} {td ty tv:TE}
end
theorem a0f {P:Program} {w:World} {H:Hp} (h:Heap) (hb:sysModules<h.objs.size):jy P w H (h.push { cls:=.type "dict",data:=.dict #[] }) h.objs.size (.dT []) :=
 ⟨Nat.zero_le _,beq_eq_false_iff_ne.mpr (Ne.symm (Nat.ne_of_lt hb)),[],.nil,_,#[],0,Heap.get?_push_size _ rfl,⟨rfl,rfl,rfl⟩,rfl,rfl,List.nodup_nil⟩
section
variable {X:Cx} {pos:Pos}
end
def a2o:List (TE × TE)->St->Hp->(List (V × V)->Hp->Prop)->Prop
 | [],_,H,Q=>Q [] H
 | (tk,tv)::r,σ,H,Q=>tk σ H fun x H1=>tv σ H1 fun y H2=>a2o r σ H2 fun ps H3=>Q ((x,y)::ps) H3
abbrev VV:List (V × V)->List (Value × Value)->Prop:=Paired fun p q=>RelV p.1 q.1/\RelV p.2 q.2
def PPs (X:Cx) (pos:Pos) (keys:List (Option Expr)) (values:List Expr) (gB:List (TE × TE)):Prop :=
 ∀ (pins:List (Addr × Obj)) (s:Shared) (σ:St) (H:Hp) (Q:List (V × V)->Hp->Prop),Inv X pins σ H s->a2o gB σ H Q ->
  wpAny (model X.prog X.w) X.A (evalPairs (pairTrees keys values X.env pos)) (fun vs s'=>∃ ps H',Inv X pins σ H' s'/\VV ps vs/\Q ps H') X.xe s
theorem a6j {X:Cx} {pos:Pos}:PPs X pos [] [] []:=fun pins s σ H Q I h=>pairTrees_nil_walk ⟨[],H,I,.nil,h⟩
theorem a0g {X:Cx} {pos:Pos} {k v:Expr} {ks:List (Option Expr)} {vs:List Expr} {tk tv:TE} {gB:List (TE × TE)} (hk:PE X k tk) (hv:PE X v tv) (hr:PPs X pos ks vs gB) :
  PPs X pos (some k::ks) (v::vs) ((tk,tv)::gB):=fun pins s σ H Q I h =>
 pairTrees_cons_walk (thn (hk pins s σ H _ I h) fun u s1 ⟨x,H1,I1,rx,q1⟩=>thn (hv pins s1 σ H1 _ I1 q1) fun w2 s2 ⟨y,H2,I2,ry,q2⟩ =>
  thn (hr pins s2 σ H2 _ I2 q2) fun ws s3 z7=>by obtain ⟨ps,H3,I3,rel,q3⟩:=z7; exact ⟨(x,y)::ps,H3,I3,.cons ⟨rx,ry⟩ rel,q3⟩)
structure M1 (X:Cx) (o:Expr) (m:Str) (apos:Pos) (e:Expr) (aL:Pos):Prop where
 base:attributeBase o m X.env (eval o X.env)=eval o X.env
 few:((backTo aL (starEach [e] X.env)).all (fun x=>!x.1)&&(backToKw aL (keywordEach [] X.env)).all (fun x=>x.1.isSome)
  && decide (([e]:List Expr).length+([]:List Keyword).length+(if ([]:List Keyword).isEmpty then 0 else 1)<30))=true
 line:(apos.endLine==aL.line)=true
 trees:backTo aL (starEach [e] X.env)=[(false,eval e X.env)]
structure M2 (X:Cx) (o:Expr) (m:Str) (apos:Pos) (e f:Expr) (aL:Pos):Prop where
 base:attributeBase o m X.env (eval o X.env)=eval o X.env
 few:((backTo aL (starEach [e,f] X.env)).all (fun x=>!x.1)&&(backToKw aL (keywordEach [] X.env)).all (fun x=>x.1.isSome)
  && decide (([e,f]:List Expr).length+([]:List Keyword).length+(if ([]:List Keyword).isEmpty then 0 else 1)<30))=true
 line:(apos.endLine==aL.line)=true
 trees:backTo aL (starEach [e,f] X.env)=[(false,eval e X.env),(false,eval f X.env)]
section
variable {X:Cx} {pins:List (Addr × Obj)} {σ:St} {H:Hp} {s:Shared} {a:Addr} {y d:V} {u r:Value} {o:Option V} {A:Around} {E:Value->Shared->Prop}
end
section
variable {X:Cx} {o e f:Expr} {apos aL:Pos} {td ty tx:TE}
end
section
variable {X:Cx} {pins:List (Addr × Obj)} {σ:St} {H:Hp} {s:Shared} {a:Addr} {aa:List (Key × V)} {A:Around} {E:Value->Shared->Prop}
theorem a1p {Q:Value->Shared->Prop} (I:Inv X pins σ H s) (e:Rd H a (.dK aa)) (h:∀ p s',H p=none->Inv X pins σ (upd H p (.dK aa)) s'->Q (.ref p) s'):wpAny (model X.prog X.w) A (call (.type "dict") [.ref a]) Q E s:=by
 obtain ⟨z,hd,vs,rel,dd⟩:=Km I.hok e;refine kt_call_dict hd dd (by rw [<- rel.length]; exact z) fun h' b7 hs=>?_;refine h _ _ (I.hok.fresh (Nat.le_refl _)) (I.laid (a:=s.heap.objs.size) (o:=.dK aa) (t':=s.toks) (fun b q hq=>?_) (Nat.le_refl _) (Pr z (beq_eq_false_iff_ne.mpr (Ne.symm (Nat.ne_of_lt I.big))) rel b7));exact (hs.2 b (Nat.ne_of_lt (Heap.lt_size hq))).trans (Heap.get?_push_of_some _ hq)
end
section
variable {X:Cx} {pins:List (Addr × Obj)} {σ:St} {H:Hp} {s:Shared} {a:Addr} {y:V} {u:Value} {A:Around} {E:Value->Shared->Prop}
end
end L2
end
section
namespace Att
open PySem PySem.W PySem.Calls PyProof.Rows
theorem Hu {P:Params} {h:Heap}:∀ (ns:List Int) (vs:List Value),WellAll P h vs (ns.map WData.int)->IntsAre vs ns:=by
 intro ns
 induction ns with
 | nil =>
  intro vs w;rw [List.map_nil] at w;cases w;exact .nil
 | cons n ns ih =>
  intro vs w;rw [List.map_cons] at w;cases w with
  | cons a b =>
   cases a;exact .cons _ _ (ih _ b)
theorem Y5 {l:OpenLaw} {n:Nat} (hn:l.most=some n) {P:Params} {h:Heap} {args:List WData} {vals:List Value}
  (bT:l.row.toRowW.claim.pre args=true) (hZ:WellAll P h vals args) :
  ∃ a vs ns,vals=[Value.ref a]/\args=[WData.list (ns.map WData.int)]/\h.get? a=some { cls:=.type "list",data:=.seq vs.toArray }/\IntsAre vs ns/\ns.length<=n:=by
 have kq:WShape.hasAll [] args [.list .int]=true:=(pre_splitW bT).1;have hc:l.pre.holds [] { args:=args } = true:=(pre_splitW bT).2;obtain ⟨d,r,rfl,h1,h2⟩:=hasAllW_cons kq;obtain rfl:=hasAllW_nil h2;obtain ⟨xs,rfl,h3⟩:=hasW_list h1;obtain ⟨ns,rfl⟩:=items_int h3
 have hlen:ns.length<=n:=by
  unfold OpenLaw.pre at hc
  have h4:(WTm.not (.lt (.lit (.int (n:Int))) (.len (.arg 0)))).holds [] { args:=[.list (ns.map .int)] } = true:=by
   have h4:=(holds_andW hc).1;rw [hn] at h4;exact h4
  have h5:=condW_of h4 (w_not (w_lt w_lit (w_len_list (w_arg rfl))));rw [List.length_map] at h5;refine Nat.le_of_not_lt fun q=>?_;have q':(n:Int)<((ns.length:Nat):Int):=by omega
  first
   | (rw [decide_eq_true q'] at h5; exact absurd h5 (by decide))
   | (simp at h5; omega)
 cases hZ with
 | cons w1 w2 =>
  cases w2;cases w1 with
  | list ho hall=>exact ⟨_,_,ns,rfl,rfl,ho,Hu ns _ hall,hlen⟩
theorem Wk (l:OpenLaw) (args:List WData):l.row.toRowW.claim.post args (.bool true) args=true :=
 postW_of (r:=l.row.toRowW) (X:=(true==true))
  (show WShape.has [] (.bool true) .bool=true by first | rfl | decide | simp [WShape.has,WShape.arms,WShape.armsAll])
  (show (WTm.eq .res (.lit (.bool true))).value [] { args:=args,res:=some (.bool true),after:=args } = some (.bool (true==true)) from w_eq_bool (w_res rfl) w_lit) rfl
theorem O9 {l:OpenLaw} {n:Nat} {q:Program} {loose:List Str} {XP:(Str->Option Value)->Heap->Prop} {YP:World->Heap->Prop} {d:DefRec}
  (hn:l.most=some n) (fi:d.params.defaults=[])
  (call:∀ (w:World) (s₀ ax:Shared) (mg mb:Str->Option Value) (fa:Addr) (o:Obj) (pm cd doc:Value) (a:Addr) (vs:List Value) (ns:List Int),
   Ground q loose [] XP w s₀ mg mb ax.heap->YP w ax.heap ->
   ax.heap.get? fa=some o->o.data=.func (docDef d.name d.params d.body d.scope pm cd doc)->ax.heap.CodeRec cd d.name->mg d.name=some (.ref fa) ->
   ax.heap.get? a=some { cls:=.type "list",data:=.seq vs.toArray }->IntsAre vs ns->ns.length<=n->ax.gens = #[] ->
   codeAny (model l.prog w) callerA (.call (.ref fa) ⟨[.ref a],[]⟩) (fun r s'=>r=.ok (.ret (.bool true))/\OldK ax.heap s'.heap/\s'.os=ax.os/\AllBare s'.gens) ax) :
  WalkO q loose XP YP l.row.toRowW d [] (fun f vs=>PySem.call f vs):=by
 intro w s₀ ax mg mb G Y fa o pm cd doc dV kV ho hd bG hD bj hg args vals as bT kN iS hZ jb;obtain rfl:dV=.none:=Dflts.none hD fi;obtain rfl:kV=.none:=Dflts.noKw hD;obtain ⟨a,vs,ns,rfl,rfl,cX,hints,hlen⟩:=Y5 hn bT hZ;refine enter_call (codeAny_mono (call w s₀ ax mg mb fa o pm cd doc a vs ns G Y ho (fd_plain hd) bG bj cX hints hlen hg) fun r s' hq=>?_);obtain ⟨rfl,h2,h3,h4⟩:=hq;exact ⟨.inl ⟨.bool true,.bool true,[],rfl,fun _=>rfl,.bool true,Wk l _,fun _=>⟨List.Pairwise.nil,fun _ hm=>(nomatch hm)⟩⟩,h2,h3,h4⟩
section
variable {prog:Program} {w:World} {A:Around} {E:Value->Shared->Prop} {s:Shared} {K:Frag}
def Jk (h:Heap):Heap:={ h with objs:=#[] }
end
end Att
namespace L2
open PySem PySem.Spec PyProof.Rows
theorem Ku:∀ {vs:List Value} {ns:List Int},IntsAre vs ns->Vals (ns.map V.int) vs
 | _,_,.nil=>.nil
 | _,_,.cons n t h=>.cons ⟨t,rfl⟩ (Ku h)
end L2
namespace L2
open PySem PySem.Spec PyProof.Rows
end L2
namespace L2
open PySem PySem.Spec PyProof.Rows
noncomputable def wu (s:Stmt):Arguments:=match s with
 | .FunctionDef _ a _ _ _ _ _ _ _ _=>a
 | _=>{ posonlyargs:=[],args:=[],vararg:=none,kwonlyargs:=[],kw_defaults:=[],kwarg:=none,defaults:=[] }
def nu (s:Stmt):List Stmt:=match s with
 | .FunctionDef _ _ b _ _ _ _ _ _ _=>b
 | _=>[]
noncomputable def dh (s:Stmt):Scope:=match s with
 | .FunctionDef _ _ _ _ _ _ sc _ _ _=>sc
 | _=>{ kind:=.function,names:=[],isGenerator:=false,isCoroutine:=false }
abbrev CX0:CXT:=fun _ _ _ _ _ _=>False
abbrev E0:XK:=fun _ _ _=>False
theorem a8j {X:Cx}:Passes CX0 X E0:=fun _ _ _ _ _ _ _ h=>h.elim
structure Fun (K:PySem.W.Frag) (x qual:Str) (st:Stmt) (f:Addr) (fd:FuncData):Prop where
 ex:∃ (oc:Value) (od:Option Addr) (kV doc pm:Value) (an:Option Addr) (aS ct:Value) (cM:Array (Option Value)),
  fd=PySem.W.fnOf x qual (wu st) (nu st) (dh st) .none kV doc pm an aS ct/\K.lookup f=some ⟨oc,od,.func fd,cM⟩/\PySem.W.codeIn K aS qual=true
 kp:PySem.W.keepIn K (.ref f)=true
section
variable {P:Program} {w:World} {K:PySem.W.Frag} {mg:Str->Option Value} {base:Heap}
theorem Fun.ok {x qual:Str} {st:Stmt} {f:Addr} {fd:FuncData} {N ps:List Str} {k:Nat} {sp:Sp} (F:Fun K x qual st f fd) (S:jc N ps (dh st)) (len:∀ vs H Q E,sp vs H Q E->vs.length=ps.length)
  (cm:∀ (aS:Value) (A:Around) (outer:List Env) (s:Shared) (H:Hp) (vs:List V) (Q:VK) (E:XK),zy k (A.deeper (envOfC qual (dh st) s.heap.objs.size f aS))->sp vs H Q E ->
   ∃ t,PSs (Og CX0 P w K mg base N qual (dh st) f aS A outer s H E).nox (nu st) t/\t { nx:=fun _ H'=>Q .non H',rt:=Q } (start N vs) H):qz P w K mg base CX0 (k+1) f fd ps sp:=by
 obtain ⟨oc,od,kV,doc,pm,an,aS,ct,cM,rfl,lk,bG⟩:=F.ex;refine Yo lk bG S len fun A outer s H vs Q E hr dD=>?_;obtain ⟨t,h,q⟩:=cm aS A outer s H vs Q E hr dD;exact ⟨t,h.nox,q⟩
theorem Fun.binds {x qual:Str} {st:Stmt} {f:Addr} {fd:FuncData} {ps:List Str} (F:Fun K x qual st f fd)
  (h:∀ (kV doc pm:Value) (an:Option Addr) (aS ct:Value) (us:List Value),us.length=ps.length->bindArgs (PySem.W.fnOf x qual (wu st) (nu st) (dh st) .none kV doc pm an aS ct) ⟨us,[]⟩=pure (ps.zip us)):Binds K fd ps []:=by
 obtain ⟨oc,od,kV,doc,pm,an,aS,ct,cM,rfl,lk,bG⟩:=F.ex;exact .all (h kV doc pm an aS ct)
theorem bd1 {fd:FuncData} {ps:List Str} (h:∀ a,bindArgs fd ⟨[a],[]⟩=pure (ps.zip [a])) (us:List Value) (hl:us.length=1):bindArgs fd ⟨us,[]⟩=pure (ps.zip us):=by
 cases us with
 | nil=>exact nomatch hl
 | cons a us =>
 cases us with
 | cons _ _=>simp at hl
 | nil=>exact h a
theorem bd2 {fd:FuncData} {ps:List Str} (h:∀ a b,bindArgs fd ⟨[a,b],[]⟩=pure (ps.zip [a,b])) (us:List Value) (hl:us.length=2):bindArgs fd ⟨us,[]⟩=pure (ps.zip us):=by
 cases us with
 | nil=>exact nomatch hl
 | cons a us =>
 cases us with
 | nil=>exact nomatch hl
 | cons b us =>
 cases us with
 | cons _ _=>simp at hl
 | nil=>exact h a b
theorem bd3 {fd:FuncData} {ps:List Str} (h:∀ a b c,bindArgs fd ⟨[a,b,c],[]⟩=pure (ps.zip [a,b,c])) (us:List Value) (hl:us.length=3):bindArgs fd ⟨us,[]⟩=pure (ps.zip us):=by
 cases us with
 | nil=>exact nomatch hl
 | cons a us =>
 cases us with
 | nil=>exact nomatch hl
 | cons b us =>
 cases us with
 | nil=>exact nomatch hl
 | cons c us =>
 cases us with
 | cons _ _=>simp at hl
 | nil=>exact h a b c
theorem bd4 {fd:FuncData} {ps:List Str} (h:∀ a b c d,bindArgs fd ⟨[a,b,c,d],[]⟩=pure (ps.zip [a,b,c,d])) (us:List Value) (hl:us.length=4):bindArgs fd ⟨us,[]⟩=pure (ps.zip us):=by
 cases us with
 | nil=>exact nomatch hl
 | cons a us =>
 cases us with
 | nil=>exact nomatch hl
 | cons b us =>
 cases us with
 | nil=>exact nomatch hl
 | cons c us =>
 cases us with
 | nil=>exact nomatch hl
 | cons d us =>
 cases us with
 | cons _ _=>simp at hl
 | nil=>exact h a b c d
theorem bd5 {fd:FuncData} {ps:List Str} (h:∀ a b c d e,bindArgs fd ⟨[a,b,c,d,e],[]⟩=pure (ps.zip [a,b,c,d,e])) (us:List Value) (hl:us.length=5):bindArgs fd ⟨us,[]⟩=pure (ps.zip us):=by
 cases us with
 | nil=>exact nomatch hl
 | cons a us =>
 cases us with
 | nil=>exact nomatch hl
 | cons b us =>
 cases us with
 | nil=>exact nomatch hl
 | cons c us =>
 cases us with
 | nil=>exact nomatch hl
 | cons d us =>
 cases us with
 | nil=>exact nomatch hl
 | cons e us =>
 cases us with
 | cons _ _=>simp at hl
 | nil=>exact h a b c d e
theorem Mi {x qual:Str} {st:Stmt} {f:Addr} {oc:Value} {od an:Option Addr} {cM:Array (Option Value)} {kV doc pm aS ct:Value} (l:K.lookup f=some ⟨oc,od,.func (PySem.W.fnOf x qual (wu st) (nu st) (dh st) .none kV doc pm an aS ct),cM⟩)
  (c:PySem.W.codeIn K aS qual=true) (k:PySem.W.keepIn K (.ref f)=true):Fun K x qual st f (PySem.W.fnOf x qual (wu st) (nu st) (dh st) .none kV doc pm an aS ct):=⟨⟨oc,od,kV,doc,pm,an,aS,ct,cM,rfl,l,c⟩,k⟩
end
theorem wz {A:Around} {k:Nat} (hr:zy k A):A.units+1<cLine:=Nat.lt_of_le_of_lt (Nat.add_le_add_left (by decide:1<=64) _) hr.units
theorem Bb {n:Nat} (h:n<=1000):n<sizeLine:=Nat.lt_of_le_of_lt h (by decide)
section
variable {X:Cx}
theorem pv (i:Nat) {x:Str} {pos:Pos} (hN:X.N[i]? = some x:=by rfl) (hv:Vis X.env.scope x:=by first | exact Or.inl rfl | exact Or.inr (Or.inl rfl) | exact Or.inr (Or.inr rfl)) (hd:(x==("__debug__" : Str))=false:=by decide)
  (bG:(x==("__classdict__" : Str))=false:=by decide):PE X (.Name x pos) (Xm i):=Vr hN hv hd bG
end
theorem a2h {A B:Prop} (h:B):if false=true then A else B:=by
 rw [if_neg Bool.false_ne_true];exact h
theorem a2x {A B:Prop} (h:A):if true=true then A else B:=by
 rw [if_pos rfl];exact h
def Same (H H':Hp):Prop:=∀ b o,H b=some o->H' b=some o
theorem Same.refl (H:Hp):Same H H:=fun _ _ h=>h
theorem Same.trans {H H1 H2:Hp} (a:Same H H1) (b:Same H1 H2):Same H H2:=fun c o h=>b c o (a c o h)
theorem Same.free {H H':Hp} (e:Same H H') {l:Addr} (h:H' l=Option.none):H l=Option.none:=by
 cases q:H l with
 | none=>rfl
 | some o =>
  rw [e l o q] at h;cases h
theorem Same.seq {K:PySem.W.Frag} {H H':Hp} {a:Addr} {xs:List V} (e:Same H H') (h:SqL K H a xs):SqL K H' a xs:=by
 rcases h with (h | ⟨o,h⟩) | h
 ·exact .inl (.inl (e _ _ h))
 ·exact .inl (.inr ⟨o,e _ _ h⟩)
 ·exact .inr h
section
variable {X:Cx}
end
section
variable {κ:Type} [DecidableEq κ]
end
section
variable {pr:Program} {wd:World} {Ar:Around} {Rs:Result->Shared->Prop} {s:Shared}
theorem Nf {el gI jA:Expr} {cs:List Expr} {jH:Scope} {ps:Pos} {dS bR:Value} {en:Env} (J:Nat->Shared->Prop)
  (turn:∀ n z,J n z->wpAny (model pr wd) Ar (pyNext dS) (fun nx z1=>match nx with
   | none=>Rs (.ok .next) z1
   | some v=>wpAny (model pr wd) Ar (letOwnedTupleGo gI dS v) (fun _ z2=>wpAny (model pr wd) Ar (assign gI en v) (fun _ z3 =>
     wpAny (model pr wd) Ar (forIn cs true fun c go=>if go=true then do let ok <- isTrue c en (eval c en); pure (ForInStep.yield ok) else pure (ForInStep.yield go)) (fun ok z4 =>
      if ok=true then wpAny (model pr wd) Ar (eval el en) (fun x z5 =>
       wpAny (model pr wd) Ar (call (.builtin "list.append") [bR,x]) (fun _ z6=>∃ m,m<n/\J m z6) (fun _ _=>False) z5) (fun _ _=>False) z4
      else ∃ m,m<n/\J m z4) (fun _ _=>False) z3) (fun _ _=>False) z2) (fun _ _=>False) z1) (fun _ _=>False) z)
  (n:Nat) (h:J n s) :
  codeAny (model pr wd) Ar (.compLoop (.ListComp el [⟨gI,jA,cs,0⟩] jH ps) 0 dS bR en) Rs s:=by
 refine codeAny_loop rfl J (fun k z hz=>?_) n h;show wpAny _ Ar ((compTurn (.ListComp el [⟨gI,jA,cs,0⟩] jH ps) 0 dS bR en).onRaise (fun ex=>do noteFrame ex en; theTreesLotGoes ex)) _ _ z;refine wpAny_noted ?_;rw [compTurn_list];refine wpAny_bind (wpAny_standAt (wpAny_bind (wpAny_mono (turn k z hz) (fun nx z1 g1=>?_) fun _ _ no=>no.elim)));cases nx with
 | none=>exact wpAny_pure g1
 | some v =>
  refine wpAny_bind (wpAny_mono g1 (fun _ z2 g2=>?_) fun _ _ no=>no.elim);refine wpAny_bind (wpAny_mono g2 (fun _ z3 g3=>wpAny_bind (wpAny_mono g3 (fun ok z4 g4=>?_) fun _ _ no=>no.elim)) fun _ _ no=>no.elim);cases ok with
  | false=>exact wpAny_pure (And.intro rfl g4)
  | true =>
   exact wpAny_bind (wpAny_bind (wpAny_mono g4 (fun x z5 g5=>wpAny_bind (wpAny_mono g5 (fun _ z6 g6=>wpAny_pure (wpAny_pure (And.intro rfl g6))) fun _ _ no=>no.elim)) fun _ _ no=>no.elim))
end
noncomputable def S8 (env:Env):List (Str × NameKind)->List (Str × Addr)->List (Str × Addr)
 | [],cs=>cs
 | (n,k)::r,cs=>S8 env r (if (k==NameKind.free)=true then (match env.cells.lookup n with | some c=>(n,c)::cs | none=>cs) else cs)
noncomputable def Bo (env:Env) (names:List (Str × NameKind)):Bool:=names.all fun y=>!(y.2==NameKind.free)||(env.cells.lookup y.1).isSome
theorem Jy {scope:Scope} {env:Env} (h:Bo env scope.names=true):closureFor scope env=pure (S8 env scope.names []):=by
 have key:∀ (l:List (Str × NameKind)) (cs:List (Str × Addr)),Bo env l=true ->
   (forIn (m:=Sem) l cs fun x r=>(do
    if (x.2==NameKind.free)=true then
     let c <- cellOf env x.1
     pure (ForInStep.yield ((x.1,c)::r))
    else pure (ForInStep.yield r)))=pure (S8 env l cs):=by
  intro l
  induction l with
  | nil=>intro cs _; rfl
  | cons x r ih =>
   intro cs h;obtain ⟨n,k⟩:=x;unfold Bo at h;rw [List.all_cons,Bool.and_eq_true] at h;obtain ⟨h1,h2⟩:=h;rw [List.forIn_cons]
   by_cases hk:(k==NameKind.free)=true
   ·have eJ:(env.cells.lookup n).isSome=true:=by simpa [hk] using h1
    obtain ⟨c,hc⟩:=Option.isSome_iff_exists.mp eJ;have e:cellOf env n=pure c:=by unfold cellOf; rw [hc]
    simp only [hk,if_true,e,pure_bind];rw [ih _ h2];simp only [S8,hk,if_true,hc]
   ·simp only [hk,if_false,pure_bind,Bool.false_eq_true];rw [ih _ h2];simp only [S8,hk,if_false,Bool.false_eq_true]
 have:=key scope.names [] h;unfold closureFor;simpa using this
noncomputable def mz (X:Cx) (scope:Scope) (N:List Str) (C:Addr) (s₀:Shared) (H₀:Hp) (ex:List Addr) (pn:List (Addr × Obj)):Cx :=
 { X with N:=N,s₀:=s₀,H₀:=H₀,env:=compEnvC scope (S8 X.env scope.names []) C X.env,outer:=X.stack,ex:=ex,fn:=fun _=>false,pn:=pn,xe:=fun _ _=>False }
structure Gm (X:Cx) (scope:Scope) (N:List Str):Prop where
 has:Bo X.env scope.names=true
 kind:scope.kind=.function
 nocell:∀ y∈scope.names,y.2≠.cell
 names:∀ y∈scope.names,y.2=.local->scope.names.lookup y.1=some .local
def a9o (X:Cx) (scope:Scope) (x:Str):Prop :=
 (X.env.kindOf x=some .cell\/X.env.kindOf x=some .free)/\Vis X.env.scope x/\((relabel scope X.env).names.lookup x=some .cell\/(relabel scope X.env).names.lookup x=some .free)
theorem Hv {env:Env}:∀ (l:List (Str × NameKind)) (cs:List (Str × Addr)),(∀ x c,cs.lookup x=some c->env.cells.lookup x=some c) ->
  ∀ x c,(S8 env l cs).lookup x=some c->env.cells.lookup x=some c
 | [],cs,h,x,c,e=>h x c e
 | (n,k)::r,cs,h,x,c,e=>by
  rw [S8] at e;refine Hv r _ (fun y d q=>?_) x c e;split at q
  ·split at q
   ·rename_i c' cW;rw [List.lookup_cons] at q;split at q
    ·rename_i hb;cases q;have ia:=eq_of_beq hb;rw [ia]; exact cW
    ·exact h y d q
   ·exact h y d q
  ·exact h y d q
theorem Ui {env:Env}:∀ (l:List (Str × NameKind)) (cs:List (Str × Addr)) (x:Str),(∃ c,cs.lookup x=some c)->∃ c,(S8 env l cs).lookup x=some c
 | [],cs,x,h=>h
 | (n,k)::r,cs,x,h=>by
  rw [S8];refine Ui r _ x ?_;split
  ·split
   ·rename_i c' cW;rw [List.lookup_cons];split
    ·exact ⟨_,rfl⟩
    ·exact h
   ·exact h
  ·exact h
theorem Wq {env:Env}:∀ (l:List (Str × NameKind)) (cs:List (Str × Addr)) (x:Str),Bo env l=true->(x,NameKind.free)∈l->∃ c,(S8 env l cs).lookup x=some c
 | [],cs,x,_,h=>by simp at h
 | (n,k)::r,cs,x,hh,h=>by
  unfold Bo at hh;rw [List.all_cons,Bool.and_eq_true] at hh;rw [S8];rcases List.mem_cons.mp h with e | h'
  ·injection e with e1 e2;subst e1; subst e2;have h1:(env.cells.lookup x).isSome=true:=by simpa using hh.1
   obtain ⟨c,hc⟩:=Option.isSome_iff_exists.mp h1;refine Ui r _ x ?_;simp [hc]
  ·exact Wq r _ x hh.2 h'
theorem mem_of_lookup {α:Type}:∀ {l:List (Str × α)} {x:Str} {k:α},l.lookup x=some k->(x,k)∈l
 | [],_,_,h=>by simp at h
 | (n,k')::r,x,k,h=>by
  rw [List.lookup_cons] at h;split at h
  ·rename_i hb;cases h;have ia:=eq_of_beq hb;rw [ia]; exact List.mem_cons_self
  ·exact List.mem_cons_of_mem _ (mem_of_lookup h)
theorem Qv {scope:Scope} {env:Env} (nc:∀ y∈scope.names,y.2≠.cell) {x:Str} (h:(relabel scope env).names.lookup x=some .cell\/(relabel scope env).names.lookup x=some .free):(x,NameKind.free)∈scope.names:=by
 have:∃ k,(x,k)∈(relabel scope env).names/\(k=.cell\/k=.free):=by
  rcases h with h | h
  ·exact ⟨_,mem_of_lookup h,.inl rfl⟩
  ·exact ⟨_,mem_of_lookup h,.inr rfl⟩
 obtain ⟨k,hm,hk⟩:=this;obtain ⟨⟨n,k'⟩,hm',e⟩:=List.mem_map.mp hm;dsimp only at e;split at e
 ·rename_i hc;cases e;simp only [Bool.and_eq_true,beq_iff_eq] at hc;obtain ⟨⟨h1,_⟩,_⟩:=hc;subst h1; exact hm'
 ·cases e;rcases hk with rfl | rfl
  ·exact absurd rfl (nc _ hm')
  ·exact hm'
def PTs (X:Cx) (ifs:List Expr) (t:TT):Prop:=∀ (pins:List (Addr × Obj)) (s:Shared) (σ:St) (H:Hp) (Q:Bool->Hp->Prop),Inv X pins σ H s->t σ H Q ->
 wpAny (model X.prog X.w) X.A (forIn ifs true fun c r=>if r=true then do let ok <- isTrue c X.env (eval c X.env); pure (ForInStep.yield ok) else pure (ForInStep.yield r)) (TP X pins σ Q) X.xe s
theorem a4r {X:Cx}:PTs X [] (fun _ H Q=>Q true H):=fun pins s σ H Q I h=>wpAny_tests_nil ⟨H,I,h⟩
theorem a3s {X:Cx} {c:Expr} {t:TT} (h:PT X c t):PTs X [c] t:=fun pins s σ H Q I q=>wpAny_tests_one (h pins s σ H Q I q)
def Np (X:Cx) (scope:Scope) (N:List Str) (g:TG) (tc:TT) (te:TE) (σ:St) (J:It) (H1:Hp) (Q:VK):Prop:=∀ D,H1 D=none->∃ dG:St,dG.length=N.length /\
 (∀ (i:Nat) (v:V) (x:Str),dG[i]? = some (some v)->N[i]? = some x->Vis (relabel scope X.env) x->∃ k:Nat,X.N[k]? = some x/\σ[k]? = some (some v)/\a9o X scope x) /\
 ∃ W:Nat->Nat->St->Hp->Prop,(∃ m,W 0 m dG (upd H1 D (.lst [])))/\∀ i m σ' H',W i m σ' H' ->
  (J.stop i H'/\Q (.ref D) H')\/(J.go i H'/\∀ x H2,J.yld i H' x H2->g x σ' H2 fun cV H3=>tc cV H3 fun b H4=>if b=true then te cV H4 fun y H5=>∃ l,H5 D=some (.lst l)/\l.length<sizeLine/\∃ m',m'<m/\W (i+1) m' cV (upd H5 D (.lst (l++[y]))) else ∃ m',m'<m/\W (i+1) m' cV H4)
noncomputable def a6n (X:Cx) (scope:Scope) (N:List Str) (wi:TI) (g:TG) (tc:TT) (te:TE):TE:=fun σ H Q=>wi σ H fun J H1=>Np X scope N g tc te σ J H1 Q
section
variable {X:Cx} {scope:Scope} {N:List Str}
theorem Wu (sc:Gm X scope N) {pins:List (Addr × Obj)} {σ:St} {H:Hp} {s:Shared} {fp:List Addr} (I:Inv X pins σ H s) (hf:∀ b∈fp,Nk X pins H b) (hU:∀ b∈fp,b<s.heap.objs.size) :
  (mz X scope N s.heap.objs.size s H fp (X.pn++pins)).Ok where
 mod:=I.ok.mod
 kind:=sc.kind
 glob:=I.ok.glob
 blt:=I.ok.blt
 above:=Nat.le_refl _
 inj:=fun x y c h1 h2=>I.ok.inj x y c (Hv _ [] (fun _ _ z=>by simp at z) x c h1) (Hv _ [] (fun _ _ z=>by simp at z) y c h2)
 has:=fun x h=>Wq _ [] x sc.has (Qv sc.nocell h)
 cab:=fun x c h=>by cases h
 hd:=I.ok.hd
 frames:=I.ok.frames
 stk:=.inl rfl
 exf:=fun b hb=>⟨Nat.ne_of_lt (hU b hb),fun x c h=>(hf b hb).2.2.2.2.1 x c (Hv _ [] (fun _ _ z=>by simp at z) x c h)⟩
 bs:=I.bs
 bsz:=Nat.le_trans I.ok.bsz I.sz
 noex:=fun b o e hb=>by
  rcases (hf b hb).2.2.2.1 with z | z
  ·exact I.ok.noex b o e z
  ·exact absurd (Nat.lt_of_lt_of_le (Heap.lt_size e) (Nat.le_trans I.ok.bsz z)) (Nat.lt_irrefl _)
 exfs:=fun b hb z=>by
  rcases List.mem_cons.mp (I.Mw b z) with e | e
  ·exact (hf b hb).2.1 e
  ·exact (hf b hb).2.2.1 e
 Ko:=I.stack
 frf:=I.Ju
theorem Tp (sc:Gm X scope N) {pins:List (Addr × Obj)} {σ dG:St} {H:Hp} {s:Shared} {fp:List Addr} {h':Heap} {m:Str->Option Value} {tk:Nat} (I:Inv X pins σ H s) (hf:∀ b∈fp,Nk X pins H b) (hU:∀ b∈fp,b<s.heap.objs.size)
  (hl:dG.length=N.length) (h0:∀ (i:Nat) (v:V) (x:Str),dG[i]? = some (some v)->N[i]? = some x->Vis (relabel scope X.env) x->∃ k:Nat,X.N[k]? = some x/\σ[k]? = some (some v)/\a9o X scope x)
  (hn:h'.Ns s.heap.objs.size m) (hk:∀ b o,s.heap.get? b=some o->h'.get? b=some o) :
  Inv (mz X scope N s.heap.objs.size s H fp (X.pn++pins)) [] dG H { s with heap:=h',toks:=tk } where
 ok:=Wu sc I hf hU
 os:=rfl
 bare:=I.bare
 base:=Un.kept hk
 loc:=⟨m,hn,fun i x v e1 e2 e3=>by
  obtain ⟨k,n2,n3,ck,cv,cr⟩:=h0 i v x e2 e1 e3;obtain ⟨m0,_,hl0⟩:=I.loc;obtain ⟨u,r,l⟩:=hl0 k x v n2 n3 cv;refine ⟨u,r,.inr ⟨cr,?_⟩⟩;rcases l with ⟨l1,_⟩ | ⟨_,c,hc,z⟩
  ·rcases ck with q | q <;> (rw [l1] at q; cases q)
  ·obtain ⟨c',cW⟩:=Wq (env:=X.env) scope.names [] x sc.has (Qv sc.nocell cr);have q:=Hv scope.names [] (fun _ _ z=>by simp at z) x c' cW;rw [hc] at q; cases q;obtain ⟨o,ho,hd⟩:=z;exact ⟨c,cW,o,hk _ _ ho,hd⟩⟩
 cell:=fun x c e=>by
  obtain ⟨v,o,ho,hd⟩:=I.cell x c (Hv scope.names [] (fun _ _ z=>by simp at z) x c e);exact ⟨v,o,hk _ _ ho,hd⟩
 free:=I.hok.fresh (Nat.le_refl _)
 freeC:=fun x c e=>I.freeC x c (Hv scope.names [] (fun _ _ z=>by simp at z) x c e)
 pin:=fun p hp=>by
  have iH:p∈X.pn++pins:=by simpa [mz] using hp
  obtain ⟨a,b,c,d,e⟩:=I.pin p iH;refine ⟨hk _ _ a,b,Nat.ne_of_lt (Heap.lt_size a),fun z=>?_,e⟩;rcases List.mem_cons.mp (I.Mw p.1 z) with q | q
  ·exact c q
  ·exact d q
 hok:=I.hok.kept hk
 len:=hl
theorem Ys {pins:List (Addr × Obj)} {σ σ':St} {H H':Hp} {s s':Shared} {fp:List Addr} {h':Heap} (I:Inv X pins σ H s) (hf:∀ b∈fp,Nk X pins H b)
  (J:Inv (mz X scope N s.heap.objs.size s H fp (X.pn++pins)) [] σ' H' s') (hs:Heap.SameBut s.heap.objs.size s'.heap h'):Inv X pins σ H' { s' with heap:=h' }:=by
 have kb:∀ b o,b≠s.heap.objs.size->s'.heap.get? b=some o->h'.get? b=some o:=fun b o n e=>hs.extBut b o n e;have ne:∀ b o,s.heap.get? b=some o->b≠s.heap.objs.size:=fun b o e=>Nat.ne_of_lt (Heap.lt_size e);have fr:H' s.heap.objs.size=none:=J.free;have u0:Un (frs X.stack) fp H H' s.heap s'.heap:=J.base
 have u:Un (frs X.stack) fp H H' s.heap h':=⟨fun b o e n h1 h2=>kb b o (ne b o e) (u0.keep b o e n h1 h2),fun b o e n h1 h2=>by
   obtain ⟨sl,q⟩:=u0.slot b o e n h1 h2;exact ⟨sl,kb b _ (ne b o e) q⟩,u0.free,fun b o e h=>by
   obtain ⟨o',q⟩:=u0.there b o e h;exact ⟨o',kb b _ (ne b o e) q⟩,u0.tups,u0.frzs,u0.tbls⟩
 have hok:HOk X.prog X.w H' h':=fun b o e=>by
  refine (J.hok b o e).stay (fun c v hc q=>kb c v ?_ q) (fun _ q=>q) fun _ _ q=>q;rcases hc with z | z
  ·rw [z]; intro y; rw [y] at e; rw [fr] at e; cases e
  ·intro y; rw [y] at z; rw [fr] at z; cases z
 have eK:s'.os=s.os:=J.os;obtain ⟨hh,g,d,t,os'⟩:=s';obtain rfl:os'=s.os:=eK;exact Inv.call (X:=X) (s:=s) (H:=H) (h':=h') (g':=g) (d':=d) (t':=t) (ch:=fp) I u hok J.bare fun b hb=>⟨(hf b hb).2.2.2.1,(hf b hb).2.1,(hf b hb).2.2.2.2.1,(hf b hb).2.2.2.2.2⟩
variable {tg iter elt:Expr} {ifs:List Expr} {pos:Pos} {g:TG} {tc:TT} {te:TE}
theorem S7 (sc:Gm X scope N) (calm:X.calm=true)
  (hg:∀ C s₀ H₀ ex pn,PG (mz X scope N C s₀ H₀ ex pn) tg g) (hc:∀ C s₀ H₀ ex pn,PTs (mz X scope N C s₀ H₀ ex pn) ifs tc) (he:∀ C s₀ H₀ ex pn,PE (mz X scope N C s₀ H₀ ex pn) elt te)
  {pins:List (Addr × Obj)} {σ:St} {H1:Hp} {aO:Shared} {it:Addr} {fp:List Addr} {tn:Nat->Heap->Prop} {J:It} {Q:VK} {E:Value->Shared->Prop} {RR:Value->Addr->Result->Shared->Prop}
  (I:Inv X pins σ H1 aO) (T:Turn X.prog X.w X.K tg J fp it tn) (dX:tn 0 aO.heap) (f2:∀ b∈fp,Nk X pins H1 b) (q:Np X scope N g tc te σ J H1 Q)
  (kI:∀ D a5 H3 σ' H' s',Inv X pins σ H3 a5->(∀ b∈fp,Nk X pins H3 b)->Inv (mz X scope N a5.heap.objs.size a5 H3 fp (X.pn++pins)) [] σ' H' s'->Q (.ref D) H'->RR (.ref D) a5.heap.objs.size (.ok .next) s') :
  wpAny (model X.prog X.w) X.A (newList []) (fun acc a5=>wpAny (model X.prog X.w) X.A (newFunctionEnv scope X.env.globals (S8 X.env scope.names []) [] X.env.qual none .none (some X.env)) (fun fC dm =>
   codeAny (model X.prog X.w) X.A (.compStart (.ListComp elt [⟨tg,iter,ifs,0⟩] scope pos) 0 (.ref it) acc { fC with scope:=relabel scope X.env }) (RR acc fC.locals) dm) E a5) E aO:=by
 refine wpAny_newObj_type (wpAny_newFunctionEnv sc.nocell (by intro y hy; simp at hy) (fun cN cK cI=>?_) sc.kind);dsimp only at cK cI ⊢
 have I3:Inv X pins σ (upd H1 aO.heap.objs.size (.lst [])) { aO with heap:=aO.heap.push { cls:=.type "list",dict:=none,data:=.seq ([]:List Value).toArray } } :=
  I.laid (t':=aO.toks) (fun b ob q=>Heap.get?_push_of_some _ q) (Nat.le_refl _) ⟨Nat.zero_le _,[],_,.nil,Heap.get?_push_size _ rfl⟩
 generalize hs3:({ aO with heap:=aO.heap.push { cls:=.type "list",dict:=none,data:=.seq ([]:List Value).toArray } }:Shared)=a5 at I3;have du:aO.heap.push { cls:=.type "list",dict:=none,data:=.seq ([]:List Value).toArray } = a5.heap:=by rw [<- hs3]
 have eM:∀ (h:Heap) (t:Nat),({ aO with heap:=h,toks:=t }:Shared) = { a5 with heap:=h,toks:=t }:=fun h t=>by rw [<- hs3]
 rw [du] at cK cI ⊢
 have iZ:∀ b∈fp,b<aO.heap.objs.size:=fun b hb=>by
  obtain ⟨o,ho,_⟩:=T.obj _ _ dX b hb;exact Heap.lt_size ho
 have jU:a5.heap.objs.size=aO.heap.objs.size+1:=by rw [<- du,Heap.size_push]
 have kP:∀ b o,aO.heap.get? b=some o->a5.heap.get? b=some o:=fun b o e=>by rw [<- du]; exact Heap.get?_push_of_some _ e
 have f3:∀ b∈fp,Nk X pins (upd H1 aO.heap.objs.size (.lst [])) b:=fun b hb=>⟨by rw [c7 (Nat.ne_of_lt (iZ b hb))]; exact (f2 b hb).1,(f2 b hb).2⟩;have js:∀ b∈fp,b<a5.heap.objs.size:=fun b hb=>by rw [jU]; exact Nat.lt_succ_of_lt (iZ b hb)
 obtain ⟨dG,hl,h0,W,⟨m0,w0⟩,turn⟩:=q aO.heap.objs.size (I.hok.fresh (Nat.le_refl _));have jI:∀ b o,a5.heap.get? b=some o->cN.get? b=some o:=fun b o e=>cI.extBut b o (Nat.ne_of_lt (Heap.lt_size e)) (Heap.get?_push_of_some _ e);rw [eM];have J0:=Tp (tk:=aO.toks+([]:List (Str × Value)).length) sc I3 f3 js hl h0 cK jI;have iX:tn 0 cN:=T.keep _ _ _ dX fun b _ o e=>jI b o (kP b o e)
 have key:∀ dm:Shared,dm = { a5 with heap:=cN,toks:=aO.toks+([]:List (Str × Value)).length }->codeAny (model X.prog X.w) X.A (.compLoop (.ListComp elt [⟨tg,iter,ifs,0⟩] scope pos) 0 (.ref it) (.ref aO.heap.objs.size)
   (mz X scope N a5.heap.objs.size a5 (upd H1 aO.heap.objs.size (.lst [])) fp (X.pn++pins)).env) (RR (.ref aO.heap.objs.size) a5.heap.objs.size) dm:=by
  rintro dm rfl;generalize hX:mz X scope N a5.heap.objs.size a5 (upd H1 aO.heap.objs.size (.lst [])) fp (X.pn++pins)=X' at J0;have hP:X'.prog=X.prog:=by rw [<- hX]; rfl
  have hW:X'.w=X.w:=by rw [<- hX]; rfl
  have hA:X'.A=X.A:=by rw [<- hX]; rfl
  have gH:X'.xe=fun _ _=>False:=by rw [<- hX]; rfl
  have hK:X'.K=X.K:=by rw [<- hX]; rfl
  have fD:X'.calm=true:=by rw [<- hX]; exact calm
  have cG:∀ {H':Hp},(∀ b∈fp,H' b=none)->∀ b∈fp,Nk X' [] H' b:=fun hn b hb=>by
   have z:=Wu sc I3 f3 js;rw [hX] at z;refine ⟨hn b hb,(z.exf b (by rw [<- hX]; exact hb)).1,z.exfs b (by rw [<- hX]; exact hb),.inl (by rw [<- hX]; exact hb),(z.exf b (by rw [<- hX]; exact hb)).2,fun p hp=>?_⟩;have iH:p∈X.pn++pins:=by rw [<- hX] at hp; simpa [mz] using hp
   exact (f3 b hb).2.2.2.2.2 p iH
  have ll:PG X' tg g:=by rw [<- hX]; exact hg _ _ _ _ _
  have cW:PTs X' ifs tc:=by rw [<- hX]; exact hc _ _ _ _ _
  have fe:PE X' elt te:=by rw [<- hX]; exact he _ _ _ _ _
  have fin:∀ σ' H' s',Inv X' [] σ' H' s'->Q (.ref aO.heap.objs.size) H'->RR (.ref aO.heap.objs.size) a5.heap.objs.size (.ok .next) s':=fun σ' H' s' I' q'=>kI _ a5 _ σ' H' s' I3 f3 (by rw [hX]; exact I') q';have T':Turn X'.prog X'.w X'.K tg J fp it tn:=by rw [hP,hW,hK]; exact T
  rw [<- hP,<- hW,<- hA];refine Nf (J:=fun n s'=>∃ i σ' H',Inv X' [] σ' H' s'/\tn i s'.heap/\(∀ b∈fp,H' b=none)/\W i n σ' H') ?_ m0 ⟨0,dG,_,J0,iX,fun b hb=>(f3 b hb).1,w0⟩;rintro n s5 ⟨i,σ5,H5,I5,st5,fr5,w5⟩;rcases turn i n σ5 H5 w5 with ⟨stop,qn⟩ | ⟨go,step⟩
  ·refine thn (T'.done X' rfl rfl rfl fD i [] s5 σ5 H5 _ I5 (cG fr5) st5 stop) fun r s6 z0=>?_;obtain ⟨hr,I6⟩:=z0;subst hr;exact fin _ _ _ I6 qn
  ·refine thn (T'.item X' rfl rfl rfl fD i [] s5 σ5 H5 _ I5 (cG fr5) st5 go) fun r s6 z0=>?_;obtain ⟨u,hr,h6⟩:=z0;subst hr;refine thn h6 fun _ s7 z0=>?_;obtain ⟨x,H7,I7,r7,y7,st7,fr7⟩:=z0;have k9:=I7.pinned (cG fr7) (T'.obj _ _ st7);have a1:=ll _ s7 σ5 H7 x u _ k9 r7 (step x H7 y7);rw [gH] at a1;refine thn a1 fun _ s8 z0=>?_;obtain ⟨σ8,H8,I8,q8⟩:=z0;have a2:=cW _ s8 σ8 H8 _ I8 q8;rw [gH] at a2;refine thn a2 fun ok s9 z0=>?_;obtain ⟨H9,I9,q9⟩:=z0
   have again:∀ {cD:St} {H7:Hp} {s':Shared} {m':Nat},Inv X' ([]++Mp fp s7.heap) cD H7 s'->m'<n->W (i+1) m' cD H7->∃ m,m<n/\∃ i σ' H',Inv X' [] σ' H' s'/\tn i s'.heap/\(∀ b∈fp,H' b=none)/\W i m σ' H':=fun {cD H7 s' m'} I7 hm w7=>by
    refine ⟨m',hm,i+1,cD,H7,I7.Ft,T'.keep _ _ _ st7 fun b hb o e=>(I7.pin (b,o) (List.mem_append_right _ (List.mem_append_right _ (Bv hb e)))).1,fun b hb=>?_,w7⟩;obtain ⟨o,e,d⟩:=T'.obj _ _ st7 b hb;exact (I7.pin (b,o) (List.mem_append_right _ (List.mem_append_right _ (Bv hb e)))).2.1
   cases ok with
   | false =>
    rw [if_neg Bool.false_ne_true] at q9 ⊢;obtain ⟨m',hm,w9⟩:=q9;exact again I9 hm w9
   | true =>
    rw [if_pos rfl] at q9 ⊢;have a3:=fe _ s9 σ8 H9 _ I9 q9;rw [gH] at a3;refine thn a3 fun xv lh z0=>?_;obtain ⟨y,H10,I10,r10,l,hl10,hz10,m',hm,w10⟩:=z0;have a4:=vf (X:=X') _ lh σ8 H10 (.ref aO.heap.objs.size) [y] (.ref aO.heap.objs.size) [xv] (fun _ H'=>H'=upd H10 aO.heap.objs.size (.lst (l++[y]))) I10 rfl (.cons r10 .nil) ⟨_,l,y,rfl,rfl,hl10,hz10,rfl⟩;rw [gH] at a4;refine thn a4 fun _ lA z0=>?_;obtain ⟨v,H11,I11,_,e11⟩:=z0;subst e11;exact again I11 hm w10
 exact codeAny_compStart_list (key _ rfl) (T.self _ 0 _ _ _ iX (key _ rfl))
theorem W3 {wi:TI} (sc:Gm X scope N) (calm:X.calm=true) (hi:PI X tg iter wi)
  (hg:∀ C s₀ H₀ ex pn,PG (mz X scope N C s₀ H₀ ex pn) tg g) (hc:∀ C s₀ H₀ ex pn,PTs (mz X scope N C s₀ H₀ ex pn) ifs tc) (he:∀ C s₀ H₀ ex pn,PE (mz X scope N C s₀ H₀ ex pn) elt te)
  (hs:∀ x,foldedSetIterable iter X.env x=pure x:=by intro _; rfl):PE X (.ListComp elt [⟨tg,iter,ifs,0⟩] scope pos) (a6n X scope N wi g tc te):=by
 intro pins s σ H Q I h;rw [eval_ListComp];refine wpAny_comprehension_free (use:=none) rfl hs (Jy sc.has) sc.kind sc.names ?_;refine wpAny_mono (hi pins s σ H _ I h) (fun x ax cN=>wpAny_mono cN (fun dS aO de=>?_) fun _ _ e=>e) fun _ _ e=>e;obtain ⟨it,fp,tn,J,H1,rfl,I2,T,dX,f2,q⟩:=de;refine S7 (RR:=fun acc C=>compPost (model X.prog X.w) X.A X.xe none (EP X pins σ Q) acc C) sc calm hg hc he I2 T dX f2 q ?_;intro D a5 H3 σ' H' s' I3 f3 I' qn;obtain ⟨m,hn,_⟩:=I'.loc;exact ⟨m,hn,fun h' e9=>⟨.ref D,H',Ys I3 f3 I' e9,rfl,qn⟩⟩
end
end L2
end
section
namespace C
open PySem PySem.Spec PyProof.Rows L2
mutual
inductive Rep (K:PySem.W.Frag) (S:Hp) (as:List Addr):V->T->Prop where
 | non:Rep K S as .non .non
 | bl (b:Bool):Rep K S as (.bl b) (.bl b)
 | int (i:Int):Rep K S as (.int i) (.int i)
 | str (x:Str):Rep K S as (.str x) (.str x)
 | tup {a:Addr} {vs:List V} {ts:List T}:SqT K S a vs->jg K S as vs ts->Rep K S as (.ref a) (.tup ts)
 | lst {a:Addr} {vs:List V} {ts:List T}:SqL K S a vs->jg K S as vs ts->Rep K S as (.ref a) (.lst ts)
 | dic {a:Addr} {aa:List (L2.Key × V)} {ts:List (L2.Key × T)}:Rd S a (.dK aa)->u9 K S as aa ts->Rep K S as (.ref a) (.dic ts)
 | obj {n:Nat} {a:Addr}:as[n]? = some a->Rep K S as (.ref a) (.obj n)
 | adr (a:Addr):Rep K S as (.ref a) (.adr a)
inductive jg (K:PySem.W.Frag) (S:Hp) (as:List Addr):List V->List T->Prop where
 | nil:jg K S as [] []
 | cons {v:V} {t:T} {vs:List V} {ts:List T}:Rep K S as v t->jg K S as vs ts->jg K S as (v::vs) (t::ts)
inductive u9 (K:PySem.W.Frag) (S:Hp) (as:List Addr):List (L2.Key × V)->List (L2.Key × T)->Prop where
 | nil:u9 K S as [] []
 | cons {k:L2.Key} {v:V} {t:T} {vs:List (L2.Key × V)} {ts:List (L2.Key × T)}:Rep K S as v t->u9 K S as vs ts->u9 K S as ((k,v)::vs) ((k,t)::ts)
end
theorem qt {S S':Hp} {a:Addr} {u:HO} (e:Same S S') (h:Rd S a u):Rd S' a u:=by
 rcases h with h | ⟨o,h⟩
 ·exact .inl (e _ _ h)
 ·exact .inr ⟨o,e _ _ h⟩
theorem j4 {K:PySem.W.Frag} {S S':Hp} {a:Addr} {xs:List V} (e:Same S S') (h:SqT K S a xs):SqT K S' a xs:=by
 rcases h with h | h
 ·exact .inl (qt e h)
 ·exact .inr h
theorem iz {K:PySem.W.Frag} {S S':Hp} {a:Addr} {xs:List V} (e:Same S S') (h:SqL K S a xs):SqL K S' a xs:=by
 rcases h with h | h
 ·exact .inl (qt e h)
 ·exact .inr h
section
variable {K:PySem.W.Frag} {S S':Hp} {as ag:List Addr}
theorem Wh {α:Type} {l r:List α} {n:Nat} {a:α} (h:l[n]? = some a):(l++r)[n]? = some a:=by
 have:=(List.getElem?_eq_some_iff.mp h).1;rw [List.getElem?_append_left this]; exact h
theorem Oj {n:Nat} {a:Addr} (x:∃ l,ag=as++l) (h:as[n]? = some a):ag[n]? = some a:=by obtain ⟨l,rfl⟩:=x; exact Wh h
theorem Rep.mono (e:Same S S') (x:∃ l,ag=as++l) {v:V} {t:T} (h:Rep K S as v t):Rep K S' ag v t :=
 Rep.rec (motive_1:=fun v t _=>Rep K S' ag v t) (motive_2:=fun v t _=>jg K S' ag v t) (motive_3:=fun v t _=>u9 K S' ag v t) .non .bl .int .str (fun h _ i=>.tup (j4 e h) i) (fun h _ i=>.lst (iz e h) i) (fun h _ i=>.dic (qt e h) i) (fun h=>.obj (Oj x h)) .adr .nil (fun _ _ a b=>.cons a b) .nil (fun _ _ a b=>.cons a b) h
theorem jg.mono (e:Same S S') (x:∃ l,ag=as++l) {v:List V} {t:List T} (h:jg K S as v t):jg K S' ag v t :=
 jg.rec (motive_1:=fun v t _=>Rep K S' ag v t) (motive_2:=fun v t _=>jg K S' ag v t) (motive_3:=fun v t _=>u9 K S' ag v t) .non .bl .int .str (fun h _ i=>.tup (j4 e h) i) (fun h _ i=>.lst (iz e h) i) (fun h _ i=>.dic (qt e h) i) (fun h=>.obj (Oj x h)) .adr .nil (fun _ _ a b=>.cons a b) .nil (fun _ _ a b=>.cons a b) h
theorem u9.mono (e:Same S S') (x:∃ l,ag=as++l) {v:List (L2.Key × V)} {t:List (L2.Key × T)} (h:u9 K S as v t):u9 K S' ag v t :=
 u9.rec (motive_1:=fun v t _=>Rep K S' ag v t) (motive_2:=fun v t _=>jg K S' ag v t) (motive_3:=fun v t _=>u9 K S' ag v t) .non .bl .int .str (fun h _ i=>.tup (j4 e h) i) (fun h _ i=>.lst (iz e h) i) (fun h _ i=>.dic (qt e h) i) (fun h=>.obj (Oj x h)) .adr .nil (fun _ _ a b=>.cons a b) .nil (fun _ _ a b=>.cons a b) h
inductive Yi (K:PySem.W.Frag) (S:Hp) (as:List Addr):List (Str × V)->List (Str × T)->Prop where
 | nil:Yi K S as [] []
 | cons {k:Str} {v:V} {t:T} {vs:List (Str × V)} {ts:List (Str × T)}:Rep K S as v t->Yi K S as vs ts->Yi K S as ((k,v)::vs) ((k,t)::ts)
theorem Yi.mono (e:Same S S') (x:∃ l,ag=as++l) {v:List (Str × V)} {t:List (Str × T)} (h:Yi K S as v t):Yi K S' ag v t:=by
 induction h with
 | nil=>exact .nil
 | cons h _ ih=>exact .cons (h.mono e x) ih
inductive Fz (K:PySem.W.Frag) (S:Hp) (as:List Addr):List (List L2.Key × V)->List (List L2.Key × T)->Prop where
 | nil:Fz K S as [] []
 | cons {k:List L2.Key} {v:V} {t:T} {vs:List (List L2.Key × V)} {ts:List (List L2.Key × T)}:Rep K S as v t->Fz K S as vs ts->Fz K S as ((k,v)::vs) ((k,t)::ts)
theorem Fz.mono (e:Same S S') (x:∃ l,ag=as++l) {v:List (List L2.Key × V)} {t:List (List L2.Key × T)} (h:Fz K S as v t):Fz K S' ag v t:=by
 induction h with
 | nil=>exact .nil
 | cons h _ ih=>exact .cons (h.mono e x) ih
def vo (K:PySem.W.Frag) (S:Hp) (b:Addr) (k:List (List L2.Key)):Prop:=∃ us:List V,SqT K S b us/\Paired (fun (u:V) (q:List L2.Key)=>∃ c,u=.ref c/\SqT K S c (q.map kV)) us k
theorem vo.mono {b:Addr} {k:List (List L2.Key)} (e:Same S S') (h:vo K S b k):vo K S' b k :=
 let ⟨us,h1,h2⟩:=h; ⟨us,j4 e h1,Paired.aae h2 fun _ _ z7=>by obtain ⟨c,x,y⟩:=z7; exact ⟨c,x,j4 e y⟩⟩
inductive Ge (K:PySem.W.Frag) (S:Hp) (as:List Addr):List (List (List L2.Key) × Addr × V)->List (List (List L2.Key) × T)->Prop where
 | nil:Ge K S as [] []
 | cons {k:List (List L2.Key)} {b:Addr} {v:V} {t:T} {vs:List (List (List L2.Key) × Addr × V)} {ts:List (List (List L2.Key) × T)}:vo K S b k->Rep K S as v t->Ge K S as vs ts->Ge K S as ((k,b,v)::vs) ((k,t)::ts)
theorem Ge.mono (e:Same S S') (x:∃ l,ag=as++l) {v:List (List (List L2.Key) × Addr × V)} {t:List (List (List L2.Key) × T)} (h:Ge K S as v t):Ge K S' ag v t:=by
 induction h with
 | nil=>exact .nil
 | cons n h _ ih=>exact .cons (n.mono e) (h.mono e x) ih
def Cd (c:Addr) (q:Str):Heap->Prop:=fun h=>∃ o vs tk,h.get? c=some o/\o.data=.fields vs/\vs[1]? = some (.str q tk)
theorem Fz.length {vs:List (List L2.Key × V)} {ts:List (List L2.Key × T)} (h:Fz K S as vs ts):vs.length=ts.length:=by
 induction h with
 | nil=>rfl
 | cons _ _ ih=>exact congrArg (· + 1) ih
theorem jg.length {vs:List V} {ts:List T} (h:jg K S as vs ts):vs.length=ts.length :=
 jg.rec (motive_1:=fun _ _ _=>True) (motive_2:=fun v t _=>v.length=t.length) (motive_3:=fun _ _ _=>True) trivial (fun _=>trivial) (fun _=>trivial) (fun _=>trivial) (fun _ _ _=>trivial) (fun _ _ _=>trivial) (fun _ _ _=>trivial) (fun _=>trivial) (fun _=>trivial) rfl (fun _ _ _ i=>congrArg (· + 1) i) trivial (fun _ _ _ _=>trivial) h
theorem u9.length {vs:List (L2.Key × V)} {ts:List (L2.Key × T)} (h:u9 K S as vs ts):vs.length=ts.length :=
 u9.rec (motive_1:=fun _ _ _=>True) (motive_2:=fun _ _ _=>True) (motive_3:=fun v t _=>v.length=t.length) trivial (fun _=>trivial) (fun _=>trivial) (fun _=>trivial) (fun _ _ _=>trivial) (fun _ _ _=>trivial) (fun _ _ _=>trivial) (fun _=>trivial) (fun _=>trivial) trivial (fun _ _ _ _=>trivial) rfl (fun _ _ _ i=>congrArg (· + 1) i) h
theorem jg.get:∀ {vs:List V} {ts:List T} {i:Nat} {t:T},jg K S as vs ts->ts[i]? = some t->∃ v,vs[i]? = some v/\Rep K S as v t
 | _,_,_,_,.nil,e=>by simp at e
 | _,_,0,_,.cons r _,e=>by simp at e; subst e; exact ⟨_,rfl,r⟩
 | _,_,i+1,t,.cons _ r,e=>by
  obtain ⟨v,h1,h2⟩:=jg.get (i:=i) (t:=t) r (by simpa using e);exact ⟨v,by simpa using h1,h2⟩
theorem jg.append {vs:List V} {ts:List T} {ws:List V} {us:List T} (h:jg K S as vs ts) (q:jg K S as ws us):jg K S as (vs++ws) (ts++us) :=
 jg.rec (motive_1:=fun _ _ _=>True) (motive_2:=fun v t _=>jg K S as (v++ws) (t++us)) (motive_3:=fun _ _ _=>True) trivial (fun _=>trivial) (fun _=>trivial) (fun _=>trivial) (fun _ _ _=>trivial) (fun _ _ _=>trivial) (fun _ _ _=>trivial) (fun _=>trivial) (fun _=>trivial) q (fun h _ _ i=>.cons h i) trivial (fun _ _ _ _=>trivial) h
theorem jg.reverse:∀ {vs:List V} {ts:List T},jg K S as vs ts->jg K S as vs.reverse ts.reverse
 | _,_,.nil=>.nil
 | _,_,.cons h r=>by rw [List.reverse_cons,List.reverse_cons]; exact jg.append (jg.reverse r) (.cons h .nil)
theorem jg.drop:∀ (n:Nat) {vs:List V} {ts:List T},jg K S as vs ts->jg K S as (vs.drop n) (ts.drop n)
 | 0,_,_,r=>r
 | _+1,_,_,.nil=>.nil
 | n+1,_,_,.cons _ r=>jg.drop n r
theorem u9.get (k:L2.Key):∀ {vs:List (L2.Key × V)} {ts:List (L2.Key × T)},u9 K S as vs ts->(∃ v t,K9 vs k=some v/\Av k ts=some t/\Rep K S as v t)\/(K9 vs k=none/\Av k ts=none)
 | _,_,.nil=>.inr ⟨rfl,rfl⟩
 | _,_,.cons (k:=q) (v:=v) (t:=t) (vs:=vs) (ts:=ts) h r=>by
  by_cases e:q=k
  ·exact .inl ⟨v,t,Dq (p:=(q,v)) e,by rw [Av,if_pos e],h⟩
  ·rw [Dl (p:=(q,v)) e,Av,if_neg e];exact u9.get k r
end
structure Bas where
 S:Hp
 as:List Addr
 H:Hp
structure Ol (B:Bas) (S:Hp) (as:List Addr) (H:Hp):Prop where
 same:Same B.S S
 more:∃ l,as=B.as++l
 keep:∀ p o,B.H p=some o->B.S p=none->p∉B.as->H p=some o/\S p=none/\p∉as
structure Ext (S H S' H':Hp):Prop where
 s:Same S S'
 h:Same H H'
 sub:Same S' H'
 new:∀ p,S' p≠none->S p≠none\/H p=none
theorem Ext.refl {S H:Hp} (h:Same S H):Ext S H S H:=⟨Same.refl _,Same.refl _,h,fun _ q=>.inl q⟩
theorem Same.upd {H:Hp} {p:Addr} (h:H p=none) (o:HO):Same H (upd H p o):=fun b u q=>by rw [c7 (jh q h)]; exact q
theorem Ext.laid {S H:Hp} (h:Same S H) {p:Addr} (n:H p=none) (o:HO):Ext S H (upd S p o) (upd H p o) where
 s:=Same.upd (h.free n) o
 h:=Same.upd n o
 sub:=fun b u q=>by
  by_cases e:b=p
  ·subst e; rw [bw] at q ⊢; exact q
  ·rw [c7 e] at q ⊢; exact h _ _ q
 new:=fun b q=>by
  by_cases e:b=p
  ·subst e; exact .inr n
  ·rw [c7 e] at q; exact .inl q
theorem Ext.trans {S H S1 H1 S2 H2:Hp} (a:Ext S H S1 H1) (b:Ext S1 H1 S2 H2):Ext S H S2 H2 where
 s:=a.s.trans b.s
 h:=a.h.trans b.h
 sub:=b.sub
 new:=fun p q=>by
  rcases b.new p q with z | z
  ·exact a.new p z
  ·exact .inr (a.h.free z)
def Own (K:PySem.W.Frag) (S:Hp) (as:List Addr) (H:Hp) (p:Addr):T->Prop
 | .lst ts=>∃ vs,H p=some (.lst vs)/\jg K S as vs ts
 | .dic ts=>∃ aa,H p=some (.dK aa)/\u9 K S as aa ts
 | _=>False
structure Ip (K:PySem.W.Frag) (B:Bas) (S:Hp) (as:List Addr) (H:Hp) (p:Addr) (t:T):Prop where
 own:Own K S as H p t
 out:S p=none
 nas:p∉as
 new:B.H p=none
def W7 (K:PySem.W.Frag) (S:Hp) (as:List Addr) (H:Hp) (a:Addr):SO->Prop
 | .dic ts=>∃ aa,H a=some (.dK aa)/\u9 K S as aa ts
 | .lst ts=>∃ vs,H a=some (.lst vs)/\jg K S as vs ts
 | .dit ts=>∃ aa,H a=some (.dT aa)/\Fz K S as aa ts
 | .ins C fs=>∃ dx vs,H a=some (.ins C dx vs)/\Yi K S as vs fs
 | .fdc ts=>∃ aa,(∃ o,H a=some (.frz o (.dK aa)))/\u9 K S as aa ts
 | .tab P q=>a=P/\∃ ps,H a=some (.tbl ps)/\TriplesOk ps.toList/\∀ pos cv,codeAmong pos ps.toList=some cv->∃ c,cv=.ref c/\S c=some (.ext (Cd c q))
 | .dnk ts=>∃ aa,H a=some (.dN aa)/\Ge K S as aa ts
 | .exc C f t=>∃ dx v,H a=some (.ext fun h=>∃ vs,h.get? a=some { cls:=.ref C,dict:=some dx,data:=.fields vs })/\S dx=some (.ext fun h=>∃ hs tk u,RelV v u/\h.get? dx=some (PySem.W.dictOf [⟨hs,.str f tk,u⟩] 1))/\Rep K S as v t
structure Al (K:PySem.W.Frag) (S:Hp) (as:List Addr) (H:Hp) (sto:List SO):Prop where
 len:as.length=sto.length
 nd:as.Nodup
 at':∀ (n:Nat) so,sto[n]? = some so->∃ a,as[n]? = some a/\S a=none/\W7 K S as H a so
structure Rel (K:PySem.W.Frag) (B:Bas) (st:Sta) (σ:L2.St) (H:Hp) (ps:List (V × T)) (S:Hp) (as:List Addr):Prop where
 sub:Same S H
 grow:Ol B S as H
 slots:∀ (i:Nat) t f,st.env[i]? = some (some (t,f))->∃ v,σ[i]? = some (some v)/\(f=false->Rep K S as v t)/\(f=true->∃ p,v=.ref p/\Ip K B S as H p t)
 apart:∀ (i j:Nat) t u p,st.env[i]? = some (some (t,true))->st.env[j]? = some (some (u,true))->σ[i]? = some (some (.ref p))->σ[j]? = some (some (.ref p))->i=j
 sto:Al K S as H st.sto
 pend:∀ p∈ps,Rep K S as p.1 p.2
 len:σ.length=st.env.length
section
variable {K:PySem.W.Frag} {B:Bas} {st:Sta} {σ:L2.St} {H H' S S':Hp} {ps:List (V × T)} {as:List Addr}
theorem nol {as:List Addr}:∃ l:List Addr,as=as++l:=⟨[],(List.append_nil _).symm⟩
theorem Own.mono {p:Addr} {t:T} (hs:Same S S') (hh:H p=H' p) (o:Own K S as H p t):Own K S' as H' p t:=by
 cases t with
 | lst ts=>obtain ⟨vs,h,r⟩:=o; exact ⟨vs,hh ▸ h,r.mono hs nol⟩
 | dic ts=>obtain ⟨vs,h,r⟩:=o; exact ⟨vs,hh ▸ h,r.mono hs nol⟩
 | _=>exact o.elim
theorem Own.there {p:Addr} {t:T} (o:Own K S as H p t):∃ ob,H p=some ob:=by
 cases t with
 | lst ts=>obtain ⟨vs,h,r⟩:=o; exact ⟨_,h⟩
 | dic ts=>obtain ⟨vs,h,r⟩:=o; exact ⟨_,h⟩
 | _=>exact o.elim
theorem W7.mono {a:Addr} {so:SO} (hs:Same S S') (hh:H a=H' a) (o:W7 K S as H a so):W7 K S' as H' a so:=by
 cases so with
 | dic ts=>obtain ⟨vs,h,r⟩:=o; exact ⟨vs,hh ▸ h,r.mono hs nol⟩
 | lst ts=>obtain ⟨vs,h,r⟩:=o; exact ⟨vs,hh ▸ h,r.mono hs nol⟩
 | dit ts=>obtain ⟨vs,h,r⟩:=o; exact ⟨vs,hh ▸ h,r.mono hs nol⟩
 | exc C f t=>obtain ⟨dx,v,h,g,r⟩:=o; exact ⟨dx,v,hh ▸ h,hs _ _ g,r.mono hs nol⟩
 | ins C fs=>obtain ⟨dx,vs,h,r⟩:=o; exact ⟨dx,vs,hh ▸ h,r.mono hs nol⟩
 | fdc ts=>obtain ⟨vs,h,r⟩:=o; exact ⟨vs,hh ▸ h,r.mono hs nol⟩
 | tab P q=>obtain ⟨e,vs,h,t,r⟩:=o; exact ⟨e,vs,hh ▸ h,t,fun pos cv z=>let ⟨c,x,y⟩:=r pos cv z; ⟨c,x,hs _ _ y⟩⟩
 | dnk ts=>obtain ⟨vs,h,r⟩:=o; exact ⟨vs,hh ▸ h,r.mono hs nol⟩
theorem W7.there {a:Addr} {so:SO} (o:W7 K S as H a so):∃ ob,H a=some ob:=by
 cases so with
 | dic ts=>obtain ⟨vs,h,r⟩:=o; exact ⟨_,h⟩
 | lst ts=>obtain ⟨vs,h,r⟩:=o; exact ⟨_,h⟩
 | dit ts=>obtain ⟨vs,h,r⟩:=o; exact ⟨_,h⟩
 | exc C f t=>obtain ⟨dx,v,h,g,r⟩:=o; exact ⟨_,h⟩
 | ins C fs=>obtain ⟨dx,vs,h,r⟩:=o; exact ⟨_,h⟩
 | fdc ts=>obtain ⟨vs,⟨o,h⟩,r⟩:=o; exact ⟨_,h⟩
 | tab P q=>obtain ⟨_,vs,h,r⟩:=o; exact ⟨_,h⟩
 | dnk ts=>obtain ⟨vs,h,r⟩:=o; exact ⟨_,h⟩
theorem Ext.outs (x:Ext S H S' H') {p:Addr} {o:HO} (h:H p=some o) (n:S p=none):S' p=none:=by
 cases q:S' p with
 | none=>rfl
 | some u =>
  rcases x.new p (by rw [q]; exact Option.some_ne_none _) with z | z
  ·exact absurd n z
  ·rw [h] at z; cases z
theorem Al.ext {sto:List SO} (r:Al K S as H sto) (x:Ext S H S' H'):Al K S' as H' sto where
 len:=r.len
 nd:=r.nd
 at':=fun n so e=>by
  obtain ⟨a,h1,h2,h3⟩:=r.at' n so e;obtain ⟨ob,ho⟩:=h3.there;exact ⟨a,h1,x.outs ho h2,h3.mono x.s (by rw [ho,x.h _ _ ho])⟩
theorem Rel.ext (r:Rel K B st σ H ps S as) (x:Ext S H S' H'):Rel K B st σ H' ps S' as where
 sub:=x.sub
 grow:=⟨r.grow.same.trans x.s,r.grow.more,fun p o h1 h2 h3=>by
  obtain ⟨a,b,c⟩:=r.grow.keep p o h1 h2 h3;exact ⟨x.h _ _ a,x.outs a b,c⟩⟩
 slots:=fun i t f e=>by
  obtain ⟨v,h1,h2,h3⟩:=r.slots i t f e;refine ⟨v,h1,fun q=>(h2 q).mono x.s nol,fun q=>?_⟩;obtain ⟨p,e,o⟩:=h3 q;obtain ⟨ob,ho⟩:=o.own.there;exact ⟨p,e,o.own.mono x.s (by rw [ho,x.h _ _ ho]),x.outs ho o.out,o.nas,o.new⟩
 apart:=r.apart
 sto:=r.sto.ext x
 pend:=fun p hp=>(r.pend p hp).mono x.s nol
 len:=r.len
theorem Rel.push (r:Rel K B st σ H ps S as) {v:V} {t:T} (h:Rep K S as v t):Rel K B st σ H ((v,t)::ps) S as :=
 ⟨r.sub,r.grow,r.slots,r.apart,r.sto,fun p hp=>by
  rcases List.mem_cons.mp hp with rfl | z
  ·exact h
  ·exact r.pend p z,r.len⟩
theorem Rel.drop {p:V × T} (r:Rel K B st σ H (p::ps) S as):Rel K B st σ H ps S as :=
 ⟨r.sub,r.grow,r.slots,r.apart,r.sto,fun q hq=>r.pend q (List.mem_cons_of_mem _ hq),r.len⟩
theorem Rel.top {v:V} {t:T} (r:Rel K B st σ H ((v,t)::ps) S as):Rep K S as v t:=r.pend (v,t) List.mem_cons_self
theorem Rel.top2 {v:V} {t:T} {q:V × T} (r:Rel K B st σ H (q::(v,t)::ps) S as):Rep K S as v t:=r.pend (v,t) (List.mem_cons_of_mem _ List.mem_cons_self)
end
inductive tOf (K:PySem.W.Frag) (B:Bas) (m:M T) (σ:L2.St) (H:Hp) (Q:VK):Prop
 | mk (st:Sta) (ps:List (V × T)) (S:Hp) (as:List Addr) (R:Rel K B st σ H ps S as) (t:T) (ae:Sta) (e:m st=some (t,ae)) (q:∀ v H' S' ag,Rel K B ae σ H' ((v,t)::ps) S' ag->Q v H')
inductive cOf (K:PySem.W.Frag) (B:Bas) (m:M Bool) (σ:L2.St) (H:Hp) (Q:Bool->Hp->Prop):Prop
 | mk (st:Sta) (ps:List (V × T)) (S:Hp) (as:List Addr) (R:Rel K B st σ H ps S as) (b:Bool) (ae:Sta) (e:m st=some (b,ae)) (q:∀ H' S' ag,Rel K B ae σ H' ps S' ag->Q b H')
inductive aOf (K:PySem.W.Frag) (B:Bas) (m:M (List T)) (σ:L2.St) (H:Hp) (Q:List V->Hp->Prop):Prop
 | mk (st:Sta) (ps:List (V × T)) (S:Hp) (as:List Addr) (R:Rel K B st σ H ps S as) (ts:List T) (ae:Sta) (e:m st=some (ts,ae)) (q:∀ vs H' S' ag,Rel K B ae σ H' ps S' ag->jg K S' ag vs ts->Q vs H')
theorem _root_.L2.PE.imp {X:Cx} {e:Expr} {t t':TE} (h:PE X e t) (i:∀ σ H Q,t' σ H Q->t σ H Q):PE X e t':=fun pins s σ H Q I q=>h pins s σ H Q I (i σ H Q q)
theorem _root_.L2.PT.imp {X:Cx} {e:Expr} {t t':TT} (h:PT X e t) (i:∀ σ H Q,t' σ H Q->t σ H Q):PT X e t':=fun pins s σ H Q I q=>h pins s σ H Q I (i σ H Q q)
theorem _root_.L2.PA.imp {X:Cx} {e:List Expr} {t t':TA} (h:PA X e t) (i:∀ σ H Q,t' σ H Q->t σ H Q):PA X e t':=fun pos pins s σ H Q I q=>h pos pins s σ H Q I (i σ H Q q)
theorem _root_.L2.PS.imp {X:Cx} {e:Stmt} {t t':TS} (h:PS X e t) (i:∀ D σ H,t' D σ H->t D σ H):PS X e t':=fun pins s σ H D I q=>h pins s σ H D I (i D σ H q)
theorem _root_.L2.PSs.imp {X:Cx} {e:List Stmt} {t t':TS} (h:PSs X e t) (i:∀ D σ H,t' D σ H->t D σ H):PSs X e t':=fun pins s σ H D I q=>h pins s σ H D I (i D σ H q)
noncomputable def r2 (K:PySem.W.Frag) (f:T->T->Option T):R2:=fun x y H Q=>∃ S as t u w,Same S H/\Rep K S as x t/\Rep K S as y u/\f t u=some w/\∀ v H' S',Ext S H S' H'->Rep K S' as v w->Q v H'
def r1 (K:PySem.W.Frag) (f:T->Option T):V->Hp->VK->Prop:=fun x H Q=>∃ S as t w,Same S H/\Rep K S as x t/\f t=some w/\∀ v H' S',Ext S H S' H'->Rep K S' as v w->Q v H'
def rL (K:PySem.W.Frag) (f:List T->Option T):List V->Hp->VK->Prop:=fun xs H Q=>∃ S as ts w,Same S H/\jg K S as xs ts/\f ts=some w/\∀ v H' S',Ext S H S' H'->Rep K S' as v w->Q v H'
abbrev OpT (X:Cx) (f:Value->Value->Sem Value) (g:T->T->Option T):Prop:=OpR X f (r2 X.K g)
abbrev UnT (X:Cx) (f:Value->Sem Value) (g:T->Option T):Prop:=UnR X f (r1 X.K g)
abbrev a1s (X:Cx) (f:Value) (g:List T->Option T):Prop:=Dy X f (rL X.K g)
section
variable {X:Cx} {B:Bas} {a b c:Expr} {m m1 m2:M T} {pos:Pos}
theorem Fp {v:V} {t:T} {e:Expr} (h:PE X e (tC v)) (r:∀ S as,Rep X.K S as v t):PE X e (tOf X.K B (aq t)):=h.imp fun σ H Q z9=>by
 obtain ⟨st,ps,S,as,R,t',ae,e,q⟩:=z9;cases e;exact q v H S as (R.push (r S as))
theorem cu {i:Int} {j:Nat}:PE X (.Constant (.int i) j pos) (tOf X.K B (aq (.int i))):=Fp Xw fun _ _=>.int i
theorem Iu {i:Bool} {j:Nat}:PE X (.Constant (.bool i) j pos) (tOf X.K B (aq (.bl i))):=Fp aax fun _ _=>.bl i
theorem vq {i:Str} {j:Nat}:PE X (.Constant (.str i) j pos) (tOf X.K B (aq (.str i))):=Fp a8a fun _ _=>.str i
theorem Dh {j:Nat}:PE X (.Constant .none j pos) (tOf X.K B (aq .non)):=Fp a8p fun _ _=>.non
theorem ju {op:Operator} {f:T->T->Option T} (ho:OpT X (binaryOp op) f) (ha:PE X a (tOf X.K B m1)) (hb:PE X b (tOf X.K B m2)):PE X (.BinOp a op b pos) (tOf X.K B (mOp f m1 m2)) :=
 (a3o ho ha hb).imp fun σ H Q z9=>by
  obtain ⟨st,ps,S,as,R,t,ae,e,q⟩:=z9;obtain ⟨t1,s1,t2,e1,e2,e3⟩:=Es e;refine ⟨st,ps,S,as,R,t1,s1,e1,fun v H1 S1 aC R1=>⟨s1,_,S1,aC,R1,t2,ae,e2,fun u H2 S2 aQ R2=>?_⟩⟩;exact ⟨S2,aQ,t1,t2,t,R2.sub,R2.top2,R2.top,e3,fun w H3 S3 x r=>q w H3 S3 aQ ((R2.drop.drop.ext x).push r)⟩
end
section
variable {K:PySem.W.Frag} {B:Bas} {st:Sta} {σ:L2.St} {H H' S S':Hp} {ps:List (V × T)} {as:List Addr}
theorem Rel.freeze (r:Rel K B st σ H ps S as) {i:Nat} {t:T} (e:st.env[i]? = some (some (t,true))) :
  ∃ v S',σ[i]? = some (some v)/\Rel K B { st with env:=st.env.set i (some (t,false)) } σ H ((v,t)::ps) S' as:=by
 obtain ⟨v,h1,_,h3⟩:=r.slots i t true e;obtain ⟨p,rfl,o⟩:=h3 rfl;obtain ⟨ob,ho⟩:=o.own.there;have hi:i<st.env.length:=(List.getElem?_eq_some_iff.mp e).1;have sS:Same S (upd S p ob):=Same.upd o.out ob
 have rep:Rep K (upd S p ob) as (.ref p) t:=by
  have w:=o.own;cases t with
  | lst ts=>obtain ⟨vs,h,q⟩:=w; rw [ho] at h; cases h; exact .lst (SqL.of bw) (q.mono sS nol)
  | dic ts=>obtain ⟨vs,h,q⟩:=w; rw [ho] at h; cases h; exact .dic (.inl bw) (q.mono sS nol)
  | _=>exact w.elim
 have outs:∀ q,S q=none->q≠p->upd S p ob q=none:=fun q h n=>by rw [c7 n]; exact h
 refine ⟨.ref p,upd S p ob,h1,?_⟩;refine Rel.push (v:=.ref p) (t:=t) ⟨?_,?_,?_,?_,?_,?_,?_⟩ rep
 ·intro b u q
  by_cases z:b=p
  ·subst z; rw [bw] at q; cases q; exact ho
  ·rw [c7 z] at q; exact r.sub _ _ q
 ·refine ⟨r.grow.same.trans sS,r.grow.more,fun q w a b c=>?_⟩;obtain ⟨x,y,z⟩:=r.grow.keep q w a b c;refine ⟨x,outs q y fun n=>?_,z⟩;subst n; rw [o.new] at a; cases a
 ·intro j u f ej
  by_cases bt:i=j
  ·subst bt;rw [List.getElem?_set_self hi] at ej;cases ej;exact ⟨.ref p,h1,fun _=>rep,fun z=>by cases z⟩
  ·rw [List.getElem?_set_ne bt] at ej;obtain ⟨v',a1,a2,a3⟩:=r.slots j u f ej;refine ⟨v',a1,fun z=>(a2 z).mono sS nol,fun z=>?_⟩;subst z;obtain ⟨p',rfl,o'⟩:=a3 rfl;refine ⟨p',rfl,o'.own.mono sS rfl,outs p' o'.out fun n=>?_,o'.nas,o'.new⟩;subst n;exact bt (r.apart i j t u p' e ej h1 a1)
 ·intro j k u w q ej ek
  have hj:st.env[j]? = some (some (u,true)):=by
   by_cases bt:i=j
   ·subst bt; rw [List.getElem?_set_self hi] at ej; cases ej
   ·rwa [List.getElem?_set_ne bt] at ej
  have hk:st.env[k]? = some (some (w,true)):=by
   by_cases bt:i=k
   ·subst bt; rw [List.getElem?_set_self hi] at ek; cases ek
   ·rwa [List.getElem?_set_ne bt] at ek
  exact r.apart j k u w q hj hk
 ·refine ⟨r.sto.len,r.sto.nd,fun n so en=>?_⟩;obtain ⟨a,a1,a2,a3⟩:=r.sto.at' n so en;refine ⟨a,a1,outs a a2 fun z=>?_,a3.mono sS rfl⟩;subst z;exact o.nas (List.mem_of_getElem? a1)
 ·exact fun q hq=>(r.pend q hq).mono sS nol
 ·show σ.length=(st.env.set i _).length;rw [List.length_set]; exact r.len
end
section
variable {X:Cx} {B:Bas} {a b c:Expr} {m m1 m2:M T} {pos:Pos}
theorem ao (i:Nat) {e:Expr} (h:PE X e (Xm i)):PE X e (tOf X.K B (bf i)):=h.imp fun σ H Q z9=>by
 obtain ⟨st,ps,S,as,R,t,ae,e,q⟩:=z9;rcases Pu e with ⟨e1,rfl⟩ | ⟨e1,rfl⟩
 ·obtain ⟨v,h1,h2,_⟩:=R.slots i t false e1;exact ⟨v,h1,q v H S as (R.push (h2 rfl))⟩
 ·obtain ⟨v,S',h1,R'⟩:=R.freeze e1;exact ⟨v,h1,q v H S' as R'⟩
theorem cj:PA X [] (aOf X.K B dz):=wg.imp fun σ H Q z9=>by
 obtain ⟨st,ps,S,as,R,ts,ae,e,q⟩:=z9;cases e;exact q [] H S as R .nil
theorem ak {es:List Expr} {ms:M (List T)} (ha:PE X a (tOf X.K B m)) (hr:PA X es (aOf X.K B ms)) (hs:starEach (a::es) X.env=(false,eval a X.env)::starEach es X.env:=by rfl):PA X (a::es) (aOf X.K B (aj m ms)) :=
 (nq ha hr hs).imp fun σ H Q z9=>by
  obtain ⟨st,ps,S,as,R,ts,ae,e,q⟩:=z9;obtain ⟨t,s1,us,e1,e2,rfl⟩:=yu e;refine ⟨st,ps,S,as,R,t,s1,e1,fun v H1 S1 aC R1=>⟨s1,_,S1,aC,R1,us,ae,e2,fun vs H2 S2 aQ R2 rs=>?_⟩⟩;exact q (v::vs) H2 S2 aQ R2.drop (.cons R2.top rs)
theorem iw {es:List Expr} {ms:M (List T)} {k:Nat} (h:PA X es (aOf X.K B ms)) (hm:∀ st ts ae,ms st=some (ts,ae)->ts.length<=1000):PE X (.Tuple es k pos) (tOf X.K B (iy (fun l=>some (.tup l)) ms)) :=
 (a2f h).imp fun σ H Q z9=>by
  obtain ⟨st,ps,S,as,R,t,ae,e,q⟩:=z9;obtain ⟨ts,e1,e2⟩:=Bh e;cases e2;refine ⟨st,ps,S,as,R,ts,ae,e1,fun vs H1 S1 aC R1 rs=>⟨?_,fun p hp=>?_⟩⟩
  ·rw [rs.length]; exact Nat.le_of_lt (Bb (hm _ _ _ e1))
  ·have x:=Ext.laid R1.sub hp (.tup vs);exact q _ _ _ _ ((R1.ext x).push (.tup (SqT.of bw) (rs.mono x.s nol)))
theorem X4 {es:List Expr} {ms:M (List T)} (h:PA X es (aOf X.K B ms)) (hm:∀ st ts ae,ms st=some (ts,ae)->ts.length<=1000):PE X (.List es pos) (tOf X.K B (iy (fun l=>some (.lst l)) ms)) :=
 (Xo h).imp fun σ H Q z9=>by
  obtain ⟨st,ps,S,as,R,t,ae,e,q⟩:=z9;obtain ⟨ts,e1,e2⟩:=Bh e;cases e2;refine ⟨st,ps,S,as,R,ts,ae,e1,fun vs H1 S1 aC R1 rs=>⟨?_,fun p hp=>?_⟩⟩
  ·rw [rs.length]; exact Nat.le_of_lt (Bb (hm _ _ _ e1))
  ·have x:=Ext.laid R1.sub hp (.lst vs);exact q _ _ _ _ ((R1.ext x).push (.lst (SqL.of bw) (rs.mono x.s nol)))
theorem dj:∀ st ts ae,dz st=some (ts,ae)->ts.length<=0:=fun st ts ae e=>by cases e; exact Nat.le_refl _
theorem au {r:M (List T)} {n:Nat} (h:∀ st ts ae,r st=some (ts,ae)->ts.length<=n):∀ st ts ae,aj m r st=some (ts,ae)->ts.length<=n+1:=fun st ts ae e=>by
 obtain ⟨t,s1,us,e1,e2,rfl⟩:=yu e;exact Nat.succ_le_succ (h _ _ _ e2)
theorem rm {ms:M (List T)} {f:List T->Option T} {e:Expr} (h:PE X e (tCB (rL X.K f) (aOf X.K B ms))):PE X e (tOf X.K B (iy f ms)) :=
 h.imp fun σ H Q z9=>by
  obtain ⟨st,ps,S,as,R,t,ae,e,q⟩:=z9;obtain ⟨ts,e1,e2⟩:=Bh e;refine ⟨st,ps,S,as,R,ts,ae,e1,fun vs H1 S1 aC R1 rs=>⟨S1,aC,ts,t,R1.sub,rs,e2,fun v H2 S2 x r=>?_⟩⟩;exact q v H2 S2 aC ((R1.ext x).push r)
theorem Qc {f:T->T->Option T} {e:Expr} (h:PE X e (tOp (r2 X.K f) (tOf X.K B m1) (tOf X.K B m2))):PE X e (tOf X.K B (mOp f m1 m2)) :=
 h.imp fun σ H Q z9=>by
  obtain ⟨st,ps,S,as,R,t,ae,e,q⟩:=z9;obtain ⟨t1,s1,t2,e1,e2,e3⟩:=Es e;refine ⟨st,ps,S,as,R,t1,s1,e1,fun v H1 S1 aC R1=>⟨s1,_,S1,aC,R1,t2,ae,e2,fun u H2 S2 aQ R2=>?_⟩⟩;exact ⟨S2,aQ,t1,t2,t,R2.sub,R2.top2,R2.top,e3,fun w H3 S3 x r=>q w H3 S3 aQ ((R2.drop.drop.ext x).push r)⟩
theorem a0n {f:T->Option T} {e:Expr} (h:PE X e (tUn (r1 X.K f) (tOf X.K B m))):PE X e (tOf X.K B (mUn f m)) :=
 h.imp fun σ H Q z9=>by
  obtain ⟨st,ps,S,as,R,t,ae,e,q⟩:=z9;obtain ⟨t1,e1,e3⟩:=Vu e;refine ⟨st,ps,S,as,R,t1,ae,e1,fun v H1 S1 aC R1=>⟨S1,aC,t1,t,R1.sub,R1.top,e3,fun w H3 S3 x r=>q w H3 S3 aC ((R1.drop.ext x).push r)⟩⟩
theorem Mv {op:CmpOp} {f:T->T->Option T} (ho:OpT X (compareOp op) f) (ha:PE X a (tOf X.K B m1)) (hb:PE X b (tOf X.K B m2)) (hm:behindInMarks op b=false):PE X (.Compare a [op] [b] pos) (tOf X.K B (mOp f m1 m2)):=Qc (a65 ho ha hb hm)
theorem a9h {op:UnaryOp} {f:T->Option T} (ho:UnT X (unaryOp op) f) (ha:PE X a (tOf X.K B m)):PE X (.UnaryOp op a pos) (tOf X.K B (mUn f m)):=a0n (a8w ho ha)
theorem Jg {e:Expr} (h:PT X e (a87 (tOf X.K B m))):PT X e (cOf X.K B (gw m)):=h.imp fun σ H Q z9=>by
 obtain ⟨st,ps,S,as,R,t,ae,e,q⟩:=z9;refine ⟨st,ps,S,as,R,.bl t,ae,Gy e,fun v H1 S1 aC R1=>?_⟩;cases R1.top;exact ⟨t,rfl,q H1 S1 aC R1.drop⟩
theorem m6 {op:CmpOp} {f:T->T->Option T} (ho:OpT X (compareOp op) f) (ha:PE X a (tOf X.K B m1)) (hb:PE X b (tOf X.K B m2)) (hm:behindInMarks op b=false):PT X (.Compare a [op] [b] pos) (cOf X.K B (gw (mOp f m1 m2))) :=
 Jg ((Vk ho ha hb hm).imp fun σ H Q z9=>by
  obtain ⟨st,ps,S,as,R,t,ae,e,q⟩:=z9;obtain ⟨t1,s1,t2,e1,e2,e3⟩:=Es e;refine ⟨st,ps,S,as,R,t1,s1,e1,fun v H1 S1 aC R1=>⟨s1,_,S1,aC,R1,t2,ae,e2,fun u H2 S2 aQ R2=>?_⟩⟩;exact ⟨S2,aQ,t1,t2,t,R2.sub,R2.top2,R2.top,e3,fun w H3 S3 x r=>q w H3 S3 aQ ((R2.drop.drop.ext x).push r)⟩)
theorem Mf {e:Expr} (h:PE X e (tOf X.K B m)) (he:∀ whole,isTrue e X.env whole=(do let v <- whole; standAt e.pos; holding [v] (truthy v)):=by intro _; rfl):PT X e (cOf X.K B (gw m)) :=
 Jg ((a8v h he).imp fun σ H Q h=>h)
theorem a3c {c1:M Bool} (ha:PT X a (cOf X.K B c1)):PT X (.UnaryOp .Not a pos) (cOf X.K B (U7 c1)):=(a7l ha).imp fun σ H Q z9=>by
 obtain ⟨st,ps,S,as,R,t,ae,e,q⟩:=z9;obtain ⟨k,e1,rfl⟩:=Pb e;exact ⟨st,ps,S,as,R,k,ae,e1,q⟩
theorem Uo {c1:M Bool} (ha:PT X a (cOf X.K B c1)):PW X (.BoolOp .And [a] pos) (cOf X.K B c1):=pw_and1 ha
theorem Vs {c1:M Bool} (ha:PT X a (cOf X.K B c1)):PW X (.BoolOp .Or [a] pos) (cOf X.K B c1):=pw_or1 ha
theorem a8m {e:Expr} {t t':TT} (h:PW X e t) (i:∀ σ H Q,t' σ H Q->t σ H Q):PW X e t':=fun whole pins s σ H Q I q=>h whole pins s σ H Q I (i σ H Q q)
theorem a3l {c1 c2:M Bool} {rest:List Expr} (ha:PT X a (cOf X.K B c1)) (hb:PW X (.BoolOp .And (b::rest) pos) (cOf X.K B c2)):PW X (.BoolOp .And (a::b::rest) pos) (cOf X.K B (a3h c1 c2)) :=
 a8m (pw_and ha hb) fun σ H Q z9=>by
  obtain ⟨st,ps,S,as,R,t,ae,e,q⟩:=z9;rcases a0q e with ⟨s1,e1,e2⟩ | ⟨e1,rfl⟩
  ·exact ⟨st,ps,S,as,R,true,s1,e1,fun H1 S1 aC R1=>a2x (⟨s1,ps,S1,aC,R1,t,ae,e2,q⟩)⟩
  ·exact ⟨st,ps,S,as,R,false,ae,e1,fun H1 S1 aC R1=>a2h (q H1 S1 aC R1)⟩
theorem a6f {c1 c2:M Bool} {rest:List Expr} (ha:PT X a (cOf X.K B c1)) (hb:PW X (.BoolOp .Or (b::rest) pos) (cOf X.K B c2)):PW X (.BoolOp .Or (a::b::rest) pos) (cOf X.K B (mOr c1 c2)) :=
 a8m (pw_or ha hb) fun σ H Q z9=>by
  obtain ⟨st,ps,S,as,R,t,ae,e,q⟩:=z9;rcases a4y e with ⟨s1,e1,e2⟩ | ⟨e1,rfl⟩
  ·exact ⟨st,ps,S,as,R,false,s1,e1,fun H1 S1 aC R1=>a2h (⟨s1,ps,S1,aC,R1,t,ae,e2,q⟩)⟩
  ·exact ⟨st,ps,S,as,R,true,ae,e1,fun H1 S1 aC R1=>a2x (q H1 S1 aC R1)⟩
theorem Qi {c1:M Bool} (hc:PT X c (cOf X.K B c1)) (ha:PE X a (tOf X.K B m1)) (hb:PE X b (tOf X.K B m2)):PE X (.IfExp c a b pos) (tOf X.K B (mIf c1 m1 m2)) :=
 (a03 hc ha hb).imp fun σ H Q z9=>by
  obtain ⟨st,ps,S,as,R,t,ae,e,q⟩:=z9;rcases a6b e with ⟨s1,e1,e2⟩ | ⟨s1,e1,e2⟩
  ·exact ⟨st,ps,S,as,R,true,s1,e1,fun H1 S1 aC R1=>a2x (⟨s1,ps,S1,aC,R1,t,ae,e2,q⟩)⟩
  ·exact ⟨st,ps,S,as,R,false,s1,e1,fun H1 S1 aC R1=>a2h (⟨s1,ps,S1,aC,R1,t,ae,e2,q⟩)⟩
theorem a2a (ha:PE X a (tOf X.K B m)):PE X (.UnaryOp .Not a pos) (tOf X.K B (Sx (U7 (gw m)))):=(a93 ha).imp fun σ H Q z9=>by
 obtain ⟨st,ps,S,as,R,t,ae,e,q⟩:=z9;obtain ⟨b,e1,rfl⟩:=Ub e;obtain ⟨k,e2,rfl⟩:=Pb e1;refine ⟨st,ps,S,as,R,.bl k,ae,Gy e2,fun v H1 S1 aC R1=>?_⟩;cases R1.top;exact ⟨k,rfl,q _ H1 S1 aC (R1.drop.push (.bl _))⟩
end
theorem a1l {a b:S} {s s':Sta} {fl:Flow} (h:kj a b s=some (fl,s')):(∃ s1,a s=some (.next,s1)/\b s1=some (fl,s'))\/(a s=some (fl,s')/\fl≠.next):=by
 unfold kj at h;split at h
 ·rename_i s1 e; exact .inl ⟨s1,e,h⟩
 ·rename_i r hr; exact .inr ⟨h,fun z=>by subst z; exact hr _ h⟩
theorem Ym {e:M T} {s s':Sta} {fl:Flow} (h:qd e s=some (fl,s')):∃ t,e s=some (t,s')/\fl=.ret t:=by
 unfold qd at h;split at h
 ·rename_i t s1 e; cases h; exact ⟨t,e,rfl⟩
 ·cases h
theorem a3z {c:M Bool} {a b:S} {s s':Sta} {fl:Flow} (h:sIf c a b s=some (fl,s')):(∃ s1,c s=some (true,s1)/\a s1=some (fl,s'))\/(∃ s1,c s=some (false,s1)/\b s1=some (fl,s')):=by
 unfold sIf at h;split at h
 ·rename_i s1 e; exact .inl ⟨s1,e,h⟩
 ·rename_i s1 e; exact .inr ⟨s1,e,h⟩
 ·cases h
theorem a0o {i:Nat} {e:M T} {s s':Sta} {fl:Flow} (h:qb i e s=some (fl,s')):∃ t s1,e s=some (t,s1)/\fl=.next/\s'=gn i t false s1:=by
 unfold qb at h;split at h
 ·rename_i t s1 e; cases h; exact ⟨t,s1,e,rfl,rfl⟩
 ·cases h
theorem a0d {i:Nat} {e:M T} {s s':Sta} {fl:Flow} (h:sNew i e s=some (fl,s')):∃ t s1,e s=some (t,s1)/\fl=.next/\s'=gn i t true s1:=by
 unfold sNew at h;split at h
 ·rename_i t s1 e; cases h; exact ⟨t,s1,e,rfl,rfl⟩
 ·cases h
theorem Zw {g:G} {it:M (List T)} {b:S} {s s':Sta} {fl:Flow} (h:Yj g it b s=some (fl,s')):∃ ts s1,it s=some (ts,s1)/\forL g b ts s1=some (fl,s'):=by
 unfold Yj at h;split at h
 ·rename_i ts s1 e; exact ⟨ts,s1,e,h⟩
 ·cases h
theorem Od {i:Nat} {e:M T} {s s':Sta} {fl:Flow} (h:m9 i e s=some (fl,s')) :
  El i s=true/\∃ t s1 xs,e s=some (t,s1)/\s1.env[i]? = some (some (.lst xs,true))/\xs.length<lim/\fl=.next/\s'=gn i (.lst (xs++[t])) true s1:=by
 unfold m9 at h;split at h
 ·rename_i hd;refine ⟨hd,?_⟩;split at h
  ·rename_i t s1 e;split at h
   ·rename_i xs ex;split at h
    ·rename_i hl; cases h; exact ⟨t,s1,xs,e,ex,hl,rfl,rfl⟩
    ·cases h
   ·cases h
  ·cases h
 ·cases h
section
variable {K:PySem.W.Frag} {B:Bas} {st:Sta} {σ:L2.St} {H H' S S':Hp} {ps fw:List (V × T)} {as ag:List Addr}
theorem Rel.pick (r:Rel K B st σ H ps S as) (h:∀ p∈fw,p∈ps):Rel K B st σ H fw S as :=
 ⟨r.sub,r.grow,r.slots,r.apart,r.sto,fun p hp=>r.pend p (h p hp),r.len⟩
theorem Kg {α:Type} {l:List α} {i:Nat} {x:α} (h:l.length<=i):l.set i x=l:=List.set_eq_of_length_le h
theorem Rel.put (r:Rel K B st σ H ps S as) {i:Nat} {v:V} {t:T} (h:Rep K S as v t):Rel K B (gn i t false st) (σ.set i (some v)) H ps S as:=by
 by_cases hi:i<st.env.length
 ·have hs:i<σ.length:=by rw [r.len]; exact hi
  refine ⟨r.sub,r.grow,fun j u f e=>?_,fun j k u w p ej ek sj sk=>?_,r.sto,r.pend,by show _=(st.env.set i _).length; rw [List.length_set,List.length_set]; exact r.len⟩
  ·have e:(st.env.set i (some (t,false)))[j]? = some (some (u,f)):=e
   by_cases bt:i=j
   ·subst bt;rw [List.getElem?_set_self hi] at e; cases e;exact ⟨v,List.getElem?_set_self hs,fun _=>h,fun z=>by cases z⟩
   ·rw [List.getElem?_set_ne bt] at e ⊢;exact r.slots j u f e
  ·have ej:(st.env.set i (some (t,false)))[j]? = some (some (u,true)):=ej;have ek:(st.env.set i (some (t,false)))[k]? = some (some (w,true)):=ek;have bt:i≠j:=fun z=>by subst z; rw [List.getElem?_set_self hi] at ej; cases ej
   have eA:i≠k:=fun z=>by subst z; rw [List.getElem?_set_self hi] at ek; cases ek
   rw [List.getElem?_set_ne bt] at ej sj;rw [List.getElem?_set_ne eA] at ek sk;exact r.apart j k u w p ej ek sj sk
 ·have e1:gn i t false st=st:=by unfold gn; rw [Kg (Nat.le_of_not_lt hi)]
  have e2:σ.set i (some v)=σ:=Kg (by rw [r.len]; exact Nat.le_of_not_lt hi);rw [e1,e2]; exact r
def G7 (st:Sta) (σ:L2.St) (p:Addr):Prop:=∀ (j:Nat) u,st.env[j]? = some (some (u,true))->σ[j]? = some (some (.ref p))->False
theorem Rel.a9g (r:Rel K B st σ H ps S as) {i:Nat} {p:Addr} {t:T} (h:Ip K B S as H p t) (hn:G7 st σ p):Rel K B (gn i t true st) (σ.set i (some (.ref p))) H ps S as:=by
 by_cases hi:i<st.env.length
 ·have hs:i<σ.length:=by rw [r.len]; exact hi
  refine ⟨r.sub,r.grow,fun j u f e=>?_,fun j k u w q ej ek sj sk=>?_,r.sto,r.pend,by show _=(st.env.set i _).length; rw [List.length_set,List.length_set]; exact r.len⟩
  ·have e:(st.env.set i (some (t,true)))[j]? = some (some (u,f)):=e
   by_cases bt:i=j
   ·subst bt;rw [List.getElem?_set_self hi] at e; cases e;exact ⟨.ref p,List.getElem?_set_self hs,(fun z=>by cases z),fun _=>⟨p,rfl,h⟩⟩
   ·rw [List.getElem?_set_ne bt] at e ⊢;exact r.slots j u f e
  ·have ej:(st.env.set i (some (t,true)))[j]? = some (some (u,true)):=ej;have ek:(st.env.set i (some (t,true)))[k]? = some (some (w,true)):=ek
   by_cases bt:i=j
   ·by_cases eA:i=k
    ·rw [<- bt,<- eA]
    ·subst bt;rw [List.getElem?_set_self hs] at sj; cases sj;rw [List.getElem?_set_ne eA] at ek sk;exact (hn k w ek sk).elim
   ·rw [List.getElem?_set_ne bt] at ej sj
    by_cases eA:i=k
    ·subst eA;rw [List.getElem?_set_self hs] at sk; cases sk;exact (hn j u ej sj).elim
    ·rw [List.getElem?_set_ne eA] at ek sk;exact r.apart j k u w q ej ek sj sk
 ·have e1:gn i t true st=st:=by unfold gn; rw [Kg (Nat.le_of_not_lt hi)]
  have e2:σ.set i (some (.ref p))=σ:=Kg (by rw [r.len]; exact Nat.le_of_not_lt hi);rw [e1,e2]; exact r
theorem Rel.turn (r:Rel K B st σ H ps S as) {i:Nat} {t t':T} {p:Addr} {ob:HO} (e:st.env[i]? = some (some (t,true))) (hp:σ[i]? = some (some (.ref p))) (h:Own K S as (upd H p ob) p t') :
  Rel K B (gn i t' true st) σ (upd H p ob) ps S as:=by
 obtain ⟨v,h1,_,h3⟩:=r.slots i t true e;rw [hp] at h1; cases h1;obtain ⟨p',ep,o⟩:=h3 rfl;cases ep;have hi:i<st.env.length:=(List.getElem?_eq_some_iff.mp e).1;have other:∀ q,q≠p->H q=upd H p ob q:=fun q n=>(c7 n).symm;refine ⟨fun b u q=>?_,⟨r.grow.same,r.grow.more,fun q w a b c=>?_⟩,fun j u f ej=>?_,fun j k u w q ej ek sj sk=>?_,⟨r.sto.len,r.sto.nd,fun n so en=>?_⟩,r.pend,by show _=(st.env.set i _).length; rw [List.length_set]; exact r.len⟩
 ·have n:b≠p:=fun z=>by subst z; rw [o.out] at q; cases q
  rw [c7 n]; exact r.sub _ _ q
 ·obtain ⟨x,y,z⟩:=r.grow.keep q w a b c;have n:q≠p:=fun z=>by subst z; rw [o.new] at a; cases a
  exact ⟨by rw [c7 n]; exact x,y,z⟩
 ·have ej:(st.env.set i (some (t',true)))[j]? = some (some (u,f)):=ej
  by_cases bt:i=j
  ·subst bt;rw [List.getElem?_set_self hi] at ej; cases ej;exact ⟨.ref p,hp,(fun z=>by cases z),fun _=>⟨p,rfl,h,o.out,o.nas,o.new⟩⟩
  ·rw [List.getElem?_set_ne bt] at ej;obtain ⟨v',a1,a2,a3⟩:=r.slots j u f ej;refine ⟨v',a1,a2,fun z=>?_⟩;subst z;obtain ⟨p',rfl,o'⟩:=a3 rfl;have n:p'≠p:=fun z=>by subst z; exact bt (r.apart i j t u p' e ej hp a1)
   exact ⟨p',rfl,o'.own.mono (Same.refl _) (other p' n),o'.out,o'.nas,o'.new⟩
 ·have back:∀ (j:Nat) u,(st.env.set i (some (t',true)))[j]? = some (some (u,true))->∃ u',st.env[j]? = some (some (u',true)):=fun j u ej=>by
   by_cases bt:i=j
   ·subst bt; exact ⟨t,e⟩
   ·rw [List.getElem?_set_ne bt] at ej; exact ⟨u,ej⟩
  obtain ⟨u',ej'⟩:=back j u ej;obtain ⟨w',ek'⟩:=back k w ek;exact r.apart j k u' w' q ej' ek' sj sk
 ·obtain ⟨a,a1,a2,a3⟩:=r.sto.at' n so en;have n:a≠p:=fun z=>by subst z; exact o.nas (List.mem_of_getElem? a1)
  exact ⟨a,a1,a2,a3.mono (Same.refl _) (other a n)⟩
theorem Rel.Pq (r:Rel K B st σ H ps S as) {n:Nat} {so so':SO} {a:Addr} {ob:HO} (e:st.sto[n]? = some so) (ha:as[n]? = some a) (h:W7 K S as (upd H a ob) a so') :
  Rel K B { st with sto:=st.sto.set n so' } σ (upd H a ob) ps S as:=by
 have ma:a∈as:=List.mem_of_getElem? ha;have hn:n<st.sto.length:=(List.getElem?_eq_some_iff.mp e).1
 have sa:S a=none:=by
  obtain ⟨a',a1,a2,_⟩:=r.sto.at' n so e;rw [ha] at a1; cases a1; exact a2
 have other:∀ q,q≠a->H q=upd H a ob q:=fun q n=>(c7 n).symm;refine ⟨fun b u q=>?_,⟨r.grow.same,r.grow.more,fun q w x y z=>?_⟩,fun j u f ej=>?_,r.apart,⟨by rw [List.length_set]; exact r.sto.len,r.sto.nd,fun k fA en=>?_⟩,r.pend,r.len⟩
 ·have n:b≠a:=fun z=>by subst z; rw [sa] at q; cases q
  rw [c7 n]; exact r.sub _ _ q
 ·obtain ⟨x1,y1,z1⟩:=r.grow.keep q w x y z;have n:q≠a:=fun z=>by subst z; exact z1 ma
  exact ⟨by rw [c7 n]; exact x1,y1,z1⟩
 ·obtain ⟨v',a1,a2,a3⟩:=r.slots j u f ej;refine ⟨v',a1,a2,fun z=>?_⟩;obtain ⟨p',rfl,o'⟩:=a3 z;have n:p'≠a:=fun z=>by subst z; exact o'.nas ma
  exact ⟨p',rfl,o'.own.mono (Same.refl _) (other p' n),o'.out,o'.nas,o'.new⟩
 ·by_cases hk:n=k
  ·subst hk;rw [List.getElem?_set_self hn] at en; cases en;exact ⟨a,ha,sa,h⟩
  ·rw [List.getElem?_set_ne hk] at en;obtain ⟨b,b1,b2,b3⟩:=r.sto.at' k fA en
   have n:b≠a:=fun z=>by
    subst z;have l1:=(List.getElem?_eq_some_iff.mp b1).1;have l2:=(List.getElem?_eq_some_iff.mp ha).1;exact hk ((List.getElem?_inj (i:=n) (j:=k) l2 r.sto.nd).mp (by rw [ha,b1]))
   exact ⟨b,b1,b2,b3.mono (Same.refl _) (other b n)⟩
end
def Fin (K:PySem.W.Frag) (B:Bas) (D:Ends) (ps:List (V × T)):Flow->Sta->Prop
 | .next,ae=>∀ σ' H' S' ag,Rel K B ae σ' H' ps S' ag->D.nx σ' H'
 | .ret t,ae=>∀ v σ' H' S' ag,Rel K B ae σ' H' ((v,t)::ps) S' ag->D.rt v H'
 | .brk,ae=>∀ σ' H' S' ag,Rel K B ae σ' H' ps S' ag->D.bk σ' H'
 | .cont,ae=>∀ σ' H' S' ag,Rel K B ae σ' H' ps S' ag->D.ct σ' H'
inductive sOf (K:PySem.W.Frag) (B:Bas) (s:S) (D:Ends) (σ:L2.St) (H:Hp):Prop
 | mk (st:Sta) (ps:List (V × T)) (S0:Hp) (as:List Addr) (R:Rel K B st σ H ps S0 as) (fl:Flow) (ae:Sta) (e:s st=some (fl,ae)) (q:Fin K B D ps fl ae)
inductive gOf (K:PySem.W.Frag) (B:Bas) (g:G) (v:V) (σ:L2.St) (H:Hp) (Q:L2.St->Hp->Prop):Prop
 | mk (st:Sta) (ps:List (V × T)) (S:Hp) (as:List Addr) (t:T) (R:Rel K B st σ H ((v,t)::ps) S as) (ae:Sta) (e:g t st=some ae) (q:∀ σ' H' S' ag,Rel K B ae σ' H' ps S' ag->Q σ' H')
inductive fOf (K:PySem.W.Frag) (B:Bas) (m:M T) (σ:L2.St) (H:Hp) (Q:VK):Prop
 | mk (st:Sta) (ps:List (V × T)) (S:Hp) (as:List Addr) (R:Rel K B st σ H ps S as) (t:T) (ae:Sta) (e:m st=some (t,ae)) (q:∀ p H' S' ag,Rel K B ae σ H' ps S' ag->Ip K B S' ag H' p t->G7 ae σ p->Q (.ref p) H')
section
variable {X:Cx} {B:Bas} {a b c e:Expr} {m m1 m2:M T} {pos:Pos} {u v:S}
theorem nj:PSs X [] (sOf X.K B yx):=a4d.imp fun D σ H z9=>by
 obtain ⟨st,ps,S,as,R,fl,ae,e,q⟩:=z9;cases e; exact q σ H S as R
theorem fu {st:Stmt} {rest:List Stmt} (h1:PS X st (sOf X.K B u)) (h2:PSs X rest (sOf X.K B v)):PSs X (st::rest) (sOf X.K B (kj u v)):=(Ph h1 h2).imp fun D σ H z9=>by
 obtain ⟨st,ps,S,as,R,fl,ae,e,q⟩:=z9;rcases a1l e with ⟨s1,e1,e2⟩ | ⟨e1,hn⟩
 ·exact ⟨st,ps,S,as,R,.next,s1,e1,fun σ' H' S' ag R'=>⟨s1,ps,S',ag,R',fl,ae,e2,q⟩⟩
 ·refine ⟨st,ps,S,as,R,fl,ae,e1,?_⟩;cases fl with
  | next=>exact absurd rfl hn
  | ret t=>exact q
  | brk=>exact q
  | cont=>exact q
theorem j9 {st:Stmt} (h1:PS X st (sOf X.K B u)):PSs X [st] (sOf X.K B u):=K4 h1
theorem ji (he:PE X e (tOf X.K B m)):PS X (.Return (some e) pos) (sOf X.K B (qd m)):=(a2g he).imp fun D σ H z9=>by
 obtain ⟨st,ps,S,as,R,fl,ae,e,q⟩:=z9;obtain ⟨t,e1,rfl⟩:=Ym e;exact ⟨st,ps,S,as,R,t,ae,e1,fun v H' S' ag R'=>q v σ H' S' ag R'⟩
theorem xu {c1:M Bool} {sa sb:List Stmt} (hc:PT X c (cOf X.K B c1)) (ha:PSs X sa (sOf X.K B u)) (hb:PSs X sb (sOf X.K B v)):PS X (.If c sa sb pos) (sOf X.K B (sIf c1 u v)):=(a9d hc ha hb).imp fun D σ H z9=>by
 obtain ⟨st,ps,S,as,R,fl,ae,e,q⟩:=z9;rcases a3z e with ⟨s1,e1,e2⟩ | ⟨s1,e1,e2⟩
 ·exact ⟨st,ps,S,as,R,true,s1,e1,fun H1 S1 aC R1=>a2x ⟨s1,ps,S1,aC,R1,fl,ae,e2,q⟩⟩
 ·exact ⟨st,ps,S,as,R,false,s1,e1,fun H1 S1 aC R1=>a2h ⟨s1,ps,S1,aC,R1,fl,ae,e2,q⟩⟩
theorem Ec (i:Nat) {tg:Expr} (h:PG X tg (Nu i)):PG X tg (gOf X.K B (hName i)):=fun pins s σ H x u Q I r z9=>h pins s σ H x u Q I r (by
 obtain ⟨st,ps,S,as,t,R,ae,e,q⟩:=z9;cases e;exact q _ H S as (R.drop.put R.top))
theorem jq (i:Nat) {te:TE} {s:Stmt} (h:PS X s (a9q te (Nu i))) (hm:∀ σ H Q,tOf X.K B m σ H Q->te σ H Q):PS X s (sOf X.K B (qb i m)):=h.imp fun D σ H z9=>by
 obtain ⟨st,ps,S,as,R,fl,ae,e,q⟩:=z9;obtain ⟨t,s1,e1,rfl,rfl⟩:=a0o e;exact hm σ H _ ⟨st,ps,S,as,R,t,s1,e1,fun v H' S' ag R'=>q _ H' S' ag (R'.drop.put R'.top)⟩
theorem Ib (i:Nat) {te:TE} {s:Stmt} (h:PS X s (a9q te (Nu i))) (hm:∀ σ H Q,fOf X.K B m σ H Q->te σ H Q):PS X s (sOf X.K B (sNew i m)):=h.imp fun D σ H z9=>by
 obtain ⟨st,ps,S,as,R,fl,ae,e,q⟩:=z9;obtain ⟨t,s1,e1,rfl,rfl⟩:=a0d e;exact hm σ H _ ⟨st,ps,S,as,R,t,s1,e1,fun p H' S' ag R' o n=>q _ H' S' ag (R'.a9g o n)⟩
end
section
variable {K:PySem.W.Frag} {B:Bas} {st:Sta} {σ:L2.St} {H H' S S':Hp} {ps fw:List (V × T)} {as ag:List Addr}
theorem Own.more {p:Addr} {t:T} (hs:Same S S') (x:∃ l,ag=as++l) (hh:H p=H' p) (o:Own K S as H p t):Own K S' ag H' p t:=by
 cases t with
 | lst ts=>obtain ⟨vs,h,r⟩:=o; exact ⟨vs,hh ▸ h,r.mono hs x⟩
 | dic ts=>obtain ⟨vs,h,r⟩:=o; exact ⟨vs,hh ▸ h,r.mono hs x⟩
 | _=>exact o.elim
theorem Rel.call {aR:List SO} (r:Rel K B st σ H ps S as) (g:Ol ⟨S,as,H⟩ S' ag H') (sub:Same S' H') (so:Al K S' ag H' aR):Rel K B { st with sto:=aR } σ H' ps S' ag where
 sub:=sub
 grow:=by
  refine ⟨r.grow.same.trans g.same,?_,fun p o a b c=>?_⟩
  ·obtain ⟨l,e⟩:=r.grow.more;obtain ⟨l',e'⟩:=g.more;exact ⟨l++l',by rw [e',e,List.append_assoc]⟩
  ·obtain ⟨x,y,z⟩:=r.grow.keep p o a b c;exact g.keep p o x y z
 slots:=fun i t f e=>by
  obtain ⟨v,h1,h2,h3⟩:=r.slots i t f e;refine ⟨v,h1,fun q=>(h2 q).mono g.same g.more,fun q=>?_⟩;obtain ⟨p,rfl,o⟩:=h3 q;obtain ⟨ob,ho⟩:=o.own.there;obtain ⟨x,y,z⟩:=g.keep p ob ho o.out o.nas;exact ⟨p,rfl,o.own.more g.same g.more (by rw [ho,x]),y,z,o.new⟩
 apart:=r.apart
 sto:=so
 pend:=fun p hp=>(r.pend p hp).mono g.same g.more
 len:=r.len
end
noncomputable def spF (K:PySem.W.Frag) (ar:Nat) (F:Fn):Sp:=fun vs H Q _=>∃ S as sto ts t aR,Same S H/\Al K S as H sto/\jg K S as vs ts/\ts.length=ar/\F ts sto=some (t,aR) /\
 ∀ v H' S' ag,Ol ⟨S,as,H⟩ S' ag H'->Same S' H'->Al K S' ag H' aR->Rep K S' ag v t->Q v H'
section
variable {X:Cx} {B:Bas} {a b c e:Expr} {m m1 m2:M T} {pos p:Pos} {u v:S} {es:List Expr} {ms:M (List T)} {k:Nat} {f:Addr} {fd:FuncData} {pn:List Str} {F:Fn} {x:Str}
theorem a6o (G:qz X.prog X.w X.K X.mg X.base CX0 k f fd pn (spF X.K pn.length F)) (hr:zy k X.A) (hg:Gl X x) (hm:X.mg x=some (.ref f)) (hk:PySem.W.keepIn X.K (.ref f)=true) (hb:Binds X.K fd pn [])
  (ha:PA X (e::es) (aOf X.K B ms)) (hl:∀ st ts ae,ms st=some (ts,ae)->ts.length=pn.length) (bI:(x==("__debug__" : Str))=false:=by decide)
  (he:starEach (e::es) X.env=(false,eval e X.env)::starEach es X.env:=by rfl) (bB:(backTo pos (starEach es X.env)).any (·.1)=false:=by rfl) :
  PE X (.Call (.Name x p) (e::es) [] pos) (tOf X.K B (gk F ms)) :=
 (a4j G hr hg hm hk hb .nil a8j ha bI he bB).imp fun σ H Q z9=>by
  obtain ⟨st,ps,S,as,R,t,ae,e,q⟩:=z9;obtain ⟨ts,s1,sto,e1,e2,rfl⟩:=Mg e;refine ⟨st,ps,S,as,R,ts,s1,e1,fun vs H1 S1 aC R1 rs=>?_⟩;show spF X.K pn.length F (vs++[]) H1 Q E0;rw [List.append_nil];exact ⟨S1,aC,s1.sto,ts,t,sto,R1.sub,R1.sto,rs,hl _ _ _ e1,e2,fun v H2 S2 aQ g sub so r=>q v H2 S2 aQ ((R1.call g sub so).push r)⟩
theorem eq_nil:∀ st ts ae,dz st=some (ts,ae)->ts.length=0:=fun st ts ae e=>by cases e; rfl
theorem bh {r:M (List T)} {n:Nat} (h:∀ st ts ae,r st=some (ts,ae)->ts.length=n):∀ st ts ae,aj m r st=some (ts,ae)->ts.length=n+1:=fun st ts ae e=>by
 obtain ⟨t,s1,us,e1,e2,rfl⟩:=yu e;exact congrArg (· + 1) (h _ _ _ e2)
end
section
variable {P:Program} {w:World} {K:PySem.W.Frag} {mg:Str->Option Value} {base:Heap}
theorem Y8 {N:List Str} {vs:List V} {i:Nat} {v:V} (h:vs[i]? = some v):(L2.start N vs)[i]? = some (some v):=by
 unfold L2.start;have hi:=(List.getElem?_eq_some_iff.mp h).1;rw [List.getElem?_append_left (by rw [List.length_map]; exact hi),List.getElem?_map,h]; rfl
theorem Bc {S H:Hp} {as:List Addr} {sto:List SO} {vs:List V} {ts:List T} {N:List Str} (h1:Same S H) (h2:Al K S as H sto) (h3:jg K S as vs ts) (hN:ts.length<=N.length) :
  Rel K ⟨S,as,H⟩ ⟨ts.map (fun t=>some (t,false))++List.replicate (N.length - ts.length) none,sto⟩ (L2.start N vs) H [] S as:=by
 have key:∀ (i:Nat) t fl,(ts.map (fun t=>some (t,false))++List.replicate (N.length - ts.length) (none:Slot))[i]? = some (some (t,fl))->fl=false/\ts[i]? = some t:=fun i t fl e=>by
  by_cases hi:i<ts.length
  ·rw [List.getElem?_append_left (by rw [List.length_map]; exact hi),List.getElem?_map] at e;cases z:ts[i]? with
   | none=>rw [z] at e; cases e
   | some t'=>rw [z] at e; cases e; exact ⟨rfl,rfl⟩
  ·rw [List.getElem?_append_right (by rw [List.length_map]; exact Nat.le_of_not_lt hi)] at e;have:=List.eq_of_mem_replicate (List.mem_of_getElem? e);cases this
 refine ⟨h1,⟨Same.refl _,nol,fun p o a b c=>⟨a,b,c⟩⟩,fun i t fl e=>?_,fun i j t u p ei ej=>?_,h2,(fun p hp=>by cases hp),?_⟩
 ·obtain ⟨rfl,e'⟩:=key i t fl e;obtain ⟨v,hv,r⟩:=h3.get e';exact ⟨v,Y8 hv,fun _=>r,fun z=>by cases z⟩
 ·obtain ⟨z,_⟩:=key i t true ei; cases z
 ·unfold L2.start;rw [List.length_append,List.length_append,List.length_map,List.length_map,List.length_replicate,List.length_replicate,h3.length]
theorem ou {x qual:Str} {st:Stmt} {f:Addr} {fd:FuncData} {N ps:List Str} {k:Nat} {b:S} (F:Fun K x qual st f fd) (Sc:jc N ps (dh st)) (hN:ps.length<=N.length)
  (hb:∀ (aS:Value) (A:Around) (outer:List Env) (s:Shared) (H:Hp) (E:XK) (B:Bas),zy k (A.deeper (envOfC qual (dh st) s.heap.objs.size f aS)) ->
   PSs (Og CX0 P w K mg base N qual (dh st) f aS A outer s H E).nox (nu st) (sOf K B b)):qz P w K mg base CX0 (k+1) f fd ps (spF K ps.length (uf N.length b)):=by
 refine F.ok Sc (fun vs H Q E h=>?_) fun aS A outer s H vs Q E hr h=>?_
 ·obtain ⟨S,as,sto,ts,t,aR,h1,h2,h3,h4,_⟩:=h;rw [h3.length,h4]
 ·obtain ⟨S,as,sto,ts,t,aR,h1,h2,h3,h4,h5,q⟩:=h;refine ⟨_,hb aS A outer s H E ⟨S,as,H⟩ hr,?_⟩;have lv:vs.length=ps.length:=by rw [h3.length,h4]
  have R:Rel K ⟨S,as,H⟩ ⟨ts.map (fun t=>some (t,false))++List.replicate (N.length - ts.length) none,sto⟩ (L2.start N vs) H [] S as:=Bc h1 h2 h3 (by rw [h4]; exact hN);unfold uf at h5;split at h5
  ·rename_i t' s' e;cases h5;exact ⟨_,[],S,as,R,.ret t,s',e,fun v σ' H' S' ag R'=>q v H' S' ag R'.grow R'.sub R'.sto R'.top⟩
  ·rename_i s' e;cases h5;exact ⟨_,[],S,as,R,.next,s',e,fun σ' H' S' ag R'=>q .non H' S' ag R'.grow R'.sub R'.sto .non⟩
  ·cases h5
end
theorem Z7 {g:G} {b:S} {t:T} {r:List T} {s s':Sta} {fl:Flow} (h:forL g b (t::r) s=some (fl,s')):∃ s1 fb s2,g t s=some s1/\b s1=some (fb,s2) /\
  (match fb with | .next=>forL g b r s2=some (fl,s') | .cont=>forL g b r s2=some (fl,s') | .brk=>fl=.next/\s'=s2 | .ret v=>fl=.ret v/\s'=s2):=by
 rw [forL] at h;dsimp only at h;split at h
 ·rename_i s1 e1;split at h
  ·rename_i s2 e2; exact ⟨s1,.next,s2,e1,e2,h⟩
  ·rename_i s2 e2; exact ⟨s1,.cont,s2,e1,e2,h⟩
  ·rename_i s2 e2; cases h; exact ⟨s1,.brk,_,e1,e2,rfl,rfl⟩
  ·rename_i v s2 e2; cases h; exact ⟨s1,.ret v,_,e1,e2,rfl,rfl⟩
  ·cases h
 ·cases h
structure Gu (K:PySem.W.Frag) (S:Hp) (as:List Addr) (H:Hp) (J:It) (ts:List T):Prop where
 go:∀ (i:Nat) t,ts[i]? = some t->J.go i H/\∀ x H',J.yld i H x H'->∃ S',Ext S H S' H'/\Rep K S' as x t
 stop:∀ i,ts.length<=i->J.stop i H
inductive iOf (K:PySem.W.Frag) (B:Bas) (m:M (List T)) (σ:L2.St) (H:Hp) (R:It->Hp->Prop):Prop
 | mk (st:Sta) (ps:List (V × T)) (S:Hp) (as:List Addr) (R0:Rel K B st σ H ps S as) (ts:List T) (ae:Sta) (e:m st=some (ts,ae)) (z:ts.length<=sizeLine) (q:∀ J H' S' ag ps',Rel K B ae σ H' (ps'++ps) S' ag->(∀ S as H,(∀ p∈ps',Rep K S as p.1 p.2)->Same S H->Gu K S as H J ts)->R J H')
section
variable {X:Cx} {tg l:Expr} {tl:TE}
noncomputable def iSq (K:PySem.W.Frag) (tl:TE):TI:=fun σ H R=>tl σ H fun x H1=>∃ a,x=.ref a/\(((∃ xs,SqL K H1 a xs)/\R (Itl K a) H1)\/((∃ xs,SqT K H1 a xs)/\R (Itt K a) H1))
theorem aad (hl:PE X l tl):PI X tg l (iSq X.K tl):=by
 intro pins s σ H R I h;refine thn (hl pins s σ H _ I h) fun v s1 z0=>?_;obtain ⟨x,H1,I1,r1,q1⟩:=z0;obtain ⟨a,e,q⟩:=q1;subst e;cases r1;rcases q with ⟨⟨xs,hq⟩,q⟩ | ⟨⟨xs,hq⟩,q⟩
 ·obtain ⟨its,rv,p,hz⟩:=I1.list hq;refine wpAny_pyIter_list p.isList ?_;refine ⟨s1.heap.objs.size,[s1.heap.objs.size],_,_,H1,rfl,I1.kept (t':=s1.toks) fun b o e=>Heap.get?_push_of_some _ e,Wc a _,⟨_,Heap.get?_push_size _ rfl,rfl,rfl⟩,fun b hb=>?_,q⟩;have e:b=s1.heap.objs.size:=by simpa using hb
  subst e;exact I1.a81 (Nat.le_refl _) (I1.hok.fresh (Nat.le_refl _))
 ·obtain ⟨its,rv,p,hz⟩:=I1.tuple hq;refine wpAny_pyIter_tuple (show s1.heap.IsTuple a its.toArray from p) ?_;refine ⟨s1.heap.objs.size,[s1.heap.objs.size],_,_,H1,rfl,I1.kept (t':=s1.toks) fun b o e=>Heap.get?_push_of_some _ e,Ti a _,⟨_,Heap.get?_push_size _ rfl,rfl,rfl⟩,fun b hb=>?_,q⟩;have e:b=s1.heap.objs.size:=by simpa using hb
  subst e;exact I1.a81 (Nat.le_refl _) (I1.hok.fresh (Nat.le_refl _))
end
section
variable {X:Cx} {B:Bas} {a b c e tg iter:Expr} {m m1 m2:M T} {pos p:Pos} {u v:S} {g:G} {it:M (List T)} {body:List Stmt}
theorem itL {K:PySem.W.Frag} {S:Hp} {as:List Addr} {H:Hp} {p:Addr} {vs:List V} {ts:List T} (sub:Same S H) (h:SqL K H p vs) (r:jg K S as vs ts):Gu K S as H (Itl K p) ts where
 go:=fun i t e=>by
  obtain ⟨v,hv,rv⟩:=r.get e;exact ⟨⟨vs,v,h,hv⟩,fun x H' y=>⟨S,by rw [y.1]; exact Ext.refl sub,by have:=y.2 vs h; rw [hv] at this; cases this; exact rv⟩⟩
 stop:=fun i hi=>⟨vs,h,by rw [r.length]; exact hi⟩
theorem itT {K:PySem.W.Frag} {S:Hp} {as:List Addr} {H:Hp} {p:Addr} {vs:List V} {ts:List T} (sub:Same S H) (h:SqT K H p vs) (r:jg K S as vs ts):Gu K S as H (Itt K p) ts where
 go:=fun i t e=>by
  obtain ⟨v,hv,rv⟩:=r.get e;exact ⟨⟨vs,v,h,hv⟩,fun x H' y=>⟨S,by rw [y.1]; exact Ext.refl sub,by have:=y.2 vs h; rw [hv] at this; cases this; exact rv⟩⟩
 stop:=fun i hi=>⟨vs,h,by rw [r.length]; exact hi⟩
theorem jw:lim<=sizeLine:=by rw [sizeLine_eq]; decide
theorem Ew (h:PE X iter (tOf X.K B m)):PI X tg iter (iOf X.K B (J5 m)):=by
 intro pins s σ H R I hw;refine aad h pins s σ H R I ?_;obtain ⟨st,ps,S,as,Rl,ts,ae,e,hz,q⟩:=hw;unfold J5 at e;split at e
 ·rename_i xs s1 e1;split at e
  ·rename_i hl;cases e;refine ⟨st,ps,S,as,Rl,_,_,e1,fun v H1 S1 aC R1=>?_⟩;have top:=R1.top;cases top with
   | @lst a vs _ hs hr =>
    refine ⟨a,rfl,.inl ⟨⟨vs,iz R1.sub hs⟩,q _ H1 S1 aC [(.ref a,.lst _)] R1 fun S2 aQ H2 hp hh=>?_⟩⟩;have:=hp _ List.mem_cons_self;cases this with
    | @lst _ cb _ bW bV=>exact itL hh (iz hh bW) bV
  ·cases e
 ·rename_i xs s1 e1;split at e
  ·rename_i hl;cases e;refine ⟨st,ps,S,as,Rl,_,_,e1,fun v H1 S1 aC R1=>?_⟩;have top:=R1.top;cases top with
   | @tup a vs _ hs hr =>
    refine ⟨a,rfl,.inr ⟨⟨vs,j4 R1.sub hs⟩,q _ H1 S1 aC [(.ref a,.tup _)] R1 fun S2 aQ H2 hp hh=>?_⟩⟩;have:=hp _ List.mem_cons_self;cases this with
    | @tup _ cb _ bW bV=>exact itT hh (j4 hh bW) bV
  ·cases e
 ·cases e
theorem Jp {a:M T} {ts:List T} {s s':Sta} (h:Dv a s=some (ts,s')):∃ n:Int,a s=some (.int n,s')/\(-1000000<n/\n<1000000)/\ts=rangeT n.toNat:=by
 unfold Dv at h;split at h
 ·rename_i n s1 e;split at h
  ·rename_i hl; cases h; exact ⟨n,e,by have:n.natAbs<1000000:=hl; omega,rfl⟩
  ·cases h
 ·cases h
theorem Rw {n i:Nat} {t:T} (h:(rangeT n)[i]? = some t):i<n/\t=.int (i:Int):=by
 unfold rangeT at h;rw [List.getElem?_map] at h;cases z:(List.range n)[i]? with
 | none=>rw [z] at h; cases h
 | some k =>
  rw [z] at h; cases h;obtain ⟨hi,e⟩:=List.getElem?_eq_some_iff.mp z;rw [List.getElem_range] at e; subst e;rw [List.length_range] at hi;exact ⟨hi,rfl⟩
theorem a0s (hg:Gl X "range") (hm:X.mg "range" = none) (h:PE X a (tOf X.K B m)) (hs:starEach [a] X.env=[(false,eval a X.env)]:=by rfl):PI X tg (.Call (.Name "range" p) [a] [] pos) (iOf X.K B (Dv m)):=by
 intro pins s σ H R I hw;refine Y6 (ta:=Zo (tOf X.K B m) a9s) hg hm (nq h wg hs) hs pins s σ H R I ?_;obtain ⟨st,ps,S,as,Rl,ts,ae,e,hz,q⟩:=hw;obtain ⟨n,e1,hl,rfl⟩:=Jp e;refine ⟨st,ps,S,as,Rl,_,_,e1,fun v H1 S1 aC R1=>?_⟩;cases R1.top;refine ⟨n,rfl,by omega,by omega,q _ H1 S1 aC [] R1.drop fun S2 aQ H2 _ hh=>⟨fun i t e=>?_,fun i hi=>?_⟩⟩
 ·obtain ⟨hi,rfl⟩:=Rw e;refine ⟨hi,fun x H' y=>⟨S2,by rw [y.1]; exact Ext.refl hh,?_⟩⟩;have:=y.2; subst this;rw [Int.zero_add]; exact .int _
 ·show n.toNat<=i;unfold rangeT at hi
  rwa [List.length_map,List.length_range] at hi
theorem Wo (hp:PassesOwn (model X.prog X.w) X.A X.env X.xe) (hc:X.calm=true) (hi:PI X tg iter (iOf X.K B it)) (hg:PG X tg (gOf X.K B g)) (hb:PSs X body (sOf X.K B u)) (bE:∀ st ts ae,it st=some (ts,ae)->ts.length<=sizeLine)
  (hs:∀ x,foldedSetIterable iter X.env x=pure x:=by intro _; rfl):PS X (.For tg iter body [] pos) (sOf X.K B (Yj g it u)):=(a2r hp hc hi hg hb hs).imp fun D σ H z9=>by
 obtain ⟨st,ps,S,as,R,fl,ae,e,q⟩:=z9;obtain ⟨ts,s1,e1,e2⟩:=Zw e;refine ⟨st,ps,S,as,R,ts,s1,e1,bE _ _ _ e1,fun J H1 S1 aC ps' R1 facts=>?_⟩;refine ⟨fun i m σ H=>m=ts.length - i/\i<=ts.length/\∃ bq Si a9,Rel X.K B bq σ H (ps'++ps) Si a9/\forL g u (ts.drop i) bq=some (fl,ae),⟨ts.length,by simp,Nat.zero_le _,s1,S1,aC,R1,by simpa using e2⟩,?_⟩;rintro i m cV H2 ⟨rfl,hi,bq,Si,a9,Ri,ei⟩;have F:=facts Si a9 H2 (fun p hp=>Ri.pend p (List.mem_append_left _ hp)) Ri.sub;have sub:∀ p∈ps,p∈ps'++ps:=fun p hp=>List.mem_append_right _ hp
 by_cases bA:i<ts.length
 ·rw [List.drop_eq_getElem_cons bA] at ei;obtain ⟨s2,fb,s3,eg,eb,er⟩:=Z7 ei;have ht:ts[i]? = some ts[i]:=List.getElem?_eq_getElem bA;refine .inr ⟨(F.go i _ ht).1,fun σ' H'=>∃ bq Si a9,Rel X.K B bq σ' H' (ps'++ps) Si a9/\forL g u (ts.drop (i+1)) bq=some (fl,ae),fun σ' H' h=>⟨ts.length - (i+1),by omega,rfl,bA,h⟩,fun x H' y=>?_⟩;obtain ⟨S',ex,rx⟩:=(F.go i _ ht).2 x H' y;refine ⟨bq,ps'++ps,S',a9,_,(Ri.ext ex).push rx,s2,eg,fun cU H3 S3 bp R3=>⟨s2,ps'++ps,S3,bp,R3,fb,s3,eb,?_⟩⟩;cases fb with
  | next=>exact fun σ' H' S' ag R'=>⟨s3,S',ag,R',er⟩
  | cont=>exact fun σ' H' S' ag R'=>⟨s3,S',ag,R',er⟩
  | brk =>
   obtain ⟨rfl,rfl⟩:=er;exact fun σ' H' S' ag R'=>q σ' H' S' ag (R'.pick sub)
  | ret v =>
   obtain ⟨rfl,rfl⟩:=er
   exact fun v σ' H' S' ag R'=>q v σ' H' S' ag (R'.pick fun p hp=>by
    rcases List.mem_cons.mp hp with rfl | z
    ·exact List.mem_cons_self
    ·exact List.mem_cons_of_mem _ (sub p z))
 ·have fZ:i=ts.length:=by omega
  subst fZ;rw [List.drop_length] at ei;cases ei;exact .inl ⟨F.stop _ (Nat.le_refl _),q cV H2 Si a9 (Ri.pick sub)⟩
end
section
variable {K:PySem.W.Frag} {B:Bas} {st:Sta} {σ:L2.St} {H H' S S':Hp} {ps fw:List (V × T)} {as ag:List Addr}
theorem Rel.Oi (r:Rel K B st σ H ps S as) {i:Nat} {t:T} (e:st.env[i]? = some (some (t,true))):∃ S',Rel K B { st with env:=st.env.set i (some (t,false)) } σ H ps S' as:=by
 obtain ⟨v,S',_,R⟩:=r.freeze e;exact ⟨S',R.drop⟩
theorem Rel.j5:∀ (cap:List Nat) {st:Sta} {S:Hp},Rel K B st σ H ps S as->∃ S',Rel K B { st with env:=j5 cap st.env } σ H ps S' as
 | [],st,S,r=>⟨S,r⟩
 | i::l,st,S,r=>by
  unfold C.j5;rw [List.foldl_cons];split
  ·rename_i t f e;cases f with
   | true =>
    obtain ⟨S1,R1⟩:=r.Oi e;exact Rel.j5 l R1
   | false =>
    have e2:st.env.set i (some (t,false))=st.env:=by
     apply List.ext_getElem?;intro j
     by_cases bt:i=j
     ·subst bt;rw [List.getElem?_set_self (List.getElem?_eq_some_iff.mp e).1,e]
     ·rw [List.getElem?_set_ne bt]
    rw [e2];exact Rel.j5 l r
  ·exact Rel.j5 l r
noncomputable def Cg (env:List Slot):Nat->List Slot
 | 0=>env
 | n+1=>match (Cg env n)[n]? with
  | some (some (t,_))=>(Cg env n).set n (some (t,false))
  | _=>Cg env n
theorem Hf (env:List Slot):∀ n,(Cg env n).length=env.length
 | 0=>rfl
 | n+1=>by
  rw [Cg];split
  ·rw [List.length_set]; exact Hf env n
  ·exact Hf env n
theorem G8 (env:List Slot):∀ (n j:Nat),(Cg env n)[j]? = if j<n then (env[j]?).map Q9 else env[j]?
 | 0,j=>by rw [if_neg (Nat.not_lt_zero _)]; rfl
 | n+1,j=>by
  have gF:=G8 env n n;rw [if_neg (Nat.lt_irrefl _)] at gF;have j3:=G8 env n j;rw [Cg,gF]
  by_cases hj:j=n
  ·subst hj;rw [if_pos (Nat.lt_succ_self _)];cases z:env[j]? with
   | none=>simp only [z,Option.map_none]; rw [gF,z]
   | some s =>
    have hl:j<(Cg env j).length:=by rw [Hf]; exact (List.getElem?_eq_some_iff.mp z).1
    cases s with
    | none=>simp only [Option.map_some]; rw [gF,z]; rfl
    | some p=>obtain ⟨t,f⟩:=p; simp only [Option.map_some]; rw [List.getElem?_set_self hl]; rfl
  ·have e1:(if j<n+1 then (env[j]?).map Q9 else env[j]?)=(if j<n then (env[j]?).map Q9 else env[j]?):=by
    by_cases bA:j<n
    ·rw [if_pos bA,if_pos (Nat.lt_succ_of_lt bA)]
    ·rw [if_neg bA,if_neg (by omega)]
   rw [e1,<- j3];split
   ·rw [List.getElem?_set_ne (Ne.symm hj)]
   ·rfl
theorem V5 (env:List Slot):Cg env env.length=env.map Q9:=by
 apply List.ext_getElem?;intro j;rw [G8,List.getElem?_map]
 by_cases hj:j<env.length
 ·rw [if_pos hj]
 ·rw [if_neg hj,List.getElem?_eq_none (Nat.le_of_not_lt hj)]; rfl
theorem Rel.Cg (r:Rel K B st σ H ps S as):∀ n,∃ S',Rel K B { st with env:=C.Cg st.env n } σ H ps S' as
 | 0=>⟨S,r⟩
 | n+1=>by
  obtain ⟨S1,R1⟩:=Rel.Cg r n;rw [C.Cg];split
  ·rename_i t f e;cases f with
   | true=>exact R1.Oi e
   | false =>
    have e2:(C.Cg st.env n).set n (some (t,false))=C.Cg st.env n:=by
     apply List.ext_getElem?;intro j
     by_cases bt:n=j
     ·subst bt;rw [List.getElem?_set_self (List.getElem?_eq_some_iff.mp e).1,e]
     ·rw [List.getElem?_set_ne bt]
    rw [e2];exact ⟨S1,R1⟩
  ·exact ⟨S1,R1⟩
theorem Rel.jo (r:Rel K B st σ H ps S as):∃ S',Rel K B (jo st) σ H ps S' as:=by
 obtain ⟨S',R⟩:=r.Cg st.env.length;rw [V5] at R;exact ⟨S',R⟩
def a1u (st:Sta):Prop:=∀ (i:Nat) t,st.env[i]?≠some (some (t,true))
theorem wj (st:Sta):a1u (C.jo st):=fun i t e=>by
 unfold C.jo at e;rw [List.getElem?_map] at e;cases z:st.env[i]? with
 | none=>rw [z] at e; cases e
 | some s =>
  rw [z] at e;cases s with
  | none=>cases e
  | some p=>obtain ⟨t,f⟩:=p; cases e
theorem Rel.rebase (r:Rel K B st σ H ps S as) (n:a1u st):Rel K ⟨S,as,H⟩ st σ H ps S as :=
 ⟨r.sub,⟨Same.refl _,nol,fun p o a b c=>⟨a,b,c⟩⟩,fun i t f e=>by
  obtain ⟨v,h1,h2,_⟩:=r.slots i t f e;exact ⟨v,h1,h2,fun z=>by subst z; exact absurd e (n i t)⟩,r.apart,r.sto,r.pend,r.len⟩
end
theorem Va {g:G} {c:M Bool} {e:M T} {t:T} {r acc us:List T} {s s':Sta} (h:Bg g c e (t::r) s acc=some (us,s')):∃ s1 b s2,g t s=some s1/\c s1=some (b,s2) /\
  ((b=true/\∃ u s3,e s2=some (u,s3)/\acc.length<lim/\Bg g c e r (jo s3) (acc++[u])=some (us,s'))\/(b=false/\Bg g c e r (jo s2) acc=some (us,s'))):=by
 rw [Bg] at h;split at h
 ·rename_i s1 e1;split at h
  ·rename_i s2 e2;split at h
   ·rename_i u s3 e3;split at h
    ·rename_i hl; exact ⟨s1,true,s2,e1,e2,.inl ⟨rfl,u,s3,e3,hl,h⟩⟩
    ·cases h
   ·cases h
  ·rename_i s2 e2; exact ⟨s1,false,s2,e1,e2,.inr ⟨rfl,h⟩⟩
  ·cases h
 ·cases h
theorem Lk {nv:Nat} {cap:List Nat} {g:G} {it:M (List T)} {c:M Bool} {e:M T} {s s':Sta} {v:T} (h:v9 nv cap g it c e s=some (v,s')):∃ ts s1 us s2,it s=some (ts,s1) /\
  Bg g c e ts ⟨List.replicate nv none++cap.map (fun i=>((j5 cap s1.env)[i]?).getD none),s1.sto⟩ []=some (us,s2)/\v=.lst us/\s'=⟨j5 cap s1.env,s2.sto⟩:=by
 unfold v9 at h;split at h
 ·rename_i ts s1 e1;dsimp only at h;split at h
  ·rename_i us s2 e2; cases h; exact ⟨ts,s1,us,s2,e1,e2,rfl,rfl⟩
  ·cases h
 ·cases h
section
variable {K:PySem.W.Frag} {B:Bas} {st:Sta} {σ:L2.St} {H H' S S':Hp} {ps fw:List (V × T)} {as ag:List Addr} {D:Addr} {ob:HO}
theorem Al.mem {sto:List SO} (r:Al K S as H sto) {a:Addr} (h:a∈as):∃ o,H a=some o:=by
 obtain ⟨n,hn⟩:=List.getElem?_of_mem h;have hl:=(List.getElem?_eq_some_iff.mp hn).1;rw [r.len] at hl;obtain ⟨a',h1,h2,h3⟩:=r.at' n _ (List.getElem?_eq_getElem hl);rw [hn] at h1; cases h1;exact h3.there
theorem Rel.fresh (r:Rel K B st σ H ps S as) (h:H D=none):B.H D=none/\S D=none/\D∉as/\G7 st σ D:=by
 have sD:S D=none:=r.sub.free h;have nD:D∉as:=fun z=>by obtain ⟨o,e⟩:=r.sto.mem z; rw [h] at e; cases e
 refine ⟨?_,sD,nD,fun j u e1 e2=>?_⟩
 ·cases q:B.H D with
  | none=>rfl
  | some o =>
   have b1:B.S D=none:=by
    cases z:B.S D with
    | none=>rfl
    | some u=>have:=r.grow.same _ _ z; rw [sD] at this; cases this
   have b2:D∉B.as:=fun z=>by obtain ⟨l,e⟩:=r.grow.more; exact nD (by rw [e]; exact List.mem_append_left _ z)
   have:=(r.grow.keep D o q b1 b2).1;rw [h] at this; cases this
 ·obtain ⟨v,h1,_,h3⟩:=r.slots j u true e1;rw [e2] at h1; cases h1;obtain ⟨p,ep,o⟩:=h3 rfl;cases ep;obtain ⟨ob,ho⟩:=o.own.there;rw [h] at ho; cases ho
theorem Rel.a9j (r:Rel K B st σ H ps S as) (bD:B.H D=none) (sD:S D=none) (nD:D∉as) (no:G7 st σ D):Rel K B st σ (upd H D ob) ps S as:=by
 have ne:∀ b u,S b=some u->b≠D:=fun b u e z=>by subst z; rw [sD] at e; cases e
 refine ⟨fun b u e=>by rw [c7 (ne b u e)]; exact r.sub _ _ e,⟨r.grow.same,r.grow.more,fun p o x y z=>?_⟩,fun i t f e=>?_,r.apart,⟨r.sto.len,r.sto.nd,fun n so e=>?_⟩,r.pend,r.len⟩
 ·obtain ⟨a,b,c⟩:=r.grow.keep p o x y z;exact ⟨by rw [c7 (fun w=>by subst w; rw [bD] at x; cases x)]; exact a,b,c⟩
 ·obtain ⟨v,h1,h2,h3⟩:=r.slots i t f e;refine ⟨v,h1,h2,fun z=>?_⟩;obtain ⟨p,rfl,o⟩:=h3 z;have n:p≠D:=fun w=>by subst w; subst z; exact no i t e h1
  exact ⟨p,rfl,o.own.mono (Same.refl _) (c7 n).symm,o.out,o.nas,o.new⟩
 ·obtain ⟨a,h1,h2,h3⟩:=r.sto.at' n so e;exact ⟨a,h1,h2,h3.mono (Same.refl _) (c7 (fun w=>by subst w; exact nD (List.mem_of_getElem? h1))).symm⟩
theorem Rel.a90 (r:Rel K B st σ H ps S as) (no:a1u st) (sD:S D=none) (nD:D∉as):Rel K ⟨S,as,upd H D ob⟩ st σ (upd H D ob) ps S as:=by
 have ne:∀ b u,S b=some u->b≠D:=fun b u e z=>by subst z; rw [sD] at e; cases e
 refine ⟨fun b u e=>by rw [c7 (ne b u e)]; exact r.sub _ _ e,⟨Same.refl _,nol,fun p o x y z=>⟨x,y,z⟩⟩,fun i t f e=>?_,r.apart,⟨r.sto.len,r.sto.nd,fun n so e=>?_⟩,r.pend,r.len⟩
 ·obtain ⟨v,h1,h2,_⟩:=r.slots i t f e;exact ⟨v,h1,h2,fun z=>by subst z; exact absurd e (no i t)⟩
 ·obtain ⟨a,h1,h2,h3⟩:=r.sto.at' n so e;exact ⟨a,h1,h2,h3.mono (Same.refl _) (c7 (fun w=>by subst w; exact nD (List.mem_of_getElem? h1))).symm⟩
end
theorem Dd:∀ (cap:List Nat) (env:List Slot) (k:Nat),(∀ t,env[k]?≠some (some (t,true)))->∀ t,(j5 cap env)[k]?≠some (some (t,true))
 | [],env,k,h=>h
 | i::l,env,k,h=>by
  have e:j5 (i::l) env=j5 l (match env[i]? with | some (some (t,_))=>env.set i (some (t,false)) | _=>env):=rfl;rw [e];refine Dd l _ k fun t=>?_;split
  ·rename_i t' f e'
   by_cases hk:i=k
   ·subst hk;rw [List.getElem?_set_self (List.getElem?_eq_some_iff.mp e').1];intro z; cases z
   ·rw [List.getElem?_set_ne hk]; exact h t
  ·exact h t
theorem Cu:∀ (cap:List Nat) (env:List Slot) (k:Nat),k∈cap->∀ t,(j5 cap env)[k]?≠some (some (t,true))
 | [],env,k,h=>by simp at h
 | i::l,env,k,h=>by
  have e:j5 (i::l) env=j5 l (match env[i]? with | some (some (t,_))=>env.set i (some (t,false)) | _=>env):=rfl;rw [e];rcases List.mem_cons.mp h with rfl | h'
  ·refine Dd l _ k fun t=>?_;split
   ·rename_i t' f e';rw [List.getElem?_set_self (List.getElem?_eq_some_iff.mp e').1];intro z; cases z
   ·rename_i hx;intro z;exact hx _ _ z
  ·exact Cu l _ k h'
def gE (K:PySem.W.Frag) (g:G):TG:=fun v σ H Q=>∃ B,gOf K B g v σ H Q
def cE (K:PySem.W.Frag) (c:M Bool):TT:=fun σ H Q=>∃ B,cOf K B c σ H Q
def eE (K:PySem.W.Frag) (e:M T):TE:=fun σ H Q=>∃ B,tOf K B e σ H Q
theorem pgE {X:Cx} {tg:Expr} {g:G} (h:∀ B,PG X tg (gOf X.K B g)):PG X tg (gE X.K g):=fun pins s σ H x u Q I r ⟨B,q⟩=>h B pins s σ H x u Q I r q
theorem ptE {X:Cx} {e:Expr} {c:M Bool} (h:∀ B,PT X e (cOf X.K B c)):PT X e (cE X.K c):=fun pins s σ H Q I ⟨B,q⟩=>h B pins s σ H Q I q
theorem peE {X:Cx} {e:Expr} {m:M T} (h:∀ B,PE X e (tOf X.K B m)):PE X e (eE X.K m):=fun pins s σ H Q I ⟨B,q⟩=>h B pins s σ H Q I q
theorem zu {X:Cx}:PTs X [] (cE X.K En):=fun pins s σ H Q I z9=>by
 obtain ⟨B,st,ps,S,as,R,b,ae,e,q⟩:=z9;cases e;exact a4r pins s σ H Q I (q H S as R)
theorem Zr {X:Cx} {e:Expr} {c:M Bool} (h:∀ B,PT X e (cOf X.K B c)):PTs X [e] (cE X.K c):=a3s (ptE h)
section
variable {X:Cx} {scope:Scope} {N:List Str}
inductive CI (K:PySem.W.Frag) (B:Bas) (g:G) (c:M Bool) (e:M T) (ts us:List T) (env:List Slot) (s2:Sta) (σ:L2.St) (pp:List (V × T)) (D:Addr) (i m:Nat) (σ':L2.St) (H':Hp):Prop where
 | mk (bq:Sta) (Si:Hp) (a9:List Addr) (acc:List T) (bR:List V) (hm:m=ts.length - i) (hi:i<=ts.length) (Ri:Rel K ⟨Si,a9,H'⟩ bq σ' H' [] Si a9) (no:a1u bq) (Ro:Rel K B ⟨env,bq.sto⟩ σ H' pp Si a9) (hD:H' D=some (.lst bR)) (sD:Si D=none) (nD:D∉a9) (rA:jg K Si a9 bR acc) (ei:Bg g c e (ts.drop i) bq acc=some (us,s2)):CI K B g c e ts us env s2 σ pp D i m σ' H'
theorem La {B:Bas} {nv:Nat} {cap:List Nat} {g:G} {c:M Bool} {e:M T} {ts us:List T} {env:List Slot} {fE:List SO} {s2:Sta} {σ:L2.St} {H1 S1:Hp} {aC:List Addr} {ps ps':List (V × T)} {J:It} {Q:VK}
  (hN:N.length=nv+cap.length) (hv:∀ i x,i<nv->N[i]? = some x->True)
  (bb:∀ (j k:Nat),cap[j]? = some k->∃ x,N[nv+j]? = some x/\X.N[k]? = some x/\a9o X scope x)
  (R1:Rel X.K B ⟨env,fE⟩ σ H1 (ps'++ps) S1 aC) (eC:∀ k∈cap,∀ t,env[k]?≠some (some (t,true)))
  (facts:∀ S as H,Same B.S S->(∃ l,as=B.as++l)->(∀ p∈ps',Rep X.K S as p.1 p.2)->Same S H->Gu X.K S as H J ts)
  (hc:Bg g c e ts ⟨List.replicate nv none++cap.map (fun i=>(env[i]?).getD none),fE⟩ []=some (us,s2))
  (fin:∀ D H' S' ag,Rel X.K B ⟨env,s2.sto⟩ σ H' (ps'++ps) S' ag->Ip X.K B S' ag H' D (.lst us)->G7 ⟨env,s2.sto⟩ σ D->Q (.ref D) H') :
  Np X scope N (gE X.K g) (cE X.K c) (eE X.K e) σ J H1 Q:=by
 intro D hD;obtain ⟨bD,sD1,nD1,noD⟩:=R1.fresh hD
 have dJ:∀ (i:Nat) s,(List.replicate nv (none:Slot)++cap.map (fun i=>(env[i]?).getD none))[i]? = some (some s)->∃ j k,i=nv+j/\cap[j]? = some k/\env[k]? = some (some s):=fun i s h=>by
  by_cases hi:i<nv
  ·rw [List.getElem?_append_left (by rw [List.length_replicate]; exact hi)] at h;have:=List.eq_of_mem_replicate (List.mem_of_getElem? h); cases this
  ·rw [List.getElem?_append_right (by rw [List.length_replicate]; exact Nat.le_of_not_lt hi),List.length_replicate,List.getElem?_map] at h;cases z:cap[i - nv]? with
   | none=>rw [z] at h; cases h
   | some k =>
    rw [z] at h;refine ⟨i - nv,k,by omega,z,?_⟩;cases w:env[k]? with
    | none=>simp [w] at h
    | some s'=>simp [w] at h; rw [h]
 have sig:∀ (j k:Nat) v,cap[j]? = some k->σ[k]? = some (some v)->(List.replicate nv (none:Option V)++cap.map (fun i=>(σ[i]?).getD none))[nv+j]? = some (some v):=fun j k v h1 h2=>by
  rw [List.getElem?_append_right (by rw [List.length_replicate]; omega),List.length_replicate,Nat.add_sub_cancel_left,List.getElem?_map,h1];simp [h2]
 refine ⟨List.replicate nv none++cap.map (fun i=>(σ[i]?).getD none),by rw [List.length_append,List.length_replicate,List.length_map,hN],fun i v x h1 h2 _=>?_,?_⟩
 ·by_cases hi:i<nv
  ·rw [List.getElem?_append_left (by rw [List.length_replicate]; exact hi)] at h1;have:=List.eq_of_mem_replicate (List.mem_of_getElem? h1); cases this
  ·rw [List.getElem?_append_right (by rw [List.length_replicate]; exact Nat.le_of_not_lt hi),List.length_replicate,List.getElem?_map] at h1;cases z:cap[i - nv]? with
   | none=>rw [z] at h1; cases h1
   | some k =>
    rw [z] at h1;obtain ⟨y,n1,n2,ck⟩:=bb _ _ z;have e:nv+(i - nv)=i:=by omega
    rw [e,h2] at n1; cases n1;refine ⟨k,n2,?_,ck⟩;cases w:σ[k]? with
    | none=>simp [w] at h1
    | some s'=>simp [w] at h1; rw [h1]
 refine ⟨fun i m σ' H'=>CI X.K B g c e ts us env s2 σ (ps'++ps) D i m σ' H',⟨ts.length,.mk _ S1 aC [] [] (by simp) (Nat.zero_le _) ?_ ?_ ?_ bw sD1 nD1 .nil hc⟩,?_⟩
 ·refine Rel.a90 (B:=B) (H:=H1) ⟨R1.sub,R1.grow,fun i t f h=>?_,fun i j t u p hi hj=>?_,R1.sto,(fun p hp=>by cases hp),?_⟩ (fun i t h=>?_) sD1 nD1
  ·obtain ⟨j,k,rfl,hk,ek⟩:=dJ i _ h;obtain ⟨v,h1,h2,h3⟩:=R1.slots k t f ek;exact ⟨v,sig j k v hk h1,h2,h3⟩
  ·obtain ⟨j,k,rfl,hk,ek⟩:=dJ i _ hi;exact absurd ek (eC k (List.mem_of_getElem? hk) t)
  ·show (List.replicate nv (none:Option V)++cap.map _).length=(List.replicate nv (none:Slot)++cap.map _).length;rw [List.length_append,List.length_append,List.length_replicate,List.length_replicate,List.length_map,List.length_map]
  ·obtain ⟨j,k,rfl,hk,ek⟩:=dJ i _ h;exact absurd ek (eC k (List.mem_of_getElem? hk) t)
 ·intro i t h;obtain ⟨j,k,rfl,hk,ek⟩:=dJ i _ h;exact absurd ek (eC k (List.mem_of_getElem? hk) t)
 ·exact R1.a9j bD sD1 nD1 noD
 rintro i m σ' H' ⟨bq,Si,a9,acc,bR,rfl,hi,Ri,no,Ro,eL,sD,nD,rA,ei⟩;have F:=facts Si a9 H' Ro.grow.same Ro.grow.more (fun p hp=>Ro.pend p (List.mem_append_left _ hp)) Ri.sub
 by_cases bA:i<ts.length
 ·rw [List.drop_eq_getElem_cons bA] at ei;obtain ⟨s3,b,s4,eg,ec,er⟩:=Va ei;have ht:ts[i]? = some ts[i]:=List.getElem?_eq_getElem bA;refine .inr ⟨(F.go i _ ht).1,fun x H2 y=>?_⟩;obtain ⟨S2,ex,rx⟩:=(F.go i _ ht).2 x H2 y;refine ⟨⟨Si,a9,H'⟩,bq,[],S2,a9,_,(Ri.ext ex).push rx,s3,eg,fun cU H3 S3 bp R3=>⟨⟨Si,a9,H'⟩,s3,[],S3,bp,R3,b,s4,ec,fun H4 S4 eX R4=>?_⟩⟩;rcases er with ⟨rfl,w,s5,ee,hlen,erest⟩ | ⟨rfl,erest⟩
  ·refine a2x ⟨⟨Si,a9,H'⟩,s4,[],S4,eX,R4,w,s5,ee,fun y H5 S5 ky R5=>?_⟩;obtain ⟨S6,R6⟩:=R5.jo;obtain ⟨k1,k2,k3⟩:=R6.grow.keep D _ eL sD nD;have il:=Ro.call R6.grow R6.sub R6.sto;refine ⟨bR,k1,?_,ts.length - (i+1),by omega,.mk (jo s5) S6 ky (acc++[w]) (bR++[y]) rfl bA (R6.drop.a90 (wj _) k2 k3) (wj _) (il.a9j bD k2 k3 noD) bw k2 k3 ((rA.mono R6.grow.same R6.grow.more).append (.cons R6.top .nil)) erest⟩;rw [rA.length]; exact Nat.lt_of_lt_of_le hlen jw
  ·refine a2h ?_;obtain ⟨S6,R6⟩:=R4.jo;obtain ⟨k1,k2,k3⟩:=R6.grow.keep D _ eL sD nD;have il:=Ro.call R6.grow R6.sub R6.sto;exact ⟨ts.length - (i+1),by omega,.mk (jo s4) S6 eX acc bR rfl bA (R6.rebase (wj _)) (wj _) il k1 k2 k3 (rA.mono R6.grow.same R6.grow.more) erest⟩
 ·have fZ:i=ts.length:=by omega
  subst fZ;rw [List.drop_length] at ei;cases ei;exact .inl ⟨F.stop _ (Nat.le_refl _),fin D H' Si a9 Ro ⟨⟨bR,eL,rA⟩,sD,nD,bD⟩ noD⟩
theorem Rel.give {K:PySem.W.Frag} {B:Bas} {st:Sta} {σ:L2.St} {H S:Hp} {ps:List (V × T)} {as:List Addr} {p:Addr} {t:T} (r:Rel K B st σ H ps S as) (o:Ip K B S as H p t) (no:G7 st σ p):∃ S',Rel K B st σ H ((.ref p,t)::ps) S' as:=by
 obtain ⟨ob,ho⟩:=o.own.there;have sS:Same S (upd S p ob):=Same.upd o.out ob
 have rep:Rep K (upd S p ob) as (.ref p) t:=by
  have w:=o.own;cases t with
  | lst ts=>obtain ⟨vs,h,q⟩:=w; rw [ho] at h; cases h; exact .lst (SqL.of bw) (q.mono sS nol)
  | dic ts=>obtain ⟨vs,h,q⟩:=w; rw [ho] at h; cases h; exact .dic (.inl bw) (q.mono sS nol)
  | _=>exact w.elim
 have outs:∀ q,S q=none->q≠p->upd S p ob q=none:=fun q h n=>by rw [c7 n]; exact h
 refine ⟨upd S p ob,Rel.push (v:=.ref p) (t:=t) ⟨?_,?_,?_,r.apart,?_,fun q hq=>(r.pend q hq).mono sS nol,r.len⟩ rep⟩
 ·intro b u q
  by_cases z:b=p
  ·subst z; rw [bw] at q; cases q; exact ho
  ·rw [c7 z] at q; exact r.sub _ _ q
 ·refine ⟨r.grow.same.trans sS,r.grow.more,fun q w a b c=>?_⟩;obtain ⟨x,y,z⟩:=r.grow.keep q w a b c;refine ⟨x,outs q y fun n=>?_,z⟩;subst n; rw [o.new] at a; cases a
 ·intro j u f ej;obtain ⟨v',a1,a2,a3⟩:=r.slots j u f ej;refine ⟨v',a1,fun z=>(a2 z).mono sS nol,fun z=>?_⟩;subst z;obtain ⟨p',rfl,o'⟩:=a3 rfl;refine ⟨p',rfl,o'.own.mono sS rfl,outs p' o'.out fun n=>?_,o'.nas,o'.new⟩;subst n;exact no j u ej a1
 ·refine ⟨r.sto.len,r.sto.nd,fun n so en=>?_⟩;obtain ⟨a,a1,a2,a3⟩:=r.sto.at' n so en;refine ⟨a,a1,outs a a2 fun z=>?_,a3.mono sS rfl⟩;subst z;exact o.nas (List.mem_of_getElem? a1)
theorem a8e {K:PySem.W.Frag} {B:Bas} {m:M T} {σ:L2.St} {H:Hp} {Q:VK} (h:tOf K B m σ H Q):fOf K B m σ H Q:=by
 obtain ⟨st,ps,S,as,R,t,ae,e,q⟩:=h;refine ⟨st,ps,S,as,R,t,ae,e,fun p H' S' ag R' o n=>?_⟩;obtain ⟨S2,R2⟩:=R'.give o n;exact q _ H' S2 ag R2
theorem ug {e:Expr} {B:Bas} {m:M T} (h:PE X e (fOf X.K B m)):PE X e (tOf X.K B m):=h.imp fun σ H Q=>a8e
variable {B:Bas} {nv:Nat} {cap:List Nat} {g:G} {it:M (List T)} {c:M Bool} {e:M T} {tg iter elt:Expr} {ifs:List Expr} {pos:Pos}
structure Xi (X:Cx) (scope:Scope) (N:List Str) (nv:Nat) (cap:List Nat):Prop where
 len:N.length=nv+cap.length
 at':∀ (j k:Nat),cap[j]? = some k->∃ x,N[nv+j]? = some x/\X.N[k]? = some x/\a9o X scope x
theorem a7n (co:Xi X scope N nv cap) (bE:∀ st ts ae,it st=some (ts,ae)->ts.length<=sizeLine) {σ:L2.St} {H:Hp} {Q:VK} (h:fOf X.K B (v9 nv cap g it c e) σ H Q) :
  a6n X scope N (iOf X.K B it) (gE X.K g) (cE X.K c) (eE X.K e) σ H Q:=by
 obtain ⟨st,ps,S,as,R,t,ae,e,q⟩:=h;obtain ⟨ts,s1,us,s2,e1,e2,rfl,rfl⟩:=Lk e;refine ⟨st,ps,S,as,R,ts,s1,e1,bE _ _ _ e1,fun J H1 S1 aC ps' R1 facts=>?_⟩;obtain ⟨S2,R2⟩:=R1.j5 cap;exact La co.len (fun _ _ _ _=>trivial) co.at' R2 (fun k hk=>Cu cap s1.env k hk) (fun S as H _ _=>facts S as H) e2 fun D H' S' ag R' o n=>q D H' S' ag (R'.pick fun p hp=>List.mem_append_right _ hp) o n
theorem Eb (co:Xi X scope N nv cap) (sc:Gm X scope N) (calm:X.calm=true) (hi:PI X tg iter (iOf X.K B it)) (bE:∀ st ts ae,it st=some (ts,ae)->ts.length<=sizeLine)
  (hg:∀ C s₀ H₀ ex pn,PG (mz X scope N C s₀ H₀ ex pn) tg (gE X.K g)) (hc:∀ C s₀ H₀ ex pn,PTs (mz X scope N C s₀ H₀ ex pn) ifs (cE X.K c)) (he:∀ C s₀ H₀ ex pn,PE (mz X scope N C s₀ H₀ ex pn) elt (eE X.K e))
  (hs:∀ x,foldedSetIterable iter X.env x=pure x:=by intro _; rfl):PE X (.ListComp elt [⟨tg,iter,ifs,0⟩] scope pos) (fOf X.K B (v9 nv cap g it c e)) :=
 (W3 sc calm hi hg hc he hs).imp fun σ H Q h=>a7n co bE h
end
section
variable {X:Cx}
theorem Oo {f:Value->Value->Sem Value} {g:T->T->Option T} {r:R2} (h:OpR X f r)
  (k:∀ S as x y t u w,Rep X.K S as x t->Rep X.K S as y u->g t u=some w->∀ (H:Hp) (Q:VK),Same S H->(∀ v H' S',Ext S H S' H'->Rep X.K S' as v w->Q v H')->r x y H Q):OpT X f g:=by
 intro pins s σ H x y v u Q I rx ry z8;obtain ⟨S,as,t,w,z,sub,ht,hu,hf,q⟩:=z8;exact h pins s σ H x y v u Q I rx ry (k S as x y t w z ht hu hf H Q sub q)
structure OI (g:T->Option T):Prop where
 n:g .non=none
 b:∀ x,g (.bl x)=none
 s:∀ x,g (.str x)=none
 t:∀ x,g (.tup x)=none
 l:∀ x,g (.lst x)=none
 d:∀ x,g (.dic x)=none
 o:∀ x,g (.obj x)=none
 a:∀ x,g (.adr x)=none
theorem OI.int {g:T->Option T} {w t:T} (h:OI g) (e:g t=some w):∃ i,t=.int i:=by
 cases t with
 | int i=>exact ⟨i,rfl⟩
 | non=>exact jl (h.n.symm.trans e)
 | bl x=>exact jl ((h.b x).symm.trans e)
 | str x=>exact jl ((h.s x).symm.trans e)
 | tup x=>exact jl ((h.t x).symm.trans e)
 | lst x=>exact jl ((h.l x).symm.trans e)
 | dic x=>exact jl ((h.d x).symm.trans e)
 | obj x=>exact jl ((h.o x).symm.trans e)
 | adr x=>exact jl ((h.a x).symm.trans e)
theorem zx {K:PySem.W.Frag} {S:Hp} {as:List Addr} {x y:V} {t u w:T} {g:T->T->Option T} {P:Prop} (ht:Rep K S as x t) (hu:Rep K S as y u) (hf:g t u=some w)
  (n1:∀ u,OI (g · u)) (n2:∀ i,OI (g (.int i))) (k:∀ i j,x=.int i->y=.int j->g (.int i) (.int j)=some w->P):P:=by
 obtain ⟨i,rfl⟩:=(n1 u).int hf;obtain ⟨j,rfl⟩:=(n2 i).int hf;cases ht; cases hu;exact k i j rfl rfl hf
theorem Ed:OpT X (binaryOp .Sub) Ss:=Oo a7c fun S as x y t u w ht hu hf H Q sub q =>
 zx (g:=Ss) ht hu hf (fun u=>⟨rfl,fun _=>rfl,fun _=>rfl,fun _=>rfl,fun _=>rfl,fun _=>rfl,fun _=>rfl,fun _=>rfl⟩) (fun i=>⟨rfl,fun _=>rfl,fun _=>rfl,fun _=>rfl,fun _=>rfl,fun _=>rfl,fun _=>rfl,fun _=>rfl⟩) fun i j ex ey hf=>by
 subst ex ey; cases hf;exact ⟨_,_,rfl,rfl,q _ H S (Ext.refl sub) (.int _)⟩
theorem v8:OpT X (binaryOp .Mod) Hs:=Oo a7d fun S as x y t u w ht hu hf H Q sub q =>
 zx (g:=Hs) ht hu hf (fun u=>⟨rfl,fun _=>rfl,fun _=>rfl,fun _=>rfl,fun _=>rfl,fun _=>rfl,fun _=>rfl,fun _=>rfl⟩) (fun i=>⟨rfl,fun _=>rfl,fun _=>rfl,fun _=>rfl,fun _=>rfl,fun _=>rfl,fun _=>rfl,fun _=>rfl⟩) fun i j ex ey hf=>by
 subst ex ey;obtain ⟨hc,hf⟩:=Cv hf;cases hf; exact ⟨_,_,rfl,rfl,hc,q _ H S (Ext.refl sub) (.int _)⟩
def aa5 (i j:Int):Prop:=0<j/\(j<1073741824\/j.natAbs<fdl)
theorem a1e:OpR X (binaryOp .FloorDiv) (rI aa5 fun i j=>.int (i / j)):=opI fun i j _ _ _ _ _ hc q=>by
 have h1:(0:Int)<j:=hc.1
 have h2:j.natAbs<2 ^ 200:=by
  rcases hc.2 with h | h
  ·exact Nat.lt_trans (show j.natAbs<1073741824 by omega) (by decide)
  ·exact h
 exact floordiv_int (by omega) (by rw [Int.fdiv_eq_ediv_of_nonneg i (by omega)]; exact q) (.inl (PyProof.noPylong_of_log2 (Nat.lt_trans ((Nat.log2_lt (by omega)).mpr h2) (by decide))))
theorem Fy:OpT X (binaryOp .FloorDiv) Hi:=Oo a1e fun S as x y t u w ht hu hf H Q sub q =>
 zx (g:=Hi) ht hu hf (fun u=>⟨rfl,fun _=>rfl,fun _=>rfl,fun _=>rfl,fun _=>rfl,fun _=>rfl,fun _=>rfl,fun _=>rfl⟩) (fun i=>⟨rfl,fun _=>rfl,fun _=>rfl,fun _=>rfl,fun _=>rfl,fun _=>rfl,fun _=>rfl,fun _=>rfl⟩) fun i j ex ey hf=>by
 subst ex ey;obtain ⟨hc,hf⟩:=Cv hf;cases hf; exact ⟨_,_,rfl,rfl,hc,q _ H S (Ext.refl sub) (.int _)⟩
theorem Wa:OpT X (binaryOp .Pow) a2p:=Oo a8x fun S as x y t u w ht hu hf H Q sub q =>
 zx (g:=a2p) ht hu hf (fun u=>⟨rfl,fun _=>rfl,fun _=>rfl,fun _=>rfl,fun _=>rfl,fun _=>rfl,fun _=>rfl,fun _=>rfl⟩) (fun i=>⟨rfl,fun _=>rfl,fun _=>rfl,fun _=>rfl,fun _=>rfl,fun _=>rfl,fun _=>rfl,fun _=>rfl⟩) fun i j ex ey hf=>by
 subst ex ey;obtain ⟨h,hf⟩:=Cv hf;cases hf; exact ⟨_,_,rfl,rfl,⟨h.1,by omega,by omega⟩,q _ H S (Ext.refl sub) (.int _)⟩
theorem Wb:OpT X (compareOp .Lt) ltT:=Oo ab6 fun S as x y t u w ht hu hf H Q sub q =>
 zx (g:=ltT) ht hu hf (fun u=>⟨rfl,fun _=>rfl,fun _=>rfl,fun _=>rfl,fun _=>rfl,fun _=>rfl,fun _=>rfl,fun _=>rfl⟩) (fun i=>⟨rfl,fun _=>rfl,fun _=>rfl,fun _=>rfl,fun _=>rfl,fun _=>rfl,fun _=>rfl,fun _=>rfl⟩) fun i j ex ey hf=>by
 subst ex ey; cases hf;exact ⟨_,_,rfl,rfl,q _ H S (Ext.refl sub) (.bl _)⟩
theorem a7b:OpT X (compareOp .LtE) leT:=Oo aa3 fun S as x y t u w ht hu hf H Q sub q =>
 zx (g:=leT) ht hu hf (fun u=>⟨rfl,fun _=>rfl,fun _=>rfl,fun _=>rfl,fun _=>rfl,fun _=>rfl,fun _=>rfl,fun _=>rfl⟩) (fun i=>⟨rfl,fun _=>rfl,fun _=>rfl,fun _=>rfl,fun _=>rfl,fun _=>rfl,fun _=>rfl,fun _=>rfl⟩) fun i j ex ey hf=>by
 subst ex ey; cases hf;exact ⟨_,_,rfl,rfl,q _ H S (Ext.refl sub) (.bl _)⟩
theorem Y0:OpT X (compareOp .Gt) gtT:=Oo aao fun S as x y t u w ht hu hf H Q sub q =>
 zx (g:=gtT) ht hu hf (fun u=>⟨rfl,fun _=>rfl,fun _=>rfl,fun _=>rfl,fun _=>rfl,fun _=>rfl,fun _=>rfl,fun _=>rfl⟩) (fun i=>⟨rfl,fun _=>rfl,fun _=>rfl,fun _=>rfl,fun _=>rfl,fun _=>rfl,fun _=>rfl,fun _=>rfl⟩) fun i j ex ey hf=>by
 subst ex ey; cases hf;exact ⟨_,_,rfl,rfl,q _ H S (Ext.refl sub) (.bl _)⟩
theorem Xn:UnT X (unaryOp .USub) a4s:=by
 intro pins s σ H x v Q I rx z8;obtain ⟨S,as,t,w,sub,ht,hf,q⟩:=z8;cases ht <;> simp only [a4s,reduceCtorEq] at hf
 cases hf;exact a2l pins s σ H _ v Q I rx ⟨_,rfl,q _ H S (Ext.refl sub) (.int _)⟩
noncomputable def abf (K:PySem.W.Frag):R2:=fun x y H Q=>∃ l b xs zs,x=.ref l/\y=.ref b/\SqL K H l xs/\SqL K H b zs/\xs.length+zs.length<=sizeLine/\∀ p,H p=none->Q (.ref p) (upd H p (.lst (xs++zs)))
theorem Ug:OpR X (binaryOp .Add) (abf X.K):=by
 intro pins s σ H x y v u Q I rx ry h;obtain ⟨l,b,xs,zs,rfl,rfl,hH,hB,hz,q⟩:=h;cases rx;cases ry;obtain ⟨its,r,p1,hl⟩:=I.list hH;obtain ⟨its2,r2,p2,dU⟩:=I.list hB;obtain ⟨⟨cls,dd,data,sl⟩,n,ho,hc,hd0,hd⟩:=id p1;obtain ⟨⟨cls2,dd2,data2,sl2⟩,n2,ho2,hc2,hd02,hd2⟩:=id p2;simp only at hc hd hc2 hd2;subst hc hd hc2 hd2
 refine concat_meets ⟨_,ho,rfl⟩ ⟨_,ho2,rfl⟩ noFill_list_add seq_list_add PySem.F.slot_list_add PySem.F.entry_list_add (PySem.F.args_list_add_2 _ _)
   (list_addW l b its.toArray its2.toArray n n2 dd dd2 sl sl2 (by rw [List.size_toArray,List.size_toArray,<- r.length,<- r2.length]; exact hz)) ⟨ho,ho2,?_⟩
 have ea:its.toArray++its2.toArray=(its++its2).toArray:=by simp
 rw [ea];exact ⟨.ref _,_,I.abo (t':=s.toks) (r.append r2) (by rw [List.length_append]; exact hz),rfl,q _ I.fresh⟩
noncomputable def a8h (K:PySem.W.Frag):R2:=fun x y H Q=>∃ a b ys,x=.ref a/\y=.ref b/\SqT K H a []/\SqT K H b ys/\Q (.ref b) H
theorem a0r:OpR X (binaryOp .Add) (a8h X.K):=by
 intro pins s σ H x y v u Q I rx ry h;obtain ⟨a,b,ys,rfl,rfl,ha,hb,q⟩:=h;cases rx;cases ry;obtain ⟨its,r1,p1,_⟩:=I.tuple ha;obtain ⟨its2,r2,p2,_⟩:=I.tuple hb;cases r1;obtain ⟨⟨cls,dd,data,sl⟩,ho,hc,n,hd⟩:=id p1;obtain ⟨⟨cls2,dd2,data2,sl2⟩,ho2,hc2,n2,hd2⟩:=id p2;simp only at hc hd hc2 hd2;subst hc hd hc2 hd2
 exact concat_meets ⟨_,ho,rfl⟩ ⟨_,ho2,rfl⟩ noFill_tuple_add seq_tuple_add PySem.F.slot_tuple_add PySem.F.entry_tuple_add (PySem.F.args_tuple_add_2 _ _)
   (tuple_addW0 a b _ its2.toArray n n2 dd dd2 sl sl2 (by rfl)) ⟨ho,ho2,⟨.ref b,H,I,rfl,q⟩⟩
theorem mj:OpT X (binaryOp .Add) Cm:=by
 intro pins s σ H x y v u Q I rx ry z8;obtain ⟨S,as,t,t2,w,sub,ht,hu,hf,q⟩:=z8;cases ht <;> first | exact nomatch (show none=some w from hf) | cases hu <;> first | exact nomatch (show none=some w from hf) | simp only [Cm] at hf
 ·cases hf;exact a8c pins s σ H _ _ v u Q I rx ry ⟨_,_,rfl,rfl,q _ H S (Ext.refl sub) (.int _)⟩
 ·split at hf
  ·rename_i hl; cases hf;exact Rm pins s σ H _ _ v u Q I rx ry ⟨_,_,rfl,rfl,Nat.le_trans (Nat.le_of_lt hl) jw,q _ H S (Ext.refl sub) (.str _)⟩
  ·cases hf
 ·rename_i a vs ts hs hr b ws us bW bV;split at hf
  ·rename_i hl; cases hf;have hz:vs.length+ws.length<=sizeLine:=by rw [hr.length,bV.length]; exact Nat.le_trans (Nat.le_of_lt hl) jw
   cases hr with
   | nil=>exact a0r pins s σ H _ _ v u Q I rx ry ⟨_,_,_,rfl,rfl,j4 sub hs,j4 sub bW,q _ H S (Ext.refl sub) (.tup bW bV)⟩
   | @cons v0 t0 vs0 eS h1 h2 =>
    refine a4m pins s σ H _ _ v u Q I rx ry ⟨_,_,_,_,rfl,rfl,j4 sub hs,j4 sub bW,by simp,hz,fun z=>?_,fun z p hp=>?_⟩
    ·subst z;cases bV;rw [List.append_nil] at q;exact q _ H S (Ext.refl sub) (.tup hs (.cons h1 h2))
    ·have x:=Ext.laid sub hp (.tup ((v0::vs0)++ws));exact q _ _ _ x (.tup (SqT.of bw) (((jg.cons h1 h2).append bV).mono x.s nol))
  ·cases hf
 ·rename_i a vs ts hs hr b ws us bW bV;split at hf
  ·rename_i hl; cases hf;have hz:vs.length+ws.length<=sizeLine:=by rw [hr.length,bV.length]; exact Nat.le_trans (Nat.le_of_lt hl) jw
   refine Ug pins s σ H _ _ v u Q I rx ry ⟨_,_,_,_,rfl,rfl,iz sub hs,iz sub bW,hz,fun p hp=>?_⟩;have x:=Ext.laid sub hp (.lst (vs++ws));exact q _ _ _ x (.lst (SqL.of bw) ((hr.append bV).mono x.s nol))
  ·cases hf
theorem a6m (x:Str) (n:Int) (h:0<=n):Txt.mul x n=⟨((List.replicate n.toNat x.cps.toList).flatten).toArray⟩:=by
 have key:∀ (k:Nat) (acc:Array Nat),(List.replicate k x.cps).foldl (· ++ ·) acc=acc++((List.replicate k x.cps.toList).flatten).toArray:=by
  intro k
  induction k with
  | zero=>intro acc; simp
  | succ k ih =>
   intro acc;rw [List.replicate_succ,List.foldl_cons,ih,List.replicate_succ,List.flatten_cons];apply Array.ext';simp
 unfold Txt.mul
 by_cases h1:n<1
 ·have:n=0:=by omega
  subst this;rw [if_pos h1]; rfl
 ·rw [if_neg h1]
  by_cases h2:(n==1||x.length==0)=true
  ·rw [if_pos h2];rw [Bool.or_eq_true] at h2;rcases h2 with h2 | h2
   ·have:n=1:=by simpa using h2
    subst this;cases x; simp
   ·have h3:x.cps.size=0:=by simpa [Str.length] using h2
    obtain ⟨c⟩:=x;have h4:c = #[]:=Array.eq_empty_of_size_eq_zero h3;subst h4;congr 1;apply Array.ext';simp
  ·rw [if_neg h2,key];congr 1;apply Array.ext';simp
theorem Gk:OpT X (binaryOp .Mult) Pj:=by
 intro pins s σ H x y v u Q I rx ry z8;obtain ⟨S,as,t,t2,w,sub,ht,hu,hf,q⟩:=z8;cases ht <;> first | exact nomatch (show none=some w from hf) | cases hu <;> first | exact nomatch (show none=some w from hf) | simp only [Pj] at hf
 ·split at hf
  ·rename_i hb; cases hf;refine a79 pins s σ H _ _ v u Q I rx ry ⟨_,_,rfl,rfl,?_,q _ H S (Ext.refl sub) (.int _)⟩;rw [Bool.or_eq_true] at hb;rcases hb with h | h
   ·exact .inl (of_decide_eq_true h)
   ·exact .inr (of_decide_eq_true h)
  ·cases hf
 ·rename_i z j;split at hf
  ·rename_i hb; cases hf;obtain ⟨t',rfl⟩:=rx;obtain ⟨eZ,rfl⟩:=ry;refine SB.mul ⟨?_,fun _ _=>?_,fun _ _=>?_⟩ fun t3 k=>⟨.str (Txt.mul z j),H,I.tok _,⟨_,rfl⟩,?_⟩
   ·have h1:¬ j < -(2 ^ 63:Int):=by omega
    have h2:¬ j >= 2 ^ 63:=by omega
    rw [decide_eq_false h1,decide_eq_false h2]; rfl
   ·have h1:(z.length:Int)<=100:=by omega
    have h2:(100:Int)<=(2 ^ 63 - 1) / j:=by
     have hj:0<j:=by
      rcases Int.lt_or_le 0 j with h | h
      ·exact h
      ·exfalso;have:j=0:=by omega
       subst this;rename_i a _; exact a (by decide)
     exact (Int.le_ediv_iff_mul_le hj).mpr (by omega)
    omega
   ·have h3:z.length * j.toNat<=100 * 1000:=Nat.mul_le_mul hb.2.2 (by omega);unfold Builtin.Str.tooLong;rw [sizeLine_eq];exact decide_eq_false (by omega)
   ·rw [a6m z j hb.1]; exact q _ H S (Ext.refl sub) (.str _)
  ·cases hf
end
section
variable {X:Cx} {B:Bas} {a b c e o:Expr} {m m1 m2:M T} {pos p:Pos}
theorem Q6 (n:Nat) (i:Int):ixI n i=ixN n i:=rfl
theorem Uw {K:PySem.W.Frag} {S:Hp} {as:List Addr} {y:V} {t:T} {q:L2.Key} (r:Rep K S as y t) (h:keyOf t=some q):y=kV q:=by
 cases r <;> simp only [keyOf,reduceCtorEq] at h <;> (cases h; rfl)
def aar:R2:=fun x y H Q=>∃ a v,x=.ref a/\Yg H a y (some v)/\Q v H
theorem a5y (hu:X.A.units+1<cLine):IxR X aar:=by
 intro value slice pins s σ H x y v u Q I rx ry z8 hs;obtain ⟨a,w,ex,g,q⟩:=z8;subst ex;cases rx;refine tail_any (Oe I g) slot_dict_getitem.lookup (W6 hu I g ry fun w' s' I' r'=>⟨w,H,I',r',q⟩) hs
theorem Yl (hu:X.A.units+1<cLine):IxR X (r2 X.K fj):=by
 intro value slice pins s σ H x y v u Q I rx ry z8 hs;obtain ⟨S,as,t,t2,w,sub,ht,hu2,hf,q⟩:=z8;cases ht with
 | @tup a vs ts h1 h2 =>
  cases hu2 <;> first | exact jl hf | skip
  rename_i i;obtain ⟨j,e1,e2⟩:=Option.bind_eq_some_iff.mp hf;obtain ⟨z,hz,rz⟩:=h2.get e2;refine a2w value slice pins s σ H _ _ v u Q I rx ry ⟨a,vs,i,z,rfl,rfl,j4 sub h1,?_,q z H S (Ext.refl sub) rz⟩ hs;rw [Q6,<- h2.length] at e1;unfold atI; rw [e1]; exact hz
 | @lst a vs ts h1 h2 =>
  cases hu2 <;> first | exact jl hf | skip
  rename_i i;obtain ⟨j,e1,e2⟩:=Option.bind_eq_some_iff.mp hf;obtain ⟨z,hz,rz⟩:=h2.get e2;refine Vw value slice pins s σ H _ _ v u Q I rx ry ⟨a,vs,i,z,rfl,rfl,iz sub h1,?_,q z H S (Ext.refl sub) rz⟩ hs;rw [Q6,<- h2.length] at e1;unfold atI; rw [e1]; exact hz
 | str z =>
  cases hu2 <;> first | exact jl hf | skip
  rename_i i;obtain ⟨hl,hf⟩:=Cv hf;obtain ⟨j,e1,e2⟩:=Option.bind_eq_some_iff.mp hf;obtain ⟨cc,e3,e4⟩:=Option.map_eq_some_iff.mp e2;subst e4;refine a8b value slice pins s σ H _ _ v u Q I rx ry ⟨z,i,cc,rfl,rfl,Nat.le_trans (Nat.le_of_lt hl) jw,?_,q _ H S (Ext.refl sub) (.str _)⟩ hs;rw [Q6] at e1;unfold atI; rw [e1]; exact e3
 | @dic a aa ts h1 h2 =>
  obtain ⟨k,e1,e2⟩:=Option.bind_eq_some_iff.mp hf;have ey:=Uw hu2 e1;subst ey;rcases h2.get k with ⟨z,t',a1,a2,a3⟩ | ⟨_,a2⟩
  ·rw [e2] at a2; cases a2;exact a5y hu value slice pins s σ H _ _ v u Q I rx ry ⟨a,z,rfl,.inl ⟨aa,k,qt sub h1,rfl,a1.symm⟩,q z H S (Ext.refl sub) a3⟩ hs
  ·rw [e2] at a2; cases a2
 | _=>exact jl hf
theorem jt (hu:X.A.units+1<cLine) (ha:PE X a (tOf X.K B m1)) (hb:PE X b (tOf X.K B m2)) (hs:Kc b):PE X (.Subscript a b pos) (tOf X.K B (mOp fj m1 m2)):=Qc (a4x (Yl hu) ha hb hs)
theorem Gh:a1s X (.builtin "len") Ob:=by
 intro pins s σ H xs us Q I rs z8;obtain ⟨S,as,ts,w,sub,hr,hf,q⟩:=z8;cases hr with
 | nil=>simp only [Ob,reduceCtorEq] at hf
 | @cons x t dF ts' h1 h2 =>
  cases h2 with
  | cons h3 h4=>simp only [Ob,reduceCtorEq] at hf
  | nil =>
   cases h1 with
   | tup g1 g2=>simp only [Ob] at hf; cases hf; exact Ay pins s σ H _ us Q I rs ⟨_,_,rfl,.inr (j4 sub g1),by rw [g2.length]; exact q _ H S (Ext.refl sub) (.int _)⟩
   | lst g1 g2=>simp only [Ob] at hf; cases hf; exact Ay pins s σ H _ us Q I rs ⟨_,_,rfl,.inl (iz sub g1),by rw [g2.length]; exact q _ H S (Ext.refl sub) (.int _)⟩
   | str z =>
    simp only [Ob] at hf;split at hf
    ·rename_i hl; cases hf; exact Ln pins s σ H _ us Q I rs ⟨_,rfl,Nat.le_trans (Nat.le_of_lt hl) jw,q _ H S (Ext.refl sub) (.int _)⟩
    ·cases hf
   | @dic a aa ts g1 g2 =>
    simp only [Ob] at hf; cases hf;obtain ⟨u,rfl,ru⟩:=rs.one;cases ru;exact a95 I (qt sub g1) fun t s' I'=>⟨.int aa.length,H,I',⟨t,rfl⟩,by rw [g2.length]; exact q _ H S (Ext.refl sub) (.int _)⟩
   | _=>simp only [Ob,reduceCtorEq] at hf
theorem Ae:a1s X (.type "tuple") Ag:=by
 intro pins s σ H xs us Q I rs z8;obtain ⟨S,as,ts,w,sub,hr,hf,q⟩:=z8;cases hr with
 | nil=>simp only [Ag,reduceCtorEq] at hf
 | @cons x t dF ts' h1 h2 =>
  cases h2 with
  | cons h3 h4=>simp only [Ag,reduceCtorEq] at hf
  | nil =>
   cases h1 with
   | @tup a vs ts g1 g2=>simp only [Ag] at hf; cases hf; exact Ds pins s σ H _ us Q I rs ⟨_,_,rfl,.inr ⟨j4 sub g1,q _ H S (Ext.refl sub) (.tup g1 g2)⟩⟩
   | @lst a vs ts g1 g2 =>
    simp only [Ag] at hf; cases hf;refine Ds pins s σ H _ us Q I rs ⟨_,_,rfl,.inl ⟨iz sub g1,fun p hp=>?_⟩⟩;have x:=Ext.laid sub hp (.tup vs);exact q _ _ _ x (.tup (SqT.of bw) (g2.mono x.s nol))
   | _=>simp only [Ag,reduceCtorEq] at hf
theorem u9.put {K:PySem.W.Frag} {S:Hp} {as:List Addr} {k:L2.Key} {v:V} {t:T} (r:Rep K S as v t):∀ {vs:List (L2.Key × V)} {ts:List (L2.Key × T)},u9 K S as vs ts->u9 K S as (putK vs k v) (Nj k t ts):=by
 intro vs ts h
 have any:∀ {vs:List (L2.Key × V)} {ts:List (L2.Key × T)},u9 K S as vs ts->(vs.any fun kv=>decide (kv.1=k))=(ts.any fun p=>decide (p.1=k)):=by
  intro vs ts h
  induction vs generalizing ts with
  | nil=>cases h; rfl
  | cons p r ih=>cases h with | cons h1 h2=>rw [List.any_cons,List.any_cons,ih h2]
 have mp:∀ {vs:List (L2.Key × V)} {ts:List (L2.Key × T)},u9 K S as vs ts->u9 K S as (vs.map fun kv=>if kv.1=k then (kv.1,v) else kv) (ts.map fun p=>if p.1=k then (p.1,t) else p):=by
  intro vs ts h
  induction vs generalizing ts with
  | nil=>cases h; exact .nil
  | cons p rr ih =>
   cases h with
   | @cons q v0 t0 _ _ h1 h2 =>
    rw [List.map_cons,List.map_cons]
    by_cases e:q=k
    ·rw [if_pos e,if_pos e]; exact .cons r (ih h2)
    ·rw [if_neg e,if_neg e]; exact .cons h1 (ih h2)
 have ap:∀ {vs:List (L2.Key × V)} {ts:List (L2.Key × T)},u9 K S as vs ts->u9 K S as (vs++[(k,v)]) (ts++[(k,t)]):=by
  intro vs ts h
  induction vs generalizing ts with
  | nil=>cases h; exact .cons r .nil
  | cons p rr ih=>cases h with | cons h1 h2=>exact .cons h1 (ih h2)
 unfold putK Nj;rw [any h];split
 ·exact mp h
 ·exact ap h
end
theorem Oc {i:Nat} {s s':Sta} {t:T} (h:Az i s=some (t,s')):s'=s/\((∃ xs f,s.env[i]? = some (some (.lst xs,f))/\t=.int xs.length)\/(∃ xs f,s.env[i]? = some (some (.dic xs,f))/\t=.int xs.length)):=by
 unfold Az at h;split at h
 ·rename_i xs f e; cases h; exact ⟨rfl,.inl ⟨xs,f,e,rfl⟩⟩
 ·rename_i xs f e; cases h; exact ⟨rfl,.inr ⟨xs,f,e,rfl⟩⟩
 ·cases h
section
variable {K:PySem.W.Frag} {B:Bas} {st:Sta} {σ:L2.St} {H S:Hp} {ps:List (V × T)} {as:List Addr}
theorem Rel.dictAt (r:Rel K B st σ H ps S as) {i:Nat} {aa:List (L2.Key × T)} {f:Bool} (e:st.env[i]? = some (some (.dic aa,f))):∃ p vs,σ[i]? = some (some (.ref p))/\Rd H p (.dK vs)/\u9 K S as vs aa:=by
 obtain ⟨v,h1,h2,h3⟩:=r.slots i _ f e;cases f with
 | false =>
  have h:=h2 rfl;cases h with
  | dic a b=>exact ⟨_,_,h1,qt r.sub a,b⟩
 | true =>
  obtain ⟨p,rfl,o⟩:=h3 rfl;obtain ⟨vs,h,q⟩:=o.own;exact ⟨p,vs,h1,.inl h,q⟩
end
section
variable {X:Cx} {B:Bas} {a b c e o k d:Expr} {m mo mk md mv:M T} {pos p:Pos}
theorem Hy {i:Nat} {s:Sta} (h:El i s=true):∃ aa f,s.env[i]? = some (some (.lst aa,f)):=by
 unfold El at h;split at h
 ·rename_i aa f e; exact ⟨aa,f,e⟩
 ·cases h
end
theorem gj {ms:M (List T)} {n:Nat} (h:∀ st ts ae,ms st=some (ts,ae)->ts.length<=n) (hn:n<=1000):∀ st ts ae,ms st=some (ts,ae)->ts.length<=1000:=fun st ts ae e=>Nat.le_trans (h st ts ae e) hn
theorem Et {m:M T}:∀ st ts ae,J5 m st=some (ts,ae)->ts.length<=sizeLine:=fun st ts ae e=>by
 unfold J5 at e;split at e
 ·split at e
  ·rename_i h; cases e; exact Nat.le_trans (Nat.le_of_lt h) jw
  ·cases e
 ·split at e
  ·rename_i h; cases e; exact Nat.le_trans (Nat.le_of_lt h) jw
  ·cases e
 ·cases e
theorem Yt {m:M T}:∀ st ts ae,Dv m st=some (ts,ae)->ts.length<=sizeLine:=fun st ts ae e=>by
 obtain ⟨n,_,h,rfl⟩:=Jp e;unfold rangeT;rw [List.length_map,List.length_range];refine Nat.le_trans ?_ jw;show n.toNat<=1000000;omega
def gq (P:Program) (w:World) (K:PySem.W.Frag) (mg:Str->Option Value) (base:Heap) (x:Str) (k:Nat) (ps:List Str) (F:Fn):Prop :=
 ∃ f fd,qz P w K mg base CX0 k f fd ps (spF K ps.length F)/\Binds K fd ps []/\PySem.W.keepIn K (.ref f)=true/\mg x=some (.ref f)
theorem gq.mono {P:Program} {w:World} {K:PySem.W.Frag} {mg:Str->Option Value} {base:Heap} {x:Str} {j k:Nat} {ps:List Str} {F:Fn} (d:gq P w K mg base x j ps F) (h:j<=k):gq P w K mg base x k ps F:=by
 obtain ⟨f,fd,h1,h2⟩:=d;exact ⟨f,fd,h1.mono h,h2⟩
section
variable {X:Cx} {B:Bas} {a b c e o k:Expr} {m m1 m2:M T} {pos p:Pos} {es:List Expr} {ms:M (List T)} {F:Fn} {x:Str} {n:Nat} {pn:List Str}
theorem gb (D:gq X.prog X.w X.K X.mg X.base x n pn F) (hr:zy n X.A) (hg:Gl X x)
  (ha:PA X (e::es) (aOf X.K B ms)) (hl:∀ st ts ae,ms st=some (ts,ae)->ts.length=pn.length) (bI:(x==("__debug__" : Str))=false:=by decide)
  (he:starEach (e::es) X.env=(false,eval e X.env)::starEach es X.env:=by rfl) (bB:(backTo pos (starEach es X.env)).any (·.1)=false:=by rfl) :
  PE X (.Call (.Name x p) (e::es) [] pos) (tOf X.K B (gk F ms)):=by
 obtain ⟨f,fd,h1,h2,h3,h4⟩:=D;exact a6o h1 hr hg h4 h3 h2 ha hl bI he bB
theorem Jm (h:PA X es (aOf X.K B ms)) (hm:∀ st ts ae,ms st=some (ts,ae)->ts.length<=1000):PE X (.List es pos) (fOf X.K B (iy (fun l=>some (.lst l)) ms)) :=
 (Xo h).imp fun σ H Q z9=>by
  obtain ⟨st,ps,S,as,R,t,ae,e,q⟩:=z9;obtain ⟨ts,e1,e2⟩:=Bh e;cases e2;refine ⟨st,ps,S,as,R,ts,ae,e1,fun vs H1 S1 aC R1 rs=>⟨?_,fun p hp=>?_⟩⟩
  ·rw [rs.length]; exact Nat.le_of_lt (Bb (hm _ _ _ e1))
  ·obtain ⟨bD,sD,nD,no⟩:=R1.fresh hp;exact q p _ S1 aC (R1.a9j bD sD nD no) ⟨⟨vs,bw,rs⟩,sD,nD,bD⟩ no
theorem Rel.listAt {K:PySem.W.Frag} {B:Bas} {st:Sta} {σ:L2.St} {H S:Hp} {ps:List (V × T)} {as:List Addr} (r:Rel K B st σ H ps S as) {i:Nat} {xs:List T} {f:Bool} (e:st.env[i]? = some (some (.lst xs,f))):∃ p vs,σ[i]? = some (some (.ref p))/\SqL K H p vs/\jg K S as vs xs:=by
 obtain ⟨v,h1,h2,h3⟩:=r.slots i _ f e;cases f with
 | false =>
  have h:=h2 rfl;cases h with
  | lst a b=>exact ⟨_,_,h1,iz r.sub a,b⟩
 | true =>
  obtain ⟨p,rfl,o⟩:=h3 rfl;obtain ⟨vs,h,q⟩:=o.own;exact ⟨p,vs,h1,SqL.of h,q⟩
theorem yp (i:Nat) {st:Stmt} (h:PS X st (a8k (tBM X.K "list" Wj (Xm i) (Zo (tOf X.K B m) a9s)))):PS X st (sOf X.K B (m9 i m)):=h.imp fun D σ H z9=>by
 obtain ⟨st,ps,S,as,R,fl,ae,e,q⟩:=z9;obtain ⟨hd,t,s1,xs,e1,e2,hl,rfl,rfl⟩:=Od e;obtain ⟨xs0,f0,e0⟩:=Hy hd;obtain ⟨p0,vs0,s0,q0,_⟩:=R.listAt e0;refine ⟨_,s0,.inl ⟨rfl,_,q0⟩,st,ps,S,as,R,t,s1,e1,fun v H1 S1 aC R1=>?_⟩;obtain ⟨w,h1,_,h3⟩:=R1.slots i _ true e2;rw [s0] at h1; cases h1;obtain ⟨p',ep,ow⟩:=h3 rfl;cases ep;obtain ⟨vs,hH,h4⟩:=ow.own;exact ⟨p0,vs,v,rfl,rfl,hH,by rw [h4.length]; exact Nat.lt_of_lt_of_le hl jw,q _ _ S1 aC (R1.drop.turn e2 s0 ⟨_,bw,h4.append (.cons R1.top .nil)⟩)⟩
end
section
variable {X:Cx} {B:Bas} {a b c e o k:Expr} {m m1 m2:M T} {pos p:Pos}
theorem Mh {K:PySem.W.Frag} {S:Hp} {as:List Addr}:∀ {vs:List V} {ts:List T} {l:List Int},jg K S as vs ts->Xc ts=some l->vs=l.map V.int
 | _,[],l,h0,h=>by cases h0; cases h; rfl
 | _,_::_,l,h0,h=>by
  cases h0 with | cons h1 h2=>?_
  cases h1 <;> first | exact jl h | skip
  obtain ⟨l',e1,e2⟩:=Option.map_eq_some_iff.mp h;subst e2;rw [Mh h2 e1]; rfl
theorem a02 {l:List Int} {us:List Value} (r:Vals (l.map V.int) us) {i:Nat} {v:Value} (h:us.toArray[i]? = some v):∃ t,v=.int (l.getD i 0) t:=by
 rw [List.getElem?_toArray] at h;have hi:i<(l.map V.int).length:=by rw [r.length]; exact (List.getElem?_eq_some_iff.mp h).1
 rw [List.length_map] at hi;have e:(l.map V.int)[i]? = some (.int l[i]):=by rw [List.getElem?_map,List.getElem?_eq_getElem hi]; rfl
 obtain ⟨u,h1,t,h2⟩:=r.get e;rw [h] at h1; cases h1;exact ⟨t,by rw [h2,List.getD_eq_getElem?_getD,List.getElem?_eq_getElem hi]; rfl⟩
theorem Inv.El {pins:List (Addr × Obj)} {σ:L2.St} {H:Hp} {s:Shared} {a:Addr} {xs:List V} (I:L2.Inv X pins σ H s) (h:SqL X.K H a xs):a<s.heap.objs.size:=by
 obtain ⟨its,_,⟨o,n,h1,_⟩,_⟩:=I.list h;exact Heap.lt_size h1
theorem Ud (hc:X.calm=true):a1s X (.builtin "sum") aac:=by
 intro pins s σ H xs us Q I rs z8;obtain ⟨S,as,ts,w,sub,hr,hf,q⟩:=z8;cases hr with
 | nil=>exact jl hf
 | @cons x t dF ts' h1 h2 =>
  cases h2 with
  | cons h3 h4=>cases h1 <;> exact jl hf
  | nil =>
   cases h1 with
   | @lst a vs ts g1 g2 =>
    obtain ⟨l,e1,e2⟩:=Option.map_eq_some_iff.mp hf;subst e2;have ev:=Mh g2 e1;subst ev;obtain ⟨u,rfl,ru⟩:=rs.one;cases ru;obtain ⟨its,r,p,hz⟩:=I.list (iz sub g1);have bA:=Inv.El I (iz sub g1);refine call_sum_walkG (wpAny_pyIter_list p.isList ?_);refine ⟨_,_,_,_,_,_,fun i=>l.getD i 0,rfl,Walks.list (A:=X.A.in1) (show X.A.in1.handled=none from I.ok.hd hc) s.heap.objs.size a (Nat.ne_of_lt bA) its.toArray,And.intro ⟨_,Heap.get?_push_size _ rfl,rfl,rfl⟩ (PlainL.keeps p fun b o e=>Heap.get?_push_of_some _ e).isList,fun b hb=>?_,fun i v hv=>a02 r hv,fun h' tk t' hk=>?_⟩
    ·rw [Heap.size_push];rcases List.mem_cons.mp hb with rfl | hb
     ·exact Nat.lt_succ_self _
     ·rw [List.mem_singleton.mp hb]; exact Nat.lt_succ_of_lt bA
    ·have hl:its.toArray.size=l.length:=by rw [List.size_toArray,<- r.length,List.length_map]
     rw [hl,preSum_getD,List.take_length];exact ⟨.int l.sum,H,I.kept (h':=h') (t':=tk) fun b u e=>hk b u (by simp; exact Nat.ne_of_lt (Heap.lt_size e)) (Heap.get?_push_of_some _ e),⟨_,rfl⟩,q _ H S (Ext.refl sub) (.int _)⟩
   | _=>exact jl hf
noncomputable def tyOf:T->Option Value
 | .non=>some (.type "NoneType")
 | .bl _=>some (.type "bool")
 | .int _=>some (.type "int")
 | .str _=>some (.type "str")
 | .tup _=>some (.type "tuple")
 | .lst _=>some (.type "list")
 | .dic _=>some (.type "dict")
 | .obj _=>none
 | .adr _=>none
theorem a7u {pins:List (Addr × Obj)} {σ:L2.St} {H S:Hp} {s:Shared} {as:List Addr} {x:V} {u c:Value} {t:T} {ty:Value} {b:Bool} {Q:Value->Shared->Prop} {E:Value->Shared->Prop} (I:L2.Inv X pins σ H s) (sub:Same S H) (rx:RelV x u) (r:Rep X.K S as x t) (cO:tyOf t=some ty)
  (e:PySem.W.kitOne X.K ty c=some b) (h:∀ tk,Q (.bool b) { s with toks:=tk }):wpAny (model X.prog X.w) X.A (call (.builtin "isinstance") [u,c]) Q E s:=by
 cases r with
 | non=>cases cO; exact Di I rx .non e h
 | bl y=>cases cO; exact Di I rx (.bl y) e h
 | int y=>cases cO; exact Di I rx (.int y) e h
 | str y=>cases cO; exact Di I rx (.str y) e h
 | @tup a vs ts g1 g2 =>
  cases cO;cases (show u=Value.ref a from rx);obtain ⟨its,_,⟨o,h1,h2,_⟩,_⟩:=I.tuple (j4 sub g1);exact PySem.W.kia_one PySem.W.kitx_tuple I.kIn ⟨o,h1,h2⟩ e (fun z=>nomatch z) h
 | @lst a vs ts g1 g2 =>
  cases cO;cases (show u=Value.ref a from rx);obtain ⟨its,_,⟨o,n,h1,h2,_⟩,_⟩:=I.list (iz sub g1);exact PySem.W.kia_one PySem.W.kitx_list I.kIn ⟨o,h1,h2⟩ e (fun z=>nomatch z) h
 | @dic a aa ts g1 g2 =>
  cases cO;cases (show u=Value.ref a from rx);obtain ⟨_,_,vs,_,o,es,ep,h1,h2,_⟩:=Km I.hok (qt sub g1);exact PySem.W.kia_one PySem.W.kitx_dict I.kIn ⟨o,h1,h2.1⟩ e (fun z=>nomatch z) h
 | obj h=>cases cO
 | adr h=>cases cO
def aan (f:Value->Bool):List T->Option T
 | [t]=>(tyOf t).map fun ty=>.bl (f ty)
 | _=>none
theorem a7h {cn:String} {f:Value->Bool} {pc:Pos} (hg:Gl X "isinstance") (hm:X.mg "isinstance" = none) (eR:Gl X (Str.ofString cn)) (dE:X.mg (Str.ofString cn)=none) (hv:bootBuiltins (Str.ofString cn)=some (.type cn))
  (hf:∀ t ty,tyOf t=some ty->PySem.W.kitOne X.K ty (.type cn)=some (f ty)) (ha:PE X a (tOf X.K B m)) (hd:((Str.ofString cn)==("__debug__" : Str))=false) (hn:(Str.ofString cn) ≠ "__name__")
  (he:starEach [a,.Name (Str.ofString cn) pc] X.env=(false,eval a X.env)::starEach [.Name (Str.ofString cn) pc] X.env:=by rfl) (gf:starEach [.Name (Str.ofString cn) pc] X.env=(false,eval (.Name (Str.ofString cn) pc) X.env)::starEach [] X.env:=by rfl)
  (bB:(backTo pos (starEach [.Name (Str.ofString cn) pc] X.env)).any (·.1)=false:=by rfl) :
  PE X (.Call (.Name "isinstance" p) [a,.Name (Str.ofString cn) pc] [] pos) (tOf X.K B (iy (aan f) (aj m dz))):=by
 have hc:Dy X (.builtin "isinstance") (fun xs H Q=>∃ S as x t ty,xs=[x,.ty cn]/\Same S H/\Rep X.K S as x t/\tyOf t=some ty/\Q (.bl (f ty)) H):=by
  intro pins s σ H xs us Q I rs z8;obtain ⟨S,as,x,t,ty,ex,sub,r,cO,q⟩:=z8;subst ex;obtain ⟨u,w,rfl,r1,r2⟩:=rs.two;cases r2;exact a7u I sub r1 r cO (hf t ty cO) fun tk=>⟨.bl (f ty),H,I.tok _,rfl,q⟩
 have jS:PE X (.Name (Str.ofString cn) pc) (tC (.ty cn)):=a4z eR dE hv rfl hn hd;refine (Ca hc hg hm PyProof.Rows.boot_isinstance (nq ha (nq jS wg gf) he) (by decide) (by decide) he bB).imp fun σ H Q z0=>?_;obtain ⟨st,ps,S,as,R,t,ae,e,q⟩:=z0;obtain ⟨ts,e1,e2⟩:=Bh e;obtain ⟨t1,s1,us,ea,en,rfl⟩:=yu e1;cases en;simp only [aan] at e2;obtain ⟨ty,e3,e4⟩:=Option.map_eq_some_iff.mp e2;subst e4;exact ⟨st,ps,S,as,R,t1,_,ea,fun v H1 S1 aC R1=>⟨S1,aC,v,t1,ty,rfl,R1.sub,R1.top,e3,q _ H1 S1 aC (R1.drop.push (.bl _))⟩⟩
example (K:PySem.W.Frag):PySem.W.kitOne K (.type "bool") (.type "int")=some true:=by rfl
example (K:PySem.W.Frag):PySem.W.kitOne K (.type "str") (.type "int")=some false:=by rfl
end
section
variable {X:Cx} {B:Bas} {m:M T}
end
theorem Rel.newObj {K:PySem.W.Frag} {B:Bas} {st:Sta} {σ:L2.St} {H S:Hp} {ps:List (V × T)} {as:List Addr} {p:Addr} {ob:HO} {so:SO} (r:Rel K B st σ H ps S as) (hp:H p=none) (h:W7 K S (as++[p]) (upd H p ob) p so) :
  Rel K B { st with sto:=st.sto++[so] } σ (upd H p ob) ((.ref p,.obj st.sto.length)::ps) S (as++[p]):=by
 obtain ⟨bD,sD,nD,no⟩:=r.fresh hp;have mo:∃ l,as++[p]=as++l:=⟨[p],rfl⟩;have other:∀ q,q≠p->H q=upd H p ob q:=fun q n=>(c7 n).symm;refine Rel.push (st:={ st with sto:=st.sto++[so] }) (H:=upd H p ob) (v:=.ref p) (t:=.obj st.sto.length) ⟨fun b u e=>?_,⟨r.grow.same,?_,fun q o a b c=>?_⟩,fun i t f e=>?_,r.apart,⟨?_,?_,fun n fA e=>?_⟩,fun q hq=>(r.pend q hq).mono (Same.refl _) mo,r.len⟩ (.obj ?_)
 ·rw [c7 (fun z=>by subst z; rw [sD] at e; cases e)]; exact r.sub _ _ e
 ·obtain ⟨l,e⟩:=r.grow.more;exact ⟨l++[p],by rw [e,List.append_assoc]⟩
 ·obtain ⟨x,y,z⟩:=r.grow.keep q o a b c;have n:q≠p:=fun w=>by subst w; rw [bD] at a; cases a
  refine ⟨by rw [c7 n]; exact x,y,fun m=>?_⟩;rcases List.mem_append.mp m with m | m
  ·exact z m
  ·exact n (List.mem_singleton.mp m)
 ·obtain ⟨v,h1,h2,h3⟩:=r.slots i t f e;refine ⟨v,h1,fun z=>(h2 z).mono (Same.refl _) mo,fun z=>?_⟩;obtain ⟨q,rfl,o⟩:=h3 z;have n:q≠p:=fun w=>by subst w; subst z; exact no i t e h1
  refine ⟨q,rfl,o.own.more (Same.refl _) mo (other q n),o.out,fun m=>?_,o.new⟩;rcases List.mem_append.mp m with m | m
  ·exact o.nas m
  ·exact n (List.mem_singleton.mp m)
 ·show (as++[p]).length=(st.sto++[so]).length;rw [List.length_append,List.length_append,r.sto.len]; rfl
 ·refine List.nodup_append.mpr ⟨r.sto.nd,by simp,fun a ha b hb=>?_⟩;rw [List.mem_singleton.mp hb];intro z; subst z; exact nD ha
 ·have e:(st.sto++[so])[n]? = some fA:=e
  by_cases hn:n<st.sto.length
  ·rw [List.getElem?_append_left hn] at e;obtain ⟨a,h1,h2,h3⟩:=r.sto.at' n fA e;have na:a≠p:=fun z=>by subst z; exact nD (List.mem_of_getElem? h1)
   refine ⟨a,Wh h1,h2,?_⟩;cases fA with
   | dic ts=>obtain ⟨vs,x,y⟩:=h3; exact ⟨vs,by rw [c7 na]; exact x,y.mono (Same.refl _) mo⟩
   | lst ts=>obtain ⟨vs,x,y⟩:=h3; exact ⟨vs,by rw [c7 na]; exact x,y.mono (Same.refl _) mo⟩
   | dit ts=>obtain ⟨vs,x,y⟩:=h3; exact ⟨vs,by rw [c7 na]; exact x,y.mono (Same.refl _) mo⟩
   | exc C f t=>obtain ⟨dx,v,x,g,y⟩:=h3; exact ⟨dx,v,by rw [c7 na]; exact x,g,y.mono (Same.refl _) mo⟩
   | ins C fs=>obtain ⟨dx,vs,x,y⟩:=h3; exact ⟨dx,vs,by rw [c7 na]; exact x,y.mono (Same.refl _) mo⟩
   | fdc ts=>obtain ⟨vs,x,y⟩:=h3; exact ⟨vs,by rw [c7 na]; exact x,y.mono (Same.refl _) mo⟩
   | tab P q=>obtain ⟨e,vs,x,y⟩:=h3; exact ⟨e,vs,by rw [c7 na]; exact x,y⟩
   | dnk ts=>obtain ⟨vs,x,y⟩:=h3; exact ⟨vs,by rw [c7 na]; exact x,y.mono (Same.refl _) mo⟩
  ·rw [List.getElem?_append_right (Nat.le_of_not_lt hn)] at e
   have kr:n - st.sto.length=0:=by
    have:=(List.getElem?_eq_some_iff.mp e).1;simp at this; omega
   rw [kr] at e; cases e;have dC:n=as.length:=by rw [r.sto.len]; omega
   subst dC;exact ⟨p,by rw [List.getElem?_append_right (Nat.le_refl _),Nat.sub_self]; rfl,sD,h⟩
 ·rw [<- r.sto.len,List.getElem?_append_right (Nat.le_refl _),Nat.sub_self]; rfl
def PN (X:Cx) (e:Expr) (N:L2.St->V->Prop):Prop:=PE X e (fun σ H Q=>∃ v,N σ v/\Q v H)
def MN (K:PySem.W.Frag) (m:M T) (N:L2.St->V->Prop):Prop:=∀ (B:Bas) (st:Sta) (σ:L2.St) (H:Hp) (ps:List (V × T)) (S:Hp) (as:List Addr) (t:T) (ae:Sta),Rel K B st σ H ps S as->m st=some (t,ae)->ae=st/\∃ v,N σ v/\Rep K S as v t
structure PM (X:Cx) (e:Expr) (m:M T) (N:L2.St->V->Prop):Prop where
 p:PN X e N
 m:MN X.K m N
section
variable {X:Cx} {B:Bas} {a b e e1 e2:Expr} {m m1 m2:M T} {N N1 N2:L2.St->V->Prop} {pos p:Pos}
end
inductive a4l:List Expr->List Str->Prop where
 | nil:a4l [] []
 | cons {x:Str} {k:Nat} {q:Pos} {es:List Expr} {xs:List Str}:a4l es xs->a4l (.Constant (.str x) k q::es) (x::xs)
section
variable {X:Cx} {B:Bas} {a b c e o k:Expr} {m m1 m2:M T} {pos p p2:Pos}
theorem a1r (l:List T):isTup l=aan (fun ty=>ty == .type "tuple") l:=by
 match l with
 | []=>rfl
 | [t]=>cases t <;> rfl
 | x::y::r=>cases x <;> rfl
theorem Lw {pc:Pos} (hg:Gl X "isinstance") (hm:X.mg "isinstance" = none) (eR:Gl X "tuple") (dE:X.mg "tuple" = none) (ha:PE X a (tOf X.K B m)) (he:starEach [a,.Name "tuple" pc] X.env=(false,eval a X.env)::starEach [.Name "tuple" pc] X.env:=by rfl) :
  PE X (.Call (.Name "isinstance" p) [a,.Name "tuple" pc] [] pos) (tOf X.K B (iy isTup (aj m dz))):=by
 rw [show isTup=_ from funext a1r];exact a7h (cn := "tuple") hg hm eR dE boot_tuple (fun t ty h=>by cases t <;> cases h <;> rfl) ha (by decide) (by decide) he
theorem Lz (i:Nat) (hm:X.mg "len" = none) {es:Expr} (hg:Gl X "len") (h:PE X es (Xm i)) (he:starEach [es] X.env=(false,eval es X.env)::starEach [] X.env:=by rfl) (bB:(backTo pos (starEach [] X.env)).any (·.1)=false:=by rfl) :
  PE X (.Call (.Name "len" p) [es] [] pos) (tOf X.K B (Az i)):=by
 have hc:Dy X (.builtin "len") (fun xs H Q=>∃ q,xs=[.ref q]/\((∃ ys,SqL X.K H q ys/\Q (.int ys.length) H)\/(∃ aa,Rd H q (.dK aa)/\Q (.int aa.length) H))):=by
  intro pins s σ H xs us Q I rs z8;obtain ⟨q,ex,h⟩:=z8;rcases h with ⟨ys,h1,h2⟩ | ⟨aa,h1,h2⟩
  ·exact Ay pins s σ H xs us Q I rs ⟨q,ys,ex,.inl h1,h2⟩
  ·subst ex;obtain ⟨u,rfl,ru⟩:=rs.one;cases ru;exact a95 I h1 fun t s' I'=>⟨.int aa.length,H,I',⟨t,rfl⟩,h2⟩
 refine (Ca hc hg hm PySem.boot_len (nq h wg he) (by decide) (by decide) he bB).imp fun σ H Q z0=>?_;obtain ⟨st,ps,S,as,R,t,ae,e,q⟩:=z0;obtain ⟨rfl,h⟩:=Oc e;rcases h with ⟨xs,f,e1,rfl⟩ | ⟨xs,f,e1,rfl⟩
 ·obtain ⟨p0,vs,s0,h1,h2⟩:=R.listAt e1;exact ⟨_,s0,p0,rfl,.inl ⟨vs,h1,by rw [h2.length]; exact q _ H S as (R.push (.int _))⟩⟩
 ·obtain ⟨p0,vs,s0,h1,h2⟩:=R.dictAt e1;exact ⟨_,s0,p0,rfl,.inr ⟨vs,h1,by rw [h2.length]; exact q _ H S as (R.push (.int _))⟩⟩
end
section
variable {X:Cx} {pins:List (Addr × Obj)} {σ:L2.St} {H S:Hp} {s:Shared} {as:List Addr}
theorem Wn (I:L2.Inv X pins σ H s) (sub:Same S H):(∀ {v:V} {t:T},Rep X.K S as v t->∀ {d:PyData} {u:Value},dat t=some d->RelV v u->∃ bs,Reads s.heap u d bs)/\∀ {vs:List V} {ts:List T},jg X.K S as vs ts->∀ {ds:List PyData} {us:List Value},Ik ts=some ds->Vals vs us->∃ bs,ReadsAll s.heap us ds bs:=by
 have tp:∀ {a:Addr} {vs:List V} {ts:List T},SqT X.K S a vs->jg X.K S as vs ts->(∀ {ds:List PyData} {us:List Value},Ik ts=some ds->Vals vs us->∃ bs,ReadsAll s.heap us ds bs)->∀ {d:PyData} {u:Value},dat (.tup ts)=some d->RelV (.ref a) u->∃ bs,Reads s.heap u d bs:=by
  intro a vs ts h _ q d u e r;simp only [dat] at e;obtain ⟨l,e1,e2⟩:=Option.map_eq_some_iff.mp e;subst e2;cases r;obtain ⟨its,rv,⟨o,h1,h2,n,h3⟩,_⟩:=I.tuple (j4 sub h);obtain ⟨bs,rb⟩:=q e1 rv;exact ⟨_,.tuple h1 h2 h3 rb⟩
 have ls:∀ {a:Addr} {vs:List V} {ts:List T},SqL X.K S a vs->jg X.K S as vs ts->(∀ {ds:List PyData} {us:List Value},Ik ts=some ds->Vals vs us->∃ bs,ReadsAll s.heap us ds bs)->∀ {d:PyData} {u:Value},dat (.lst ts)=some d->RelV (.ref a) u->∃ bs,Reads s.heap u d bs:=by
  intro a vs ts h _ q d u e r;simp only [dat] at e;obtain ⟨l,e1,e2⟩:=Option.map_eq_some_iff.mp e;subst e2;cases r;obtain ⟨its,rv,⟨o,n,h1,h2,_,h3⟩,_⟩:=I.list (iz sub h);obtain ⟨bs,rb⟩:=q e1 rv;exact ⟨_,.list h1 h2 h3 rb⟩
 have st:∀ (x:Str) {d:PyData} {u:Value},dat (.str x)=some d->RelV (.str x) u->∃ bs,Reads s.heap u d bs:=by
  intro x d u e r;simp only [dat] at e;split at e
  ·cases e; obtain ⟨t,rfl⟩:=r; exact ⟨_,.str x t⟩
  ·cases e
 have cn:∀ {v:V} {t:T} {vs:List V} {ts:List T},Rep X.K S as v t->jg X.K S as vs ts->(∀ {d:PyData} {u:Value},dat t=some d->RelV v u->∃ bs,Reads s.heap u d bs)->(∀ {ds:List PyData} {us:List Value},Ik ts=some ds->Vals vs us->∃ bs,ReadsAll s.heap us ds bs)->∀ {ds:List PyData} {us:List Value},Ik (t::ts)=some ds->Vals (v::vs) us->∃ bs,ReadsAll s.heap us ds bs:=by
  intro v t vs ts _ _ h q ds us e r;obtain ⟨a,l,e1,e2,e3⟩:=Yd e;subst e3;cases r with
  | cons r1 r2 =>
   obtain ⟨b1,x1⟩:=h e1 r1;obtain ⟨b2,x2⟩:=q e2 r2;exact ⟨_,.cons x1 x2⟩
 have nl:∀ {ds:List PyData} {us:List Value},Ik []=some ds->Vals [] us->∃ bs,ReadsAll s.heap us ds bs:=by
  intro ds us e r; simp only [Ik] at e; cases e; cases r; exact ⟨_,.nil⟩
 have no:∀ {d:PyData} {u:Value},dat .non=some d->RelV .non u->∃ bs,Reads s.heap u d bs:=by
  intro d u e r; simp only [dat] at e; cases e; cases r; exact ⟨_,.none⟩
 have bo:∀ (b:Bool) {d:PyData} {u:Value},dat (.bl b)=some d->RelV (.bl b) u->∃ bs,Reads s.heap u d bs:=by
  intro b d u e r; simp only [dat] at e; cases e; cases r; exact ⟨_,.bool b⟩
 have it:∀ (i:Int) {d:PyData} {u:Value},dat (.int i)=some d->RelV (.int i) u->∃ bs,Reads s.heap u d bs:=by
  intro i d u e r; simp only [dat] at e; cases e; obtain ⟨t,rfl⟩:=r; exact ⟨_,.int i t⟩
 have di:∀ {a:Addr} {ts:List (L2.Key × T)} {d:PyData} {u:Value},dat (.dic ts)=some d->RelV (.ref a) u->∃ bs,Reads s.heap u d bs:=by
  intro a ts d u e; simp only [dat] at e; cases e
 have ob:∀ {a:Addr} {n:Nat} {d:PyData} {u:Value},dat (.obj n)=some d->RelV (.ref a) u->∃ bs,Reads s.heap u d bs:=by
  intro a n d u e; simp only [dat] at e; cases e
 have ad:∀ (a:Addr) {d:PyData} {u:Value},dat (.adr a)=some d->RelV (.ref a) u->∃ bs,Reads s.heap u d bs:=by
  intro a d u e; simp only [dat] at e; cases e
 exact ⟨fun h=>Rep.rec (motive_1:=fun v t _=>∀ {d:PyData} {u:Value},dat t=some d->RelV v u->∃ bs,Reads s.heap u d bs) (motive_2:=fun vs ts _=>∀ {ds:List PyData} {us:List Value},Ik ts=some ds->Vals vs us->∃ bs,ReadsAll s.heap us ds bs) (motive_3:=fun _ _ _=>True) no bo it st tp ls (fun _ _ _=>di) (fun _=>ob) ad nl cn trivial (fun _ _ _ _=>trivial) h,
  fun h=>jg.rec (motive_1:=fun v t _=>∀ {d:PyData} {u:Value},dat t=some d->RelV v u->∃ bs,Reads s.heap u d bs) (motive_2:=fun vs ts _=>∀ {ds:List PyData} {us:List Value},Ik ts=some ds->Vals vs us->∃ bs,ReadsAll s.heap us ds bs) (motive_3:=fun _ _ _=>True) no bo it st tp ls (fun _ _ _=>di) (fun _=>ob) ad nl cn trivial (fun _ _ _ _=>trivial) h⟩
theorem Rep.reads (I:L2.Inv X pins σ H s) (sub:Same S H) {v:V} {t:T} (h:Rep X.K S as v t) {d:PyData} {u:Value} (e:dat t=some d) (r:RelV v u):∃ bs,Reads s.heap u d bs:=(Wn I sub).1 h e r
theorem a2t (I:L2.Inv X pins σ H s) (sub:Same S H) {x y:V} {t u:T} {v w:Value} {b:Bool} {A:Around} (hx:Rep X.K S as x t) (hy:Rep X.K S as y u) (rx:RelV x v) (ry:RelV y w) (e:eqD t u=some b) (hu:A.units+40<cLine):SeqAt.EqAt A s v w b:=by
 obtain ⟨dx,dy,e1,e2,hd,rfl⟩:=Nx e;obtain ⟨b1,x1⟩:=hx.reads I sub e1 rx;obtain ⟨b2,x2⟩:=hy.reads I sub e2 ry;exact SeqAt.eqAt_reads dx dy A s v w b1 b2 x1 x2 (Af _ e1) (Af _ e2) (by have:=Nat.min_le_left dx.depth dy.depth; omega)
theorem Xf (I:L2.Inv X pins σ H s) (sub:Same S H) {A:Around} (hu:A.units+40<cLine) {kb:List (L2.Key × V)} {ub:List (L2.Key × T)} {wb:List (L2.Key × Value)} (rb:u9 X.K S as kb ub) (vb:KV kb wb) :
  ∀ {ka:List (L2.Key × V)} {ua:List (L2.Key × T)} {wa:List (L2.Key × Value)} {r:Bool},u9 X.K S as ka ua->KV ka wa->a6x ua ub=some r->PySem.W.KeqHits A s wb wa r
 | _,[],_,_,h0,va,e=>by
  cases h0;simp only [a6x] at e; cases e;cases va;exact .nil
 | _,(k,_)::_,_,_,h0,va,e=>by
  cases h0 with | cons h q=>?_
  simp only [a6x] at e;cases va with
  | @cons _ p2 _ _ hp hr =>
   obtain ⟨pk,pv⟩:=p2;obtain ⟨ek,rv⟩:=hp;dsimp only at ek rv;subst ek;rcases rb.get k with ⟨z,t',a1,a2,a3⟩ | ⟨a1,a2⟩
   ·rw [a2] at e;dsimp only at e;have rel:=KV.val vb k;rw [a1] at rel;obtain ⟨w',hw,cJ⟩:=Kq.some_of rel;split at e
    ·rename_i eb he;obtain ⟨b',e1,e2⟩:=Option.map_eq_some_iff.mp e;subst e2;exact .hit hw (a2t I sub h a3 rv cJ he hu) (Xf I sub hu rb vb q hr e1)
    ·cases e
   ·rw [a2] at e;cases e;have rel:=KV.val vb k;rw [a1] at rel;exact .miss (Kq.none_of rel)
end
section
variable {X:Cx}
theorem Lj {op:CmpOp} {neg:Bool} (eG:(op=.Eq/\neg=false)\/(op=.NotEq/\neg=true)) {g:T->T->Option T} (hg:∀ t u w,g t u=some w->∃ b,eqT t u=some b/\w=.bl (xor neg b)) (hu:X.A.units+64<cLine):OpT X (compareOp op) g:=by
 intro pins s σ H x y v u Q I rx ry z8;obtain ⟨S,as,t,t2,w,sub,ht,hu2,hf,q⟩:=z8;obtain ⟨b,e,rfl⟩:=hg _ _ _ hf;have fin:EP X pins σ Q (.bool (xor neg b)) s:=⟨.bl (xor neg b),H,I,rfl,q _ H S (Ext.refl sub) (.bl _)⟩;rcases a5u e with ⟨xs,ys,rfl,rfl,hd⟩ | he
 ·cases ht with
  | @dic a aa _ g1 g2 =>
   cases hu2 with
   | @dic a' kvs' _ k1 k2 =>
    cases rx;cases ry;obtain ⟨z,hs,vs,rel,dd⟩:=Km I.hok (qt sub g1);obtain ⟨z',e9,vs',rel',b7⟩:=Km I.hok (qt sub k1);have l1:vs.length=xs.length:=by rw [<- rel.length]; exact g2.length
    have l2:vs'.length=ys.length:=by rw [<- rel'.length]; exact k2.length
    have gp:X.A.in1.units+40<cLine:=by show X.A.units+1+40<cLine; omega
    rcases hd with ⟨hl,eb⟩ | ⟨hl,rfl⟩
    ·have hits:vs.length=vs'.length->PySem.W.KeqHits X.A.in1 s vs' vs b:=fun _=>Xf I sub gp k2 rel' g2 rel eb;have el:(vs.length==vs'.length)=true:=by rw [l1,l2,hl]; exact beq_self_eq_true _
     rcases eG with ⟨rfl,rfl⟩ | ⟨rfl,rfl⟩
     ·refine PySem.W.keq_eq hs e9 dd b7 (by omega) hits ?_;rw [el]; simpa using fin
     ·refine PySem.W.keq_ne hs e9 dd b7 (by omega) hits ?_;rw [el]; simpa using fin
    ·have hits:vs.length=vs'.length->PySem.W.KeqHits X.A.in1 s vs' vs true:=fun h=>absurd (by rw [<- l1,<- l2]; exact h) hl;have el:(vs.length==vs'.length)=false:=by rw [l1,l2]; exact beq_eq_false_iff_ne.mpr hl
     rcases eG with ⟨rfl,rfl⟩ | ⟨rfl,rfl⟩
     ·refine PySem.W.keq_eq hs e9 dd b7 (by omega) hits ?_;rw [el]; simpa using fin
     ·refine PySem.W.keq_ne hs e9 dd b7 (by omega) hits ?_;rw [el]; simpa using fin
 ·obtain ⟨dx,dy,e1,e2,hd,rfl⟩:=Nx he;obtain ⟨b1,x1⟩:=ht.reads I sub e1 rx;obtain ⟨b2,x2⟩:=hu2.reads I sub e2 ry;have hm:X.A.units+min dx.depth dy.depth<cLine:=by have:=Nat.min_le_left dx.depth dy.depth; omega
  rcases eG with ⟨rfl,rfl⟩ | ⟨rfl,rfl⟩
  ·exact SeqAt.compareEq_reads x1 x2 (Af _ e1) (Af _ e2) hm (by simpa using fin)
  ·exact SeqAt.compareNe_reads x1 x2 (Af _ e1) (Af _ e2) hm (by simpa using fin)
theorem yg (hu:X.A.units+64<cLine):OpT X (compareOp .Eq) eqO:=Lj (.inl ⟨rfl,rfl⟩) (fun t u w h=>by
 unfold eqO at h;split at h
 ·rename_i b e; cases h; exact ⟨b,e,by simp⟩
 ·cases h) hu
theorem Pn (hu:X.A.units+64<cLine):OpT X (compareOp .NotEq) neO:=Lj (.inr ⟨rfl,rfl⟩) (fun t u w h=>by
 unfold neO at h;split at h
 ·rename_i b e; cases h; exact ⟨b,e,by simp⟩
 ·cases h) hu
open Classical in
noncomputable def a3g (h:Heap) (dx:PyData) (y:Value):Bool:=if e:∃ d bs,Reads h y d bs/\d.canLay0=true then PyData.eqv (Classical.choose e) dx else false
theorem a3p {h:Heap} {dx d:PyData} {y:Value} {bs:List Addr} (r:Reads h y d bs) (l:d.canLay0=true):a3g h dx y=PyData.eqv d dx:=by
 have e:∃ d bs,Reads h y d bs/\d.canLay0=true:=⟨d,bs,r,l⟩;unfold a3g;rw [dif_pos e];obtain ⟨bs',r',l'⟩:=Classical.choose_spec e;rw [SeqAt.Reads.unique _ _ _ _ _ l' r' r]
theorem Vl {pins:List (Addr × Obj)} {σ:L2.St} {H S:Hp} {s:Shared} {as:List Addr} {A:Around} (I:L2.Inv X pins σ H s) (sub:Same S H) (hu:A.units+40<cLine) {x:V} {t:T} {v:Value} {dx:PyData} (hx:Rep X.K S as x t) (rx:RelV x v) (ex:dat t=some dx) :
  ∀ {vs:List V} {ts:List T} {us:List Value} {b:Bool},jg X.K S as vs ts->Vals vs us->inL t ts=some b->(∀ y∈us,SeqAt.EqAt A s y v (a3g s.heap dx y))/\us.any (a3g s.heap dx)=b
 | _,[],_,_,h0,r,e=>by cases h0; simp only [inL] at e; cases e; cases r; exact ⟨fun y h=>(nomatch h),rfl⟩
 | _,_::_,_,_,h0,r,e=>by
  cases h0 with | cons h q=>?_
  simp only [inL] at e;cases r with
  | @cons _ u1 _ gJ r1 r2 =>
   split at e
   ·rename_i eb he;obtain ⟨b',e1,e2⟩:=Option.map_eq_some_iff.mp e;subst e2;obtain ⟨i1,i2⟩:=Vl I sub hu hx rx ex q r2 e1;obtain ⟨dy,dx',f1,f2,hd,rfl⟩:=Nx he;rw [ex] at f2; cases f2;obtain ⟨b1,x1⟩:=h.reads I sub f1 r1;have hb:=a3p (dx:=dx) x1 (Af _ f1);refine ⟨fun y hy=>?_,by rw [List.any_cons,i2,hb]⟩;rcases List.mem_cons.mp hy with rfl | hy
    ·rw [hb]; exact a2t I sub h hx r1 rx he hu
    ·exact i1 y hy
   ·cases e
theorem Vh {t u w:T} (h:inT t u=some w):(∃ ys b,(u=.tup ys\/u=.lst ys)/\inL t ys=some b/\(dat t).isSome=true/\w=.bl b)\/(∃ aa q,u=.dic aa/\keyOf t=some q/\w=.bl (Av q aa).isSome):=by
 unfold inT at h;split at h
 ·obtain ⟨q,e1,e2⟩:=Option.map_eq_some_iff.mp h;exact .inr ⟨_,q,rfl,e1,e2.symm⟩
 ·split at h
  ·rename_i hd;split at h
   ·obtain ⟨b,e1,e2⟩:=Option.map_eq_some_iff.mp h; exact .inl ⟨_,b,.inl rfl,e1,hd,e2.symm⟩
   ·obtain ⟨b,e1,e2⟩:=Option.map_eq_some_iff.mp h; exact .inl ⟨_,b,.inr rfl,e1,hd,e2.symm⟩
   ·cases h
  ·cases h
theorem Li {op:CmpOp} {neg:Bool} (eG:(op=.In/\neg=false)\/(op=.NotIn/\neg=true)) {g:T->T->Option T} (hg:∀ t u w,g t u=some w->∃ w',inT t u=some w'/\∃ b,w'=.bl b/\w=.bl (xor neg b)) (hu:X.A.units+64<cLine):OpT X (compareOp op) g:=by
 intro pins s σ H x y v u Q I rx ry z8;obtain ⟨S,as,t,t2,w,sub,ht,hu2,hf,q⟩:=z8;obtain ⟨w',ei,b0,rfl,rfl⟩:=hg _ _ _ hf;rcases Vh ei with ⟨ys,b,hy,e,hdt,eb⟩ | ⟨aa,qk,rfl,ek,eb⟩
 ·cases eb;obtain ⟨dx,ex⟩:=Option.isSome_iff_exists.mp hdt;have fin:EP X pins σ Q (.bool (xor neg b0)) s:=⟨.bl (xor neg b0),H,I,rfl,q _ H S (Ext.refl sub) (.bl _)⟩;have gp:X.A.in1.units+40<cLine:=by show X.A.units+1+40<cLine; omega
  rcases hy with rfl | rfl
  ·cases hu2 with
   | @tup a vs _ g1 g2 =>
    cases ry;obtain ⟨its,r,p,hz⟩:=I.tuple (j4 sub g1);obtain ⟨i1,i2⟩:=Vl I sub gp ht rx ex g2 r e;have he:∀ y,y∈its.toArray->SeqAt.EqAt X.A.in1 s y v (a3g s.heap dx y):=fun y hy=>i1 y (by simpa using hy);have ha:its.toArray.any (a3g s.heap dx)=b0:=by rw [<- i2]; simp
    rcases eG with ⟨rfl,rfl⟩ | ⟨rfl,rfl⟩
    ·exact SeqAt.in_tupleAt _ (show s.heap.IsTuple a its.toArray from p) he (by rw [ha]; simpa using fin)
    ·exact SeqAt.notIn_tupleAt _ (show s.heap.IsTuple a its.toArray from p) he (by rw [ha]; simpa using fin)
  ·cases hu2 with
   | @lst a vs _ g1 g2 =>
    cases ry;obtain ⟨its,r,p,hz⟩:=I.list (iz sub g1);obtain ⟨i1,i2⟩:=Vl I sub gp ht rx ex g2 r e;have he:∀ y,y∈its.toArray->SeqAt.EqAt X.A.in1 s y v (a3g s.heap dx y):=fun y hy=>i1 y (by simpa using hy);have ha:its.toArray.any (a3g s.heap dx)=b0:=by rw [<- i2]; simp
    rcases eG with ⟨rfl,rfl⟩ | ⟨rfl,rfl⟩
    ·exact SeqAt.in_listAt _ p.isList he (by rw [ha]; simpa using fin)
    ·exact SeqAt.notIn_listAt _ p.isList he (by rw [ha]; simpa using fin)
 ·cases eb;cases hu2 with
  | @dic a kv _ g1 g2 =>
   cases ry;have ey:=Uw ht ek;subst ey
   have hs:(Av qk aa).isSome=(K9 kv qk).isSome:=by
    rcases g2.get qk with ⟨z,t',a1,a2,_⟩ | ⟨a1,a2⟩
    ·simp [a1,a2]
    ·simp [a1,a2]
   rw [hs] at q;have gd:Yg H a (kV qk) (K9 kv qk):=.inl ⟨kv,qk,qt sub g1,rfl,rfl⟩;rcases eG with ⟨rfl,rfl⟩ | ⟨rfl,rfl⟩
   ·exact ad1 (by omega) I gd rx fun s' I'=>⟨.bl _,H,I',rfl,by simpa using q _ H S (Ext.refl sub) (.bl _)⟩
   ·exact a68 (by omega) I gd rx fun s' I'=>⟨.bl _,H,I',rfl,by simpa using q _ H S (Ext.refl sub) (.bl _)⟩
theorem a2d (hu:X.A.units+64<cLine):OpT X (compareOp .In) inT:=Li (.inl ⟨rfl,rfl⟩) (fun t u w h=>by
 rcases Vh h with ⟨ys,b,h1,h2,h3,rfl⟩ | ⟨aa,q,rfl,h2,rfl⟩
 ·exact ⟨_,h,b,rfl,by simp⟩
 ·exact ⟨_,h,_,rfl,by simp⟩) hu
theorem Vg (hu:X.A.units+64<cLine):OpT X (compareOp .NotIn) Kr:=Li (.inr ⟨rfl,rfl⟩) (fun t u w h=>by
 unfold Kr at h;split at h
 ·rename_i b e;cases h;exact ⟨_,e,b,rfl,by simp⟩
 ·cases h) hu
end
noncomputable def acn (K:PySem.W.Frag) (ar:Nat) (F:Fn):Sp:=fun vs H Q _=>∃ S as sto ts t aR,Same S H/\Al K S as H sto/\jg K S as vs ts/\ts.length=ar/\F ts sto=some (t,aR) /\
 ∀ p H' S' ag,Ol ⟨S,as,H⟩ S' ag H'->Same S' H'->Al K S' ag H' aR->Ip K ⟨S,as,H⟩ S' ag H' p t->Q (.ref p) H'
section
variable {X:Cx} {B:Bas} {a b c e:Expr} {m m1 m2:M T} {pos p:Pos} {u v:S} {es:List Expr} {ms:M (List T)} {k n:Nat} {f:Addr} {fd:FuncData} {pn:List Str} {F:Fn} {x:Str}
end
def Vt (P:Program) (w:World) (K:PySem.W.Frag) (mg:Str->Option Value) (base:Heap) (x:Str) (k:Nat) (ps:List Str) (F:Fn):Prop :=
 ∃ f fd,qz P w K mg base CX0 k f fd ps (acn K ps.length F)/\Binds K fd ps []/\PySem.W.keepIn K (.ref f)=true/\mg x=some (.ref f)
theorem Vt.mono {P:Program} {w:World} {K:PySem.W.Frag} {mg:Str->Option Value} {base:Heap} {x:Str} {j k:Nat} {ps:List Str} {F:Fn} (d:Vt P w K mg base x j ps F) (h:j<=k):Vt P w K mg base x k ps F:=by
 obtain ⟨f,fd,h1,h2⟩:=d;exact ⟨f,fd,h1.mono h,h2⟩
section
variable {X:Cx} {B:Bas} {a b c e:Expr} {m m1 m2:M T} {pos p:Pos} {es:List Expr} {ms:M (List T)} {n:Nat} {pn:List Str} {F:Fn} {x:Str}
end
section
variable {P:Program} {w:World} {K:PySem.W.Frag} {mg:Str->Option Value} {base:Heap}
end
section
variable {X:Cx} {B:Bas} {a b c e:Expr} {m m1 m2:M T} {pos p p2 jZ:Pos}
def U9:List Nat->TGs
 | []=>abl
 | i::is=>a8f (Nu i) (U9 is)
theorem Qz {K:PySem.W.Frag} {H S:Hp} {as:List Addr} {ps:List (V × T)}:∀ (is:List Nat) {vs:List V} {xs:List T} {st:Sta} {σ:L2.St} {Q:L2.St->Hp->Prop},Rel K B st σ H ps S as->jg K S as vs xs->xs.length=is.length ->
  (∀ σ',Rel K B ((is.zip xs).foldl (fun s p=>gn p.1 p.2 false s) st) σ' H ps S as->Q σ' H)->U9 is vs σ H Q
 | [],_,_,_,_,_,R,.nil,_,q=>⟨rfl,q _ R⟩
 | i::is,_,_,_,_,_,R,.cons r rs,hl,q=>⟨_,_,rfl,Qz is (R.put (i:=i) r) rs (by simpa using hl) q⟩
 | [],_,_,_,_,_,_,.cons _ _,hl,_=>by simp at hl
 | _::_,_,_,_,_,_,_,.nil,hl,_=>by simp at hl
theorem Gn {is:List Nat} {tg:Expr} (h:PG X tg (abt X.K is.length (U9 is))):PG X tg (gOf X.K B (Em is)):=fun pins s σ H x u Q I r z9=>h pins s σ H x u Q I r (by
 obtain ⟨st,ps,S,as,t,R,ae,e,q⟩:=z9;have top:=R.top;cases t with
 | tup xs =>
  cases top with
  | @tup a vs _ g1 g2 =>
   obtain ⟨hl,e⟩:=Cv e;cases e;exact ⟨a,vs,rfl,j4 R.sub g1,by rw [g2.length]; exact hl,Qz is R.drop g2 hl fun σ' R'=>q σ' H S as R'⟩
 | _=>exact jl e)
end
end C
namespace C
open PySem PySem.Spec PyProof.Rows L2
section
variable {X:Cx} {B:Bas} {a b c e lo hi:Expr} {m m1 m2 ml mh:M T} {pos p p2:Pos}
theorem Ld {K:PySem.W.Frag} {S:Hp} {as:List Addr} {x:V} {t:T} (r:Rep K S as x t):decide (x=V.non)=Rh t:=by
 cases r <;> rfl
theorem Qe {K:PySem.W.Frag} {S:Hp} {as:List Addr} {x:V} {t:T} (r:Rep K S as x t) (h:Rh t=true):x=.non:=by
 cases r <;> first | rfl | cases h
theorem a7x:OpT X (compareOp .Is) a91:=by
 intro pins s σ H x y v u Q I rx ry z8;obtain ⟨S,as,t,t2,w,sub,ht,hu2,hf,q⟩:=z8;unfold a91 at hf;split at hf
 ·rename_i hn; cases hf;exact a75 pins s σ H x y v u Q I rx ry ⟨Qe hu2 hn,by rw [Ld ht]; exact q _ H S (Ext.refl sub) (.bl _)⟩
 ·cases hf
theorem Gp:OpT X (compareOp .IsNot) Cj:=by
 intro pins s σ H x y v u Q I rx ry z8;obtain ⟨S,as,t,t2,w,sub,ht,hu2,hf,q⟩:=z8;unfold Cj at hf;split at hf
 ·rename_i hn; cases hf;exact a4o pins s σ H x y v u Q I rx ry ⟨Qe hu2 hn,by rw [Ld ht]; exact q _ H S (Ext.refl sub) (.bl _)⟩
 ·cases hf
theorem a7a:PS X (.Continue pos) (sOf X.K B a6p):=Ox.imp fun D σ H z9=>by
 obtain ⟨st,ps,S,as,R,fl,ae,e,q⟩:=z9;cases e; exact q σ H S as R
theorem jg.take {K:PySem.W.Frag} {S:Hp} {as:List Addr}:∀ (n:Nat) {vs:List V} {ts:List T},jg K S as vs ts->jg K S as (vs.take n) (ts.take n)
 | 0,_,_,_=>.nil
 | _+1,_,_,.nil=>.nil
 | n+1,_,_,.cons h r=>.cons h (jg.take n r)
end
theorem jg.set {K:PySem.W.Frag} {S:Hp} {as:List Addr} {v:V} {t:T} (h:Rep K S as v t):∀ {vs:List V} {ts:List T} (j:Nat),jg K S as vs ts->jg K S as (vs.set j v) (ts.set j t)
 | _,_,_,.nil=>.nil
 | _,_,0,.cons _ r=>.cons h r
 | _,_,j+1,.cons q r=>.cons q (jg.set h j r)
section
variable {X:Cx} {B:Bas} {a b c e o k:Expr} {m mo mk mv:M T} {pos p:Pos}
end
section
variable {X:Cx} {B:Bas} {pins:List (Addr × Obj)} {σ:L2.St} {H S:Hp} {s:Shared} {as:List Addr} {Q:VK}
theorem u9.keys {K:PySem.W.Frag} {S:Hp} {as:List Addr}:∀ {aa:List (L2.Key × V)} {ts:List (L2.Key × T)},u9 K S as aa ts->aa.map (·.1)=ts.map (·.1)
 | _,_,.nil=>rfl
 | _,_,.cons h q=>by rw [List.map_cons,List.map_cons,u9.keys q]
end
section
variable {prog:Program} {w:World} {A:Around} {E:Value->Shared->Prop} {s:Shared}
theorem J3:typeLookup (.type "list") "keys" = pure none:=am_miss_of_fast (by decide +kernel)
theorem Vb {l:Addr} {xs:Array Value} {k:Nat} {sl:Array (Option Value)} {Q:Option Value->Shared->Prop} (hx:s.heap.get? l=some { cls:=.type "list",dict:=none,data:=.seq xs k,slots:=sl }) (nh:A.handled=none)
  (h:∀ h' tk e,Heap.NewExcOf s.heap h' e "AttributeError" -> Q none { s with heap:=h',toks:=tk }):wpAny (model prog w) A (getAttr? (.ref l) "keys") Q E s:=by
 obtain ⟨h0,g0,d0,tk,os⟩:=s;have hT:∀ dR,(⟨h0,g0,d0,dR,os⟩:Shared).TypeIs (.ref l) "list" := fun _=>⟨_,hx,rfl⟩;have g1:=sub_AttributeError;have g3:=F.slot_list_getattribute.lookup;have g4:=F.slot_list_getattribute.bind (.ref l);have g5:=am_list_getattr_none;unfold getAttr?;unfold getAttrBy?;unfold getAttrBy
 repeat (any_goals (first | assumption | exact hT _ | ((with_reducible show wpAny _ _ (call (Value.builtin "list.__getattribute__") _ _) _ _ _); refine call_meets F.slot_list_getattribute (hT _) am_entry_list_getattribute (F.args_list_getattribute_2 _ _) (meets_getattribute_miss_list l xs k sl "keys" _ J3 (by decide +kernel)) ⟨hx,nh,fun h' dR e y=>?_⟩) | wp_step))
 obtain ⟨t',u',he⟩:=y.there;change wpAny _ _ (getattributeRaised _ _ _ _ _ _ _) _ _ _;unfold getattributeRaised
 repeat (any_goals first | assumption | wp_step)
 exact h _ _ _ y.of
theorem Hh:typeLookup (.type "tuple") "keys" = pure none:=am_miss_of_fast (by decide +kernel)
theorem Sw {l:Addr} {xs:Array Value} {k:Nat} {sl:Array (Option Value)} {Q:Option Value->Shared->Prop} (hx:s.heap.get? l=some { cls:=.type "tuple",dict:=none,data:=.seq xs k,slots:=sl }) (nh:A.handled=none)
  (h:∀ h' tk e,Heap.NewExcOf s.heap h' e "AttributeError" -> Q none { s with heap:=h',toks:=tk }):wpAny (model prog w) A (getAttr? (.ref l) "keys") Q E s:=by
 obtain ⟨h0,g0,d0,tk,os⟩:=s;have hT:∀ dR,(⟨h0,g0,d0,dR,os⟩:Shared).TypeIs (.ref l) "tuple" := fun _=>⟨_,hx,rfl⟩;have g1:=sub_AttributeError;have g3:=F.slot_tuple_getattribute.lookup;have g4:=F.slot_tuple_getattribute.bind (.ref l);have g5:=am_tuple_getattr_none;unfold getAttr?;unfold getAttrBy?;unfold getAttrBy
 repeat (any_goals (first | assumption | exact hT _ | ((with_reducible show wpAny _ _ (call (Value.builtin "tuple.__getattribute__") _ _) _ _ _); refine call_meets F.slot_tuple_getattribute (hT _) am_entry_tuple_getattribute (F.args_tuple_getattribute_2 _ _) (meets_getattribute_miss_tuple l xs k sl "keys" _ Hh (by decide +kernel)) ⟨hx,nh,fun h' dR e y=>?_⟩) | wp_step))
 obtain ⟨t',u',he⟩:=y.there;change wpAny _ _ (getattributeRaised _ _ _ _ _ _ _) _ _ _;unfold getattributeRaised
 repeat (any_goals first | assumption | wp_step)
 exact h _ _ _ y.of
end
theorem Ie {prog:Program} {w:World} {A:Around} {E:Value->Shared->Prop} {s:Shared} {t:Addr} {o:Obj} {xs:Array Value} {m:Nat} {Q:Option (Array Value)->Shared->Prop} (h:s.heap.get? t=some o) (hd:o.data=.seq xs m) (q:Q (some xs) s):wpAny (model prog w) A (seqItems? (.ref t)) Q E s:=by
 show wpAny _ A (load t >>= fun o=>match o.data with | .seq xs _=>pure (some xs) | _=>pure none) _ _ s;refine wpAny_bind (wpAny_load h ?_);rw [hd];exact wpAny_pure q
theorem n6:entryFor table "dict.update.loop" = some Builtin.«dict.update.loop»:=entryFor_of_tree (by kernel_rfl)
theorem iu:plainId "dict.update.loop" = true:=by decide +kernel
section
variable {prog:Program} {w:World} {A:Around} {R:Result->Shared->Prop} {I:Addr} {fp wr:List Addr} {G:Array GenState->Array GenState->Prop} {n:Nat} {P:Nat->Value->Prop} {St:Nat->Shared->Prop} {κ:Type} [DecidableEq κ] {knd:PySem.KeyKind prog w κ}
theorem Qo (W:WalksS prog w A.in1 I fp wr G n P St) (D:Addr) (fm:D∉fp) (result:Value) (h0:Heap) (aa:Nat->List (κ × Value)) (key:Nat->κ) (val:Nat->Value) (hs:∀ i,aa (i+1)=stored (aa i) (key i) (val i)) (hz:∀ i,i<=n->(aa i).length<=sizeLine)
  (hit:∀ i v,P i v->∃ t kx o m,v=.ref t/\t≠D/\t∉wr/\h0.get? t=some o/\o.cls=.type "tuple" /\ o.data=.seq #[kx,val i] m/\knd.is (key i) kx=true) :
  ∀ (j i:Nat) (c:Nat) (s:Shared),n - i=j->i<=n->St i s->(∀ b o,b≠D->b∉wr->h0.get? b=some o->s.heap.get? b=some o)->s.heap.DictOf knd D (aa i) ->
   (∀ s',Moved (D::wr) G s s'->s'.heap.DictOf knd D (aa n)->R (.ok (.ret result)) s')->codeAny (model prog w) A (.builtin "dict.update.loop" ⟨[.ref D,.ref I,rawInt (c:Int),result],[]⟩) R s:=by
 have iW:D∉wr:=fun z=>fm (W.sub _ z);have more:∀ b∈wr,b∈D::wr:=fun b hb=>List.mem_cons_of_mem _ hb;intro j
 induction j with
 | zero =>
  intro i c s hk hi cC keep hD hR;have e:i=n:=by omega
  subst e;refine codeAny_builtin n6 ?_;rw [Around.under_plainId iu _];change wpAny _ A.in1 (pyNext (.ref I) >>= _) _ _ s;refine wpAny_bind (W.done s _ _ cC (fun s' hm=>?_));show wpAny _ A.in1 (Builtin.Dict.addKeywords D [] >>= fun _=>ret result) _ _ s';refine wpAny_bind (wpAny_pure (wpAny_pure (hR s' (hm.mono more) ?_)));obtain ⟨o,es,ep,ho,rest⟩:=hD;exact ⟨o,es,ep,hm.heap D _ iW ho,rest⟩
 | succ j ih =>
  intro i c s hk hi cC keep hD hR;have bA:i<n:=by omega
  refine codeAny_builtin n6 ?_;rw [Around.under_plainId iu _];change wpAny _ A.in1 (pyNext (.ref I) >>= _) _ _ s;refine wpAny_bind (W.item i s _ _ bA cC (fun v s' hP gU hm=>?_));obtain ⟨t,kx,o,m,rfl,htD,htw,ht,hc,hd,df⟩:=hit i v hP;have iQ:s'.heap.get? t=some o:=hm.heap t o htw (keep t o htD htw ht)
  have eL:s'.heap.DictOf knd D (aa i):=by
   obtain ⟨o,es,ep,ho,rest⟩:=hD;exact ⟨o,es,ep,hm.heap D _ iW ho,rest⟩
  have hT:s'.TypeIs (.ref t) "tuple" := ⟨o,iQ,hc⟩;dsimp only;refine wpAny_bind (wpAny_holding (wpAny_bind (wpAny_tryCatch ?_)));unfold Builtin.Dict.pairItems;refine wpAny_bind (wpAny_typeOf (T := "tuple") hT ?_);rw [if_pos (by decide)];refine wpAny_bind (Ie iQ hd ?_);refine wpAny_pure ?_;show wpAny _ A.in1 (holding [kx,val i] (dictSet D kx (val i))) _ _ s';refine wpAny_holding (wpAny_dictSet_pairs df eL (fun h2 b9 same=>?_) (hz i hi));rw [<- hs i] at b9;refine wpAny_pure ⟨plainId_quiet iu _,?_⟩;have ec:((c:Int)+1)=((c+1:Nat):Int):=by omega
  rw [ec];refine ih (i+1) (c+1) _ (by omega) bA (W.frame _ s' _ _ gU (Nat.le_succ _) fun b hb o e=>?_) (fun b o hb hw e=>?_) b9 fun s2 dE dP=>?_
  ·rw [same.2 b (fun h:b=D=>fm (by rw [<- h]; exact hb))]; exact e
  ·show h2.get? b=some o;rw [same.2 b hb]; exact hm.heap b o hw (keep b o hb hw e)
  ·refine hR s2 (Moved.trans W.gtrans ((hm.mono more).then_heap (Nat.le_succ _) fun b o hb e=>?_) dE) dP;rw [same.2 b (fun h:b=D=>hb (by rw [h]; exact List.mem_cons_self))]; exact e
end
section
variable {prog:Program} {w:World} {A:Around} {E:Value->Shared->Prop} {s:Shared} {κ:Type} [DecidableEq κ] {knd:PySem.KeyKind prog w κ}
noncomputable def told (key:Nat->κ) (val:Nat->Value):Nat->List (κ × Value)
 | 0=>[]
 | i+1=>stored (told key val i) (key i) (val i)
theorem Sh (l:List (κ × Value)) (k:κ) (v:Value):(stored l k v).length<=l.length+1:=by
 unfold stored;split
 ·rw [List.length_map]; omega
 ·rw [List.length_append,List.length_singleton]; exact Nat.le_refl _
theorem Aa (key:Nat->κ) (val:Nat->Value):∀ i,(told key val i).length<=i
 | 0=>Nat.le_refl _
 | i+1=>Nat.le_trans (Sh _ _ _) (Nat.succ_le_succ (Aa key val i))
theorem Ms {l:Addr} {its:Array Value} {m:Nat} {sl:Array (Option Value)} {key:Nat->κ} {val:Nat->Value} {Q:Value->Shared->Prop} (nh:A.handled=none) (hl:s.heap.get? l=some { cls:=.type "list",dict:=none,data:=.seq its m,slots:=sl }) (hz:its.size<=sizeLine)
  (hit:∀ i v,its[i]? = some v->∃ t kx o n,v=.ref t/\s.heap.get? t=some o/\o.cls=.type "tuple" /\ o.data=.seq #[kx,val i] n/\knd.is (key i) kx=true)
  (q:∀ h' tk,h'.DictOf knd s.heap.objs.size (told key val its.size)->(∀ b o,s.heap.get? b=some o->h'.get? b=some o)->Q (.ref s.heap.objs.size) { s with heap:=h',toks:=tk }) :
  wpAny (model prog w) A (call (.type "dict") [.ref l]) Q E s:=by
 refine callType_codes (Q₁:=fun ob z=>ob=.ref s.heap.objs.size/\z = { s with heap:=s.heap.push { cls:=.type "dict",data:=.dict #[] } }) F.kt_called_dict (F.kt_typeCall_dict_1 _) F.entry_dict_init (kt_code_dict_new _ ⟨rfl,rfl⟩) ?_;rintro obj ax ⟨rfl,rfl⟩;have bJ:(s.heap.push { cls:=.type "dict",data:=.dict #[] }).DictOf knd s.heap.objs.size []:=Heap.DictOf.new s.heap;have eO:(s.heap.push { cls:=.type "dict",data:=.dict #[] }).get? l=some { cls:=.type "list",dict:=none,data:=.seq its m,slots:=sl }:=Heap.get?_push_of_some _ hl;have fM:l<s.heap.objs.size:=Heap.lt_size hl;refine ⟨bJ.typeIs,F.args_dict_init_2 _ _,?_⟩;unfold Builtin.«dict.__init__» Builtin.Dict.selfAndRest;refine wpAny_bind (wpAny_bind (wpAny_notOrdered_dict bJ.typeIs ?_));show wpAny _ _ (pure (s.heap.objs.size,[Value.ref l])) _ _ _;refine wpAny_pure ?_;show wpAny _ _ (Builtin.Dict.updateFrom "dict.__init__" s.heap.objs.size (.ref l) [] .none) _ _ _;unfold Builtin.Dict.updateFrom; refine wpAny_bind (wpAny_typeOf (T := "list") ⟨_,eO,rfl⟩ ?_);rw [if_pos (by decide)];refine wpAny_bind (Vb eO nh fun h2 tk e ne=>?_);rw [if_pos (show (none:Option Value).isNone=true from rfl)];have bu:∀ b o,(s.heap.push { cls:=.type "dict",data:=.dict #[] }).get? b=some o->h2.get? b=some o:=fun b o hb=>ne.keeps b o hb;have dU:h2.IsList l its:=⟨_,bu _ _ eO,rfl,m,rfl⟩
 have b9:s.heap.objs.size<h2.objs.size:=by
  obtain ⟨o,es,ep,ho,rest⟩:=bJ;exact Heap.lt_size (bu _ _ ho)
 refine wpAny_bind (wpAny_rule (wpAny_bind (wpAny_pyIter_list dU ?_)));refine wpAny_pure ⟨plainId_quiet iu _,?_⟩;have nl:l≠h2.objs.size:=Nat.ne_of_lt (Nat.lt_trans fM b9)
 have nD:s.heap.objs.size∉[h2.objs.size,l]:=by
  simp only [List.mem_cons,List.mem_singleton,List.not_mem_nil,or_false,not_or];exact ⟨Nat.ne_of_lt b9,Nat.ne_of_gt fM⟩
 have dP:(h2.push { cls:=.type "list_iterator",data:=.fields #[.ref l,.int 0 0] }).DictOf knd s.heap.objs.size (told key val 0):=by
  obtain ⟨o,es,ep,ho,rest⟩:=bJ;exact ⟨o,es,ep,Heap.get?_push_of_some _ (bu _ _ ho),rest⟩
 refine Qo (knd:=knd) ((Walks.list (A:=A.in1.in1) (show A.in1.in1.handled=none from nh) h2.objs.size l nl its).toS) s.heap.objs.size nD .none s.heap (told key val) key val (fun _=>rfl) (fun i hi=>Nat.le_trans (Aa key val i) (Nat.le_trans hi hz))
  (fun i v hv=>?_) (its.size - 0) 0 0 _ rfl (Nat.zero_le _) ⟨⟨_,Heap.get?_push_size _ rfl,rfl,rfl⟩,dU.push _⟩ (fun b o _ _ hb=>Heap.get?_push_of_some _ (bu _ _ (Heap.get?_push_of_some _ hb))) dP fun s3 hm iq=>?_
 ·obtain ⟨t,kx,o,n,rfl,ht,hc,hd,hk⟩:=hit i v hv;have tl:=Heap.lt_size ht;refine ⟨t,kx,o,n,rfl,Nat.ne_of_lt tl,?_,ht,hc,hd,hk⟩;simp only [List.mem_singleton];exact Nat.ne_of_lt (Nat.lt_trans tl b9)
 ·obtain ⟨h3,g3,d3,t3,o3⟩:=s3;have eg:g3=s.gens:=hm.gens;have ed:d3=s.drawn:=hm.drawn;have eo:o3=s.os:=hm.os;subst eg; subst ed; subst eo;refine ⟨rfl,q h3 t3 iq fun b o hb=>?_⟩;have bl:=Heap.lt_size hb;refine hm.heap b o ?_ (Heap.get?_push_of_some _ (bu _ _ (Heap.get?_push_of_some _ hb)));simp only [List.mem_cons,List.mem_singleton,List.not_mem_nil,or_false,not_or];exact ⟨Nat.ne_of_lt bl,Nat.ne_of_lt (Nat.lt_trans bl b9)⟩
theorem Kd {l:Addr} {its:Array Value} {m:Nat} {sl:Array (Option Value)} {key:Nat->κ} {val:Nat->Value} {Q:Value->Shared->Prop} (nh:A.handled=none) (hl:s.heap.get? l=some { cls:=.type "tuple",dict:=none,data:=.seq its m,slots:=sl }) (hz:its.size<=sizeLine)
  (hit:∀ i v,its[i]? = some v->∃ t kx o n,v=.ref t/\s.heap.get? t=some o/\o.cls=.type "tuple" /\ o.data=.seq #[kx,val i] n/\knd.is (key i) kx=true)
  (q:∀ h' tk,h'.DictOf knd s.heap.objs.size (told key val its.size)->(∀ b o,s.heap.get? b=some o->h'.get? b=some o)->Q (.ref s.heap.objs.size) { s with heap:=h',toks:=tk }) :
  wpAny (model prog w) A (call (.type "dict") [.ref l]) Q E s:=by
 refine callType_codes (Q₁:=fun ob z=>ob=.ref s.heap.objs.size/\z = { s with heap:=s.heap.push { cls:=.type "dict",data:=.dict #[] } }) F.kt_called_dict (F.kt_typeCall_dict_1 _) F.entry_dict_init (kt_code_dict_new _ ⟨rfl,rfl⟩) ?_;rintro obj ax ⟨rfl,rfl⟩;have bJ:(s.heap.push { cls:=.type "dict",data:=.dict #[] }).DictOf knd s.heap.objs.size []:=Heap.DictOf.new s.heap;have eO:(s.heap.push { cls:=.type "dict",data:=.dict #[] }).get? l=some { cls:=.type "tuple",dict:=none,data:=.seq its m,slots:=sl }:=Heap.get?_push_of_some _ hl;have fM:l<s.heap.objs.size:=Heap.lt_size hl;refine ⟨bJ.typeIs,F.args_dict_init_2 _ _,?_⟩;unfold Builtin.«dict.__init__» Builtin.Dict.selfAndRest;refine wpAny_bind (wpAny_bind (wpAny_notOrdered_dict bJ.typeIs ?_));show wpAny _ _ (pure (s.heap.objs.size,[Value.ref l])) _ _ _;refine wpAny_pure ?_;show wpAny _ _ (Builtin.Dict.updateFrom "dict.__init__" s.heap.objs.size (.ref l) [] .none) _ _ _;unfold Builtin.Dict.updateFrom; refine wpAny_bind (wpAny_typeOf (T := "tuple") ⟨_,eO,rfl⟩ ?_);rw [if_pos (by decide)];refine wpAny_bind (Sw eO nh fun h2 tk e ne=>?_);rw [if_pos (show (none:Option Value).isNone=true from rfl)];have bu:∀ b o,(s.heap.push { cls:=.type "dict",data:=.dict #[] }).get? b=some o->h2.get? b=some o:=fun b o hb=>ne.keeps b o hb;have dU:h2.IsTuple l its:=⟨_,bu _ _ eO,rfl,m,rfl⟩
 have b9:s.heap.objs.size<h2.objs.size:=by
  obtain ⟨o,es,ep,ho,rest⟩:=bJ;exact Heap.lt_size (bu _ _ ho)
 refine wpAny_bind (wpAny_rule (wpAny_bind (wpAny_pyIter_tuple dU ?_)));refine wpAny_pure ⟨plainId_quiet iu _,?_⟩;have nl:l≠h2.objs.size:=Nat.ne_of_lt (Nat.lt_trans fM b9)
 have nD:s.heap.objs.size∉[h2.objs.size,l]:=by
  simp only [List.mem_cons,List.mem_singleton,List.not_mem_nil,or_false,not_or];exact ⟨Nat.ne_of_lt b9,Nat.ne_of_gt fM⟩
 have dP:(h2.push { cls:=.type "tuple_iterator",data:=.fields #[.ref l,.int 0 0] }).DictOf knd s.heap.objs.size (told key val 0):=by
  obtain ⟨o,es,ep,ho,rest⟩:=bJ;exact ⟨o,es,ep,Heap.get?_push_of_some _ (bu _ _ ho),rest⟩
 refine Qo (knd:=knd) ((Walks.tuple (A:=A.in1.in1) (show A.in1.in1.handled=none from nh) h2.objs.size l nl its).toS) s.heap.objs.size nD .none s.heap (told key val) key val (fun _=>rfl) (fun i hi=>Nat.le_trans (Aa key val i) (Nat.le_trans hi hz))
  (fun i v hv=>?_) (its.size - 0) 0 0 _ rfl (Nat.zero_le _) ⟨⟨_,Heap.get?_push_size _ rfl,rfl,rfl⟩,dU.push _⟩ (fun b o _ _ hb=>Heap.get?_push_of_some _ (bu _ _ (Heap.get?_push_of_some _ hb))) dP fun s3 hm iq=>?_
 ·obtain ⟨t,kx,o,n,rfl,ht,hc,hd,hk⟩:=hit i v hv;have tl:=Heap.lt_size ht;refine ⟨t,kx,o,n,rfl,Nat.ne_of_lt tl,?_,ht,hc,hd,hk⟩;simp only [List.mem_singleton];exact Nat.ne_of_lt (Nat.lt_trans tl b9)
 ·obtain ⟨h3,g3,d3,t3,o3⟩:=s3;have eg:g3=s.gens:=hm.gens;have ed:d3=s.drawn:=hm.drawn;have eo:o3=s.os:=hm.os;subst eg; subst ed; subst eo;refine ⟨rfl,q h3 t3 iq fun b o hb=>?_⟩;have bl:=Heap.lt_size hb;refine hm.heap b o ?_ (Heap.get?_push_of_some _ (bu _ _ (Heap.get?_push_of_some _ hb)));simp only [List.mem_cons,List.mem_singleton,List.not_mem_nil,or_false,not_or];exact ⟨Nat.ne_of_lt bl,Nat.ne_of_lt (Nat.lt_trans bl b9)⟩
end
theorem Gf {x:T} {xs:List T} {l:List (Key × T)} (h:qm (x::xs)=some l):∃ k v q l',x=.tup [k,v]/\keyOf k=some q/\qm xs=some l'/\l=(q,v)::l':=by
 match x,h with
 | .tup [k,v],h =>
  change (match keyOf k,qm xs with | some q,some l=>some ((q,v)::l) | _,_=>none)=some l at h;cases e1:keyOf k with
  | none=>rw [e1] at h; exact jl h
  | some q =>
   cases e2:qm xs with
   | none=>rw [e1,e2] at h; exact jl h
   | some l'=>rw [e1,e2] at h; cases h; exact ⟨k,v,q,l',rfl,e1,rfl,rfl⟩
section
variable {X:Cx} {pins:List (Addr × Obj)} {σ:L2.St} {H S:Hp} {s:Shared} {as:List Addr}
inductive Bf (h:Heap) (prog:Program) (w:World):List Value->List L2.Key->List Value->Prop where
 | nil:Bf h prog w [] [] []
 | cons {t:Addr} {kx wv:Value} {o:Obj} {n:Nat} {q:L2.Key} {us:List Value} {qs:List L2.Key} {ws:List Value}:h.get? t=some o->o.cls=.type "tuple" -> o.data=.seq #[kx,wv] n->(j6 prog w).is q kx=true ->
   Bf h prog w us qs ws->Bf h prog w (.ref t::us) (q::qs) (wv::ws)
theorem Bf.get {h:Heap} {prog:Program} {w:World}:∀ {us:List Value} {qs:List L2.Key} {ws:List Value},Bf h prog w us qs ws->∀ (i:Nat) (v:Value),us[i]? = some v->∃ t kx o n,v=.ref t/\h.get? t=some o/\o.cls=.type "tuple" /\ o.data=.seq #[kx,ws.getD i .none] n/\(j6 prog w).is (qs.getD i (.inl 0)) kx=true
 := by
 intro us qs ws h
 induction h with
 | nil=>intro i v e; simp at e
 | cons h1 h2 h3 h4 r ih =>
  intro i v e;cases i with
  | zero=>simp at e; subst e; exact ⟨_,_,_,_,rfl,h1,h2,h3,h4⟩
  | succ i=>simpa using ih i v (by simpa using e)
theorem Bf.len {h:Heap} {prog:Program} {w:World}:∀ {us:List Value} {qs:List L2.Key} {ws:List Value},Bf h prog w us qs ws->us.length=qs.length/\us.length=ws.length:=by
 intro us qs ws h
 induction h with
 | nil=>exact ⟨rfl,rfl⟩
 | cons _ _ _ _ _ ih=>exact ⟨congrArg (· + 1) ih.1,congrArg (· + 1) ih.2⟩
theorem pairs_at (I:L2.Inv X pins σ H s) (sub:Same S H):∀ {vs:List V} {xs:List T} {us:List Value} {l:List (L2.Key × T)},jg X.K S as vs xs->Vals vs us->qm xs=some l ->
  ∃ ys ws,Bf s.heap X.prog X.w us (l.map (·.1)) ws/\Vals ys ws/\jg X.K S as ys (l.map (·.2))
 | _,[],_,_,h0,r,e=>by cases h0; cases e; cases r; exact ⟨[],[],.nil,.nil,.nil⟩
 | _,_::_,_,_,h0,r,e=>by
  cases h0 with | cons h q=>?_
  obtain ⟨k,v,qk,l',rfl,e1,e2,rfl⟩:=Gf e;cases r with
  | cons r1 r2 =>
   obtain ⟨ys,ws,p1,p2,p3⟩:=pairs_at I sub q r2 e2;cases h with
   | tup g1 g2 =>
    cases g2 with
    | cons a1 g2 =>
     cases g2 with
     | cons a2 g2 =>
      cases g2;cases r1;obtain ⟨its,rv,⟨o,o1,o2,n,o3⟩,_⟩:=I.tuple (j4 sub g1);cases rv with
      | cons b1 rv =>
       cases rv with
       | cons b2 rv =>
        cases rv;have ek:=Uw a1 e1;subst ek;exact ⟨_::ys,_::ws,.cons o1 o2 o3 (U5 b1) p1,.cons b2 p2,.cons a2 p3⟩
theorem Fw (l:List (L2.Key × T)) {ys:List V} {ws:List Value} (hv:Vals ys ws) (hr:jg X.K S as ys (l.map (·.2))):∀ i,i<=l.length ->
  ∃ kv,KV kv (told (fun i=>(l.map (·.1)).getD i (.inl 0)) (fun i=>ws.getD i .none) i)/\u9 X.K S as kv ((l.take i).foldl (fun d p=>Nj p.1 p.2 d) [])
 | 0,_=>⟨[],.nil,.nil⟩
 | i+1,hi=>by
  obtain ⟨kv,k1,k2⟩:=Fw l hv hr i (by omega);have bA:i<l.length:=Nat.lt_of_succ_le hi;have e1:(l.map (·.2))[i]? = some l[i].2:=by rw [List.getElem?_map,List.getElem?_eq_getElem bA]; rfl
  obtain ⟨y,h1,h2⟩:=hr.get e1;obtain ⟨u,h3,h4⟩:=hv.get h1;have e2:(l.map (·.1)).getD i (.inl 0)=l[i].1:=by rw [List.getD_eq_getElem?_getD,List.getElem?_map,List.getElem?_eq_getElem bA]; rfl
  have e3:ws.getD i .none=u:=by rw [List.getD_eq_getElem?_getD,h3]; rfl
  refine ⟨putK kv l[i].1 y,?_,?_⟩
  ·have:=k1.put l[i].1 h4;show KV (putK kv l[i].1 y) (stored (told (fun i=>(l.map (·.1)).getD i (.inl 0)) (fun i=>ws.getD i .none) i) ((l.map (·.1)).getD i (.inl 0)) (ws.getD i .none));rw [e2,e3];exact this
  ·rw [List.take_succ_eq_append_getElem bA,List.foldl_append];exact k2.put h2
theorem Ng {Q:VK} {a:Addr} {vs:List V} {xs:List T} {l:List (L2.Key × T)} (hc:X.calm=true) (I:L2.Inv X pins σ H s) (sub:Same S H) (g1:SqL X.K S a vs) (g2:jg X.K S as vs xs) (e:qm xs=some l) (hz:xs.length<=sizeLine)
  (q:∀ p kv,H p=none->kv.length<=sizeLine->u9 X.K S as kv (l.foldl (fun d p=>Nj p.1 p.2 d) [])->Q (.ref p) (upd H p (.dK kv))):wpAny (model X.prog X.w) X.A (call (.type "dict") [.ref a]) (EP X pins σ Q) X.xe s:=by
 obtain ⟨its,r,p,_⟩:=I.list (iz sub g1);obtain ⟨⟨cls,dd,data,sl⟩,n,ho,dB,hd0,hd⟩:=id p;simp only at dB hd0 hd;subst dB hd0 hd;obtain ⟨ys,ws,p1,p2,p3⟩:=pairs_at I sub g2 r e;have hlen:its.length=l.length:=by rw [p1.len.1,List.length_map]
 have fB:vs.length=its.length:=r.length;obtain ⟨kv,k1,k2⟩:=Fw l p2 p3 l.length (Nat.le_refl _);rw [List.take_length] at k2
 refine Ms (knd:=j6 X.prog X.w) (key:=fun i=>(l.map (·.1)).getD i (.inl 0)) (val:=fun i=>ws.getD i .none) (I.ok.hd hc) ho (by rw [List.size_toArray,<- fB,g2.length]; exact hz)
  (fun i v hv=>p1.get i v (by rw [List.getElem?_toArray] at hv; exact hv)) fun h' tk hD old=>?_
 rw [show its.toArray.size=l.length by rw [List.size_toArray,hlen]] at hD
 have kl:kv.length<=sizeLine:=by
  rw [k1.length];exact Nat.le_trans (Aa _ _ _) (by rw [<- hlen,<- fB,g2.length]; exact hz)
 have hp:H s.heap.objs.size=none:=I.hok.fresh (Nat.le_refl _);exact ⟨.ref s.heap.objs.size,_,I.laid (a:=s.heap.objs.size) (o:=.dK kv) (h':=h') (t':=tk) old (Nat.le_refl _) (Pr kl (beq_eq_false_iff_ne.mpr (Ne.symm (Nat.ne_of_lt I.big))) k1 hD),rfl,q _ kv hp kl k2⟩
theorem Kl {Q:VK} {a:Addr} {vs:List V} {xs:List T} {l:List (L2.Key × T)} (hc:X.calm=true) (I:L2.Inv X pins σ H s) (sub:Same S H) (g1:SqT X.K S a vs) (g2:jg X.K S as vs xs) (e:qm xs=some l) (hz:xs.length<=sizeLine)
  (q:∀ p kv,H p=none->kv.length<=sizeLine->u9 X.K S as kv (l.foldl (fun d p=>Nj p.1 p.2 d) [])->Q (.ref p) (upd H p (.dK kv))):wpAny (model X.prog X.w) X.A (call (.type "dict") [.ref a]) (EP X pins σ Q) X.xe s:=by
 obtain ⟨its,r,p,_⟩:=I.a8r (j4 sub g1);obtain ⟨⟨cls,dd,data,sl⟩,ho,dB,hd0,n,hd⟩:=id p;simp only at dB hd0 hd;subst dB hd0 hd;obtain ⟨ys,ws,p1,p2,p3⟩:=pairs_at I sub g2 r e;have hlen:its.length=l.length:=by rw [p1.len.1,List.length_map]
 have fB:vs.length=its.length:=r.length;obtain ⟨kv,k1,k2⟩:=Fw l p2 p3 l.length (Nat.le_refl _);rw [List.take_length] at k2
 refine Kd (knd:=j6 X.prog X.w) (key:=fun i=>(l.map (·.1)).getD i (.inl 0)) (val:=fun i=>ws.getD i .none) (I.ok.hd hc) ho (by rw [List.size_toArray,<- fB,g2.length]; exact hz)
  (fun i v hv=>p1.get i v (by rw [List.getElem?_toArray] at hv; exact hv)) fun h' tk hD old=>?_
 rw [show its.toArray.size=l.length by rw [List.size_toArray,hlen]] at hD
 have kl:kv.length<=sizeLine:=by
  rw [k1.length];exact Nat.le_trans (Aa _ _ _) (by rw [<- hlen,<- fB,g2.length]; exact hz)
 have hp:H s.heap.objs.size=none:=I.hok.fresh (Nat.le_refl _);exact ⟨.ref s.heap.objs.size,_,I.laid (a:=s.heap.objs.size) (o:=.dK kv) (h':=h') (t':=tk) old (Nat.le_refl _) (Pr kl (beq_eq_false_iff_ne.mpr (Ne.symm (Nat.ne_of_lt I.big))) k1 hD),rfl,q _ kv hp kl k2⟩
end
section
variable {X:Cx} {B:Bas} {a:Expr} {m:M T} {pos p:Pos}
theorem Jf (hc:X.calm=true):a1s X (.type "dict") O6:=by
 intro pins s σ H xs us Q I rs z8;obtain ⟨S,as,ts,w,sub,hr,hf,q⟩:=z8;cases hr with
 | nil=>exact jl hf
 | @cons x t dF ts' h1 h2 =>
  cases h2 with
  | cons h3 h4=>cases h1 <;> exact jl hf
  | nil =>
   obtain ⟨u,rfl,ru⟩:=rs.one;cases h1 with
   | @lst a vs ts g1 g2 =>
    cases ru;obtain ⟨hl,hf⟩:=Cv hf;obtain ⟨l,e1,e2⟩:=Option.map_eq_some_iff.mp hf;subst e2;refine Ng hc I sub g1 g2 e1 (Nat.le_trans (Nat.le_of_lt hl) jw) fun p kv hp _ k2=>?_;have x:=Ext.laid sub hp (.dK kv);exact q _ _ _ x (.dic (.inl bw) (k2.mono x.s nol))
   | @tup a vs ts g1 g2 =>
    cases ru;obtain ⟨hl,hf⟩:=Cv hf;obtain ⟨l,e1,e2⟩:=Option.map_eq_some_iff.mp hf;subst e2;refine Kl hc I sub g1 g2 e1 (Nat.le_trans (Nat.le_of_lt hl) jw) fun p kv hp _ k2=>?_;have x:=Ext.laid sub hp (.dK kv);exact q _ _ _ x (.dic (.inl bw) (k2.mono x.s nol))
   | @dic a aa ts g1 g2 =>
    cases ru;cases hf;refine a1p I (qt sub g1) fun p s' hp I'=>⟨.ref p,_,I',rfl,?_⟩;have x:=Ext.laid sub hp (.dK aa);exact q _ _ _ x (.dic (.inl bw) (g2.mono x.s nol))
   | _=>exact jl hf
end
theorem gq.zero {P:Program} {w:World} {K:PySem.W.Frag} {mg:Str->Option Value} {base:Heap} {x qual:Str} {st:Stmt} {f:Addr} {fd:FuncData} {ps:List Str} {k:Nat} (F:Fun K x qual st f fd) (h:mg x=some (.ref f)) (b:Binds K fd ps []):gq P w K mg base x k ps (fun _ _=>none):=by
 have no:∀ vs H Q E,¬ spF K ps.length (fun _ _=>none) vs H Q E:=fun vs H Q E z=>by
  obtain ⟨S,as,sto,ts,t,aR,_,_,_,_,e,_⟩:=z;cases e
 exact ⟨f,fd,⟨fun vs H Q E z=>absurd z (no vs H Q E),fun A outer s H args us vs Q E _ _ _ _ z=>absurd z (no vs H Q E)⟩,b,F.kp,h⟩
end C
end
section
namespace C
open PySem
noncomputable def sy:Nat->M Bool->S->S
 | 0,_,_=>fun _=>none
 | n+1,c,b=>fun s=>match c s with
  | some (false,s1)=>some (.next,s1)
  | some (true,s1)=>match b s1 with
   | some (.next,s2)=>sy n c b s2
   | some (.cont,s2)=>sy n c b s2
   | some (.brk,s2)=>some (.next,s2)
   | some (.ret v,s2)=>some (.ret v,s2)
   | none=>none
  | none=>none
end C
end
section
namespace C
open PySem PySem.Spec PyProof.Rows L2
theorem U0 {n:Nat} {c:M Bool} {b:S} {s s':Sta} {fl:Flow} (h:sy (n+1) c b s=some (fl,s')):(∃ s1,c s=some (false,s1)/\fl=.next/\s'=s1) \/
  ∃ s1 fb s2,c s=some (true,s1)/\b s1=some (fb,s2)/\(match fb with | .next=>sy n c b s2=some (fl,s') | .cont=>sy n c b s2=some (fl,s') | .brk=>fl=.next/\s'=s2 | .ret v=>fl=.ret v/\s'=s2):=by
 rw [sy] at h;dsimp only at h;split at h
 ·rename_i s1 e1; cases h; exact .inl ⟨_,e1,rfl,rfl⟩
 ·rename_i s1 e1;split at h
  ·rename_i s2 e2; exact .inr ⟨s1,.next,s2,e1,e2,h⟩
  ·rename_i s2 e2; exact .inr ⟨s1,.cont,s2,e1,e2,h⟩
  ·rename_i s2 e2; cases h; exact .inr ⟨s1,.brk,_,e1,e2,rfl,rfl⟩
  ·rename_i v s2 e2; cases h; exact .inr ⟨s1,.ret v,_,e1,e2,rfl,rfl⟩
  ·cases h
 ·cases h
section
variable {X:Cx} {B:Bas} {c e:Expr} {m:M T} {pos p:Pos} {u:S} {body:List Stmt}
theorem a1k (n:Nat) {mc:M Bool} (hp:PassesOwn (model X.prog X.w) X.A X.env X.xe) (hc:PT X c (cOf X.K B mc)) (hb:PSs X body (sOf X.K B u)):PS X (.While c body [] pos) (sOf X.K B (sy n mc u)):=(Qs hp hc hb).imp fun D σ H z9=>by
 obtain ⟨st,ps,S,as,R,fl,ae,e,q⟩:=z9;refine ⟨fun k σ H=>∃ bq Si a9,Rel X.K B bq σ H ps Si a9/\sy k mc u bq=some (fl,ae),⟨n,st,S,as,R,e⟩,?_⟩;rintro k cV H2 ⟨bq,Si,a9,Ri,ei⟩;cases k with
 | zero=>rw [sy] at ei; cases ei
 | succ k =>
  rcases U0 ei with ⟨s1,e1,rfl,rfl⟩ | ⟨s1,fb,s2,e1,e2,er⟩
  ·exact ⟨bq,ps,Si,a9,Ri,false,_,e1,fun H3 S3 bp R3=>a2h (q cV H3 S3 bp R3)⟩
  ·refine ⟨bq,ps,Si,a9,Ri,true,s1,e1,fun H3 S3 bp R3=>a2x ⟨fun σ' H'=>∃ bq Si a9,Rel X.K B bq σ' H' ps Si a9/\sy k mc u bq=some (fl,ae),fun σ' H' h=>⟨k,Nat.lt_succ_self _,h⟩,s1,ps,S3,bp,R3,fb,s2,e2,?_⟩⟩;cases fb with
   | next=>exact fun σ' H' S' ag R'=>⟨s2,S',ag,R',er⟩
   | cont=>exact fun σ' H' S' ag R'=>⟨s2,S',ag,R',er⟩
   | brk =>
    obtain ⟨rfl,rfl⟩:=er;exact fun σ' H' S' ag R'=>q σ' H' S' ag R'
   | ret v =>
    obtain ⟨rfl,rfl⟩:=er;exact fun v σ' H' S' ag R'=>q v σ' H' S' ag R'
end
section
variable {X:Cx} {B:Bas} {e st:Expr} {te:TE} {m:M T} {pos p2 p3 p4:Pos} {j:Nat}
end
section
variable {X:Cx} {B:Bas} {a:Expr} {m:M T} {pos p:Pos}
end
end C
end
section
namespace C
open PySem
def a5j (xs ys:List T):List T:=(xs.zip ys).map fun p=>.tup [p.1,p.2]
noncomputable def sIx (n d:Nat):Option Int->Nat
 | none=>d
 | some v=>if v<0 then (v+(n:Int)).toNat else min v.toNat n
noncomputable def a9z (xs:List T) (lo hi:Option Int):List T:=(xs.drop (sIx xs.length 0 lo)).take (sIx xs.length xs.length hi - sIx xs.length 0 lo)
def Ul:M (Option Int):=fun s=>some (none,s)
noncomputable def Tz (e:M T):M (Option Int):=fun s=>match e s with
 | some (.int i,s1)=>some (some i,s1)
 | _=>none
noncomputable def Eu (i:Nat) (k:M T):M T:=fun s=>if El i s then (match k s with
 | some (.int j,s1)=>match s1.env[i]? with
  | some (some (.lst xs,_))=>match (ixI xs.length j).bind (xs[·]?) with
   | some t=>some (t,s1)
   | none=>none
  | _=>none
 | _=>none) else none
end C
end
section
namespace C
open PySem PySem.Sem
def Ax:Bool->Heap->Addr->Addr->Nat->Prop
 | true,h,it,a,i=>h.IsListIter it a i
 | false,h,it,a,i=>h.IsTupleIter it a i
def n8:Bool->Heap->Addr->Array Value->Prop
 | true,h,a,xs=>h.IsList a xs
 | false,h,a,xs=>h.IsTuple a xs
theorem Ax.to {k:Bool} {h h':Heap} {it a:Addr} {i:Nat} (x:Ax k h it a i) (e:∀ o,h.get? it=some o->h'.get? it=some o):Ax k h' it a i:=by
 cases k <;> obtain ⟨o,ho,r⟩:=x <;> exact ⟨o,e o ho,r⟩
theorem Ax.obj {k:Bool} {h:Heap} {it a:Addr} {i:Nat} (x:Ax k h it a i):∃ o,h.get? it=some o/\∀ v,o.data≠.cell v:=by
 cases k <;> obtain ⟨o,ho,_,d⟩:=x <;> exact ⟨o,ho,fun v z=>by rw [d] at z; cases z⟩
theorem n8.to {k:Bool} {h h':Heap} {a:Addr} {xs:Array Value} (x:n8 k h a xs) (e:∀ o,h.get? a=some o->h'.get? a=some o):n8 k h' a xs:=by
 cases k <;> obtain ⟨o,ho,r⟩:=x <;> exact ⟨o,e o ho,r⟩
section
variable {prog:Program} {w:World} {A:Around} {E:Value->Shared->Prop} {s:Shared}
theorem nextT {it t:Addr} {i:Nat} {xs:Array Value} {x:Value} {Q:Value->Shared->Prop} (h1:s.heap.IsTupleIter it t i) (h2:s.heap.IsTuple t xs) (h3:xs[i]? = some x)
  (q:∀ h',h'.IsTupleIter it t (i+1)->Heap.SameBut it s.heap h'->Q x { s with heap:=h' }):wpAny (model prog w) A (Builtin.SmallTypes.nextOf (.ref it)) Q E s:=by
 have ty:s.TypeIs (.ref it) "tuple_iterator" := h1.typeIs;obtain ⟨oi,gi,ci,di⟩:=h1;obtain ⟨ot,gt,_,m,dt⟩:=h2
 have upd:∀ (h':Heap),h'=s.heap.update it (Obj.mapFields (·.setIfInBounds 1 (rawInt ((i:Int)+1))))->h'.IsTupleIter it t (i+1):=fun h' e=>by
  subst e;refine ⟨_,Heap.get?_update_self _ gi (Obj.isFreed_of_fields (Obj.data_mapFields di _)),(Obj.cls_mapFields ..).trans ci,?_⟩;rw [Obj.data_mapFields di]; rfl
 unfold Builtin.SmallTypes.nextOf;refine wpAny_bind (wpAny_callSpecial?_slot (name:=Str.ofString "__next__") ty F.slot_tuple_iterator_next (wpAny_call_entry F.slot_tuple_iterator_next ty F.entry_tuple_iterator_next ?_ (F.args_tuple_iterator_next_1 _)));refine (show wpAny _ _ (field (.ref it) 0 >>= _) _ _ s from wpAny_bind (wpAny_field gi di (x:=.ref t) rfl ?_));dsimp only;rw [if_neg (by intro z; cases z)];refine (show wpAny _ _ (field (.ref it) 1 >>= _) _ _ s from wpAny_bind (wpAny_field gi di (x:=.int i 0) rfl ?_));refine (show wpAny _ _ (seqItems? (.ref t) >>= _) _ _ s from wpAny_bind (wpAny_seqItems gt dt ?_));dsimp only;rw [Int.toNat_natCast,h3];exact wpAny_bind (wpAny_setField gi di (by simp) (wpAny_pure ⟨x,rfl,wpAny_pure (q _ (upd _ rfl) (Heap.SameBut.update ..))⟩))
theorem Wz {it t:Addr} {i:Nat} {xs:Array Value} {Q:Value->Shared->Prop} (hh:A.handled=none) (h1:s.heap.IsTupleIter it t i) (h2:s.heap.IsTuple t xs) (h3:xs[i]? = none)
  (q:∀ h' e,Heap.ExtBut it s.heap h'->(∃ o,h'.get? e=some o/\o.cls=.type "StopIteration")->E (.ref e) { s with heap:=h' }):wpAny (model prog w) A (Builtin.SmallTypes.nextOf (.ref it)) Q E s:=by
 have ty:s.TypeIs (.ref it) "tuple_iterator" := h1.typeIs;obtain ⟨oi,gi,ci,di⟩:=h1;obtain ⟨ot,gt,_,m,dt⟩:=h2;unfold Builtin.SmallTypes.nextOf;refine wpAny_bind (wpAny_callSpecial?_slot (name:=Str.ofString "__next__") ty F.slot_tuple_iterator_next (wpAny_call_entry F.slot_tuple_iterator_next ty F.entry_tuple_iterator_next ?_ (F.args_tuple_iterator_next_1 _)));refine (show wpAny _ _ (field (.ref it) 0 >>= _) _ _ s from wpAny_bind (wpAny_field gi di (x:=.ref t) rfl ?_));dsimp only;rw [if_neg (by intro z; cases z)];refine (show wpAny _ _ (field (.ref it) 1 >>= _) _ _ s from wpAny_bind (wpAny_field gi di (x:=.int i 0) rfl ?_));refine (show wpAny _ _ (seqItems? (.ref t) >>= _) _ _ s from wpAny_bind (wpAny_seqItems gt dt ?_));dsimp only;rw [Int.toNat_natCast,h3];refine wpAny_bind (wpAny_rule (wpAny_bind (wpAny_setField gi di (by simp) ?_)));refine (show wpAny _ _ (newExc (.type "StopIteration") [] >>= _) _ _ _ from wpAny_bind ?_);simp only [newExc,newTuple];refine wpAny_bind (wpAny_newObj_type (wpAny_bind (m:=firstArgMember _ _) (wpAny_of_eq (a:=Value.none) (by first | rfl | (simp only [firstArgMember]; rfl)) (wpAny_newObj_type ?_ (by size_fits)))) (by size_fits));simp only [raiseNew];refine wpAny_bind (wpAny_handled ?_);rw [show A.in1.handled=none from hh];exact wpAny_bind (wpAny_pure (wpAny_throw (q _ _ (((Heap.SameBut.update ..).extBut.push _).push _) ⟨_,Heap.get?_push_size _ rfl,rfl⟩)))
theorem Bp {k:Bool} {it a:Addr} {i:Nat} {xs:Array Value} {x:Value} {Q:Value->Shared->Prop} (h1:Ax k s.heap it a i) (h2:n8 k s.heap a xs) (h3:xs[i]? = some x)
  (q:∀ h',Ax k h' it a (i+1)->Heap.SameBut it s.heap h'->Q x { s with heap:=h' }):wpAny (model prog w) A (Builtin.SmallTypes.nextOf (.ref it)) Q E s:=by
 cases k with
 | true=>exact wpAny_nextOf_list_item h1 h2 h3 q
 | false=>exact nextT h1 h2 h3 q
theorem w6 {k:Bool} {it a:Addr} {i:Nat} {xs:Array Value} {Q:Value->Shared->Prop} (hh:A.handled=none) (h1:Ax k s.heap it a i) (h2:n8 k s.heap a xs) (h3:xs[i]? = none)
  (q:∀ h' e,Heap.ExtBut it s.heap h'->(∃ o,h'.get? e=some o/\o.cls=.type "StopIteration")->E (.ref e) { s with heap:=h' }):wpAny (model prog w) A (Builtin.SmallTypes.nextOf (.ref it)) Q E s:=by
 cases k with
 | true=>exact wpAny_nextOf_list_end hh h1 h2 h3 q
 | false=>exact Wz hh h1 h2 h3 q
end
structure Im (h:Heap) (z ti aB i1 i2:Addr) (f:Value):Prop where
 zip:IsZip h z ti aB f
 its:IsPair h ti (.ref i1) (.ref i2)
 kept:∃ a b,IsPair h aB a b
structure Far (z ti aB i1 i2:Addr):Prop where
 nd:[z,ti,aB,i1,i2].Nodup
theorem Far.all {z ti aB i1 i2:Addr} (f:Far z ti aB i1 i2):ti≠z/\aB≠z/\i1≠z/\i2≠z/\ti≠aB/\ti≠i1/\ti≠i2/\aB≠i1/\aB≠i2/\i1≠i2:=by
 have:=f.nd;simp only [List.nodup_cons,List.mem_cons,List.not_mem_nil,or_false,not_or] at this;obtain ⟨⟨a,b,c,d⟩,⟨e,f,g⟩,⟨h,i⟩,j,_⟩:=this;exact ⟨Ne.symm a,Ne.symm b,Ne.symm c,Ne.symm d,e,f,g,h,i,j⟩
def O7 (z aB i1 i2:Addr) (h h':Heap):Prop:=∀ c o,c≠z->c≠aB->c≠i1->c≠i2->h.get? c=some o->h'.get? c=some o
section
variable {prog:Program} {w:World} {A:Around} {E:Value->Shared->Prop} {s:Shared}
theorem Zb {k1 k2:Bool} {z ti aB i1 i2 a1 a2:Addr} {j1 j2:Nat} {xs ys:Array Value} {x y:Value} {Q:Value->Shared->Prop} (D:Far z ti aB i1 i2) (Z:Im s.heap z ti aB i1 i2 .none)
  (h1:Ax k1 s.heap i1 a1 j1) (h2:Ax k2 s.heap i2 a2 j2) (r1:n8 k1 s.heap a1 xs) (r2:n8 k2 s.heap a2 ys) (n2:a2≠z/\a2≠aB/\a2≠i1/\a2≠i2) (n1:a1≠z) (hx:xs[j1]? = some x) (hy:ys[j2]? = some y)
  (q:∀ h',Im h' z ti aB i1 i2 (rawInt s.heap.objs.size)->Ax k1 h' i1 a1 (j1+1)->Ax k2 h' i2 a2 (j2+1)->IsPair h' s.heap.objs.size x y->O7 z aB i1 i2 s.heap h'->Q (.ref s.heap.objs.size) { s with heap:=h' }) :
  wpAny (model prog w) A (Builtin.«zip.__next__» ⟨[.ref z],[]⟩) (fun fin s'=>∃ v,fin=.done (.ret v)/\Q v s') E s:=by
 obtain ⟨hz,hI,a,b,hO⟩:=Z;obtain ⟨d1,d2,d3,d4,d5,d6,d7,d8,d9,d10⟩:=D.all;refine (show wpAny _ _ (field (.ref z) 2 >>= _) _ _ _ from wpAny_bind (wpAny_field hz rfl (x:=.bool false) rfl ?_));refine (show wpAny _ _ (field (.ref z) 3 >>= _) _ _ _ from wpAny_bind (wpAny_field hz rfl (x:=.ref ti) rfl (wpAny_bind (wpAny_seqItems hI rfl ?_))));refine (show wpAny _ _ (Builtin.SmallTypes.ownedTupleIsFree (.ref z) >>= _) _ _ _ from wpAny_bind ?_);unfold Builtin.SmallTypes.ownedTupleIsFree;refine wpAny_bind (wpAny_field hz rfl (x:=.none) rfl (wpAny_pure ?_));dsimp only;rw [if_pos rfl];refine wpAny_bind (wpAny_rule (wpAny_bind (wpAny_field hz rfl (x:=.ref aB) rfl (wpAny_bind (wpAny_setField_rec hz (by simp) fun g1 z1 s1=>wpAny_bind ?_)))));have z1:IsZip g1 z ti aB .ellipsis:=z1;simp only [List.zipIdx_cons,List.zipIdx_nil,List.forIn_cons,List.forIn_nil];refine wpAny_bind (wpAny_bind (wpAny_onRaise (show wpAny _ _ (Builtin.SmallTypes.nextOf (.ref i1) >>= _) _ _ _ from wpAny_bind (Bp (h1.to fun o e=>s1.extBut _ _ d3 e) (r1.to fun o e=>s1.extBut _ _ n1 e) hx fun g2 t2 s2=>wpAny_pure ?_))));have o2:IsPair g2 aB a b:=s2.extBut _ _ d8 (s1.extBut _ _ d2 hO);refine wpAny_bind (wpAny_seqItems o2 rfl (wpAny_bind (wpAny_updateSeq_pair o2 fun g3 o3 s3=>wpAny_bind (wpAny_letGo (wpAny_pure ?_)))));have o3:IsPair g3 aB x b:=o3;have e3:∀ c o,c≠z->c≠i1->c≠aB->s.heap.get? c=some o->g3.get? c=some o:=fun c o c1 c2 c3 e=>s3.extBut _ _ c3 (s2.extBut _ _ c2 (s1.extBut _ _ c1 e));refine wpAny_bind (wpAny_bind (wpAny_onRaise (show wpAny _ _ (Builtin.SmallTypes.nextOf (.ref i2) >>= _) _ _ _ from wpAny_bind (Bp (h2.to fun o e=>e3 _ o d4 (Ne.symm d10) (Ne.symm d9) e) (r2.to fun o e=>e3 _ o n2.1 n2.2.2.1 n2.2.1 e) hy fun g4 t4 s4=>wpAny_pure ?_))));have o4:IsPair g4 aB x b:=s4.extBut _ _ d9 o3;refine wpAny_bind (wpAny_seqItems o4 rfl (wpAny_bind (wpAny_updateSeq_pair o4 fun g5 o5 s5=>wpAny_bind (wpAny_letGo (wpAny_pure (wpAny_pure ?_))))));have o5:IsPair g5 aB x y:=o5;have sz:g5.objs.size=s.heap.objs.size:=by rw [s5.1,s4.1,s3.1,s2.1,s1.1]
 have z5:IsZip g5 z ti aB .ellipsis:=s5.extBut _ _ (Ne.symm d2) (s4.extBut _ _ (Ne.symm d4) (s3.extBut _ _ (Ne.symm d2) (s2.extBut _ _ (Ne.symm d3) z1)));have t5:Ax k1 g5 i1 a1 (j1+1):=t2.to fun o e=>s5.extBut _ _ (Ne.symm d8) (s4.extBut _ _ d10 (s3.extBut _ _ (Ne.symm d8) e));have u5:Ax k2 g5 i2 a2 (j2+1):=t4.to fun o e=>s5.extBut _ _ (Ne.symm d9) e;refine wpAny_bind (wpAny_seqItems o5 rfl (wpAny_bind (wpAny_newTuple ?_)));refine (show wpAny _ _ (Builtin.SmallTypes.ownedTupleHandOut (.ref z) (.ref g5.objs.size) >>= _) _ _ _ from wpAny_bind ?_);unfold Builtin.SmallTypes.ownedTupleHandOut;have z6:IsZip (g5.push { cls:=.type "tuple",data:=.seq #[x,y] }) z ti aB .ellipsis:=Heap.get?_push_of_some _ z5;refine wpAny_bind (wpAny_setField_rec z6 (by simp) fun g7 z7 s7=>?_);have z7:IsZip g7 z ti aB (rawInt g5.objs.size):=z7;refine wpAny_setField_rec z7 (by simp) fun g8 z8 s8=>wpAny_pure ⟨_,rfl,?_⟩;have z8:IsZip g8 z ti aB (rawInt g5.objs.size):=z8;have e8:∀ c o,c≠z->g5.get? c=some o->g8.get? c=some o:=fun c o c1 e=>s8.extBut _ _ c1 (s7.extBut _ _ c1 (Heap.get?_push_of_some _ e));have p8:IsPair g8 g5.objs.size x y:=s8.extBut _ _ (Nat.ne_of_gt (Heap.lt_size z5)) (s7.extBut _ _ (Nat.ne_of_gt (Heap.lt_size z5)) (Heap.get?_push_size _ rfl));have all:∀ c o,c≠z->c≠aB->c≠i1->c≠i2->s.heap.get? c=some o->g8.get? c=some o:=fun c o c1 c2 c3 c4 e=>e8 c o c1 (s5.extBut _ _ c2 (s4.extBut _ _ c4 (e3 c o c1 c3 c2 e)));rw [sz] at z8 p8;show Q (.ref g5.objs.size) _;rw [sz];exact q g8 ⟨z8,all _ _ d1 d5 d6 d7 hI,x,y,e8 _ _ d2 o5⟩ (t5.to fun o e=>e8 _ o d3 e) (u5.to fun o e=>e8 _ o d4 e) p8 all
theorem a0e {k1 k2:Bool} {z ti aB i1 i2 a1 a2:Addr} {j1 j2:Nat} {xs ys:Array Value} {Q:PySem.Fin->Shared->Prop} (hh:A.handled=none) (D:Far z ti aB i1 i2) (Z:Im s.heap z ti aB i1 i2 .none)
  (h1:Ax k1 s.heap i1 a1 j1) (h2:Ax k2 s.heap i2 a2 j2) (r1:n8 k1 s.heap a1 xs) (r2:n8 k2 s.heap a2 ys) (n2:a2≠z/\a2≠aB/\a2≠i1/\a2≠i2) (n1:a1≠z) (cx:xs[j1]? = none\/ys[j2]? = none)
  (q:∀ h' e,O7 z aB i1 i2 s.heap h'->(∃ o,h'.get? e=some o/\o.cls=.type "StopIteration")->E (.ref e) { s with heap:=h' }) :
  wpAny (model prog w) A (Builtin.«zip.__next__» ⟨[.ref z],[]⟩) Q E s:=by
 obtain ⟨hz,hI,a,b,hO⟩:=Z;obtain ⟨d1,d2,d3,d4,d5,d6,d7,d8,d9,d10⟩:=D.all;refine (show wpAny _ _ (field (.ref z) 2 >>= _) _ _ _ from wpAny_bind (wpAny_field hz rfl (x:=.bool false) rfl ?_));refine (show wpAny _ _ (field (.ref z) 3 >>= _) _ _ _ from wpAny_bind (wpAny_field hz rfl (x:=.ref ti) rfl (wpAny_bind (wpAny_seqItems hI rfl ?_))));refine (show wpAny _ _ (Builtin.SmallTypes.ownedTupleIsFree (.ref z) >>= _) _ _ _ from wpAny_bind ?_);unfold Builtin.SmallTypes.ownedTupleIsFree;refine wpAny_bind (wpAny_field hz rfl (x:=.none) rfl (wpAny_pure ?_));dsimp only;rw [if_pos rfl];refine wpAny_bind (wpAny_rule (wpAny_bind (wpAny_field hz rfl (x:=.ref aB) rfl (wpAny_bind (wpAny_setField_rec hz (by simp) fun g1 z1 s1=>wpAny_bind ?_)))));have z1:IsZip g1 z ti aB .ellipsis:=z1;simp only [List.zipIdx_cons,List.zipIdx_nil,List.forIn_cons,List.forIn_nil]
 have fin:∀ (g:Heap) (e:Addr) (zg:IsZip g z ti aB .ellipsis) (he:∃ o,g.get? e=some o/\o.cls=.type "StopIteration") (kg:O7 z aB i1 i2 s.heap g),wpAny (model prog w) A (setField (.ref z) 0 .none) (fun _ s'=>E (.ref e) s') E { s with heap:=g }:=fun g e zg ⟨o,ho,hc⟩ kg=>by
  have ne:e≠z:=fun x=>by subst x; rw [zg] at ho; cases ho; simp at hc
  exact wpAny_setField_rec zg (by simp) fun g' _ s'=>q g' e (fun c o c1 c2 c3 c4 x=>s'.extBut _ _ c1 (kg c o c1 c2 c3 c4 x)) ⟨o,s'.extBut _ _ ne ho,hc⟩
 cases hx:xs[j1]? with
 | none =>
  refine wpAny_bind (wpAny_bind (wpAny_onRaise (show wpAny _ _ (Builtin.SmallTypes.nextOf (.ref i1) >>= _) _ _ _ from wpAny_bind (w6 hh (h1.to fun o e=>s1.extBut _ _ d3 e) (r1.to fun o e=>s1.extBut _ _ n1 e) hx fun g2 e s2 he=>?_))));exact fin g2 e (s2 _ _ (Ne.symm d3) z1) he fun c o c1 _ c3 _ x=>s2 _ _ c3 (s1.extBut _ _ c1 x)
 | some x =>
  have hy:ys[j2]? = none:=cx.resolve_left fun h=>by rw [hx] at h; cases h
  refine wpAny_bind (wpAny_bind (wpAny_onRaise (show wpAny _ _ (Builtin.SmallTypes.nextOf (.ref i1) >>= _) _ _ _ from wpAny_bind (Bp (h1.to fun o e=>s1.extBut _ _ d3 e) (r1.to fun o e=>s1.extBut _ _ n1 e) hx fun g2 t2 s2=>wpAny_pure ?_))));have o2:IsPair g2 aB a b:=s2.extBut _ _ d8 (s1.extBut _ _ d2 hO);refine wpAny_bind (wpAny_seqItems o2 rfl (wpAny_bind (wpAny_updateSeq_pair o2 fun g3 o3 s3=>wpAny_bind (wpAny_letGo (wpAny_pure ?_)))));have e3:∀ c o,c≠z->c≠i1->c≠aB->s.heap.get? c=some o->g3.get? c=some o:=fun c o c1 c2 c3 e=>s3.extBut _ _ c3 (s2.extBut _ _ c2 (s1.extBut _ _ c1 e));refine wpAny_bind (wpAny_bind (wpAny_onRaise (show wpAny _ _ (Builtin.SmallTypes.nextOf (.ref i2) >>= _) _ _ _ from wpAny_bind (w6 hh (h2.to fun o e=>e3 _ o d4 (Ne.symm d10) (Ne.symm d9) e) (r2.to fun o e=>e3 _ o n2.1 n2.2.2.1 n2.2.1 e) hy fun g4 e s4 he=>?_))));exact fin g4 e (s4 _ _ (Ne.symm d4) (s3.extBut _ _ (Ne.symm d2) (s2.extBut _ _ (Ne.symm d3) z1))) he fun c o c1 c2 c3 c4 x=>s4 _ _ c4 (e3 c o c1 c3 c2 x)
theorem a0z {k1 k2:Bool} {z ti aB i1 i2 a1 a2:Addr} {j1 j2:Nat} {xs ys:Array Value} {x y:Value} {Q:Option Value->Shared->Prop} (D:Far z ti aB i1 i2) (Z:Im s.heap z ti aB i1 i2 .none)
  (h1:Ax k1 s.heap i1 a1 j1) (h2:Ax k2 s.heap i2 a2 j2) (r1:n8 k1 s.heap a1 xs) (r2:n8 k2 s.heap a2 ys) (n2:a2≠z/\a2≠aB/\a2≠i1/\a2≠i2) (n1:a1≠z) (hx:xs[j1]? = some x) (hy:ys[j2]? = some y)
  (q:∀ h',Im h' z ti aB i1 i2 (rawInt s.heap.objs.size)->Ax k1 h' i1 a1 (j1+1)->Ax k2 h' i2 a2 (j2+1)->IsPair h' s.heap.objs.size x y->O7 z aB i1 i2 s.heap h'->Q (some (.ref s.heap.objs.size)) { s with heap:=h' }) :
  wpAny (model prog w) A (pyNext (.ref z)) Q E s:=by
 have ty:s.TypeIs (.ref z) "zip" := ⟨_,Z.zip,rfl⟩;unfold pyNext
 exact wpAny_bind (wpAny_attempt (wpAny_callSpecial?_slot (name:=Str.ofString "__next__") ty F.slot_zip_next (wpAny_call_entry F.slot_zip_next ty F.entry_zip_next
  (Zb D Z h1 h2 r1 r2 n2 n1 hx hy fun h' a b c d e=>wpAny_pure (q h' a b c d e)) (F.args_zip_next_1 _))))
theorem a0j {k1 k2:Bool} {z ti aB i1 i2 a1 a2:Addr} {j1 j2:Nat} {xs ys:Array Value} {Q:Option Value->Shared->Prop} (hh:A.handled=none) (D:Far z ti aB i1 i2) (Z:Im s.heap z ti aB i1 i2 .none)
  (h1:Ax k1 s.heap i1 a1 j1) (h2:Ax k2 s.heap i2 a2 j2) (r1:n8 k1 s.heap a1 xs) (r2:n8 k2 s.heap a2 ys) (n2:a2≠z/\a2≠aB/\a2≠i1/\a2≠i2) (n1:a1≠z) (cx:xs[j1]? = none\/ys[j2]? = none)
  (q:∀ h',O7 z aB i1 i2 s.heap h'->Q none { s with heap:=h' }):wpAny (model prog w) A (pyNext (.ref z)) Q E s:=by
 have ty:s.TypeIs (.ref z) "zip" := ⟨_,Z.zip,rfl⟩;unfold pyNext
 refine wpAny_bind (wpAny_attempt (wpAny_callSpecial?_slot (name:=Str.ofString "__next__") ty F.slot_zip_next (wpAny_call_entry F.slot_zip_next ty F.entry_zip_next
  (a0e hh D Z h1 h2 r1 r2 n2 n1 cx fun h' e kp he=>?_) (F.args_zip_next_1 _))))
 obtain ⟨o,ho,hc⟩:=he;exact wpAny_bind (wpAny_isInstance (T := "StopIteration") (b:=true) ⟨o,ho,hc⟩ isSubtype_stop (wpAny_pure (q _ kp)))
end
abbrev Vn (k:Bool) (a:Addr):Obj:={ cls:=.type (if k then "list_iterator" else "tuple_iterator"),data:=.fields #[.ref a,.int 0 0] }
abbrev zh1 (h:Heap) (k1:Bool) (a1:Addr):Heap:=h.push (Vn k1 a1)
abbrev zh2 (h:Heap) (k1 k2:Bool) (a1 a2:Addr):Heap:=(zh1 h k1 a1).push (Vn k2 a2)
abbrev zh3 (h:Heap) (k1 k2:Bool) (a1 a2:Addr):Heap:=(zh2 h k1 k2 a1 a2).push { cls:=.type "tuple",data:=.seq #[.ref h.objs.size,.ref (zh1 h k1 a1).objs.size] }
abbrev zh4 (h:Heap) (k1 k2:Bool) (a1 a2:Addr):Heap:=(zh3 h k1 k2 a1 a2).push { cls:=.type "tuple",data:=.seq #[.none,.none] }
abbrev zh5 (h:Heap) (k1 k2:Bool) (a1 a2:Addr):Heap:=(zh4 h k1 k2 a1 a2).push { cls:=.type "zip",data:=.fields #[.none,.bool false,.bool false,.ref (zh2 h k1 k2 a1 a2).objs.size,.ref (zh3 h k1 k2 a1 a2).objs.size] }
set_option maxHeartbeats 4000000 in
theorem O8 (a1 a2:Addr) (xs ys:Array Value):Meets (Builtin.«zip.__new__» ⟨[.type "zip",.ref a1,.ref a2],[]⟩) (fun _ R s=>s.heap.IsTuple a1 xs/\s.heap.IsTuple a2 ys /\
   R (.ok (.ret (.ref (zh4 s.heap false false a1 a2).objs.size))) { s with heap:=zh5 s.heap false false a1 a2 }) :=
 .of_wp fun prog w A R s z9=>by
  obtain ⟨r1,r2,fin⟩:=z9;obtain ⟨hp,g,d,tk,os⟩:=s;have eB:=sub_zip;have q1:Heap.IsTuple (Shared.heap ⟨hp,g,d,tk,os⟩) a1 xs:=r1;have q2:Heap.IsTuple (Shared.heap ⟨hp.push { cls:=.type "tuple_iterator",data:=.fields #[.ref a1,.int 0 0] },g,d,tk,os⟩) a2 ys:=Heap.IsTuple.push r2 _
  wp_walk using wpAny_pyIter_tuple q1,wpAny_pyIter_tuple q2
  exact ⟨_,rfl,fin⟩
set_option maxHeartbeats 4000000 in
theorem Oa (a1 a2:Addr) (xs ys:Array Value):Meets (Builtin.«zip.__new__» ⟨[.type "zip",.ref a1,.ref a2],[]⟩) (fun _ R s=>s.heap.IsTuple a1 xs/\s.heap.IsList a2 ys /\
   R (.ok (.ret (.ref (zh4 s.heap false true a1 a2).objs.size))) { s with heap:=zh5 s.heap false true a1 a2 }) :=
 .of_wp fun prog w A R s z9=>by
  obtain ⟨r1,r2,fin⟩:=z9;obtain ⟨hp,g,d,tk,os⟩:=s;have eB:=sub_zip;have q1:Heap.IsTuple (Shared.heap ⟨hp,g,d,tk,os⟩) a1 xs:=r1;have q2:Heap.IsList (Shared.heap ⟨hp.push { cls:=.type "tuple_iterator",data:=.fields #[.ref a1,.int 0 0] },g,d,tk,os⟩) a2 ys:=Heap.IsList.push r2 _
  wp_walk using wpAny_pyIter_tuple q1,wpAny_pyIter_list q2
  exact ⟨_,rfl,fin⟩
set_option maxHeartbeats 4000000 in
theorem Ot (a1 a2:Addr) (xs ys:Array Value):Meets (Builtin.«zip.__new__» ⟨[.type "zip",.ref a1,.ref a2],[]⟩) (fun _ R s=>s.heap.IsList a1 xs/\s.heap.IsTuple a2 ys /\
   R (.ok (.ret (.ref (zh4 s.heap true false a1 a2).objs.size))) { s with heap:=zh5 s.heap true false a1 a2 }) :=
 .of_wp fun prog w A R s z9=>by
  obtain ⟨r1,r2,fin⟩:=z9;obtain ⟨hp,g,d,tk,os⟩:=s;have eB:=sub_zip;have q1:Heap.IsList (Shared.heap ⟨hp,g,d,tk,os⟩) a1 xs:=r1;have q2:Heap.IsTuple (Shared.heap ⟨hp.push { cls:=.type "list_iterator",data:=.fields #[.ref a1,.int 0 0] },g,d,tk,os⟩) a2 ys:=Heap.IsTuple.push r2 _
  wp_walk using wpAny_pyIter_list q1,wpAny_pyIter_tuple q2
  exact ⟨_,rfl,fin⟩
set_option maxHeartbeats 4000000 in
theorem Ny (a1 a2:Addr) (xs ys:Array Value):Meets (Builtin.«zip.__new__» ⟨[.type "zip",.ref a1,.ref a2],[]⟩) (fun _ R s=>s.heap.IsList a1 xs/\s.heap.IsList a2 ys /\
   R (.ok (.ret (.ref (zh4 s.heap true true a1 a2).objs.size))) { s with heap:=zh5 s.heap true true a1 a2 }) :=
 .of_wp fun prog w A R s z9=>by
  obtain ⟨r1,r2,fin⟩:=z9;obtain ⟨hp,g,d,tk,os⟩:=s;have eB:=sub_zip;have q1:Heap.IsList (Shared.heap ⟨hp,g,d,tk,os⟩) a1 xs:=r1;have q2:Heap.IsList (Shared.heap ⟨hp.push { cls:=.type "list_iterator",data:=.fields #[.ref a1,.int 0 0] },g,d,tk,os⟩) a2 ys:=Heap.IsList.push r2 _
  wp_walk using wpAny_pyIter_list q1,wpAny_pyIter_list q2
  exact ⟨_,rfl,fin⟩
theorem Zg (k1 k2:Bool) (a1 a2:Addr) (xs ys:Array Value):Meets (Builtin.«zip.__new__» ⟨[.type "zip",.ref a1,.ref a2],[]⟩) (fun _ R s=>n8 k1 s.heap a1 xs/\n8 k2 s.heap a2 ys /\
   R (.ok (.ret (.ref (zh4 s.heap k1 k2 a1 a2).objs.size))) { s with heap:=zh5 s.heap k1 k2 a1 a2 }):=by
 cases k1 <;> cases k2
 ·exact O8 a1 a2 xs ys
 ·exact Oa a1 a2 xs ys
 ·exact Ot a1 a2 xs ys
 ·exact Ny a1 a2 xs ys
theorem Ql {k:Bool} {h:Heap} {p a:Addr} (e:h.get? p=some (Vn k a)):Ax k h p a 0:=by
 cases k <;> exact ⟨_,e,rfl,rfl⟩
section
variable {prog:Program} {w:World} {A:Around} {E:Value->Shared->Prop} {s:Shared}
theorem Zm {k1 k2:Bool} {a1 a2:Addr} {xs ys:Array Value} {Q:Value->Shared->Prop} (r1:n8 k1 s.heap a1 xs) (r2:n8 k2 s.heap a2 ys)
  (q:∀ h',Im h' (s.heap.objs.size+4) (s.heap.objs.size+2) (s.heap.objs.size+3) s.heap.objs.size (s.heap.objs.size+1) .none->Ax k1 h' s.heap.objs.size a1 0->Ax k2 h' (s.heap.objs.size+1) a2 0 ->
   (∀ c o,s.heap.get? c=some o->h'.get? c=some o)->Q (.ref (s.heap.objs.size+4)) { s with heap:=h' }):wpAny (model prog w) A (call (.type "zip") [.ref a1,.ref a2]) Q E s:=by
 refine callType_new F.called_zip (by decide) (F.typeCall_zip_2 _ _) (F.newCall_zip_2 _ _) (fun obj=>F.args_object_init_3 obj _ _) F.entry_zip_new (Zg k1 k2 a1 a2 xs ys) ⟨r1,r2,?_⟩;have y1:(zh1 s.heap k1 a1).objs.size=s.heap.objs.size+1:=Heap.size_push ..;have y2:(zh2 s.heap k1 k2 a1 a2).objs.size=s.heap.objs.size+2:=by rw [Heap.size_push,y1]
 have y3:(zh3 s.heap k1 k2 a1 a2).objs.size=s.heap.objs.size+3:=by rw [Heap.size_push,y2]
 have y4:(zh4 s.heap k1 k2 a1 a2).objs.size=s.heap.objs.size+4:=by rw [Heap.size_push,y3]
 have up:∀ {h:Heap} {o:Obj} {c:Addr} {u:Obj},h.get? c=some u->(h.push o).get? c=some u:=fun e=>Heap.get?_push_of_some _ e;have g5:(zh5 s.heap k1 k2 a1 a2).get? (zh4 s.heap k1 k2 a1 a2).objs.size=some _:=Heap.get?_push_size _ rfl;have g4:(zh5 s.heap k1 k2 a1 a2).get? (zh3 s.heap k1 k2 a1 a2).objs.size=some _:=up (Heap.get?_push_size _ rfl);have g3:(zh5 s.heap k1 k2 a1 a2).get? (zh2 s.heap k1 k2 a1 a2).objs.size=some _:=up (up (Heap.get?_push_size _ rfl));have g2:(zh5 s.heap k1 k2 a1 a2).get? (zh1 s.heap k1 a1).objs.size=some (Vn k2 a2):=up (up (up (Heap.get?_push_size _ rfl)));have g1:(zh5 s.heap k1 k2 a1 a2).get? s.heap.objs.size=some (Vn k1 a1):=up (up (up (up (Heap.get?_push_size _ rfl))));show _/\_;rw [y2,y3,y4] at g5;rw [y1,y2] at g3;rw [y3] at g4;rw [y1] at g2;rw [y4];exact ⟨⟨_,g5,rfl⟩,q _ ⟨g5,g3,_,_,g4⟩ (Ql g1) (Ql g2) fun c o x=>up (up (up (up (up x))))⟩
end
end C
end
section
namespace C
open PySem PySem.Spec PyProof.Rows L2
theorem Inv.Wf {X:Cx} {pins:List (Addr × Obj)} {σ:L2.St} {H:Hp} {s:Shared} {h':Heap} {t':Nat} {ch:List Addr} {n:Addr} {o:HO} (I:L2.Inv X pins σ H s) (bS:∀ b∈ch,Nk X pins H b)
  (k:∀ b u,b∉ch->s.heap.get? b=some u->h'.get? b=some u) (hp:s.heap.objs.size<=n) (new:jy X.prog X.w (upd H n o) h' n o):L2.Inv X pins σ (upd H n o) { s with heap:=h',toks:=t' }:=by
 have fr:=I.hok.fresh hp;have nn:∀ b u,s.heap.get? b=some u->b≠n:=fun b u e=>Nat.ne_of_lt (Nat.lt_of_lt_of_le (Heap.lt_size e) hp);have dr:∀ b u,H b=some u->b∉ch:=fun b u e z=>by rw [(bS b z).1] at e; cases e
 refine I.step (g':=s.gens) (d':=s.drawn) (ch:=ch) (fun b hb=>?_) (fun b u _ _ hc e _=>k b u hc e) (fun b u _ _ hc e _=>⟨u.slots,k b u hc e⟩) (fun b u _ e z=>by rw [c7 (nn b u e)]; exact z)
  (fun b u hc e=>⟨u,k b u hc e⟩) (fun b xs e=>by rw [c7 (jh e fr)]; exact e) (fun b u xs e=>by rw [c7 (jh e fr)]; exact e) (fun b ps e=>⟨#[],by rw [c7 (jh e fr),e]; simp⟩) (fun m hm=>?_) (fun b u e=>?_) I.bare
 ·obtain ⟨f0,f1,f2,f3,f4,f5⟩:=bS b hb;exact ⟨f3,f1,f4,f5⟩
 ·obtain ⟨ob,es,ep,ho,r⟩:=hm;exact ⟨ob,es,ep,k _ ob (fun z=>(bS _ z).2.1 rfl) ho,r⟩
 ·by_cases hb:b=n
  ·subst hb; rw [bw] at e; cases e; exact new
  ·rw [c7 hb] at e;refine (I.hok b u e).stay (fun c v hc q=>k c v ?_ q) (fun c q=>by rw [c7 (jh q fr)]; exact q) fun c xs q=>by rw [c7 (jh q fr)]; exact q
   rcases hc with rfl | hc
   ·exact dr _ _ e
   ·exact dr _ _ hc
theorem Inv.a5c {X:Cx} {pins:List (Addr × Obj)} {σ:L2.St} {H:Hp} {s:Shared} {h':Heap} {t':Nat} {ch:List Addr} (I:L2.Inv X pins σ H s) (bS:∀ b∈ch,Nk X pins H b)
  (k:∀ b u,b∉ch->s.heap.get? b=some u->h'.get? b=some u):L2.Inv X pins σ H { s with heap:=h',toks:=t' }:=by
 have dr:∀ b u,H b=some u->b∉ch:=fun b u e z=>by rw [(bS b z).1] at e; cases e
 refine I.step (g':=s.gens) (d':=s.drawn) (ch:=ch) (fun b hb=>?_) (fun b u _ _ hc e _=>k b u hc e) (fun b u _ _ hc e _=>⟨u.slots,k b u hc e⟩) (fun b u _ e z=>z)
  (fun b u hc e=>⟨u,k b u hc e⟩) (fun b xs e=>e) (fun b u xs e=>e) (fun b ps e=>⟨#[],by rw [e]; simp⟩) (fun m hm=>?_) (fun b u e=>?_) I.bare
 ·obtain ⟨f0,f1,f2,f3,f4,f5⟩:=bS b hb;exact ⟨f3,f1,f4,f5⟩
 ·obtain ⟨ob,es,ep,ho,r⟩:=hm;exact ⟨ob,es,ep,k _ ob (fun z=>(bS _ z).2.1 rfl) ho,r⟩
 ·refine (I.hok b u e).stay (fun c v hc q=>k c v ?_ q) (fun c q=>q) fun c xs q=>q;rcases hc with rfl | hc
  ·exact dr _ _ e
  ·exact dr _ _ hc
def Sq:Bool->PySem.W.Frag->Hp->Addr->List V->Prop
 | true,K,H,a,xs=>SqL K H a xs
 | false,K,H,a,xs=>SqT K H a xs
section
variable {X:Cx} {pins:List (Addr × Obj)} {σ:L2.St} {H:Hp} {s:Shared} {a:Addr} {xs ys:List V} {k:Bool}
theorem Sq.row (I:L2.Inv X pins σ H s) (h:Sq k X.K H a xs):∃ its:List Value,Vals xs its/\n8 k s.heap a its.toArray:=by
 cases k with
 | true=>obtain ⟨its,r,p,_⟩:=I.list h; exact ⟨its,r,p.isList⟩
 | false=>obtain ⟨its,r,p,_⟩:=I.tuple h; exact ⟨its,r,p⟩
theorem Sq.far (I:L2.Inv X pins σ H s) {b:Addr} (h:Sq k X.K H a xs) (f:Nk X pins H b):a≠b:=by
 have held:∀ o,X.K.lookup a=some o->a≠b:=fun o e z=>by
  subst z;have eb:=I.mod.kin a o e;rcases f.2.2.2.1 with q | q
  ·exact I.ok.noex a o eb q
  ·exact absurd (Nat.lt_of_lt_of_le (Heap.lt_size (I.ok.bs a o eb).1) q) (Nat.lt_irrefl _)
 have there:∀ u,Rd H a u->a≠b:=fun u e z=>by
  subst z;rcases e with e | ⟨o,e⟩ <;> rw [f.1] at e <;> cases e
 cases k with
 | true =>
  rcases h with h | ⟨o,_,_,e,_⟩
  ·exact there _ h
  ·exact held o e
 | false =>
  rcases h with h | ⟨o,_,_,e,_⟩
  ·exact there _ h
  ·exact held o e
end
theorem a4c (n:Nat):Far (n+4) (n+2) (n+3) n (n+1):=⟨by
 have h1:n+4≠n+2:=by omega
 have h2:n+4≠n+3:=by omega
 have h3:n+4≠n:=by omega
 have h4:n+4≠n+1:=by omega
 have h5:n+2≠n+3:=by omega
 have h6:n+2≠n:=by omega
 have h7:n+2≠n+1:=by omega
 have h8:n+3≠n:=by omega
 have h9:n+3≠n+1:=by omega
 have h10:n≠n+1:=by omega
 exact List.nodup_cons.mpr ⟨by simp only [List.mem_cons,List.not_mem_nil,or_false,not_or]; exact ⟨h1,h2,h3,h4⟩,List.nodup_cons.mpr ⟨by simp only [List.mem_cons,List.not_mem_nil,or_false,not_or]; exact ⟨h5,h6,h7⟩,List.nodup_cons.mpr ⟨by simp only [List.mem_cons,List.not_mem_nil,or_false,not_or]; exact ⟨h8,h9⟩,List.nodup_cons.mpr ⟨by simp only [List.mem_cons,List.not_mem_nil,or_false]; exact h10,List.nodup_cons.mpr ⟨by simp,.nil⟩⟩⟩⟩⟩⟩
section
variable {X:Cx} {B:Bas} {a b:Expr} {m m1 m2:M T} {pos p:Pos} {elts:List Expr} {x1:Nat} {a8:Pos}
theorem Uh {K:PySem.W.Frag} {S:Hp} {as:List Addr} {v:V} {t:T} {xs:List T} (r:Rep K S as v t) (e:K7 t=some xs):∃ k a vs,v=.ref a/\Sq k K S a vs/\jg K S as vs xs/\(k=true/\t=.lst xs\/k=false/\t=.tup xs):=by
 cases r with
 | @lst a vs ts g1 g2=>simp only [K7] at e; cases e; exact ⟨true,a,vs,rfl,g1,g2,.inl ⟨rfl,rfl⟩⟩
 | @tup a vs ts g1 g2=>simp only [K7] at e; cases e; exact ⟨false,a,vs,rfl,g1,g2,.inr ⟨rfl,rfl⟩⟩
 | _=>simp only [K7,reduceCtorEq] at e
theorem Sq.mono {k:Bool} {K:PySem.W.Frag} {S H:Hp} {a:Addr} {vs:List V} (e:Same S H) (h:Sq k K S a vs):Sq k K H a vs:=by
 cases k with
 | true=>exact iz e h
 | false=>exact j4 e h
end
section
variable {X:Cx}
variable {B:Bas} {o e:Expr} {m1 m2:M T} {apos aL:Pos}
end
theorem a1x (n d:Nat) (o:Option Int):sIx n d o=HT.sIx n d o:=by cases o <;> rfl
inductive oOf (K:PySem.W.Frag) (B:Bas) (m:M (Option Int)) (σ:L2.St) (H:Hp) (Q:Option Int->Hp->Prop):Prop
 | mk (st:Sta) (ps:List (V × T)) (S:Hp) (as:List Addr) (R:Rel K B st σ H ps S as) (o:Option Int) (ae:Sta) (e:m st=some (o,ae)) (q:∀ H' S' ag,Rel K B ae σ H' ps S' ag->Q o H')
section
variable {X:Cx} {B:Bas} {a e:Expr} {m:M T} {ml mh:M (Option Int)} {lo hi:Option Expr} {pos p2:Pos}
theorem Wy:PO X none (oOf X.K B Ul):=fun pins s σ H Q I ⟨st,ps,S,as,R,o,ae,e,q⟩=>a4u pins s σ H Q I (by cases e; exact q H S as R)
theorem Ua (h:PE X e (tOf X.K B m)):PO X (some e) (oOf X.K B (Tz m)):=fun pins s σ H Q I z9=>a5o h pins s σ H Q I (by
 obtain ⟨st,ps,S,as,R,o,ae,eo,q⟩:=z9;unfold Tz at eo;split at eo
 ·rename_i i s1 e1;cases eo;refine ⟨st,ps,S,as,R,.int i,_,e1,fun v H1 S1 aC R1=>?_⟩;cases R1.top;exact ⟨i,rfl,q H1 S1 aC R1.drop⟩
 ·cases eo)
theorem jg.takes {K:PySem.W.Frag} {S:Hp} {as:List Addr}:∀ (n:Nat) {vs:List V} {ts:List T},jg K S as vs ts->jg K S as (vs.take n) (ts.take n)
 | 0,_,_,_=>.nil
 | _+1,_,_,.nil=>.nil
 | n+1,_,_,.cons h r=>.cons h (jg.takes n r)
theorem Zk {K:PySem.W.Frag} {S:Hp} {as:List Addr} {vs:List V} {ts:List T} (r:jg K S as vs ts) (lo hi:Option Int):jg K S as (Za vs lo hi) (a9z ts lo hi):=by
 unfold Za a9z;rw [a1x,a1x,r.length];exact jg.takes _ (r.drop _)
end
section
variable {prog:Program} {w:World} {A:Around} {E:Value->Shared->Prop} {s:Shared}
theorem Mj {sl:Addr} {t:Tok} {n:Nat} {Q:Int × Int × Nat->Shared->Prop} (hs:s.heap.IsSliceOf sl .none .none (.int (-1) t)) (h:Q ((n:Int) - 1,-1,n) s):wpAny (model prog w) A (Builtin.Slice.sliceApplied (.ref sl) (pure (n:Int))) Q E s:=by
 obtain ⟨os,g1,g2,g3⟩:=id hs
 have ea:Builtin.Slice.sliceAdjust none none (-1) (n:Int)=((n:Int) - 1,-1):=by
  unfold Builtin.Slice.sliceAdjust;simp
 have en:Builtin.Slice.slicePlaces ((n:Int) - 1) (-1) (-1)=n:=by
  unfold Builtin.Slice.slicePlaces;have h1:¬ ((-1:Int) > 0):=by decide
  rw [if_neg h1];split
  ·first
   | (simp; done)
   | (simp; omega)
  ·omega
 unfold Builtin.Slice.sliceApplied Builtin.Slice.sliceFields;refine wpAny_bind (wpAny_bind (wpAny_field g1 g3 (x:=.none) rfl (wpAny_bind (wpAny_field g1 g3 (x:=.none) rfl (wpAny_bind (wpAny_field g1 g3 (x:=.int (-1) t) rfl (wpAny_pure ?_)))))));refine wpAny_bind (HT.zj (.int (-1) t) ?_);refine (show wpAny _ _ (if ((-1:Int)==0)=true then _ else _) _ _ s from ?_);rw [if_neg (by decide)];refine wpAny_bind (HT.zj .none (wpAny_bind (HT.zj .none (wpAny_bind (wpAny_pure ?_)))));refine (show wpAny _ _ (match Builtin.Slice.sliceAdjust none none (-1) (n:Int) with | (lo,hi)=>pure (lo,(-1:Int),Builtin.Slice.slicePlaces lo hi (-1))) _ _ s from ?_);rw [ea];refine (show wpAny _ _ (pure ((n:Int) - 1,(-1:Int),Builtin.Slice.slicePlaces ((n:Int) - 1) (-1) (-1))) _ _ s from ?_);rw [en];exact wpAny_pure h
theorem a8t {α β:Type} {f g:α->Option β}:∀ {l:List α},(∀ a∈l,f a=g a)->l.filterMap f=l.filterMap g
 | [],_=>rfl
 | a::l,h=>by rw [List.filterMap_cons,List.filterMap_cons,h a List.mem_cons_self,a8t fun b hb=>h b (List.mem_cons_of_mem _ hb)]
theorem Wg (xs:Array Value):((List.range xs.size).filterMap fun (m:Nat)=>xs[(((xs.size:Nat):Int) - 1+(m:Int) * (-1)).toNat]?)=xs.toList.reverse:=by
 have e:∀ m∈List.range xs.size,xs[(((xs.size:Nat):Int) - 1+(m:Int) * (-1)).toNat]? = some (xs.toList.reverse.getD m .none):=fun m hm=>by
  have hm:=List.mem_range.mp hm;have e1:(((xs.size:Nat):Int) - 1+(m:Int) * (-1)).toNat=xs.size - 1 - m:=by omega
  rw [e1,List.getD_eq_getElem?_getD,List.getElem?_reverse (by rw [Array.length_toList]; exact hm),Array.getElem?_toList,Array.length_toList,Array.getElem?_eq_getElem (by omega)];rfl
 rw [a8t e];rw [show (fun (x:Nat)=>some (xs.toList.reverse.getD x Value.none))=some ∘ fun x=>xs.toList.reverse.getD x .none from rfl,List.filterMap_eq_map];apply List.ext_getElem
 ·simp
 ·intro i h1 h2;simp [List.getD_eq_getElem?_getD,List.getElem?_eq_getElem h2]
theorem Rc {t sl:Addr} {k:Tok} {items:Array Value} {Q:Value->Shared->Prop} (ht:IsTup s.heap t items) (hs:s.heap.IsSliceOf sl .none .none (.int (-1) k))
  (h:Q (.ref s.heap.objs.size) { s with heap:=s.heap.push { cls:=.type "tuple",data:=.seq items.toList.reverse.toArray } }) (bE:items.size<=sizeLine):wpAny (model prog w) A (getItem (.ref t) (.ref sl)) Q E s:=by
 have hz:sizeOk (.seq items.toList.reverse.toArray):=by
  show items.toList.reverse.toArray.size<=sizeLine;rw [List.size_toArray,List.length_reverse,Array.length_toList]; exact bE
 obtain ⟨os,g1,g2,g3⟩:=id hs;have ty:s.TypeIs (.ref sl) "slice" := ⟨os,g1,g2⟩;unfold getItem
 try with_reducible refine wpAny_holding ?_
 first | refine wpAny_bind (wpAny_pure ?_) | skip
 refine wpAny_bind (wpAny_sequenceKey ht.typeIs (by decide) (wpAny_bind (wpAny_callSpecial?_slot (name:=Str.ofString "__getitem__") ht.typeIs PyProof.Rows.slot_tuple_getitem
  (wpAny_call_entry PyProof.Rows.slot_tuple_getitem ht.typeIs entry_tuple_getitem ?_ (args_tuple_getitem _ _)))))
 refine (show wpAny _ _ (Builtin.Tuple.tupleItemsOf (.ref t) >>= _) _ _ s from wpAny_bind (tupleItemsOf_ ht (wpAny_bind (wpAny_typeOf ty ?_))));rw [if_pos (by decide)];refine wpAny_bind (Mj hs ?_);refine (show wpAny _ _ (if ((((items.size:Nat):Int) - 1)==0&&(-1:Int)==1&&items.size==items.size)=true then _ else _) _ _ s from ?_);rw [if_neg (by rw [show ((-1:Int)==1)=false from rfl,Bool.and_false,Bool.false_and]; exact Bool.false_ne_true),Wg]
 first
  | exact wpAny_bind (m:=Builtin.Tuple.tupleExact _) (wpAny_newObj_type (wpAny_pure ⟨_,rfl,wpAny_pure h⟩) hz)
  | exact wpAny_bind (m:=Builtin.Tuple.tupleExact _) (wpAny_newObj_type (wpAny_bind (wpAny_pure (wpAny_pure ⟨_,rfl,wpAny_pure h⟩))) hz)
  | exact wpAny_bind (wpAny_bind (m:=Builtin.Tuple.tupleExact _) (wpAny_newObj_type (wpAny_pure (wpAny_pure ⟨_,rfl,wpAny_pure h⟩)) hz))
  | exact wpAny_bind (wpAny_bind (m:=Builtin.Tuple.tupleExact _) (wpAny_newObj_type (wpAny_pure ⟨_,rfl,wpAny_pure h⟩) hz))
end
section
variable {X:Cx} {B:Bas} {e:Expr} {te:TE} {m m1 m2:M T} {pos p p2 p3 p4:Pos} {j:Nat}
def ab0 (K:PySem.W.Frag):V->Hp->VK->Prop:=fun x H Q=>∃ a xs,x=.ref a/\((SqL K H a xs/\∀ p,H p=none->Q (.ref p) (upd H p (.lst xs.reverse)))\/(SqT K H a xs/\∀ p,H p=none->Q (.ref p) (upd H p (.tup xs.reverse))))
theorem a6h:PE X (.UnaryOp .USub (.Constant (.int 1) j p4) p3) (tC (.int (-1))):=(a8w a2l Xw).imp fun σ H Q q=>⟨1,rfl,q⟩
theorem a6l (he:PE X e te):PE X (.Subscript e (.Slice none none (some (.UnaryOp .USub (.Constant (.int 1) j p4) p3)) p2) pos) (fun σ H Q=>te σ H fun x H1=>ab0 X.K x H1 Q):=by
 intro pins s σ H Q I h;refine Subscript_ (thn (he pins s σ H _ I h) fun v s1 z0=>?_);obtain ⟨x,H1,I1,r1,q1⟩:=z0;refine wpAny_Slice ?_;rw [evalPart_none];refine wpAny_pure (wpAny_pure ?_);rw [evalPart_some];refine thn (a6h pins s1 σ H1 (fun v H2=>v=.int (-1)/\H2=H1) I1 ⟨rfl,rfl⟩) fun vk s2 z0=>?_;obtain ⟨y,H2,I2,r2,ey,eH⟩:=z0;subst ey eH;obtain ⟨t,rfl⟩:=r2;obtain ⟨a,xs,rfl,hx⟩:=q1;cases r1;have I4:L2.Inv X pins σ H2 { s2 with heap:=s2.heap.push { cls:=.type "slice",data:=.fields #[.none,.none,.int (-1) t] } }:=I2.kept (t':=s2.toks) fun b ob q=>Heap.get?_push_of_some _ q;rcases hx with ⟨hx,q⟩ | ⟨hx,q⟩
 ·obtain ⟨its,r,ht,hz⟩:=I4.list hx;have hlen:=r.length;refine tail_any (ops:=[.ref a,.ref s2.heap.objs.size]) (T := "list") ht.isList.typeIs slot_list_getitem.lookup ?_ (by with_unfolding_all rfl);refine wpAny_getItem_list_slice ht.isList (Heap.IsSliceOf.new ..) .none .none (.int (-1) t) (by decide) ?_ (by rw [List.size_toArray] <;> omega);rw [PySem.W.krv_pick];refine ⟨.ref _,_,I4.laid (t':=s2.toks) (o:=.lst xs.reverse) (fun b ob q=>Heap.get?_push_of_some _ q) (Nat.le_refl _) ?_,rfl,q _ (I4.hok.fresh (Nat.le_refl _))⟩;exact ⟨by rw [List.length_reverse]; exact hz,_,0,by simpa using r.reverse,Heap.get?_push_size _ rfl⟩
 ·obtain ⟨its,r,ht,hz⟩:=I4.tuple hx;have hlen:=r.length;refine tail_any (ops:=[.ref a,.ref s2.heap.objs.size]) (T := "tuple") ht.typeIs PyProof.Rows.slot_tuple_getitem.lookup ?_ (by with_unfolding_all rfl);refine Rc ht (Heap.IsSliceOf.new ..) ?_ (by rw [List.size_toArray] <;> omega);refine ⟨.ref _,_,I4.laid (t':=s2.toks) (o:=.tup xs.reverse) (fun b ob q=>Heap.get?_push_of_some _ q) (Nat.le_refl _) ?_,rfl,q _ (I4.hok.fresh (Nat.le_refl _))⟩;exact ⟨by rw [List.length_reverse]; exact hz,its.reverse,r.reverse,Ye.new _ its.reverse.toArray⟩
theorem a5e (ha:PE X e (tOf X.K B m)):PE X (.Subscript e (.Slice none none (some (.UnaryOp .USub (.Constant (.int 1) j p4) p3)) p2) pos) (tOf X.K B (mUn a99 m)) :=
 (a6l ha).imp fun σ H Q z9=>by
  obtain ⟨st,ps,S,as,R,t,ae,e,q⟩:=z9;obtain ⟨t1,e1,e3⟩:=Vu e;refine ⟨st,ps,S,as,R,t1,ae,e1,fun v H1 S1 aC R1=>?_⟩;have top:=R1.top;cases top with
  | @lst a vs ts g1 g2 =>
   simp only [a99] at e3; cases e3;refine ⟨a,vs,rfl,.inl ⟨iz R1.sub g1,fun p hp=>?_⟩⟩;have x:=Ext.laid R1.sub hp (.lst vs.reverse);exact q _ _ _ _ ((R1.drop.ext x).push (.lst (SqL.of bw) (g2.reverse.mono x.s nol)))
  | @tup a vs ts g1 g2 =>
   simp only [a99] at e3; cases e3;refine ⟨a,vs,rfl,.inr ⟨j4 R1.sub g1,fun p hp=>?_⟩⟩;have x:=Ext.laid R1.sub hp (.tup vs.reverse);exact q _ _ _ _ ((R1.drop.ext x).push (.tup (SqT.of bw) (g2.reverse.mono x.s nol)))
  | _=>exact jl e3
theorem Tc {i:Nat} {k:M T} {s s':Sta} {t:T} (h:Eu i k s=some (t,s')):El i s=true/\∃ j xs f n,k s=some (.int j,s')/\s'.env[i]? = some (some (.lst xs,f))/\ixI xs.length j=some n/\xs[n]? = some t:=by
 unfold Eu at h;split at h
 ·rename_i hd;refine ⟨hd,?_⟩;split at h
  ·rename_i j s1 e1;split at h
   ·rename_i xs f e2;split at h
    ·rename_i u e3;cases h;obtain ⟨n,h1,h2⟩:=Option.bind_eq_some_iff.mp e3;exact ⟨j,xs,f,n,e1,e2,h1,h2⟩
    ·cases h
   ·cases h
  ·cases h
 ·cases h
theorem Qp (i:Nat) {o k:Expr} {mk:M T} (ho:PE X o (Xm i)) (hk:PE X k (tOf X.K B mk)) (hs:Kc k):PE X (.Subscript o k pos) (tOf X.K B (Eu i mk)):=(a4x Vw ho hk hs).imp fun σ H Q z9=>by
 obtain ⟨st,ps,S,as,R,t,ae,e,q⟩:=z9;obtain ⟨hd,j,xs,f,n,e1,e2,e3,e4⟩:=Tc e;obtain ⟨xs0,f0,e0⟩:=Hy hd;obtain ⟨p0,vs0,s0,_⟩:=R.listAt e0;refine ⟨_,s0,st,ps,S,as,R,.int j,ae,e1,fun u H2 S2 aQ R2=>?_⟩;cases R2.top;obtain ⟨p1,cA,s1,rd1,h4⟩:=R2.listAt e2;rw [s0] at s1; cases s1;obtain ⟨z,hz,rz⟩:=h4.get e4;refine ⟨p0,cA,j,z,rfl,rfl,rd1,?_,q z H2 S2 aQ (R2.drop.push rz)⟩;rw [Q6,<- h4.length] at e3;unfold atI; rw [e3]; exact hz
end
end C
end
section
end
section
namespace C
open PySem PySem.Spec L2
def Held (K:PySem.W.Frag) (u:Value) (t:T):Prop:=∃ v,RelV v u/\∀ S as,Rep K S as v t
def Nt (K:PySem.W.Frag) (us:List Value) (ts:List T):Prop:=∃ vs,Vals vs us/\∀ S as,jg K S as vs ts
section
variable {K:PySem.W.Frag}
theorem Held.int {i:Int} {tk:Tok}:Held K (.int i tk) (.int i):=⟨.int i,⟨tk,rfl⟩,fun _ _=>.int i⟩
theorem Held.str {x:Str} {tk:Tok}:Held K (.str x tk) (.str x):=⟨.str x,⟨tk,rfl⟩,fun _ _=>.str x⟩
theorem Held.bl {b:Bool}:Held K (.bool b) (.bl b):=⟨.bl b,rfl,fun _ _=>.bl b⟩
theorem Held.non:Held K .none .non:=⟨.non,rfl,fun _ _=>.non⟩
theorem Nt.nil:Nt K [] []:=⟨[],.nil,fun _ _=>.nil⟩
theorem Nt.cons {u:Value} {t:T} {us:List Value} {ts:List T} (h:Held K u t) (hs:Nt K us ts):Nt K (u::us) (t::ts):=by
 obtain ⟨v,r,e⟩:=h;obtain ⟨vs,rs,es⟩:=hs;exact ⟨v::vs,.cons r rs,fun S as=>.cons (e S as) (es S as)⟩
theorem Held.tup {a:Addr} {us:List Value} {n:Nat} {sl:Array (Option Value)} {ts:List T} (h:K.lookup a=some ⟨.type "tuple",none,.seq us.toArray n,sl⟩) (hz:us.length<=1000) (hs:Nt K us ts):Held K (.ref a) (.tup ts):=by
 obtain ⟨vs,rs,es⟩:=hs;refine ⟨.ref a,rfl,fun S as=>.tup (.inr ⟨_,us.toArray,n,h,rfl,rfl,rfl,?_,?_⟩) (es S as)⟩
 ·rw [List.size_toArray,sizeLine_eq]; omega
 ·exact rs
theorem Held.lst {a:Addr} {us:List Value} {n:Nat} {sl:Array (Option Value)} {ts:List T} (h:K.lookup a=some ⟨.type "list",none,.seq us.toArray n,sl⟩) (hz:us.length<=1000) (hs:Nt K us ts):Held K (.ref a) (.lst ts):=by
 obtain ⟨vs,rs,es⟩:=hs;refine ⟨.ref a,rfl,fun S as=>.lst (.inr ⟨_,us.toArray,n,h,rfl,rfl,rfl,?_,?_⟩) (es S as)⟩
 ·rw [List.size_toArray,sizeLine_eq]; omega
 ·exact rs
end
section
variable {X:Cx} {B:Bas} {pos:Pos}
end
end C
end
section
namespace C
open PySem PySem.Spec PyProof.Rows
section
variable {prog:Program} {w:World} {A:Around} {E:Value->Shared->Prop} {s:Shared}
end
section
variable {prog:Program} {w:World} {A:Around} {R:Result->Shared->Prop} {I:Addr} {fp wr:List Addr} {G:Array GenState->Array GenState->Prop} {n:Nat} {P:Nat->Value->Prop} {St:Nat->Shared->Prop}
end
section
variable {prog:Program} {w:World} {A:Around} {E:Value->Shared->Prop} {s:Shared}
end
section
variable {prog:Program} {w:World} {A:Around} {E:Value->Shared->Prop} {s:Shared}
end
section
variable {prog:Program} {w:World} {A:Around} {E:Value->Shared->Prop} {s:Shared}
end
section
variable {prog:Program} {w:World} {A:Around} {E:Value->Shared->Prop} {s:Shared} {I a:Addr} {i n ep:Nat} {o:Obj} {es:Array (Int × Value)} {t:SetTable} {Q:Option Value->Shared->Prop}
end
section
variable {prog:Program} {w:World} {A:Around} {E:Value->Shared->Prop} {s:Shared} {I a q:Addr} {i n ep:Nat} {o:Obj} {es:Array (Int × Value)} {t:SetTable} {Q:Option Value->Shared->Prop} {ps:List Nat}
end
section
variable {prog:Program} {w:World} {A:Around} {E:Value->Shared->Prop} {s:Shared} {I a q:Addr} {n ep:Nat} {o:Obj} {es:Array (Int × Value)} {t:SetTable} {ps:List Nat}
end
section
variable {prog:Program} {w:World} {A:Around} {E:Value->Shared->Prop} {s:Shared} {a:Addr} {o:Obj} {l:List Str}
end
section
variable {prog:Program} {w:World} {A:Around} {E:Value->Shared->Prop} {s:Shared} {a:Addr} {o:Obj} {l:List Str}
end
end C
end
section
namespace C
open PySem PySem.Spec PyProof.Rows L2
section
variable {X:Cx} {B:Bas} {e:Expr} {m1:M T} {p1 p2 p3 p4:Pos}
end
open AutoSeq1 (wpAny_loadPart') -- here
open MeetsSeq MeetsSeq2 MeetsSeq3 -- here
section
variable {prog:Program} {w:World}
end
section
variable {X:Cx} {pins:List (Addr × Obj)} {σ:L2.St} {H S:Hp} {s:Shared} {as:List Addr}
end
end C
end
section
namespace C
open PySem PySem.Spec PyProof.Rows L2
end C
end
section
namespace C
open PySem
noncomputable def G6 (t u:T):Option T:=match K7 t,K7 u with
 | some xs,some ys=>if xs.length<lim/\ys.length<lim then (qm (a5j xs ys)).map fun l=>.dic (l.foldl (fun d p=>Nj p.1 p.2 d) []) else none
 | _,_=>none
def Ky (xs:List T):List T:=xs.zipIdx.map fun p=>.tup [.int (p.2:Int),p.1]
noncomputable def Gv (a:M T):M (List T):=fun s=>match a s with
 | some (.lst xs,s1)=>if xs.length<lim then some (Ky xs,s1) else none
 | _=>none
noncomputable def a8n (f:List (Key × T)->List T) (a:M T):M (List T):=fun s=>match a s with
 | some (.dic aa,s1)=>if aa.length<lim then some (f aa,s1) else none
 | _=>none
def Ez (aa:List (Key × T)):List T:=aa.map fun p=>.tup [a1h p.1,p.2]
def J6 (a:M T):M (List T):=a8n Ez a
noncomputable def W4:T->T->Option T
 | .lst xs,.int j=>if 0<=j/\j<1000000/\xs.length * j.toNat<lim then some (.lst (List.replicate j.toNat xs).flatten) else none
 | _,_=>none
mutual
def noObj:T->Bool
 | .obj _=>false
 | .tup xs=>Jk xs
 | .lst xs=>Jk xs
 | .dic aa=>Oz aa
 | _=>true
def Jk:List T->Bool
 | []=>true
 | x::r=>noObj x&&Jk r
def Oz:List (Key × T)->Bool
 | []=>true
 | (_,x)::r=>noObj x&&Oz r
end
abbrev FnX:=List T->List SO->Option ((T ⊕ T) × List SO)
abbrev SX:=Sta->Option ((Flow ⊕ T) × Sta)
def lx (u:S):SX:=fun s=>match u s with
 | some (fl,s1)=>some (.inl fl,s1)
 | none=>none
def vd (a b:SX):SX:=fun s=>match a s with
 | some (.inl .next,s1)=>b s1
 | r=>r
noncomputable def xIf (c:M Bool) (a b:SX):SX:=fun s=>match c s with
 | some (true,s1)=>a s1
 | some (false,s1)=>b s1
 | none=>none
def Hz (m:M T):SX:=fun s=>match m s with
 | some (t,s1)=>some (.inr t,s1)
 | none=>none
noncomputable def tu (g:G) (b:SX):List T->SX
 | []=>fun s=>some (.inl .next,s)
 | t::r=>fun s=>match g t s with
  | some s1=>match b s1 with
   | some (.inl .next,s2)=>tu g b r s2
   | some (.inl .cont,s2)=>tu g b r s2
   | some (.inl .brk,s2)=>some (.inl .next,s2)
   | some (.inl (.ret v),s2)=>some (.inl (.ret v),s2)
   | some (.inr v,s2)=>some (.inr v,s2)
   | none=>none
  | none=>none
noncomputable def a3d (g:G) (it:M (List T)) (b:SX):SX:=fun s=>match it s with
 | some (ts,s1)=>tu g b ts s1
 | none=>none
noncomputable def u6 (n:Nat) (b:SX):FnX:=fun ts sto=>match b ⟨ts.map (fun t=>some (t,false))++List.replicate (n - ts.length) none,sto⟩ with
 | some (.inl (.ret t),s)=>some (.inl t,s.sto)
 | some (.inl .next,s)=>some (.inl .non,s.sto)
 | some (.inr t,s)=>some (.inr t,s.sto)
 | _=>none
def norm (F:FnX):Fn:=fun ts sto=>match F ts sto with
 | some (.inl t,s)=>some (t,s)
 | _=>none
noncomputable def N8 (F:FnX) (a:M (List T)) (k:T->Sta->Sta):SX:=fun s=>match a s with
 | some (ts,s1)=>match F ts s1.sto with
  | some (.inl t,sto)=>some (.inl .next,k t { s1 with sto:=sto })
  | some (.inr t,sto)=>some (.inr t,{ s1 with sto:=sto })
  | none=>none
 | none=>none
def a3e (i:Nat):T->Sta->Sta:=fun t s=>gn i t false s
def clr (i:Nat) (s:Sta):Sta:={ s with env:=s.env.set i none }
noncomputable def Zi (F:FnX) (a:M (List T)) (k:T->Sta->Sta) (i j:Nat) (hv:T->Option T):S:=fun s=>match a s with
 | some (ts,s1)=>match F ts s1.sto with
  | some (.inl t,sto)=>some (.next,k t { s1 with sto:=sto })
  | some (.inr t,sto)=>match hv t with
   | some u=>some (.next,clr i (gn j u false (clr i { s1 with sto:=sto })))
   | none=>none
  | none=>none
 | none=>none
end C
end
section
namespace My
open PySem PySem.W PySem.Calls PyProof.Rows PySem.Spec
abbrev vB:List Value:=[.type "ValueError",.type "Exception",.type "BaseException",.type "object"]
theorem ab9 {K:Frag} {h:Heap} {D:Addr} {newId:String} (X:K.In h) (q:excIn K D vB newId=true):OwnTail h vB (.ref D::vB):=by
 refine tail_of_in X ?_;unfold excIn at q;unfold tailIn;split at q
 ·rename_i dd cd sl ho;split at q
  ·simp only [Bool.and_eq_true] at q;dsimp only;rw [ho];dsimp only;rw [q.1.2,q.2];have z:tailIn K vB vB=true:=by unfold tailIn; rfl
   rw [z];simp
  ·cases q
 ·cases q
abbrev V1 (C t:Addr):Obj:={ cls:=.ref C,data:=.fields #[.ref t,.none,.none,.none,.bool false,.none] }
abbrev a2m (vs:List Value):Obj:={ cls:=.type "tuple",data:=.seq vs.toArray }
section
variable {prog:Program} {w:World} {A:Around} {E:Value->Shared->Prop} {s:Shared} {h₀:Heap} {L:Addr} {m:Str->Option Value} {news:List (Addr × Obj)} {K:Frag}
variable {nm q:Str} {C D Na:Addr} {bs:List Value} {hdct:Bool} {sn:List Str} {sub:List Value} {ab:Bool} {col:Option Bool} {dd:Option Addr} {k0 k1 k2 k3 k5:Option Value}
theorem Ir {h:Heap} {g:Array GenState} {d:Drawn} {t:Nat} {os:OsState} {rest:List Value} {fI:Addr} {R:Fin->Shared->Prop} (X:K.In h)
  (hC:h.get? C=some (excClassObj nm q C Na bs (.ref D::vB) hdct sn sub ab col dd k0 k1 k2 k3 k5 "ValueError.__new__")) (T:OwnTail h vB (.ref D::vB))
  (hi:findIn K (.ref C) "__init__" = some (some (.ref fI))) (hf:typeIn K (.ref fI)=some (.type "function"))
  (hq:wpAny (model prog w) A (call (.ref fI) (.ref (h.objs.size+1)::rest)) (fun r s'=>r=.none/\R (.done (.ret (.ref (h.objs.size+1)))) s') E ⟨(h.push (a2m rest)).push (V1 C h.objs.size),g,d,t,os⟩) (fh:rest.length<=sizeLine) :
  wpAny (model prog w) A (Builtin.«type.__call__» ⟨.ref C::rest,[]⟩) R E ⟨h,g,d,t,os⟩:=by
 have Fv:=PySem.F.excBase_ValueError;have hv:vB.contains (.type "ValueError")=true:=by decide
 repeat (first | with_reducible refine wpAny_loadPart_at hC ?_ | with_reducible refine wpAny_madeBy_exc hC ?_ | wp_step) -- here
 refine codeAny_call_builtin_code (Code.quiet_builtin _ Fv.quiet) (wpAny_check_new_subU Fv hv T hC ?_);refine codeAny_exc_new_subU Fv hv Fv T hC ?_ fh;show wpAny _ _ _ _ _ _;have kp:∀ b o,h.get? b=some o->((h.push (a2m rest)).push (V1 C h.objs.size)).get? b=some o:=fun b o e=>Heap.get?_push_of_some _ (Heap.get?_push_of_some _ e);have X1:=X.keeps kp;have iC:((h.push (a2m rest)).push (V1 C h.objs.size)).get? (h.objs.size+1)=some (V1 C h.objs.size):=by heap_get
 have lj:(Value.ref C :: .ref D::vB).contains (.ref C)=true:=by simp
 have kR:=kp _ _ hC;unfold isInstance
 repeat (first | with_reducible refine wpAny_loadPart_at iC ?_ | (with_reducible refine wpAny_isSubtype_exc kR ?_; rw [lj]) | wp_step)
 show wpAny _ _ (typeLookup (.ref C) _) _ _ _;refine looks_findIn X1 hi _ _ _ _ (fun _ _ e=>e) ?_;refine wpAny_holding (wpAny_bind ?_);refine bind_fn X1 _ hf _ _ _ _ (fun _ _ e=>e) ?_;refine wpAny_bind (wpAny_mono hq (fun r s' hr=>?_) fun _ _ x=>x);obtain ⟨rfl,hQ⟩:=hr
 wp_walk
 exact hQ
end
end My
end
section
namespace My
open PySem PySem.W PySem.Calls PyProof.Rows PySem.Spec Builtin.ObjectAttr
abbrev Z0 (C t dx:Addr):Obj:={ cls:=.ref C,dict:=some dx,data:=.fields #[.ref t,.none,.none,.none,.bool false,.none] }
theorem aav (self:Value):refuseLoop self "__setattr__" vB=pure ():=by kernel_rfl
section
variable {prog:Program} {w:World} {A:Around} {E:Value->Shared->Prop} {s:Shared} {h₀:Heap} {L:Addr} {m:Str->Option Value} {news:List (Addr × Obj)} {K:Frag} {x C D t:Addr} {cd:ClassData} {name:Str} {v:Value} {g:Obj->List (Addr × Obj)}
end
theorem Yx:builtinKind "BaseException.__getattribute__" = some .slot:=by decide +kernel
theorem Xr:splitId "BaseException.__getattribute__" = some ("BaseException","__getattribute__"):=by decide +kernel
section
variable {prog:Program} {w:World} {A:Around} {E:Value->Shared->Prop} {s:Shared} {K:Frag} {x C:Addr} {ox:Obj} {od:Option Obj} {name:Str} {v:Value} {expr:Bool}
theorem a0x {Q:Value->Shared->Prop} (X:K.In s.heap) (I:InstAt s.heap x ox C od) (jL:findIn K (.ref C) "__getattribute__" = some (some (.builtin "BaseException.__getattribute__")))
  (jC:findIn K (.ref C) "__getattr__" = some none) (hb:mroIn K C (.type "BaseException")=some true) (hf:findObj K C od name=some (.value v)) (hh:handedIn v=true) (h:Q v { s with toks:=s.toks+1 }) :
  wpAny (model prog w) A (getAttr (.ref x) name expr) Q E s:=by
 obtain ⟨hp,g,d,tk,os⟩:=s;have FB:=PySem.F.excAttr_ValueError;have f3:=FB.ga.bind (.ref x);have L0:=I.type (M:=model prog w);have L1:=looks_findIn (M:=model prog w) X jL;have L2:=looks_findIn (M:=model prog w) X jC;have L3:=looks_find (M:=model prog w) X I hf;have L4:Looks (model prog w) hp (isInstance (.ref x) (.type "BaseException")) true:=I.type.andThen (looks_mroIn X hb);have kX:(expr&&onTheHeap (Value.builtin "BaseException.__getattribute__"))=false:=by cases expr <;> rfl
 have jR:(Value.builtin "BaseException.__getattribute__" == Value.builtin "object.__getattribute__")=false:=by decide +kernel
 unfold getAttr getAttrBy;refine wpAny_bind (wpAny_mkText (wpAny_holding (wpAny_bind (L0.at (wpAny_bind (L1.at ?_))))));dsimp only;rw [jR,Bool.and_false];rw [if_neg (by decide)];unfold getAttrByItsOwn;have LH:Looks (model prog w) hp (hookBefore (.ref C)) none:=looks_hook (mc:=.ref C) X (by rw [if_pos (show onTheHeap (.ref C)=true from rfl)]; exact jC);refine wpAny_bind (LH.at (wpAny_bind (wpAny_attempt (wpAny_holding ?_))));unfold callGetattribute;rw [kX,if_neg (by decide)];unfold boundAndCalled;rw [f3];refine wpAny_bind (wpAny_pure ?_);show wpAny _ _ (call (.builtin "BaseException.__getattribute__") [.ref x,.str name tk]) _ _ _;refine wpAny_call (codeAny_call_builtin FB.ga.plain PySem.F.entry_bexc_ga (@check_slot (model prog w) _ _ _ "BaseException.__getattribute__" "BaseException" "__getattribute__" (.ref x) [.str name tk] [] _ Yx Xr L4 (PySem.F.args_bexc_ga (.ref x) (.str name tk)) ?_));unfold Builtin.«object.__getattribute__»;refine wpAny_bind (wpAny_pure (wpAny_bind (wpAny_pure (wpAny_bind (L0.at (wpAny_bind (L3.at ?_)))))));refine wpAny_pure ?_;show wpAny _ _ (handedOut v) _ _ _;rw [handedOut_of hh];exact wpAny_pure h
end
section
variable {prog:Program} {w:World} {A:Around} {E:Value->Shared->Prop} {s:Shared} {K:Frag} {x C:Addr} {ox od:Obj} {name:Str} {tk:Tok} {v:Value} {fill expr:Bool}
end
end My
end
section
namespace L2
open PySem PySem.Spec PyProof.Rows
abbrev T4 (C dx:Addr) (vs:Array Value):Obj:={ cls:=.ref C,dict:=some dx,data:=.fields vs }
structure XAt (h:Heap) (e C dx T:Addr) (fl:Value):Prop where
 ne:T≠e
 at_:∃ vs,h.get? e=some (T4 C dx vs)/\vs[1]? = some (.ref T)
 tb:∃ o ts,h.get? T=some o/\o.data=.fields ts/\ts[3]? = some fl
structure Kp (fs ch:List Addr) (h h':Heap):Prop where
 keep:∀ b o,h.get? b=some o->b∉fs->b∉ch->h'.get? b=some o
 slot:∀ b o,h.get? b=some o->b∉ch->∃ sl,h'.get? b=some { o with slots:=sl }
 there:∀ b o,h.get? b=some o->∃ o',h'.get? b=some o'
 size:h.objs.size<=h'.objs.size
theorem Kp.trans {fs ch:List Addr} {h h1 h2:Heap} (a:Kp fs ch h h1) (b:Kp fs ch h1 h2):Kp fs ch h h2 where
 keep:=fun c o q n m=>b.keep c o (a.keep c o q n m) n m
 slot:=fun c o q m=>by
  obtain ⟨sl,e1⟩:=a.slot c o q m;obtain ⟨sl',e2⟩:=b.slot c _ e1 m;exact ⟨sl',e2⟩
 there:=fun c o q=>by
  obtain ⟨o',e1⟩:=a.there c o q;exact b.there c o' e1
 size:=Nat.le_trans a.size b.size
theorem Kp.mono {fs ch eY ch':List Addr} {h h':Heap} (a:Kp fs ch h h') (hf:∀ b∈fs,b∈eY) (hc:∀ b∈ch,b∈ch'):Kp eY ch' h h' where
 keep:=fun c o q n m=>a.keep c o q (fun z=>n (hf _ z)) fun z=>m (hc _ z)
 slot:=fun c o q m=>a.slot c o q fun z=>m (hc _ z)
 there:=a.there
 size:=a.size
theorem Kp.slots {fs:List Addr} {h h':Heap} (x:Heap.SlotsOnly fs h h'):Kp fs [] h h' where
 keep:=fun b o q n _=>(x.2.1 b n).trans q
 slot:=fun b o q _=>x.2.2 b o q
 there:=fun b o q=>let ⟨sl,e⟩:=x.2.2 b o q; ⟨_,e⟩
 size:=Nat.le_of_eq x.1.symm
theorem Kp.pushed {fs ch:List Addr} {h:Heap} (o:Obj):Kp fs ch h (h.push o) where
 keep:=fun b u q _ _=>Heap.get?_push_of_some _ q
 slot:=fun b u q _=>⟨u.slots,Heap.get?_push_of_some _ q⟩
 there:=fun b u q=>⟨u,Heap.get?_push_of_some _ q⟩
 size:=by rw [Heap.size_push]; exact Nat.le_succ _
theorem Kp.field {fs:List Addr} {h:Heap} {e:Addr} {o:Obj} {vs:Array Value} (he:h.get? e=some o) (hd:o.data=.fields vs) (f:Array Value->Array Value):Kp fs [e] h (h.update e (Obj.mapFields f)) where
 keep:=fun b u q _ m=>by rw [Heap.get?_update_other _ _ (fun z=>m (by simp [z]))]; exact q
 slot:=fun b u q m=>⟨u.slots,by rw [Heap.get?_update_other _ _ (fun z=>m (by simp [z]))]; exact q⟩
 there:=fun b u q=>by
  by_cases z:e=b
  ·subst z; exact ⟨_,Heap.get?_update_self _ he (Obj.isFreed_of_fields (Obj.data_mapFields hd f))⟩
  ·exact ⟨u,by rw [Heap.get?_update_other _ _ z]; exact q⟩
 size:=Nat.le_of_eq (Heap.size_after_update ..).symm
section
variable {M:Model} {A:Around} {E:Value->Shared->Prop} {s:Shared} {base:Heap} {env:Env} {outer:List Env} {L e C dx T:Addr} {fl:Value} {vs:Array Value} {Q:Unit->Shared->Prop}
theorem Jd {head:Value} {hn:Bool} (cH:A.frames=some (env::outer)) (hl:s.heap.FunFrames base (env::outer)) (hf:env.frame=some L) (he:s.heap.get? e=some (T4 C dx vs)) (h1:1<vs.size)
  (fH:e∉frs (env::outer))
  (h:∀ h' T,s.heap.objs.size<=T->Kp (frs (env::outer)) [e] s.heap h'->XAt h' e C dx T (rawInt L)->Q () { s with heap:=h' }) :
  wpAny M A (frameOf env >>= fun a=>entryPlaceOf L hn >>= fun pl=>EntryCells.newEntry head a .none (rawInt L) .none pl >>= fun b=>setField (.ref e) 1 b) Q E s:=by
 refine wpAny_bind (wpAny_frameOf_fun cH hl hf fun eJ hs=>?_);refine wpAny_bind (wpAny_entryPlaceOf fun pl bB=>?_);unfold EntryCells.newEntry newFields;have e1:eJ.get? e=some (T4 C dx vs):=(hs.2.1 e fH).trans he;refine wpAny_bind (wpAny_newObj_type ?_ (bB.sizeOk5 _ _ _ _ _));refine wpAny_setField (Heap.get?_push_of_some _ e1) rfl h1 ?_;have ne:eJ.objs.size≠e:=Nat.ne_of_gt (Heap.lt_size e1);refine h _ eJ.objs.size (Nat.le_of_eq hs.1.symm) ?_ ⟨ne,⟨vs.setIfInBounds 1 (.ref eJ.objs.size),?_,by simp [h1]⟩,?_⟩
 ·exact (((Kp.slots hs).mono (ch':=[e]) (fun _ z=>z) (fun _ z=>nomatch z)).trans (Kp.pushed _)).trans (Kp.field (Heap.get?_push_of_some _ e1) rfl _)
 ·exact Heap.get?_update_self _ (Heap.get?_push_of_some _ e1) rfl
 ·refine ⟨_,_,(Heap.get?_update_other _ _ (Ne.symm ne)).trans (Heap.get?_push_size _ rfl),rfl,?_⟩;rcases bB with rfl | ⟨_,_,_,_,_,_,_,rfl⟩ <;> simp
theorem Sg (cH:A.frames=some (env::outer)) (hl:s.heap.FunFrames base (env::outer)) (hf:env.frame=some L) (he:s.heap.get? e=some (T4 C dx vs)) (h1:vs[1]? = some .none) (fH:e∉frs (env::outer))
  (h:∀ h' T,s.heap.objs.size<=T->Kp (frs (env::outer)) [e] s.heap h'->XAt h' e C dx T (rawInt L)->Q () { s with heap:=h' }):wpAny M A (noteFrame (.ref e) env) Q E s:=by
 unfold noteFrame;simp only [hf];refine wpAny_bind (wpAny_field he rfl h1 ?_);rw [if_neg (by decide)];exact Jd cH hl hf he (Array.getElem?_eq_some_iff.mp h1).1 fH h
theorem Vv (cH:A.frames=some (env::outer)) (hl:s.heap.FunFrames base (env::outer)) (hf:env.frame=some L) (x:XAt s.heap e C dx T .none) (fH:e∉frs (env::outer)) (lr:T∉frs (env::outer))
  (h:∀ h' T',s.heap.objs.size<=T'->Kp (frs (env::outer)) [e,T] s.heap h'->XAt h' e C dx T' (rawInt L)->Q () { s with heap:=h' }):wpAny M A (noteFrame (.ref e) env) Q E s:=by
 obtain ⟨ne,⟨vs,he,h1⟩,o,ts,hT,hd,h3⟩:=x;have k1:Kp (frs (env::outer)) [T] s.heap (s.heap.update T (Obj.mapFields (·.setIfInBounds 3 Value.none))):=Kp.field hT hd _;unfold noteFrame;simp only [hf];refine wpAny_bind (wpAny_field he rfl h1 ?_);rw [if_pos (show (Value.ref T != Value.none)=true from by simp)];refine wpAny_bind (wpAny_field hT hd h3 ?_);rw [if_neg (show ¬ ((Value.none==rawInt L)=true) from by simp [rawInt])];refine wpAny_bind (wpAny_setField hT hd (Array.getElem?_eq_some_iff.mp h3).1 ?_);have fe:(s.heap.update T (Obj.mapFields (·.setIfInBounds 3 Value.none))).get? e=some (T4 C dx vs):=(Heap.get?_update_other _ _ ne).trans he;refine Jd (base:=base) cH (hl.of_keeps fun b u q nf=>?_) hf fe (Array.getElem?_eq_some_iff.mp h1).1 fH fun h' T' hz k2 x=>h h' T' (Nat.le_trans k1.size hz) ((k1.mono (fun _ z=>z) (by simp)).trans (k2.mono (fun _ z=>z) (by simp))) x;refine ⟨u,?_,rfl⟩;have:T≠b:=fun z=>by subst z; rw [hT] at q; cases q; exact nf ts hd
 rw [Heap.get?_update_other _ _ this]; exact q
theorem Ei (x:XAt s.heap e C dx T fl) (h:∀ h',Kp [] [T] s.heap h'->XAt h' e C dx T .none->Q () { s with heap:=h' }):wpAny M A (setFlight (.ref e) none) Q E s:=by
 obtain ⟨ne,⟨vs,he,h1⟩,o,ts,hT,hd,h3⟩:=x;have z3:=(Array.getElem?_eq_some_iff.mp h3).1;unfold setFlight;refine wpAny_bind (wpAny_field he rfl h1 ?_);rw [if_pos (show (Value.ref T != Value.none)=true from by simp)];refine wpAny_setField hT hd z3 (h _ (Kp.field hT hd _) ⟨ne,⟨vs,(Heap.get?_update_other _ _ ne).trans he,h1⟩,_,_,Heap.get?_update_self _ hT (Obj.isFreed_of_fields (Obj.data_mapFields hd _)),Obj.data_mapFields hd _,by simp [z3]⟩)
end
end L2
end
section
namespace My
open PySem PySem.W PySem.Calls PyProof.Rows PySem.Spec Builtin.ObjectAttr
section
variable {prog:Program} {w:World} {A:Around} {E:Value->Shared->Prop} {s:Shared} {K:Frag} {x C D t:Addr} {cd:ClassData} {name:Str} {v:Value}
theorem Z4 {Q:Unit->Shared->Prop} (X:K.In s.heap) (hx:s.heap.get? x=some (V1 C t))
  (hs:findIn K (.ref C) "__setattr__" = some (some (.builtin "object.__setattr__"))) (hc:clsIn K C=some cd) (hm:cd.mro=.ref C :: .ref D::vB) (hd:cd.hasDict=true)
  (ho:mroIn K C (.type "object")=some true) (ha:findIn K (.ref C) name=some none)
  (h:∀ h',(∀ b o,b≠x->s.heap.get? b=some o->h'.get? b=some o)->h'.get? x=some (Z0 C t s.heap.objs.size)->h'.get? s.heap.objs.size=some (dictOf [⟨PyData.keyHash w.params name,.str name (s.toks+1),v⟩] 1)->Q () { s with heap:=h',toks:=s.toks+2 }) :
  wpAny (model prog w) A (setAttr (.ref x) name v) Q E s:=by
 have I:InstAt s.heap x (V1 C t) C none:=⟨hx,rfl,rfl,trivial⟩;refine set_plain X I hs ?_;have SF:=PySem.F.store_object;have sub:Looks (model prog w) s.heap (isInstance (.ref x) (.type "object")) true:=I.type.andThen (looks_mroIn X ho);refine codeAny_call_builtin SF.slot.plain SF.entry (@check_slot (model prog w) _ _ _ "object.__setattr__" "object" "__setattr__" (.ref x) [.str name s.toks,v] [] _ SF.kind SF.split sub (SF.args (.ref x) (.str name s.toks) v) ?_);have kK:Looks (model prog w) s.heap (mroOf (.ref C)) cd.mro:=(looks_clsIn X hc).andThen .now;rw [osa_eq,refuse_eq];refine wpAny_bind (wpAny_bind (I.type _ _ _ _ (fun _ _ e=>e) (wpAny_bind (kK _ _ _ _ (fun _ _ e=>e) ?_))));rw [hm,refuseLoop_ref,refuseLoop_ref,aav];refine wpAny_pure (wpAny_bind (I.type _ _ _ _ (fun _ _ e=>e) (wpAny_bind (looks_findIn X ha _ _ _ _ (fun _ _ e=>e) (wpAny_bind (wpAny_pure ?_))))));dsimp only;refine wpAny_bind (wpAny_pure (wpAny_bind (wpAny_bind (wpAny_loadPart hx (wpAny_bind (looks_clsIn X hc _ _ _ _ (fun _ _ e=>e) ?_))))));rw [hd];show wpAny _ _ (alloc { cls:=.type "dict",data:=.dict #[] } >>= fun dx=>update x (fun o=>{ o with dict:=some dx }) >>= fun _=>dictMade (.ref C) x dx) _ _ _;have lx:x<s.heap.objs.size:=Heap.lt_size hx;have g1:=Heap.get?_push_of_some (h:=s.heap) (dictOf [] 0) hx;have g2:((s.heap.push (dictOf [] 0)).update x (fun o=>{ o with dict:=some s.heap.objs.size })).get? x=some (Z0 C t s.heap.objs.size):=Heap.get?_update_self _ g1 rfl;have g3:((s.heap.push (dictOf [] 0)).update x (fun o=>{ o with dict:=some s.heap.objs.size })).get? s.heap.objs.size=some (dictOf [] 0):=(Heap.get?_update_other _ _ (Nat.ne_of_lt lx)).trans (Heap.get?_push_size _ rfl);refine wpAny_bind (wpAny_alloc (wpAny_bind (wpAny_update g1 ?_)));refine wpAny_pure (a:=some s.heap.objs.size) (wpAny_bind (wpAny_pure (wpAny_bind ?_)));unfold nsSet;refine wpAny_bind (wpAny_bind (wpAny_askSetting (wpAny_pure (wpAny_bind (wpAny_mkText (wpAny_bind (wpAny_loadPart g3 ?_)))))));have c:aRefKeyMayBeTheName name [].toArray=false:=by rw [aRefKeyMayBeTheName_at]; simp
 show wpAny _ _ (if aRefKeyMayBeTheName name [].toArray=true then _ else _) _ _ _;rw [c];refine wpAny_updatePart g3 ?_;have g4:=Heap.get?_update_self (Obj.putName name (PyData.keyHash w.params name) (.str name (s.toks+1)) v) g3 (by rw [putName_dict]; rfl);refine wpAny_bind (wpAny_lookBehind g4 (pastItsLine_dict (by rw [List.size_toArray,sizeLine_eq]; show 1<=_; decide)) ?_);refine wpAny_pure (h _ (fun b o nb q=>?_) ?_ ?_)
 ·have l:=Heap.lt_size q;rw [Heap.get?_update_other _ _ (Nat.ne_of_gt l),Heap.get?_update_other _ _ (Ne.symm nb)];exact Heap.get?_push_of_some _ q
 ·rw [Heap.get?_update_other _ _ (Nat.ne_of_gt lx)]; exact g2
 ·exact g4
end
end My
end
section
namespace L2
open PySem PySem.Spec PyProof.Rows
structure XC (K:PySem.W.Frag) (C D fI:Addr) (f:Str):Prop where
 lk:∃ nm q Na bs sn sub ab col dd k0 k1 k2 k3 k5,K.lookup C=some (excClassObj nm q C Na bs (.ref D::My.vB) true sn sub ab col dd k0 k1 k2 k3 k5 "ValueError.__new__")
 base:PySem.W.excIn K D My.vB "ValueError.__new__" = true
 init:PySem.W.findIn K (.ref C) "__init__" = some (some (.ref fI))
 fn:PySem.W.isFn K (.ref fI)=true
 sa:PySem.W.findIn K (.ref C) "__setattr__" = some (some (.builtin "object.__setattr__"))
 ob:PySem.W.mroIn K C (.type "object")=some true
 na:PySem.W.findIn K (.ref C) f=some none
 kp:PySem.W.keepIn K (.ref C)=true
def a9r (e C t:Addr):HO:=.ext fun h=>h.get? e=some (My.V1 C t)
def Vz (e C t dx:Addr):HO:=.ext fun h=>h.get? e=some (My.Z0 C t dx)
noncomputable def Ce (dx:Addr) (f:Str) (v:V):HO:=.ext fun h=>∃ hs tk u,RelV v u/\h.get? dx=some (PySem.W.dictOf [⟨hs,.str f tk,u⟩] 1)
theorem a2b {P:Program} {w:World} {H:Hp} {h:Heap} {a:Addr} {o:Obj} (e:h.get? a=some o):jy P w H h a (.ext fun h=>h.get? a=some o):=⟨e,⟨_,e⟩,fun _ _ q k=>k _ q⟩
theorem Yv {P:Program} {w:World} {H:Hp} {h:Heap} {dx:Addr} {f:Str} {v:V} {hs:Int} {tk:Tok} {u:Value} (r:RelV v u) (e:h.get? dx=some (PySem.W.dictOf [⟨hs,.str f tk,u⟩] 1)):jy P w H h dx (Ce dx f v) :=
 ⟨⟨hs,tk,u,r,e⟩,⟨_,e⟩,fun _ _ ⟨a,b,c,r,q⟩ k=>⟨a,b,c,r,k _ q⟩⟩
section
variable {X:Cx} {pins:List (Addr × Obj)} {σ:St} {H:Hp} {s:Shared} {e C D fI t:Addr} {f:Str} {v:V} {u:Value} {A:Around} {E:Value->Shared->Prop}
theorem Inv.a96 {h':Heap} {dx:Addr} {o p:HO} {t':Nat} (I:Inv X pins σ H s) (he:Mut (H e)) (hz:s.heap.objs.size<=dx) (k:∀ b u,b≠e->s.heap.get? b=some u->h'.get? b=some u) (kT:∃ u,h'.get? e=some u)
  (n1:∀ H',jy X.prog X.w H' h' e o) (n2:∀ H',jy X.prog X.w H' h' dx p):Inv X pins σ (upd (upd H dx p) e o) { s with heap:=h',toks:=t' }:=by
 have jB:H dx=none:=I.hok.fresh hz;have ne:dx≠e:=fun z=>by subst z; rw [jB] at he; exact he
 have nb:∀ b,H b=none->b≠e:=fun b n z=>by subst z; rw [n] at he; exact he
 have ns:∀ b u,s.heap.get? b=some u->b≠dx:=fun b u q z=>by subst z; exact absurd (Nat.lt_of_lt_of_le (Heap.lt_size q) hz) (Nat.lt_irrefl _)
 have nm:∀ b u,H b=some u->¬ Mut (some u)->b≠e/\b≠dx:=fun b u q n=>⟨fun z=>by subst z; rw [q] at he; exact n he,fun z=>by subst z; rw [jB] at q; cases q⟩;have up:∀ b,b≠e->b≠dx->upd (upd H dx p) e o b=H b:=fun b n m=>by rw [c7 n,c7 m]
 refine I.un (t':=t') ⟨fun b u q n _ _=>k b u (nb b n) q,fun b u q n _ _=>⟨u.slots,k b u (nb b n) q⟩,fun b u q n _=>by rw [up b (nb b n) (ns b u q)]; exact n,fun b u q _=>?_,
  fun b xs q=>?_,fun b u xs q=>?_,fun b ps q=>⟨#[],?_⟩⟩ fun b u q=>?_
 ·by_cases z:b=e
  ·subst z; exact kT
  ·exact ⟨u,k b u z q⟩
 ·obtain ⟨a,c⟩:=nm b _ q fun z=>z;rw [up b a c]; exact q
 ·obtain ⟨a,c⟩:=nm b _ q fun z=>z;rw [up b a c]; exact q
 ·obtain ⟨a,c⟩:=nm b _ q fun z=>z;rw [up b a c,q]; simp
 ·by_cases z:b=e
  ·subst z; rw [bw] at q; cases q; exact n1 _
  ·rw [c7 z] at q
   by_cases y:b=dx
   ·subst y; rw [bw] at q; cases q; exact n2 _
   ·rw [c7 y] at q;refine (I.hok b u q).stay (fun c w hc r=>k c w ?_ r) (fun c r=>?_) fun c xs r=>?_
    ·rcases hc with hc | hc
     ·rw [hc]; exact z
     ·exact (nm c _ hc fun z=>z).1
    ·obtain ⟨a,d⟩:=nm c _ r fun z=>z;rw [up c a d]; exact r
    ·obtain ⟨a,d⟩:=nm c _ r fun z=>z;rw [up c a d]; exact r
theorem Xd {Q:Unit->Shared->Prop} (c:XC X.K C D fI f) (I:Inv X pins σ H s) (e0:H e=some (a9r e C t)) (r:RelV v u)
  (h:∀ s' dx,H dx=none->dx≠e->Inv X pins σ (upd (upd H dx (Ce dx f v)) e (Vz e C t dx)) s'->Q () s'):wpAny (model X.prog X.w) A (setAttr (.ref e) f u) Q E s:=by
 obtain ⟨nm,q,Na,bs,sn,sub,ab,col,dd,k0,k1,k2,k3,k5,lk⟩:=c.lk;have hx:s.heap.get? e=some (My.V1 C t):=(I.hok e _ e0).1;refine My.Z4 (cd:={ name:=nm,bases:=bs,mro:=.ref C :: .ref D::My.vB,ns:=Na,qualname:=q,hasDict:=true,slotNames:=sn,subclasses:=sub,abstract:=ab,collection:=col,hasDel:=false }) I.kIn hx c.sa (by unfold PySem.W.clsIn; rw [lk]) rfl rfl c.ob c.na fun h' k g1 g2=>h _ s.heap.objs.size (I.hok.fresh (Nat.le_refl _)) (Nat.ne_of_gt (Heap.lt_size hx)) ?_;exact I.a96 (by rw [e0]; exact True.intro) (Nat.le_refl _) k ⟨_,g1⟩ (fun _=>a2b g1) fun _=>Yv r g2
end
noncomputable def ab1 (C:Addr) (f:Str) (ta tv:TE):TS:=fun D σ H=>tv σ H fun v H1=>ta σ H1 fun x H2=>∃ e t,x=.ref e/\H2 e=some (a9r e C t)/\∀ dx,H2 dx=none->dx≠e->D.nx σ (upd (upd H2 dx (Ce dx f v)) e (Vz e C t dx))
noncomputable def Kz (C:Addr) (f:Str):Sp:=fun vs H Q _=>∃ e t v,vs=[.ref e,v]/\H e=some (a9r e C t)/\∀ dx,H dx=none->dx≠e->Q .non (upd (upd H dx (Ce dx f v)) e (Vz e C t dx))
section
variable {X:Cx} {o value:Expr} {ta tv:TE} {f:Str} {pos pos':Pos} {C D fI:Addr}
theorem a3t (c:XC X.K C D fI f) (ha:PE X o ta) (hv:PE X value tv) (hs:swapsWith value (some (.Attribute o f pos')) pos.line X.env=pure false):PS X (.Assign [.Attribute o f pos'] value pos) (ab1 C f ta tv):=by
 intro pins s σ H D I h;refine plainObj_wpAny_Assign_Attribute (thn (hv pins s σ H _ I h) fun u s1 ⟨y,H1,I1,ry,q⟩=>thn (ha pins s1 σ H1 _ I1 q) fun ov s2 ⟨x,H2,I2,rx,e,t,ex,e0,q2⟩=>?_) hs;subst ex;obtain rfl:ov=Value.ref e:=rx;exact Xd c I2 e0 ry fun s3 dx h1 h2 I3=>⟨σ,_,I3,q2 dx h1 h2⟩
end
section
variable {P:Program} {w:World} {K:PySem.W.Frag} {mg:Str->Option Value} {base:Heap}
theorem Y4 {qual p f:Str} {st:Stmt} {C D fI:Addr} {fd:FuncData} {q1 q2 q3 q4:Pos} (c:XC K C D fI f) (F:Fun K "__init__" qual st fI fd) (S:jc ["self",p] ["self",p] (dh st))
  (hb:nu st=[.Assign [.Attribute (.Name "self" q1) f q2] (.Name p q3) q4]) (h1:(dh st).names.lookup ("self" : Str)=some .local) (h2:(dh st).names.lookup p=some .local) (hp:("self" : Str)≠p) (hd:(p==("__debug__" : Str))=false) (bG:(p==("__classdict__" : Str))=false)
  (dQ:∀ env:Env,swapsWith (.Name p q3) (some (.Attribute (.Name "self" q1) f q2)) q4.line env=pure false) :
  qz P w K mg base CX0 1 fI fd ["self",p] (Kz C f):=by
 refine F.ok S (fun vs H Q E ⟨e,t,v,h,_⟩=>by rw [h]; rfl) fun aS A outer s H vs Q E hr ⟨e,t,v,h,h0,h3⟩=>?_;subst h;rw [hb];refine ⟨_,K4 (a3t (C:=C) (D:=D) (fI:=fI) c (Vr (i:=0) rfl (.inl h1)) (Vr (i:=1) rfl (.inl h2) hd bG) (dQ _)),?_⟩;exact ⟨v,rfl,.ref e,rfl,e,t,rfl,h0,h3⟩
end
section
variable {X:Cx} {pins:List (Addr × Obj)} {σ:St} {H:Hp} {s:Shared} {C D fI:Addr} {f p:Str} {v:V} {u:Value} {E:Value->Shared->Prop} {fd:FuncData}
theorem a4t {Q:Value->Shared->Prop} (c:XC X.K C D fI f) (F:qz X.prog X.w X.K X.mg X.base CX0 1 fI fd ["self",p] (Kz C f)) (hr:zy 2 X.A) (hb:Binds X.K fd ["self",p] []) (I:Inv X pins σ H s) (r:RelV v u)
  (h:∀ s' e t dx,H e=none->H dx=none->dx≠e->s.heap.objs.size<=e->Inv X pins σ (upd (upd H dx (Ce dx f v)) e (Vz e C t dx)) s'->Q (.ref e) s'):wpAny (model X.prog X.w) X.A (call (.ref C) [u]) Q E s:=by
 obtain ⟨nm,q,Na,bs,sn,sub,ab,col,dd,k0,k1,k2,k3,k5,lk⟩:=c.lk;have hC:=I.kIn _ _ lk;have f1:=tc_lookup;have f2:=tc_bind (.ref C);have I1:Inv X pins σ H { s with heap:=s.heap.push (My.a2m [u]) }:=I.kept (t':=s.toks) fun b o z=>Heap.get?_push_of_some _ z;have z1:(s.heap.push (My.a2m [u])).objs.size=s.heap.objs.size+1:=Heap.size_push ..
 have g1:((s.heap.push (My.a2m [u])).push (My.V1 C s.heap.objs.size)).get? (s.heap.objs.size+1)=some (My.V1 C s.heap.objs.size):=by
  rw [<- z1]; exact Heap.get?_push_size _ rfl
 have I2:Inv X pins σ (upd H (s.heap.objs.size+1) (a9r (s.heap.objs.size+1) C s.heap.objs.size)) { s with heap:=(s.heap.push (My.a2m [u])).push (My.V1 C s.heap.objs.size) } :=
  I1.laid (t':=s.toks) (fun b o z=>Heap.get?_push_of_some _ z) (by show (s.heap.push (My.a2m [u])).objs.size<=_; rw [z1]; exact Nat.le_refl _) (a2b g1)
 have hE:H (s.heap.objs.size+1)=none:=I.hok.fresh (Nat.le_succ _);have r2:Vals [V.ref (s.heap.objs.size+1),v] [Value.ref (s.heap.objs.size+1),u]:=.cons rfl (.cons r .nil);obtain ⟨hh,g,d,tk,os⟩:=s;have hT:(⟨hh,g,d,tk,os⟩:Shared).TypeIs (.ref C) "type" := ⟨_,hC,rfl⟩;refine wpAny_call (codeAny_of_tree ?_);show wpAny _ _ (callAny (.ref C) _) _ _ _
 repeat (any_goals (first | assumption | with_reducible refine wpAny_loadPart_at hC ?_ | wp_step)) -- here
 refine ⟨rfl,?_⟩
 refine codeAny_call_builtin_at (Code.quiet_builtin _ (by decide +kernel)) entry_typeCall (wpAny_check_type_call_sub hC (My.Ir I.kIn hC (My.ab9 I.kIn c.base) c.init (beq_iff_eq.mp c.fn) (wpAny_call (codeAny_mono
  (F.run _ X.stack _ _ ⟨[Value.ref (hh.objs.size+1),u],[]⟩ [Value.ref (hh.objs.size+1),u] _ (fun w H'=>w=.non/\∃ dx,H dx=none/\dx≠hh.objs.size+1/\H'=upd (upd H dx (Ce dx f v)) (hh.objs.size+1) (Vz (hh.objs.size+1) C hh.objs.size dx)) (fun _ _ _=>False) (hr.make C [u] []) (I2.env0.make C [u] [])
   (hb _ [Value.ref (hh.objs.size+1),u] I2.kIn rfl) r2 ⟨_,_,v,rfl,bw,fun dx h1 h2=>⟨rfl,dx,by rw [c7 h2] at h1; exact h1,h2,?_⟩⟩) fun r s' hq=>?_)) (by show 1<=sizeLine; rw [sizeLine_eq]; decide)))
 ·funext b
  by_cases e1:b=hh.objs.size+1
  ·subst e1; rw [bw,bw]
  ·rw [c7 e1,c7 e1]
   by_cases e2:b=dx
   ·subst e2; rw [bw,bw]
   ·rw [c7 e2,c7 e2,c7 e1]
 ·cases r with
  | error e=>exact False.elim hq
  | ok fl =>
   cases fl with
   | ret u' =>
    obtain ⟨v',H',I3,rv,⟨ev,dx,h1,h2,e3⟩⟩:=I2.after hq;subst ev;subst e3;exact ⟨rv,h s' _ _ dx hE h1 h2 (Nat.le_succ _) I3⟩
   | next=>exact False.elim hq
   | brk=>exact False.elim hq
   | cont=>exact False.elim hq
end
noncomputable def CXx (P:Program) (w:World):CXT:=fun outer H s E e s'=>∃ a C dx T H',e=.ref a/\s.heap.objs.size<=a/\s.heap.objs.size<=T/\XAt s'.heap a C dx T .none/\H' a=none/\H' T=none /\
 s'.os=s.os/\AllBare s'.gens/\Un (frs outer) [] H H' s.heap s'.heap/\HOk P w H' s'.heap/\E (.ref C) (some dx) H'
section
variable {X:Cx} {pins:List (Addr × Obj)} {σ:St} {H:Hp} {s:Shared}
theorem Inv.noted {h':Heap} {ch:List Addr} (I:Inv X pins σ H s) (k:Kp (frs X.stack) ch s.heap h') (hn:∀ b∈ch,H b=none)
  (bS:∀ b∈ch,(b∈X.ex\/X.s₀.heap.objs.size<=b)/\b≠X.env.locals/\(∀ x c,X.env.cells.lookup x=some c->c≠b)/\∀ p∈X.pn++pins,p.1≠b):Inv X pins σ H { s with heap:=h' }:=by
 refine I.step (g':=s.gens) (d':=s.drawn) (t':=s.toks) (ch:=ch) bS (fun b o hL hb hc e n=>k.keep b o e (fun z=>(List.mem_cons.mp (I.Mw b z)).elim hL hb) hc) (fun b o _ _ hc e _=>k.slot b o e hc) (fun _ _ _ _ n=>n)
  (fun b o _ e=>k.there b o e) (fun _ _ e=>e) (fun _ _ _ e=>e) (fun b ps e=>⟨#[],by rw [e]; simp⟩) (fun m hm=>?_) (fun b u e=>?_) I.bare
 ·obtain ⟨o,es,ep,ho,r⟩:=hm;obtain ⟨sl,q⟩:=k.slot _ o ho fun z=>(bS _ z).2.1 rfl;exact ⟨_,es,ep,q,r⟩
 ·have tr:∀ c x,H c=some x->c∉frs X.stack/\c∉ch:=fun c x q=>⟨(fun z=>by rw [I.Ju c z] at q; cases q),(fun z=>by rw [hn c z] at q; cases q)⟩;refine (I.hok b u e).stay (fun c v hc q=>?_) (fun _ q=>q) fun _ _ q=>q;rcases hc with hc | hc
  ·subst hc; exact k.keep c v q (tr c u e).1 (tr c u e).2
  ·exact k.keep c v q (tr c _ hc).1 (tr c _ hc).2
theorem Inv.Je {e:Addr} {o:Obj} {vs:Array Value} (I:Inv X pins σ H s) (he:s.heap.get? e=some o) (hd:o.data=.fields vs):e≠X.env.locals/\(∀ x c,X.env.cells.lookup x=some c->c≠e)/\e∉frs X.stack:=by
 refine ⟨fun z=>?_,fun x c q z=>?_,fun z=>?_⟩
 ·obtain ⟨m,⟨o',es,ep,ho',hd',_⟩,_⟩:=I.loc;rw [<- z,he] at ho'; cases ho'; rw [hd'] at hd; cases hd
 ·obtain ⟨v,o',ho',hd'⟩:=I.cell x c q;rw [z,he] at ho'; cases ho'; rw [hd'] at hd; cases hd
 ·obtain ⟨_,o',ho',hnf⟩:=I.stack.mem z;rw [he] at ho'; cases ho'; exact hnf vs hd
end
section
variable {P:Program} {w:World} {K:PySem.W.Frag} {mg:Str->Option Value} {base:Heap} {N:List Str} {qual:Str} {scope:Scope} {f:Addr} {cd:Value} {A:Around} {outer:List Env} {s₀ s:Shared} {H₀ H:Hp} {E:XK} {pins:List (Addr × Obj)} {σ:St} {e C dx:Addr} {vs:Array Value}
theorem Z6 (I:Inv (Og (CXx P w) P w K mg base N qual scope f cd A outer s₀ H₀ E) pins σ H s) (he:s.heap.get? e=some (T4 C dx vs)) (h1:vs[1]? = some .none) (hn:H e=none) (hz:s₀.heap.objs.size<=e) (hE:E (.ref C) (some dx) H) :
  (Og (CXx P w) P w K mg base N qual scope f cd A outer s₀ H₀ E).xe (.ref e) s:=by
 have I0:=I.Eh (pins':=[]) (fun p hp=>nomatch hp);have ne:=I0.Je he rfl;show wpAny _ _ (leaving _ _) _ _ _;unfold leaving;refine wpAny_bind (Sg (L:=s₀.heap.objs.size) (base:=base) I0.ok.frames I0.stack rfl he h1 ne.2.2 fun h' T hT k x=>?_)
 have I1:=I0.noted k (fun b hb=>by rw [List.mem_singleton.mp hb]; exact hn) fun b hb=>by
  obtain rfl:=List.mem_singleton.mp hb;exact ⟨.inr hz,ne.1,ne.2.1,fun p hp=>nomatch hp⟩
 have iR:H T=none:=I0.hok.fresh hT;obtain ⟨oT,tsT,gT,dT,_⟩:=x.tb;have neT:=I1.Je (s:={ s with heap:=h' }) gT dT;have sz:s₀.heap.objs.size<=T:=Nat.le_trans I0.sz hT;refine Ei (s:={ s with heap:=h' }) x fun h2 k2 x2=>?_
 have I2:=I1.noted (h':=h2) (k2.mono (fun _ z=>nomatch z) (fun _ z=>z)) (fun b hb=>by rw [List.mem_singleton.mp hb]; exact iR) fun b hb=>by
  obtain rfl:=List.mem_singleton.mp hb;exact ⟨.inr sz,neT.1,neT.2.1,fun p hp=>nomatch hp⟩
 exact ⟨e,C,dx,T,H,rfl,hz,sz,x2,hn,iR,I2.os,I2.bare,I2.base,I2.hok,hE⟩
end
section
variable {X:Cx} {pins:List (Addr × Obj)} {σ:St} {H:Hp} {s:Shared} {e:Addr}
theorem Inv.a67 {φ:Heap->Prop} (I:Inv X pins σ (upd H e (.ext φ)) s) (hn:H e=none):Inv X pins σ H s:=by
 have ne:∀ b u,upd H e (.ext φ) b=some u->(∀ ψ,u≠.ext ψ)->b≠e/\H b=some u:=fun b u q n=>by
  by_cases z:b=e
  ·subst z; rw [bw] at q; cases q; exact absurd rfl (n _)
  ·rw [c7 z] at q; exact ⟨z,q⟩
 have fr:∀ b,upd H e (.ext φ) b=none->H b=none:=fun b q=>by
  by_cases z:b=e
  ·subst z; exact hn
  ·rw [c7 z] at q; exact q
 refine I.step (g':=s.gens) (d':=s.drawn) (t':=s.toks) (h':=s.heap) (ch:=[]) (fun _ z=>nomatch z) (fun b o _ _ _ q _=>q) (fun b o _ _ _ q _=>⟨o.slots,q⟩) (fun b o _ _ n=>fr b n) (fun b o _ q=>⟨o,q⟩)
  (fun b xs q=>(ne b _ q (fun _=>by intro z; cases z)).2) (fun b o u q=>(ne b _ q (fun _=>by intro z; cases z)).2) (fun b ps q=>⟨#[],by rw [(ne b _ q (fun _=>by intro z; cases z)).2]; simp⟩) (fun _ hm=>hm) (fun b u q=>?_) I.bare
 have z:b≠e:=fun z=>by subst z; rw [hn] at q; cases q
 refine (I.hok b u (by rw [c7 z]; exact q)).stay (fun _ _ _ r=>r) (fun c r=>(ne c _ r (fun _=>by intro z; cases z)).2) fun c xs r=>(ne c _ r (fun _=>by intro z; cases z)).2
end
def XW (X:Cx) (E:XK):Prop:=∀ (pins:List (Addr × Obj)) (σ:St) (H:Hp) (s:Shared) (e C dx:Addr) (vs:Array Value),Inv X pins σ H s->s.heap.get? e=some (T4 C dx vs)->vs[1]? = some .none->H e=none->X.s₀.heap.objs.size<=e->E (.ref C) (some dx) H->X.xe (.ref e) s
theorem a8o {P:Program} {w:World} {K:PySem.W.Frag} {mg:Str->Option Value} {base:Heap} {N:List Str} {qual:Str} {scope:Scope} {f:Addr} {cd:Value} {A:Around} {outer:List Env} {s₀:Shared} {H₀:Hp} {E:XK} :
  XW (Og (CXx P w) P w K mg base N qual scope f cd A outer s₀ H₀ E) E:=fun _ _ _ _ _ _ _ _ I he h1 hn hz hE=>Z6 I he h1 hn hz hE
section
variable {M:Model} {A:Around} {E:Value->Shared->Prop} {env:Env}
variable {nm q:Str} {C N:Addr} {bs bm:List Value} {hdct:Bool} {sn:List Str} {sub:List Value} {ab:Bool} {col:Option Bool} {dd:Option Addr} {k0 k1 k2 k3 k5:Option Value} {newId:String}
theorem Xx {s:Shared} {x:Sem Value} {Q:Flow->Shared->Prop} (bO:bm.contains (.type "BaseException")=true) (hh:A.handled=none)
  (h:wpAny M A x (fun v s1=>∃ e dx vs,v=.ref e/\s1.heap.get? C=some (excClassObj nm q C N bs bm hdct sn sub ab col dd k0 k1 k2 k3 k5 newId)/\s1.heap.get? e=some (T4 C dx vs)/\vs[1]? = some .none/\E (.ref e) s1) E s) :
  wpAny M A (raiseStmt env (some x) none) Q E s:=by
 have kE:(Value.ref C::bm).contains (.type "BaseException")=true:=by rw [List.contains_cons,bO,Bool.or_true]
 unfold raiseStmt;refine wpAny_bind (wpAny_mono h (fun v s1 h1=>?_) fun _ _ x=>x);obtain ⟨e,dx,vs,rfl,hC,he,hv,hE⟩:=h1;obtain ⟨hp,g,d,tk,os⟩:=s1
 repeat (first | with_reducible refine wpAny_loadPart_at he ?_ | with_reducible refine wpAny_loadPart_at hC ?_ | (with_reducible refine wpAny_isSubtype_exc hC ?_; rw [kE]) | wp_step)
 rw [hv];exact wpAny_pure (wpAny_pure (wpAny_raiseNew_none hh hE))
end
noncomputable def sRz (C:Addr) (f:Str) (E:XK) (te:TE):TS:=fun _ σ H=>te σ H fun v H1=>∀ dx,H1 dx=none->E (.ref C) (some dx) (upd H1 dx (Ce dx f v))
section
variable {X:Cx} {E:XK} {C D fI:Addr} {f p x:Str} {fd:FuncData} {arg:Expr} {te:TE} {np aL pos:Pos}
theorem a1j (W:XW X E) (c:XC X.K C D fI f) (F:qz X.prog X.w X.K X.mg X.base CX0 1 fI fd ["self",p] (Kz C f)) (hr:zy 2 X.A) (hb:Binds X.K fd ["self",p] []) (hg:Gl X x) (hm:X.mg x=some (.ref C)) (ha:PE X arg te)
  (bI:(x==("__debug__" : Str))=false:=by decide) (he:starEach [arg] X.env=[(false,eval arg X.env)]:=by rfl) :
  PS X (.Raise (some (.Call (.Name x np) [arg] [] aL)) none pos) (sRz C f E te):=by
 intro pins s σ H Dn I h;obtain ⟨nm,q,Na,bs,sn,sub,ab,col,dd,k0,k1,k2,k3,k5,lk⟩:=c.lk;rw [arm_exec_Raise];refine wpAny_bind (wpAny_standAt ?_);show wpAny _ _ (raiseStmt X.env (some (eval (.Call (.Name x np) [arg] [] aL) X.env >>= fun v=>standAt pos >>= fun _=>pure v)) none) _ _ _;refine Xx (C:=C) (nm:=nm) (q:=q) (N:=Na) (bs:=bs) (bm:=.ref D::My.vB) (hdct:=true) (sn:=sn) (sub:=sub) (ab:=ab) (col:=col) (dd:=dd) (k0:=k0) (k1:=k1) (k2:=k2) (k3:=k3) (k5:=k5) (newId := "ValueError.__new__") (by simp) hr.hd ?_;refine wpAny_bind (wpAny_mono (Q:=fun v s1=>∃ e dx vs,v=.ref e/\s1.heap.get? C=some (excClassObj nm q C Na bs (.ref D::My.vB) true sn sub ab col dd k0 k1 k2 k3 k5 "ValueError.__new__")/\s1.heap.get? e=some (T4 C dx vs)/\vs[1]? = some .none/\X.xe (.ref e) s1) ?_ (fun v s1 h1=>wpAny_bind (wpAny_standAt (wpAny_pure h1))) fun _ _ z=>z);refine wpAny_Call_Name_kw (Ih I hg hm ?_ bI);refine PySem.W.callWith_K (h₀:=X.base) I.ok.mod.kin c.kp (thn (nq ha wg (by rw [he]; rfl) aL pins s σ H (fun vs H1=>match vs with | [v]=>∀ dx,H1 dx=none->E (.ref C) (some dx) (upd H1 dx (Ce dx f v)) | _=>False) I h) fun us s1 ⟨vs,H1,I1,r,q⟩=>⟨I1.kIn,?_⟩) he rfl
 obtain ⟨v,ev,hE⟩:∃ v,vs=[v]/\∀ dx,H1 dx=none->E (.ref C) (some dx) (upd H1 dx (Ce dx f v)):=by
  match vs,q with
  | [v],q=>exact ⟨v,rfl,q⟩
 subst ev;obtain ⟨u,eu,rv⟩:=r.one;subst eu
 exact a4t c F hr hb I1 rv fun s' e t dx h1 h2 h3 h4 I2=>by
  have e0:upd H1 dx (Ce dx f v) e=none:=by rw [c7 (Ne.symm h3)]; exact h1
  have fe:s'.heap.get? e=some (My.Z0 C t dx):=(I2.hok e _ bw).1;have I3:=I2.a67 e0;exact ⟨e,dx,_,rfl,I3.kIn _ _ lk,fe,rfl,W pins σ _ s' e C dx _ I3 fe rfl e0 (Nat.le_trans I1.sz h4) (hE dx h2)⟩
end
def Off (X:Cx) (pins:List (Addr × Obj)) (b:Addr):Prop:=(b∈X.ex\/X.s₀.heap.objs.size<=b)/\b≠X.env.locals/\(∀ x c,X.env.cells.lookup x=some c->c≠b)/\∀ p∈X.pn++pins,p.1≠b
section
variable {X:Cx} {pins:List (Addr × Obj)} {σ:St} {H:Hp} {s:Shared}
theorem Inv.off {b:Addr} (I:Inv X pins σ H s) (h:s.heap.objs.size<=b):Off X pins b:=by
 refine ⟨.inr (Nat.le_trans I.sz h),fun z=>?_,fun x c q z=>?_,fun p hp z=>?_⟩
 ·subst z; exact absurd (Nat.lt_of_lt_of_le I.lt h) (Nat.lt_irrefl _)
 ·obtain ⟨v,o,ho,_⟩:=I.cell x c q;subst z; exact absurd (Nat.lt_of_lt_of_le (Heap.lt_size ho) h) (Nat.lt_irrefl _)
 ·have:=(I.pin p hp).1;rw [z] at this;exact absurd (Nat.lt_of_lt_of_le (Heap.lt_size this) h) (Nat.lt_irrefl _)
def XP (X:Cx) (CX:CXT) (pins:List (Addr × Obj)) (σ:St) (E:XK) (e:Value) (s':Shared):Prop:=∃ H1 s1,Inv X pins σ H1 s1/\CX X.stack H1 s1 E e s'
structure Lies (X:Cx) (pins:List (Addr × Obj)) (σ:St) (H:Hp) (s:Shared) (a C dx T:Addr):Prop where
 inv:Inv X pins σ H s
 at_:XAt s.heap a C dx T .none
 ha:H a=none
 hT:H T=none
 oa:Off X pins a
 oT:Off X pins T
theorem XP.lies {E:XK} {e:Value} (h:XP X (CXx X.prog X.w) pins σ E e s):∃ a C dx T H',e=.ref a/\Lies X pins σ H' s a C dx T/\E (.ref C) (some dx) H':=by
 obtain ⟨H1,s1,I,a,C,dx,T,H',rfl,za,zT,x,na,nT,os,ba,un,hok,hE⟩:=h;exact ⟨a,C,dx,T,H',rfl,⟨I.call' (ch:=[]) os un hok ba (fun b z=>nomatch z),x,na,nT,I.off za,I.off zT⟩,hE⟩
end
section
variable {X:Cx} {CX:CXT} {k:Nat} {f:Addr} {fd:FuncData} {ps:List Str} {sp:Sp} {x:Str} {p pos:Pos} {e:Expr} {es:List Expr} {t:TA}
theorem a6d (F:qz X.prog X.w X.K X.mg X.base CX k f fd ps sp) (hr:zy k X.A) (hg:Gl X x) (hm:X.mg x=some (.ref f)) (hk:PySem.W.keepIn X.K (.ref f)=true) (hb:Binds X.K fd ps []) (ha:PA X.nox (e::es) t)
  (bI:(x==("__debug__" : Str))=false:=by decide) (he:starEach (e::es) X.env=(false,eval e X.env)::starEach es X.env:=by rfl) (bB:(backTo pos (starEach es X.env)).any (·.1)=false:=by rfl)
  (pins:List (Addr × Obj)) (s:Shared) (σ:St) (H:Hp) (Q:VK) (E:XK) (I:Inv X pins σ H s) (h:t σ H fun vs H1=>sp vs H1 Q E) :
  wpAny (model X.prog X.w) X.A (eval (.Call (.Name x p) (e::es) [] pos) X.env) (EP X pins σ Q) (XP X CX pins σ E) s:=by
 refine wpAny_Call_Name_kw (Ih I hg hm ?_ bI);refine PySem.W.callWith_K (h₀:=X.base) I.ok.mod.kin hk (wpAny_mono (ha pos pins s σ H _ (I.wish _) h) (fun us s1 z0=>?_) fun _ _ z=>False.elim z) he bB;obtain ⟨vs,H1,I1',r,q⟩:=z0;have I1:=I1'.Aq;refine ⟨I1.kIn,?_⟩;have r2:Vals vs (us++[]):=by rw [List.append_nil]; exact r
 have hl:(us++[]).length=ps.length:=by rw [<- r2.length]; exact F.len _ _ _ _ q
 refine wpAny_call (codeAny_mono (F.run X.A X.stack s1 H1 ⟨us,[]⟩ (us++[]) vs Q E hr I1.env0 (hb s1 us I1.kIn hl) r2 q) fun r s' hq=>?_);cases r with
 | error e=>exact ⟨H1,s1,I1,hq⟩
 | ok fl =>
  cases fl with
  | ret u=>exact I1.after hq
  | next=>exact False.elim hq
  | brk=>exact False.elim hq
  | cont=>exact False.elim hq
end
abbrev Cx.mk' (X:Cx) (a:Addr):Cx:={ X with A:=X.A.mark (some (.ref a)),calm:=false,xe:=fun _ _=>False }
section
variable {X:Cx} {pins:List (Addr × Obj)} {σ:St} {H:Hp} {s:Shared} {a:Addr}
theorem Inv.mk' (I:Inv X pins σ H s) (a:Addr):Inv (X.mk' a) pins σ H s :=
 ⟨⟨I.ok.mod,I.ok.kind,I.ok.glob,I.ok.blt,I.ok.above,I.ok.inj,I.ok.has,I.ok.cab,(fun z=>nomatch z),I.ok.frames,I.ok.stk,I.ok.exf,I.ok.bs,I.ok.bsz,I.ok.noex,I.ok.exfs,I.ok.Ko,I.ok.frf⟩,I.os,I.bare,I.base,I.loc,I.cell,I.free,I.freeC,I.pin,I.hok,I.len⟩
theorem Inv.a9u (I:Inv (X.mk' a) pins σ H s) (hd:X.calm=true->X.A.handled=none):Inv X pins σ H s :=
 ⟨⟨I.ok.mod,I.ok.kind,I.ok.glob,I.ok.blt,I.ok.above,I.ok.inj,I.ok.has,I.ok.cab,hd,I.ok.frames,I.ok.stk,I.ok.exf,I.ok.bs,I.ok.bsz,I.ok.noex,I.ok.exfs,I.ok.Ko,I.ok.frf⟩,I.os,I.bare,I.base,I.loc,I.cell,I.free,I.freeC,I.pin,I.hok,I.len⟩
theorem name_goes {M:Model} {A:Around} {E:Value->Shared->Prop} {Q:Unit->Shared->Prop} {i:Nat} {n:Str} {pos:Pos} (I:Inv X pins σ H s) (hN:X.N.Nodup) (hi:X.N[i]? = some n) (hx:X.env.scope.names.lookup n=some .local)
  (h:∀ s',Inv X pins (σ.set i none) H s'->Q () s'):wpAny M A (do bindName X.env n .none; unbindBehindTheSuite X.env n pos) Q E s:=by
 obtain ⟨m,hn,hl⟩:=id I.loc;have eI:(X.env.scope.kind == .class||(X.env.scope.kind == .module&&X.env.locals != X.env.globals))=false:=by rw [I.ok.kind]; rfl
 have dI:i<σ.length:=by rw [I.len]; exact (List.getElem?_eq_some_iff.mp hi).1
 obtain ⟨oL,_,_,hoL,_⟩:=id hn;refine wpAny_nameGoes_keeps hx hn eI fun h' v ij hs=>h _ ?_;have nL:∀ b o,X.s₀.heap.get? b=some o->b≠X.env.locals:=fun b o e=>Nat.ne_of_lt (Nat.lt_of_lt_of_le (Heap.lt_size e) I.ok.above);refine ⟨I.ok,I.os,I.bare,⟨fun b o e n hb hx=>(hs.2 b (nL b o e)).trans (I.base.keep b o e n hb hx),fun b o e n hb hx=>?_,I.base.free,fun b o e hx=>?_,I.base.tups,I.base.frzs,I.base.tbls⟩,⟨_,ij,fun j y v' e1 e2 e3=>?_⟩,fun y c e=>?_,I.free,I.freeC,fun p hp=>?_,fun b u e=>?_,by rw [List.length_set]; exact I.len⟩
 ·obtain ⟨sl,e1⟩:=I.base.slot b o e n hb hx;exact ⟨sl,(hs.2 b (nL b o e)).trans e1⟩
 ·obtain ⟨o',e1⟩:=I.base.there b o e hx;exact ⟨o',(hs.2 b (nL b o e)).trans e1⟩
 ·by_cases hj:j=i
  ·subst hj;rw [List.getElem?_set_self dI] at e2; cases e2
  ·rw [List.getElem?_set_ne (Ne.symm hj)] at e2;obtain ⟨u',r',q⟩:=hl j y v' e1 e2 e3;refine ⟨u',r',?_⟩;rcases q with ⟨k,e⟩ | ⟨k,c,e,z⟩
   ·have:y≠n:=fun e=>hj (Jz hN e1 (e ▸ hi));exact .inl ⟨k,by simp [this,e]⟩
   ·exact .inr ⟨k,c,e,z.sameBut hs (I.cne y c e)⟩
 ·obtain ⟨w',z⟩:=I.cell y c e;exact ⟨w',z.sameBut hs (I.cne y c e)⟩
 ·obtain ⟨e,n,ne,nf,d⟩:=I.pin p hp;exact ⟨(hs.2 p.1 ne).trans e,n,ne,nf,d⟩
 ·have tr:∀ c x,H c=some x->c≠X.env.locals:=fun c x q z=>by rw [z,I.free] at q; cases q
  refine (I.hok b u e).stay (fun c w hc q=>(hs.2 c ?_).trans q) (fun _ q=>q) fun _ _ q=>q;rcases hc with hc | hc
  ·subst hc; exact tr c u e
  ·exact tr c _ hc
end
def XCl (K:PySem.W.Frag) (C:Addr) (bm:List Value):Prop:=bm.contains (.type "BaseException")=true/\∃ nm q Na bs hdct sn sub ab col dd k0 k1 k2 k3 k5,K.lookup C=some (excClassObj nm q C Na bs bm hdct sn sub ab col dd k0 k1 k2 k3 k5 "ValueError.__new__")
section
variable {M:Model} {A:Around} {E:Value->Shared->Prop} {K:PySem.W.Frag} {C C1 C2 C3:Addr} {bm fv kf ki:List Value} {Q:Bool->Shared->Prop}
theorem Wr {s:Shared} {a:Addr} {o:Obj} (X:K.In s.heap) (c:XCl K C bm) (c1:XCl K C1 fv) (he:s.heap.get? a=some o) (hc:o.cls=.ref C) (h:Q ((Value.ref C::bm).contains (.ref C1)) s):wpAny M A (excMatches (.ref a) (.ref C1)) Q E s:=by
 obtain ⟨_,nm,q,Na,bs,hdct,sn,sub,ab,col,dd,k0,k1,k2,k3,k5,lk⟩:=c;obtain ⟨b1,nm',q',Na',bs',hdct',sn',sub',ab',col',b7,k0',k1',k2',k3',k5',lk'⟩:=c1;obtain ⟨hp,g,d,tk,os⟩:=s;have hC:=X _ _ lk;have h1:=X _ _ lk';have e1:(Value.ref C1::fv).contains (.type "BaseException")=true:=by rw [List.contains_cons,b1,Bool.or_true]
 have f:=tc_notTuple;unfold excMatches
 repeat (first | (with_reducible refine wpAny_loadPart_at he ?_; rw [hc]) | with_reducible refine wpAny_loadPart_at h1 ?_ | (with_reducible refine wpAny_isSubtype_exc h1 ?_; rw [e1]) | with_reducible refine wpAny_isSubtype_exc hC ?_ | wp_step)
 cases hb:(Value.ref C::bm).contains (.ref C1) <;> (rw [hb] at h; wp_walk; exact h)
end
section
variable {X:Cx} {pins:List (Addr × Obj)} {σ:St} {H:Hp} {s:Shared} {a C dx T:Addr}
theorem Lies.mk' (L:Lies X pins σ H s a C dx T) (b:Addr):Lies (X.mk' b) pins σ H s a C dx T:=⟨L.inv.mk' b,L.at_,L.ha,L.hT,L.oa,L.oT⟩
theorem Lies.eval {e:Expr} {te:TE} {Q:VK} (L:Lies X pins σ H s a C dx T) (he:PE X e te) (h:te σ H Q) :
  wpAny (model X.prog X.w) X.A (eval e X.env) (fun u s'=>∃ v H1,Lies X pins σ H1 s' a C dx T/\RelV v u/\Q v H1) X.xe s:=by
 obtain ⟨ne,⟨vs,g1,v1⟩,o,ts,g2,d2,t3⟩:=L.at_
 have fs:∀ b,b∉frs X.stack->b≠X.env.locals->b∉X.fs:=fun b h1 _ z=>by
  rcases L.inv.ok.stk with q | ⟨q,_⟩
  ·rw [q] at h1; exact h1 z
  ·rw [q] at h1;refine h1 ?_;unfold frs;rw [List.filterMap_cons];split
   ·exact z
   ·exact List.mem_cons_of_mem _ z
 have n1:=L.inv.Je g1 rfl;have n2:=L.inv.Je g2 d2
 have I:=L.inv.Eh (pins':=(a,T4 C dx vs)::(T,o)::pins) fun p hp=>by
  rcases List.mem_cons.mp hp with rfl | hp
  ·exact ⟨g1,L.ha,n1.1,fs a n1.2.2 n1.1,fun v q=>by cases q⟩
  ·rcases List.mem_cons.mp hp with rfl | hp
   ·exact ⟨g2,L.hT,n2.1,fs T n2.2.2 n2.1,fun v q=>by rw [d2] at q; cases q⟩
   ·exact L.inv.pin p (List.mem_append_right _ hp)
 refine thn (he _ s σ H Q I h) fun u s1 z0=>?_;obtain ⟨v,H1,I1,r,q⟩:=z0;obtain ⟨e1,z1,_⟩:=I1.pin (a,T4 C dx vs) (List.mem_append_right _ List.mem_cons_self);obtain ⟨e2,z2,_⟩:=I1.pin (T,o) (List.mem_append_right _ (List.mem_cons_of_mem _ List.mem_cons_self));refine ⟨v,H1,⟨I1.Eh fun p hp=>I1.pin p (List.mem_append_right _ (List.mem_cons_of_mem _ (List.mem_cons_of_mem _ hp))),⟨ne,⟨vs,e1,v1⟩,o,ts,e2,d2,t3⟩,z1,z2,L.oa,L.oT⟩,r,q⟩
end
def PHs (X:Cx) (hs:List ExceptHandler) (C:Addr) (t:Addr->TS):Prop :=
 ∀ (pins:List (Addr × Obj)) (s:Shared) (σ:St) (H:Hp) (D:Ends) (a dx T:Addr),Lies X pins σ H s a C dx T->t dx D σ H->wpAny (model X.prog X.w) X.A (handleBy (.ref a) X.env hs) (SP X pins D) X.xe s
section
variable {X:Cx} {rest:List ExceptHandler} {C C1 C2 C3:Addr} {bm fv kf ki:List Value} {t:Addr->TS} {x1 x2 x3:Str} {p1 p2 p3 pt pos:Pos} {nm:Option Str} {body:List Stmt} {ec:Nat}
end
def Rt (a C dx:Addr):HO:=.ext fun h=>∃ vs,h.get? a=some (T4 C dx vs)
section
variable {X:Cx} {pins:List (Addr × Obj)} {σ:St} {H:Hp} {s:Shared} {a C dx T:Addr}
theorem Lies.seen (L:Lies X pins σ H s a C dx T):Inv X pins σ (upd H a (Rt a C dx)) s:=by
 have I:=L.inv;obtain ⟨_,⟨vs,ga,_⟩,_⟩:=L.at_;have ne:∀ b u,H b=some u->b≠a:=fun b u q=>jh q L.ha
 refine I.step (g':=s.gens) (d':=s.drawn) (t':=s.toks) (h':=s.heap) (ch:=[a]) (fun b hb=>?_) (fun b o _ _ _ q _=>q) (fun b o _ _ _ q _=>⟨o.slots,q⟩) (fun b o hb _ n=>by rw [c7 (fun z=>hb (by simp [z]))]; exact n) (fun b o _ q=>⟨o,q⟩)
  (fun b xs q=>by rw [c7 (ne b _ q)]; exact q) (fun b o u q=>by rw [c7 (ne b _ q)]; exact q) (fun b ps q=>⟨#[],by rw [c7 (ne b _ q),q]; simp⟩) (fun _ hm=>hm) (fun b u q=>?_) I.bare
 ·obtain rfl:=List.mem_singleton.mp hb;exact L.oa
 ·by_cases z:b=a
  ·subst z; rw [bw] at q; cases q;exact ⟨⟨vs,ga⟩,⟨_,ga⟩,fun h1 h2 ⟨ws,e⟩ k=>⟨ws,k _ e⟩⟩
  ·rw [c7 z] at q;exact (I.hok b u q).stay (fun _ _ _ r=>r) (fun c r=>by rw [c7 (ne c _ r)]; exact r) fun c xs r=>by rw [c7 (ne c _ r)]; exact r
theorem Lies.flight {M:Model} {A:Around} {E:Value->Shared->Prop} {Q:Unit->Shared->Prop} (L:Lies X pins σ H s a C dx T) (h:∀ s',Lies X pins σ H s' a C dx T->Q () s'):wpAny M A (setFlight (.ref a) none) Q E s :=
 Ei L.at_ fun h' k x=>h _ ⟨L.inv.noted (k.mono (fun _ z=>nomatch z) (fun _ z=>z)) (fun b hb=>by rw [List.mem_singleton.mp hb]; exact L.hT) (fun b hb=>by rw [List.mem_singleton.mp hb]; exact L.oT),x,L.ha,L.hT,L.oa,L.oT⟩
theorem Lies.note {A:Around} {E:Value->Shared->Prop} {Q:Unit->Shared->Prop} (cC:X.stack=X.env::X.outer) (cH:X.env.frame=some X.env.locals) (hA:A.frames=some X.stack) (L:Lies X pins σ H s a C dx T) (h:∀ s' T',Lies X pins σ H s' a C dx T'->Q () s') :
  wpAny (model X.prog X.w) A (noteFrame (.ref a) X.env) (fun _ s2=>wpAny (model X.prog X.w) A (setFlight (.ref a) none) Q E s2) E s:=by
 obtain ⟨ne,⟨vs,ga,v1⟩,o,ts,gT,dT,t3⟩:=id L.at_;have n1:=L.inv.Je ga rfl;have n2:=L.inv.Je gT dT;have fr:=L.inv.stack;rw [cC] at hA n1 n2 fr;refine Vv (L:=X.env.locals) (base:=X.base) hA fr cH L.at_ n1.2.2 n2.2.2 fun h' T' gD k x=>?_;rw [<- cC] at k
 have I1:=L.inv.noted k (fun b hb=>by
  rcases List.mem_cons.mp hb with rfl | hb -- here
  ·exact L.ha
  ·rw [List.mem_singleton.mp hb]; exact L.hT) (fun b hb=>by
  rcases List.mem_cons.mp hb with rfl | hb -- here
  ·exact L.oa
  ·rw [List.mem_singleton.mp hb]; exact L.oT)
 refine Ei (s:={ s with heap:=h' }) x fun h2 k2 x2=>h _ T' ⟨I1.noted (h':=h2) (k2.mono (fun _ z=>nomatch z) (fun _ z=>z)) (fun b hb=>by rw [List.mem_singleton.mp hb]; exact L.inv.hok.fresh gD) (fun b hb=>by rw [List.mem_singleton.mp hb]; exact L.inv.off gD),x2,L.ha,L.inv.hok.fresh gD,L.oa,L.inv.off gD⟩
end
noncomputable def a7v (i:Nat) (D:Ends):Ends where
 nx:=fun σ H=>D.nx (σ.set i none) H
 rt:=D.rt
 bk:=fun σ H=>D.bk (σ.set i none) H
 ct:=fun σ H=>D.ct (σ.set i none) H
section
variable {X:Cx} {rest:List ExceptHandler} {C C1:Addr} {bm fv:List Value} {t:Addr->TS} {x1 n:Str} {p1 pos:Pos} {fJ:Stmt} {dY:List Stmt} {ts:TS} {i:Nat}
theorem a3w (hd:X.calm=true->X.A.handled=none) (hN:X.N.Nodup) (hi:X.N[i]? = some n) (hn:X.env.scope.names.lookup n=some .local) (c:XCl X.K C bm) (c1:XCl X.K C1 fv) (y:(Value.ref C::bm).contains (.ref C1)=true) (g1:Gl X x1) (m1:X.mg x1=some (.ref C1))
  (hS:∀ a,PSs (X.mk' a) (fJ::dY) ts) (d1:(x1==("__debug__" : Str))=false:=by decide) :
  PHs X (.ExceptHandler (some (.Name x1 p1)) (some n) (fJ::dY) pos::rest) C fun dx D σ H=>∀ a,H a=none->i<σ.length->ts (a7v i D) (σ.set i (some (.ref a))) (upd H a (Rt a C dx)):=by
 intro pins s σ H D a dx T L hq;refine wpAny_handleBy_cons (codeAny_handlers_test ?_) (by intro q; cases q);have pe:PE (X.mk' a) (.Name x1 p1) (tC (.ref C1)):=a5s g1 m1 rfl d1;refine wpAny_mono ((L.mk' a).eval (Q:=fun v H1=>v=.ref C1/\H1=H) pe ⟨rfl,rfl⟩) (fun u s1 z0=>?_) fun _ _ z=>False.elim z;obtain ⟨v,H1,L1,r,ev,eH⟩:=z0;subst ev;subst eH;obtain rfl:u=Value.ref C1:=r;obtain ⟨_,⟨vs,ga,_⟩,_⟩:=L1.at_;refine Wr L1.inv.kIn c c1 ga rfl ?_;rw [y];refine codeAny_handlers_suite_as ?_;refine L1.flight fun s2 L2=>?_;refine Bs (X:=X.mk' a) (v:=.ref a) L2.seen hN hi (.inl hn) rfl (fun s3 I3=>?_) (.inr hn);refine wpAny_mono (hS a pins s3 _ _ _ I3 (hq a L.ha (by rw [L.inv.len]; exact (List.getElem?_eq_some_iff.mp hi).1))) (fun fl s4 h4=>?_) fun _ _ z=>False.elim z;cases fl with
 | next =>
  obtain ⟨σ',H',I4,q⟩:=h4;exact name_goes (I4.a9u hd) hN hi hn fun s5 I5=>⟨_,H',I5,q⟩
 | brk =>
  obtain ⟨σ',H',I4,q⟩:=h4;exact name_goes (I4.a9u hd) hN hi hn fun s5 I5=>⟨_,H',I5,q⟩
 | cont =>
  obtain ⟨σ',H',I4,q⟩:=h4;exact name_goes (I4.a9u hd) hN hi hn fun s5 I5=>⟨_,H',I5,q⟩
 | ret u =>
  obtain ⟨v,σ',H',I4,r,q⟩:=h4;exact name_goes (I4.a9u hd) hN hi hn fun s5 I5=>⟨v,_,H',I5,r,q⟩
end
abbrev TB:=Ends->XK->St->Hp->Prop
def PB (X:Cx) (st:List Stmt) (t:TB):Prop :=
 ∀ (pins:List (Addr × Obj)) (s:Shared) (σ:St) (H:Hp) (D:Ends) (E:XK),Inv X pins σ H s->t D E σ H->wpAny (model X.prog X.w) X.A (execs st X.env) (SP X pins D) (XP X (CXx X.prog X.w) pins σ E) s
noncomputable def aaj (C:Addr) (tb:TB) (th:Addr->TS):TS:=fun D σ H=>tb D (fun cls dx H'=>∃ d,cls=.ref C/\dx=some d/\th d D σ H') σ H
section
variable {X:Cx} {body:List Stmt} {h₀:ExceptHandler} {hs:List ExceptHandler} {C:Addr} {tb:TB} {th:Addr->TS} {pos:Pos}
theorem a8g (cC:X.stack=X.env::X.outer) (cH:X.env.frame=some X.env.locals) (hb:PB X body tb) (hh:PHs X (h₀::hs) C th):PS X (.Try body (h₀::hs) [] [] pos) (aaj C tb th):=by
 intro pins s σ H D I h;refine wpAny_Try_except (wpAny_mono (hb pins s σ H D _ I h) (fun f s1 q=>?_) fun e s1 q=>?_)
 ·cases f with
  | next=>exact wpAny_execs_nil q
  | brk=>exact q
  | cont=>exact q
  | ret u=>exact q
 ·obtain ⟨a,C',dx,T,H',rfl,L,d,e1,e2,q⟩:=q.lies;cases e1;cases e2;exact L.note cC cH L.inv.ok.frames fun s2 T' L2=>hh pins s2 σ H' D a dx T' L2 q
end
end L2
end
section
namespace C
open PySem PySem.Spec PyProof.Rows L2
def ac1 (K:PySem.W.Frag) (B:Bas) (Cl:Addr) (f:Str) (E:XK) (D:Ends) (ps:List (V × T)):Flow ⊕ T->Sta->Prop
 | .inl fl,ae=>Fin K B D ps fl ae
 | .inr t,ae=>∀ v dx σ' H' S' ag,Rel K B ae σ' H' ((v,t)::ps) S' ag->S' dx=some (Ce dx f v)->E (.ref Cl) (some dx) H'
noncomputable def Iw (K:PySem.W.Frag) (B:Bas) (Cl:Addr) (f:Str) (E:XK) (s:SX):TS:=fun D σ H=>∃ st ps S as,Rel K B st σ H ps S as/\∃ fl ae,s st=some (fl,ae)/\ac1 K B Cl f E D ps fl ae
theorem Ext.beside {S H:Hp} {p:Addr} (h:Same S H) (n:H p=none) (o:HO):Ext S H S (upd H p o) :=
 ⟨Same.refl _,Same.upd n o,fun b u q=>by rw [c7 (jh (h _ _ q) n)]; exact h _ _ q,fun _ q=>.inl q⟩
section
variable {K:PySem.W.Frag} {B:Bas} {st:Sta} {σ σ':L2.St} {H S:Hp} {ps:List (V × T)} {as:List Addr}
theorem Rel.clr {i:Nat} (r:Rel K B st σ H ps S as) (h:∀ k,k≠i->σ'[k]? = σ[k]?) (hl:σ'.length=σ.length):Rel K B (clr i st) σ' H ps S as:=by
 have key:∀ (k:Nat) t f,(st.env.set i none)[k]? = some (some (t,f))->k≠i/\st.env[k]? = some (some (t,f)):=fun k t f e=>by
  by_cases z:i=k
  ·subst z
   by_cases q:i<st.env.length
   ·rw [List.getElem?_set_self q] at e; cases e
   ·rw [List.getElem?_eq_none (by rw [List.length_set]; exact Nat.le_of_not_lt q)] at e; cases e
  ·rw [List.getElem?_set_ne z] at e; exact ⟨Ne.symm z,e⟩
 refine ⟨r.sub,r.grow,fun k t f e=>?_,fun a b t u p ea eb sa sb=>?_,r.sto,r.pend,by rw [hl,r.len]; exact (List.length_set ..).symm⟩
 ·obtain ⟨n,e'⟩:=key k t f e;rw [h k n]; exact r.slots k t f e'
 ·obtain ⟨na,ea'⟩:=key a t true ea;obtain ⟨nb,eb'⟩:=key b u true eb;rw [h a na] at sa;rw [h b nb] at sb;exact r.apart a b t u p ea' eb' sa sb
end
section
variable {X:Cx} {B:Bas} {c:Expr} {pos:Pos} {u v:SX} {Cl:Addr} {f:Str} {E:XK}
theorem m7 {st:Stmt} {w:S} (h:PS X st (sOf X.K B w)):PS X st (Iw X.K B Cl f E (lx w)):=h.imp fun D σ H z9=>by
 obtain ⟨st,ps,S,as,R,fl,ae,e,q⟩:=z9;unfold lx at e;cases z:w st with
 | none=>rw [z] at e; cases e
 | some p=>obtain ⟨fl',s'⟩:=p; rw [z] at e; cases e; exact ⟨st,ps,S,as,R,fl',_,z,q⟩
theorem Qm {st:List Stmt} {w:S} (h:PSs X st (sOf X.K B w)):PSs X st (Iw X.K B Cl f E (lx w)):=fun pins s σ H D I z9=>by
 obtain ⟨st,ps,S,as,R,fl,ae,e,q⟩:=z9;unfold lx at e;cases z:w st with
 | none=>rw [z] at e; cases e
 | some p=>obtain ⟨fl',s'⟩:=p; rw [z] at e; cases e; exact h pins s σ H D I ⟨st,ps,S,as,R,fl',_,z,q⟩
theorem Du {st:Stmt} (h1:PS X st (Iw X.K B Cl f E u)):PSs X [st] (Iw X.K B Cl f E u):=K4 h1
theorem a1b {st ae:Sta} {fl:Flow ⊕ T} (h:vd u v st=some (fl,ae)):(∃ s1,u st=some (.inl .next,s1)/\v s1=some (fl,ae))\/(u st=some (fl,ae)/\fl≠.inl .next):=by
 unfold vd at h;split at h
 ·rename_i s1 e; exact .inl ⟨s1,e,h⟩
 ·rename_i r hn;refine .inr ⟨h,fun z=>?_⟩;subst z;exact hn _ h
theorem m8 {st:Stmt} {rest:List Stmt} (h1:PS X st (Iw X.K B Cl f E u)) (h2:PSs X rest (Iw X.K B Cl f E v)):PSs X (st::rest) (Iw X.K B Cl f E (vd u v)):=(Ph h1 h2).imp fun D σ H z9=>by
 obtain ⟨st,ps,S,as,R,fl,ae,e,q⟩:=z9;rcases a1b e with ⟨s1,e1,e2⟩ | ⟨e1,hn⟩
 ·exact ⟨st,ps,S,as,R,.inl .next,s1,e1,fun σ' H' S' ag R'=>⟨s1,ps,S',ag,R',fl,ae,e2,q⟩⟩
 ·refine ⟨st,ps,S,as,R,fl,ae,e1,?_⟩;cases fl with
  | inr t=>exact q
  | inl fl =>
   cases fl with
   | next=>exact absurd rfl hn
   | ret t=>exact q
   | brk=>exact q
   | cont=>exact q
theorem a83 {c1:M Bool} {sa sb:List Stmt} (hc:PT X c (cOf X.K B c1)) (ha:PSs X sa (Iw X.K B Cl f E u)) (hb:PSs X sb (Iw X.K B Cl f E v)):PS X (.If c sa sb pos) (Iw X.K B Cl f E (xIf c1 u v)):=(a9d hc ha hb).imp fun D σ H z9=>by
 obtain ⟨st,ps,S,as,R,fl,ae,e,q⟩:=z9;unfold xIf at e;split at e
 ·rename_i s1 e1;exact ⟨st,ps,S,as,R,true,s1,e1,fun H1 S1 aC R1=>a2x ⟨s1,ps,S1,aC,R1,fl,ae,e,q⟩⟩
 ·rename_i s1 e1;exact ⟨st,ps,S,as,R,false,s1,e1,fun H1 S1 aC R1=>a2h ⟨s1,ps,S1,aC,R1,fl,ae,e,q⟩⟩
 ·cases e
theorem Z5 {D fI:Addr} {p x:Str} {fd:FuncData} {arg:Expr} {m:M T} {np aL:Pos} (W:XW X E) (c:XC X.K Cl D fI f) (F:qz X.prog X.w X.K X.mg X.base CX0 1 fI fd ["self",p] (Kz Cl f)) (hr:zy 2 X.A) (hb:Binds X.K fd ["self",p] []) (hg:Gl X x) (hm:X.mg x=some (.ref Cl)) (ha:PE X arg (tOf X.K B m))
  (bI:(x==("__debug__" : Str))=false:=by decide) (he:starEach [arg] X.env=[(false,eval arg X.env)]:=by rfl) :
  PS X (.Raise (some (.Call (.Name x np) [arg] [] aL)) none pos) (Iw X.K B Cl f E (Hz m)):=(a1j W c F hr hb hg hm ha bI he).imp fun D σ H z9=>by
 obtain ⟨st,ps,S,as,R,fl,ae,e,q⟩:=z9;unfold Hz at e;split at e
 ·rename_i t s1 e1;cases e;exact ⟨st,ps,S,as,R,t,_,e1,fun v H1 S1 aC R1 dx hn=>q v dx σ _ _ aC (R1.ext (Ext.laid R1.sub hn _)) bw⟩
 ·cases e
theorem W9 {g:G} {b:SX} {t:T} {r:List T} {s s':Sta} {fl:Flow ⊕ T} (h:tu g b (t::r) s=some (fl,s')):∃ s1 fb s2,g t s=some s1/\b s1=some (fb,s2) /\
  (match fb with | .inl .next=>tu g b r s2=some (fl,s') | .inl .cont=>tu g b r s2=some (fl,s') | .inl .brk=>fl=.inl .next/\s'=s2 | .inl (.ret v)=>fl=.inl (.ret v)/\s'=s2 | .inr v=>fl=.inr v/\s'=s2):=by
 rw [tu] at h;dsimp only at h;split at h
 ·rename_i s1 e1;split at h
  ·rename_i s2 e2; exact ⟨s1,.inl .next,s2,e1,e2,h⟩
  ·rename_i s2 e2; exact ⟨s1,.inl .cont,s2,e1,e2,h⟩
  ·rename_i s2 e2; cases h; exact ⟨s1,.inl .brk,_,e1,e2,rfl,rfl⟩
  ·rename_i v s2 e2; cases h; exact ⟨s1,.inl (.ret v),_,e1,e2,rfl,rfl⟩
  ·rename_i v s2 e2; cases h; exact ⟨s1,.inr v,_,e1,e2,rfl,rfl⟩
  ·cases h
 ·cases h
theorem a1w {tg iter:Expr} {g:G} {it:M (List T)} {body:List Stmt} (hp:PassesOwn (model X.prog X.w) X.A X.env X.xe) (hc:X.calm=true) (hi:PI X tg iter (iOf X.K B it)) (hg:PG X tg (gOf X.K B g)) (hb:PSs X body (Iw X.K B Cl f E u)) (bE:∀ st ts ae,it st=some (ts,ae)->ts.length<=sizeLine)
  (hs:∀ x,foldedSetIterable iter X.env x=pure x:=by intro _; rfl):PS X (.For tg iter body [] pos) (Iw X.K B Cl f E (a3d g it u)):=(a2r hp hc hi hg hb hs).imp fun D σ H z9=>by
 obtain ⟨st,ps,S,as,R,fl,ae,e,q⟩:=z9;unfold a3d at e;split at e
 case h_2=>cases e
 rename_i ts s1 e1;refine ⟨st,ps,S,as,R,ts,s1,e1,bE _ _ _ e1,fun J H1 S1 aC ps' R1 facts=>?_⟩;refine ⟨fun i m σ H=>m=ts.length - i/\i<=ts.length/\∃ bq Si a9,Rel X.K B bq σ H (ps'++ps) Si a9/\tu g u (ts.drop i) bq=some (fl,ae),⟨ts.length,by simp,Nat.zero_le _,s1,S1,aC,R1,by simpa using e⟩,?_⟩;rintro i m cV H2 ⟨rfl,hi,bq,Si,a9,Ri,ei⟩;have F:=facts Si a9 H2 (fun p hp=>Ri.pend p (List.mem_append_left _ hp)) Ri.sub;have sub:∀ p∈ps,p∈ps'++ps:=fun p hp=>List.mem_append_right _ hp
 have fo:∀ (z:V × T) (p),p∈z::ps->p∈z::(ps'++ps):=fun z p hp=>by
  rcases List.mem_cons.mp hp with rfl | y
  ·exact List.mem_cons_self
  ·exact List.mem_cons_of_mem _ (sub p y)
 by_cases bA:i<ts.length
 ·rw [List.drop_eq_getElem_cons bA] at ei;obtain ⟨s2,fb,s3,eg,eb,er⟩:=W9 ei;have ht:ts[i]? = some ts[i]:=List.getElem?_eq_getElem bA;refine .inr ⟨(F.go i _ ht).1,fun σ' H'=>∃ bq Si a9,Rel X.K B bq σ' H' (ps'++ps) Si a9/\tu g u (ts.drop (i+1)) bq=some (fl,ae),fun σ' H' h=>⟨ts.length - (i+1),by omega,rfl,bA,h⟩,fun x H' y=>?_⟩;obtain ⟨S',ex,rx⟩:=(F.go i _ ht).2 x H' y;refine ⟨bq,ps'++ps,S',a9,_,(Ri.ext ex).push rx,s2,eg,fun cU H3 S3 bp R3=>⟨s2,ps'++ps,S3,bp,R3,fb,s3,eb,?_⟩⟩;cases fb with
  | inr v =>
   obtain ⟨rfl,rfl⟩:=er;exact fun w dx σ' H' S' ag R' hd=>q w dx σ' H' S' ag (R'.pick (fo _)) hd
  | inl fb =>
   cases fb with
   | next=>exact fun σ' H' S' ag R'=>⟨s3,S',ag,R',er⟩
   | cont=>exact fun σ' H' S' ag R'=>⟨s3,S',ag,R',er⟩
   | brk =>
    obtain ⟨rfl,rfl⟩:=er;exact fun σ' H' S' ag R'=>q σ' H' S' ag (R'.pick sub)
   | ret v =>
    obtain ⟨rfl,rfl⟩:=er;exact fun v σ' H' S' ag R'=>q v σ' H' S' ag (R'.pick (fo _))
 ·have fZ:i=ts.length:=by omega
  subst fZ;rw [List.drop_length] at ei;cases ei;exact .inl ⟨F.stop _ (Nat.le_refl _),q cV H2 Si a9 (Ri.pick sub)⟩
end
def abq (K:PySem.W.Frag) (B:Bas) (Cl:Addr) (f:Str) (aR:List SO) (Q:VK) (E:XK):T ⊕ T->Prop
 | .inl t=>∀ v H' S' ag,Ol B S' ag H'->Same S' H'->Al K S' ag H' aR->Rep K S' ag v t->Q v H'
 | .inr t=>∀ v dx H' S' ag,Ol B S' ag H'->Same S' H'->Al K S' ag H' aR->Rep K S' ag v t->S' dx=some (Ce dx f v)->E (.ref Cl) (some dx) H'
noncomputable def spX (K:PySem.W.Frag) (ar:Nat) (Cl:Addr) (f:Str) (F:FnX):Sp:=fun vs H Q E=>∃ S as sto ts r aR,Same S H/\Al K S as H sto/\jg K S as vs ts/\ts.length=ar/\F ts sto=some (r,aR)/\abq K ⟨S,as,H⟩ Cl f aR Q E r
section
variable {P:Program} {w:World} {K:PySem.W.Frag} {mg:Str->Option Value} {base:Heap}
theorem a0i {x qual:Str} {st:Stmt} {a Cl:Addr} {f:Str} {fd:FuncData} {N ps:List Str} {k:Nat} {b:SX} (F:Fun K x qual st a fd) (Sc:jc N ps (dh st)) (hN:ps.length<=N.length)
  (hb:∀ (aS:Value) (A:Around) (outer:List Env) (s:Shared) (H:Hp) (E:XK) (B:Bas),zy k (A.deeper (envOfC qual (dh st) s.heap.objs.size a aS)) ->
   PSs (Og (CXx P w) P w K mg base N qual (dh st) a aS A outer s H E) (nu st) (Iw K B Cl f E b)):qz P w K mg base (CXx P w) (k+1) a fd ps (spX K ps.length Cl f (u6 N.length b)):=by
 obtain ⟨oc,od,kV,doc,pm,an,aS,ct,cM,rfl,lk,bG⟩:=F.ex;refine Yo lk bG Sc (fun vs H Q E ⟨S,as,sto,ts,t,aR,h1,h2,h3,h4,_⟩=>by rw [h3.length,h4]) fun A outer s H vs Q E hr h=>?_;obtain ⟨S,as,sto,ts,r,aR,h1,h2,h3,h4,h5,q⟩:=h;refine ⟨_,hb aS A outer s H E ⟨S,as,H⟩ hr,?_⟩;have R:Rel K ⟨S,as,H⟩ ⟨ts.map (fun t=>some (t,false))++List.replicate (N.length - ts.length) none,sto⟩ (L2.start N vs) H [] S as:=Bc h1 h2 h3 (by rw [h4]; exact hN);unfold u6 at h5;split at h5
 ·rename_i t' s' e;cases h5;exact ⟨_,[],S,as,R,.inl (.ret _),s',e,fun v σ' H' S' ag R'=>q v H' S' ag R'.grow R'.sub R'.sto R'.top⟩
 ·rename_i s' e;cases h5;exact ⟨_,[],S,as,R,.inl .next,s',e,fun σ' H' S' ag R'=>q .non H' S' ag R'.grow R'.sub R'.sto .non⟩
 ·rename_i t' s' e;cases h5;exact ⟨_,[],S,as,R,.inr _,s',e,fun v dx σ' H' S' ag R' hd=>q v dx H' S' ag R'.grow R'.sub R'.sto R'.top hd⟩
 ·cases h5
theorem a5t {a Cl:Addr} {f:Str} {fd:FuncData} {ps:List Str} {k:Nat} {F:FnX} (G:qz P w K mg base (CXx P w) k a fd ps (spX K ps.length Cl f F)):qz P w K mg base CX0 k a fd ps (spF K ps.length (norm F)):=by
 refine ⟨fun vs H Q E ⟨S,as,sto,ts,t,aR,h1,h2,h3,h4,_⟩=>by rw [h3.length,h4],fun A outer s H args us vs Q E hr he hb hv h=>?_⟩;obtain ⟨S,as,sto,ts,t,aR,h1,h2,h3,h4,h5,q⟩:=h;unfold norm at h5;split at h5
 ·rename_i t1 s1 e;cases h5;refine codeAny_mono (G.run A outer s H args us vs Q (fun _ _ _=>False) hr he hb hv ⟨S,as,sto,ts,.inl _,_,h1,h2,h3,h4,e,q⟩) fun r s' hq=>?_;cases r with
  | ok fl=>cases fl <;> exact hq
  | error e =>
   obtain ⟨_,_,_,_,_,_,_,_,_,_,_,_,_,_,_,z⟩:=hq;exact z
 ·cases h5
end
section
variable {X:Cx} {B:Bas} {e:Expr} {es:List Expr} {ms:M (List T)} {pos p q1 q2 a8:Pos} {k:Nat} {a Cl:Addr} {f x:Str} {fd:FuncData} {pn:List Str} {F:FnX} {h₀:ExceptHandler} {hs:List ExceptHandler} {th:Addr->TS} {i j:Nat} {hv:T->Option T}
def HOf (K:PySem.W.Frag) (B:Bas) (f:Str) (i j:Nat) (hv:T->Option T) (th:Addr->TS):Prop :=
 ∀ dx D σ H st ps S as v t u,Rel K B st σ H ((v,t)::ps) S as->S dx=some (Ce dx f v)->hv t=some u->(∀ σ' H' S' ag,Rel K B (clr i (gn j u false (clr i st))) σ' H' ps S' ag->D.nx σ' H')->th dx D σ H
theorem a7w {y:Str} {i0:Nat} (hN:X.N.Nodup) (hi:X.N[i0]? = some y) (hy:Loc X.env.scope y) (G:qz X.prog X.w X.K X.mg X.base (CXx X.prog X.w) k a fd pn (spX X.K pn.length Cl f F)) (hr:zy k X.A) (hg:Gl X x) (hm:X.mg x=some (.ref a)) (hk:PySem.W.keepIn X.K (.ref a)=true) (hb:Binds X.K fd pn [])
  (ha:PA X.nox (e::es) (aOf X.K B ms)) (bI:(x==("__debug__" : Str))=false:=by decide)
  (he:starEach (e::es) X.env=(false,eval e X.env)::starEach es X.env:=by rfl) (bB:(backTo pos (starEach es X.env)).any (·.1)=false:=by rfl) (dQ:swapsWith (.Call (.Name x p) (e::es) [] pos) (some (.Name y a8)) q1.line X.env=pure false:=by rfl)
  (hf:X.fn y=true\/X.env.scope.names.lookup y=some .local:=by first | exact .inl rfl | exact .inr rfl | assumption) :
  PB X [.Assign [.Name y a8] (.Call (.Name x p) (e::es) [] pos) q1] fun D E σ H=>aOf X.K B ms σ H fun vs H1=>spX X.K pn.length Cl f F vs H1 (fun v H2=>D.nx (σ.set i0 (some v)) H2) E:=by
 intro pins s σ H D E I h;refine wpAny_execs_cons (wpAny_mono (wpAny_Assign_Name (Q:=SP X pins D) (thn (a6d G hr hg hm hk hb ha bI he bB pins s σ H (fun v H2=>D.nx (σ.set i0 (some v)) H2) E I h) fun v s1 z7=>by obtain ⟨y,H1,I1,r1,q1⟩:=z7; exact Bs I1 hN hi hy r1 (fun s2 I2=>⟨_,H1,I2,q1⟩) hf) dQ) (fun fl s1 hq=>?_) fun _ _ z=>z);cases fl with
 | next=>exact wpAny_execs_nil hq
 | brk=>exact hq
 | cont=>exact hq
 | ret u=>exact hq
theorem a1c {F:FnX} {ms:M (List T)} {kk:T->Sta->Sta} {st ae:Sta} {fl:Flow} (h:Zi F ms kk i j hv st=some (fl,ae)) :
  ∃ ts s1 r sto,ms st=some (ts,s1)/\F ts s1.sto=some (r,sto)/\fl=.next/\(match r with | .inl t=>ae=kk t { s1 with sto:=sto } | .inr t=>∃ u,hv t=some u/\ae=clr i (gn j u false (clr i { s1 with sto:=sto }))):=by
 unfold Zi at h;split at h
 ·rename_i ts s1 e1;split at h
  ·rename_i t sto e2; cases h; exact ⟨ts,s1,.inl t,sto,e1,e2,rfl,rfl⟩
  ·rename_i t sto e2;split at h
   ·rename_i u e3; cases h; exact ⟨ts,s1,.inr t,sto,e1,e2,rfl,u,e3,rfl⟩
   ·cases h
  ·cases h
 ·cases h
theorem a4i {y:Str} {i0:Nat} (cC:X.stack=X.env::X.outer) (cH:X.env.frame=some X.env.locals) (hN:X.N.Nodup) (hi:X.N[i0]? = some y) (hy:Loc X.env.scope y) (G:qz X.prog X.w X.K X.mg X.base (CXx X.prog X.w) k a fd pn (spX X.K pn.length Cl f F)) (hr:zy k X.A) (hg:Gl X x) (hm:X.mg x=some (.ref a)) (hk:PySem.W.keepIn X.K (.ref a)=true) (hb:Binds X.K fd pn [])
  (ha:PA X.nox (e::es) (aOf X.K B ms)) (hl:∀ st ts ae,ms st=some (ts,ae)->ts.length=pn.length) (hh:PHs X (h₀::hs) Cl th) (ho:HOf X.K B f i j hv th) (bI:(x==("__debug__" : Str))=false:=by decide)
  (he:starEach (e::es) X.env=(false,eval e X.env)::starEach es X.env:=by rfl) (bB:(backTo pos (starEach es X.env)).any (·.1)=false:=by rfl) (dQ:swapsWith (.Call (.Name x p) (e::es) [] pos) (some (.Name y a8)) q1.line X.env=pure false:=by rfl)
  (hf:X.fn y=true\/X.env.scope.names.lookup y=some .local:=by first | exact .inl rfl | exact .inr rfl | assumption) :
  PS X (.Try [.Assign [.Name y a8] (.Call (.Name x p) (e::es) [] pos) q1] (h₀::hs) [] [] q2) (sOf X.K B (Zi F ms (a3e i0) i j hv)) :=
 (a8g cC cH (a7w hN hi hy G hr hg hm hk hb ha bI he bB dQ hf) hh).imp fun D σ H z9=>by
  obtain ⟨st,ps,S,as,R,fl,ae,e,q⟩:=z9;obtain ⟨ts,s1,r,sto,e1,e2,rfl,z⟩:=a1c e;refine ⟨st,ps,S,as,R,ts,s1,e1,fun vs H1 S1 aC R1 rs=>⟨S1,aC,s1.sto,ts,r,sto,R1.sub,R1.sto,rs,hl _ _ _ e1,e2,?_⟩⟩;cases r with
  | inl t =>
   obtain rfl:=z;exact fun v H2 S2 aQ g sub so r=>q _ H2 S2 aQ ((R1.call g sub so).put r)
  | inr t =>
   obtain ⟨u,hu,rfl⟩:=z;exact fun v dx H2 S2 aQ g sub so r hd=>⟨dx,rfl,rfl,ho dx D σ H2 _ ps S2 aQ v t u ((R1.call g sub so).push r) hd hu q⟩
end
end C
end
section
namespace L2
open PySem PySem.Spec PyProof.Rows
structure XG (K:PySem.W.Frag) (C:Addr) (f:Str):Prop where
 ga:PySem.W.findIn K (.ref C) "__getattribute__" = some (some (.builtin "BaseException.__getattribute__"))
 gt:PySem.W.findIn K (.ref C) "__getattr__" = some none
 bx:PySem.W.mroIn K C (.type "BaseException")=some true
 dc:PySem.W.hasDictIn K C=true
 na:PySem.W.findIn K (.ref C) f=some none
 cl:PySem.W.findIn K (.ref C) "__class__" = some (some (.builtin "object.__class__"))
 cg:PySem.W.specialIn K (.builtin "object.__class__") "__get__" = some (some (.builtin "getset_descriptor.__get__"))
 ct:PySem.W.takesIn K (.builtin "object.__class__")=some true
 ob:PySem.W.mroIn K C (.type "object")=some true
 ve:PySem.W.kitOne K (.ref C) (.type "ValueError")=some true
theorem Ou {v:V} {u:Value} (r:RelV v u):PySem.W.handedIn u=true:=by
 cases v with
 | non=>cases r; rfl
 | bl b=>cases r; rfl
 | int i=>obtain ⟨t,rfl⟩:=r; rfl
 | str x=>obtain ⟨t,rfl⟩:=r; rfl
 | byt b=>obtain ⟨t,rfl⟩:=r; rfl
 | flt b=>obtain ⟨t,rfl⟩:=r; rfl
 | ref a=>cases r; rfl
 | ty n=>cases r; rfl
noncomputable def abn (C:Addr) (f:Str) (i:Nat):TE:=fun σ H Q=>∃ a dx v,σ[i]? = some (some (.ref a))/\H a=some (Rt a C dx)/\H dx=some (Ce dx f v)/\Q v H
section
variable {X:Cx} {e:Expr} {C:Addr} {f:Str} {i:Nat} {pos p:Pos}
theorem a9a (g:XG X.K C f) (he:PE X e (Xm i)) (hb:attributeBase e f X.env (eval e X.env)=eval e X.env):PE X (.Attribute e f pos) (abn C f i):=by
 intro pins s σ H Q I z8;obtain ⟨a,dx,v,e1,e2,e3,q⟩:=z8;refine a6g hb (thn (he pins s σ H (fun x H1=>x=.ref a/\H1=H) I ⟨_,e1,rfl,rfl⟩) fun u s1 z0=>?_);obtain ⟨x,H1,I1,rx,ex,eH⟩:=z0;subst ex;subst eH;obtain rfl:u=Value.ref a:=rx;obtain ⟨⟨vs,ga⟩,_⟩:=I1.hok a _ e2;obtain ⟨⟨hs,tk,u,r,gd⟩,_⟩:=I1.hok dx _ e3;refine My.a0x (ox:=T4 C dx vs) (od:=some (PySem.W.dictOf [⟨hs,.str f tk,u⟩] 1)) I1.kIn ⟨ga,rfl,rfl,gd⟩ g.ga g.gt g.bx (PySem.W.findObj_own g.dc g.na rfl ?_) (Ou r) ⟨v,H1,I1.tok _,r,q⟩;rw [PySem.W.lookIn_dict];simp [PySem.W.getL,Value.isStr]
end
end L2
namespace C
open PySem PySem.Spec PyProof.Rows L2
section
variable {K:PySem.W.Frag} {B:Bas} {f:Str} {i j:Nat} {hv:T->Option T} {th:Addr->TS} {Cl:Addr} {te:TE}
def TEx (K:PySem.W.Frag) (B:Bas) (Cl:Addr) (f:Str) (i:Nat) (hv:T->Option T) (te:TE):Prop :=
 ∀ σ H a dx v t u Q st ps S as,σ[i]? = some (some (.ref a))->H a=some (Rt a Cl dx)->H dx=some (Ce dx f v)->Rel K B st σ H ((v,t)::ps) S as->hv t=some u->(∀ w H' S' ag,Rel K B st σ H' ((w,u)::ps) S' ag->Q w H')->te σ H Q
theorem a4h (h:TEx K B Cl f i hv te):HOf K B f i j hv (fun dx D σ H=>∀ a,H a=none->i<σ.length->a9q te (Nu j) (a7v i D) (σ.set i (some (.ref a))) (upd H a (Rt a Cl dx))):=fun dx D σ H st ps S as v t u R hd hu q a ha hi=>by
 have R1:=(R.ext (Ext.beside R.sub ha (Rt a Cl dx))).clr (i:=i) (σ':=σ.set i (some (.ref a))) (fun k n=>List.getElem?_set_ne (Ne.symm n)) (List.length_set ..);refine h _ _ a dx v t u _ _ ps S as (List.getElem?_set_self hi) bw (by have hd:=R.sub _ _ hd; rw [c7 (jh hd ha)]; exact hd) R1 hu fun w H' S' ag R'=>?_;exact q _ H' S' ag ((R'.drop.put R'.top).clr (fun k n=>List.getElem?_set_ne (Ne.symm n)) (List.length_set ..))
theorem a9c:TEx K B Cl f i some (abn Cl f i):=fun σ H a dx v t u Q st ps S as e1 e2 e3 R hu q=>by
 cases hu;exact ⟨a,dx,v,e1,e2,e3,q v H S as R⟩
end
structure XR (P:Program) (w:World) (K:PySem.W.Frag) (mg:Str->Option Value) (base:Heap) (x:Str) (Cl:Addr) (f p:Str):Prop where
 ex:∃ D fI fd,XC K Cl D fI f/\qz P w K mg base CX0 1 fI fd ["self",p] (Kz Cl f)/\Binds K fd ["self",p] []
 m:mg x=some (.ref Cl)
def Bd (P:Program) (w:World) (K:PySem.W.Frag) (mg:Str->Option Value) (base:Heap) (x:Str) (n:Nat) (ps:List Str) (Cl:Addr) (f:Str) (F:FnX):Prop :=
 ∃ (a:Addr) (fd:FuncData),qz P w K mg base (CXx P w) n a fd ps (spX K ps.length Cl f F)/\Binds K fd ps []/\PySem.W.keepIn K (.ref a)=true/\mg x=some (.ref a)
theorem Bd.mono {P:Program} {w:World} {K:PySem.W.Frag} {mg:Str->Option Value} {base:Heap} {x:Str} {n m:Nat} {ps:List Str} {Cl:Addr} {f:Str} {F:FnX} (D:Bd P w K mg base x n ps Cl f F) (h:n<=m):Bd P w K mg base x m ps Cl f F :=
 let ⟨a,fd,h1,h2⟩:=D; ⟨a,fd,h1.mono h,h2⟩
theorem Bd.norm {P:Program} {w:World} {K:PySem.W.Frag} {mg:Str->Option Value} {base:Heap} {x:Str} {n:Nat} {ps:List Str} {Cl:Addr} {f:Str} {F:FnX} (D:Bd P w K mg base x n ps Cl f F):gq P w K mg base x n ps (C.norm F) :=
 let ⟨a,fd,h1,h2,h3,h4⟩:=D; ⟨a,fd,a5t h1,h2,h3,h4⟩
def a9t (K:PySem.W.Frag) (mg:Str->Option Value) (x:Str) (Cl:Addr) (bm:List Value):Prop:=XCl K Cl bm/\mg x=some (.ref Cl)
section
variable {X:Cx} {B:Bas} {e:Expr} {es:List Expr} {ms:M (List T)} {pos p q1 q2 a8:Pos} {k:Nat} {Cl:Addr} {f x:Str} {pn:List Str} {F:FnX} {h₀:ExceptHandler} {hs:List ExceptHandler} {th:Addr->TS} {i j:Nat} {hv:T->Option T}
theorem Kv {E:XK} {pr:Str} {arg:Expr} {m:M T} {np aL:Pos} (R:XR X.prog X.w X.K X.mg X.base x Cl f pr) (W:XW X E) (hr:zy 2 X.A) (hg:Gl X x) (ha:PE X arg (tOf X.K B m))
  (bI:(x==("__debug__" : Str))=false:=by decide) (he:starEach [arg] X.env=[(false,eval arg X.env)]:=by rfl) :
  PS X (.Raise (some (.Call (.Name x np) [arg] [] aL)) none pos) (Iw X.K B Cl f E (Hz m)):=by
 obtain ⟨⟨D,fI,fd,h1,h2,h3⟩,m⟩:=R;exact Z5 W h1 h2 hr h3 hg m ha bI he
theorem Zt {y:Str} {i0:Nat} (D:Bd X.prog X.w X.K X.mg X.base x k pn Cl f F) (cC:X.stack=X.env::X.outer) (cH:X.env.frame=some X.env.locals) (hN:X.N.Nodup) (hi:X.N[i0]? = some y) (hy:Loc X.env.scope y) (hr:zy k X.A) (hg:Gl X x)
  (ha:PA X.nox (e::es) (aOf X.K B ms)) (hl:∀ st ts ae,ms st=some (ts,ae)->ts.length=pn.length) (hh:PHs X (h₀::hs) Cl th) (ho:HOf X.K B f i j hv th) (bI:(x==("__debug__" : Str))=false:=by decide)
  (he:starEach (e::es) X.env=(false,eval e X.env)::starEach es X.env:=by rfl) (bB:(backTo pos (starEach es X.env)).any (·.1)=false:=by rfl) (dQ:swapsWith (.Call (.Name x p) (e::es) [] pos) (some (.Name y a8)) q1.line X.env=pure false:=by rfl)
  (hf:X.fn y=true\/X.env.scope.names.lookup y=some .local:=by first | exact .inl rfl | exact .inr rfl | assumption) :
  PS X (.Try [.Assign [.Name y a8] (.Call (.Name x p) (e::es) [] pos) q1] (h₀::hs) [] [] q2) (sOf X.K B (Zi F ms (a3e i0) i j hv)):=by
 obtain ⟨a,fd,h1,h2,h3,h4⟩:=D;exact a4i cC cH hN hi hy h1 hr hg h4 h3 h2 ha hl hh ho bI he bB dQ hf
end
end C
end
section
namespace C
open PySem
noncomputable def lu:Nat->M Bool->SX->SX
 | 0,_,_=>fun _=>none
 | n+1,c,b=>fun s=>match c s with
  | some (false,s1)=>some (.inl .next,s1)
  | some (true,s1)=>match b s1 with
   | some (.inl .next,s2)=>lu n c b s2
   | some (.inl .cont,s2)=>lu n c b s2
   | some (.inl .brk,s2)=>some (.inl .next,s2)
   | some (.inl (.ret v),s2)=>some (.inl (.ret v),s2)
   | some (.inr v,s2)=>some (.inr v,s2)
   | none=>none
  | none=>none
end C
end
section
namespace L2
open PySem PySem.Spec PyProof.Rows
section
variable {P:Program} {w:World} {K:PySem.W.Frag} {mg:Str->Option Value} {base:Heap} {N:List Str} {qual:Str} {scope:Scope} {f:Addr} {cd:Value} {A:Around} {outer:List Env} {s₀:Shared} {H₀:Hp} {E:XK}
theorem a2n:Passes (CXx P w) (Og (CXx P w) P w K mg base N qual scope f cd A outer s₀ H₀ E) E:=by
 intro pins σ H s e s' I h;have I0:=I.Eh (pins':=[]) (fun p hp=>nomatch hp);obtain ⟨a,C,dx,T,H',rfl,L,hE⟩:=XP.lies (X:=Og (CXx P w) P w K mg base N qual scope f cd A outer s₀ H₀ E) ⟨H,s,I0,h⟩;show wpAny _ _ (leaving _ _) _ _ _;unfold leaving;refine wpAny_bind (L.note rfl rfl L.inv.ok.frames fun s2 T' L2=>?_);have za:s₀.heap.objs.size<=a:=L2.oa.1.elim (fun z=>nomatch z) id;have zT:s₀.heap.objs.size<=T':=L2.oT.1.elim (fun z=>nomatch z) id;exact ⟨a,C,dx,T',H',rfl,za,zT,L2.at_,L2.ha,L2.hT,L2.inv.os,L2.inv.bare,L2.inv.base,L2.inv.hok,hE⟩
end
end L2
namespace C
open PySem PySem.Spec PyProof.Rows L2
section
variable {X:Cx} {B:Bas} {c e:Expr} {es:List Expr} {ms:M (List T)} {pos p q1 a8:Pos} {u:SX} {Cl a:Addr} {f x y:Str} {E:XK} {fd:FuncData} {pn:List Str} {F:FnX} {k i:Nat}
theorem Vm {kk:T->Sta->Sta} {st ae:Sta} {fl:Flow ⊕ T} (h:N8 F ms kk st=some (fl,ae)):∃ ts s1 r sto,ms st=some (ts,s1)/\F ts s1.sto=some (r,sto)/\(match r with | .inl t=>fl=.inl .next/\ae=kk t { s1 with sto:=sto } | .inr t=>fl=.inr t/\ae = { s1 with sto:=sto }):=by
 unfold N8 at h;split at h
 ·rename_i ts s1 e1;split at h
  ·rename_i t sto e2; cases h; exact ⟨ts,s1,.inl t,sto,e1,e2,rfl,rfl⟩
  ·rename_i t sto e2; cases h; exact ⟨ts,s1,.inr t,sto,e1,e2,rfl,rfl⟩
  ·cases h
 ·cases h
theorem Rf {n:Nat} {mc:M Bool} {b:SX} {s s':Sta} {fl:Flow ⊕ T} (h:lu (n+1) mc b s=some (fl,s')):(∃ s1,mc s=some (false,s1)/\fl=.inl .next/\s'=s1) \/
  ∃ s1 fb s2,mc s=some (true,s1)/\b s1=some (fb,s2)/\(match fb with | .inl .next=>lu n mc b s2=some (fl,s') | .inl .cont=>lu n mc b s2=some (fl,s') | .inl .brk=>fl=.inl .next/\s'=s2 | .inl (.ret v)=>fl=.inl (.ret v)/\s'=s2 | .inr v=>fl=.inr v/\s'=s2):=by
 rw [lu] at h;dsimp only at h;split at h
 ·rename_i s1 e1; cases h; exact .inl ⟨_,e1,rfl,rfl⟩
 ·rename_i s1 e1;split at h
  ·rename_i s2 e2; exact .inr ⟨s1,.inl .next,s2,e1,e2,h⟩
  ·rename_i s2 e2; exact .inr ⟨s1,.inl .cont,s2,e1,e2,h⟩
  ·rename_i s2 e2; cases h; exact .inr ⟨s1,.inl .brk,_,e1,e2,rfl,rfl⟩
  ·rename_i v s2 e2; cases h; exact .inr ⟨s1,.inl (.ret v),_,e1,e2,rfl,rfl⟩
  ·rename_i v s2 e2; cases h; exact .inr ⟨s1,.inr v,_,e1,e2,rfl,rfl⟩
  ·cases h
 ·cases h
theorem a1v (n:Nat) {mc:M Bool} {body:List Stmt} (hp:PassesOwn (model X.prog X.w) X.A X.env X.xe) (hc:PT X c (cOf X.K B mc)) (hb:PSs X body (Iw X.K B Cl f E u)):PS X (.While c body [] pos) (Iw X.K B Cl f E (lu n mc u)):=(Qs hp hc hb).imp fun D σ H z9=>by
 obtain ⟨st,ps,S,as,R,fl,ae,e,q⟩:=z9;refine ⟨fun k σ H=>∃ bq Si a9,Rel X.K B bq σ H ps Si a9/\lu k mc u bq=some (fl,ae),⟨n,st,S,as,R,e⟩,?_⟩;rintro k cV H2 ⟨bq,Si,a9,Ri,ei⟩;cases k with
 | zero=>rw [lu] at ei; cases ei
 | succ k =>
  rcases Rf ei with ⟨s1,e1,rfl,rfl⟩ | ⟨s1,fb,s2,e1,e2,er⟩
  ·exact ⟨bq,ps,Si,a9,Ri,false,_,e1,fun H3 S3 bp R3=>a2h (q cV H3 S3 bp R3)⟩
  ·refine ⟨bq,ps,Si,a9,Ri,true,s1,e1,fun H3 S3 bp R3=>a2x ⟨fun σ' H'=>∃ bq Si a9,Rel X.K B bq σ' H' ps Si a9/\lu k mc u bq=some (fl,ae),fun σ' H' h=>⟨k,Nat.lt_succ_self _,h⟩,s1,ps,S3,bp,R3,fb,s2,e2,?_⟩⟩;cases fb with
   | inr v =>
    obtain ⟨rfl,rfl⟩:=er;exact fun w dx σ' H' S' ag R' hd=>q w dx σ' H' S' ag R' hd
   | inl fb =>
    cases fb with
    | next=>exact fun σ' H' S' ag R'=>⟨s2,S',ag,R',er⟩
    | cont=>exact fun σ' H' S' ag R'=>⟨s2,S',ag,R',er⟩
    | brk =>
     obtain ⟨rfl,rfl⟩:=er;exact fun σ' H' S' ag R'=>q σ' H' S' ag R'
    | ret v =>
     obtain ⟨rfl,rfl⟩:=er;exact fun v σ' H' S' ag R'=>q v σ' H' S' ag R'
end
end C
end
section
namespace L2
open PySem PySem.Spec PyProof.Rows
section
variable {X:Cx} {pins:List (Addr × Obj)} {σ:St} {H:Hp} {s:Shared} {e:Addr}
end
section
variable {X:Cx} {C D fI:Addr} {f p x:Str} {fd:FuncData} {arg:Expr} {te:TE} {np aL pos:Pos}
end
section
variable {X:Cx} {e:Expr} {C:Addr} {f:Str} {te:TE} {pos p:Pos}
end
end L2
namespace C
open PySem PySem.Spec PyProof.Rows L2
section
variable {X:Cx} {B:Bas} {Cl D fI:Addr} {f p x:Str} {fd:FuncData} {arg:Expr} {m:M T} {np aL pos:Pos}
end
section
variable {K:PySem.W.Frag} {B:Bas} {f:Str} {i j:Nat} {th:Addr->TS} {Cl:Addr}
end
section
variable {X:Cx} {B:Bas} {e:Expr} {es:List Expr} {ms:M (List T)} {pos p q1 q2 a8:Pos} {k:Nat} {a Cl:Addr} {f x:Str} {fd:FuncData} {pn:List Str} {F:FnX} {h₀:ExceptHandler} {hs:List ExceptHandler} {th:Addr->TS} {i j:Nat}
end
theorem a8q {aa:List (L2.Key × V)} {vs:List (L2.Key × Value)} (r:KV aa vs):∀ {i:Nat} {k:L2.Key} {v:V},aa[i]? = some (k,v)->∃ u,vs[i]? = some (k,u)/\RelV v u:=by
 unfold KV at r
 induction r with
 | nil=>intro i k v e; simp at e
 | cons h _ ih =>
  intro i k v e;cases i with
  | zero =>
   simp at e;rename_i p q _ _ _;subst e;exact ⟨q.2,by obtain ⟨a,b⟩:=q; simp at h ⊢; exact h.1.symm,h.2⟩
  | succ j =>
   obtain ⟨u,h1,h2⟩:=ih (i:=j) (k:=k) (v:=v) (by simpa using e);exact ⟨u,by simpa using h1,h2⟩
theorem a5z {k:L2.Key} {u:Value} (h:Om k u=true):RelV (kV k) u:=by
 rcases jz h with ⟨i,t,rfl,rfl⟩ | ⟨x,t,rfl,rfl⟩
 ·exact ⟨t,rfl⟩
 ·exact ⟨t,rfl⟩
theorem Xq {P:Program} {w:World} {H:Hp} {h:Heap} {d:Addr} {o:Obj} {aa:List (L2.Key × V)} {es:Array DictEntry} {ep:Nat} (hd:o.data=.dict es ep) (ok:HOk P w H h) (e:H d=some (.frz o (.dK aa))) :
  (d==sysModules)=false/\∃ vs,KV aa vs/\h.DictAt (j6 P w) d vs ep:=by
 obtain ⟨ho,z,y,vs,r,o',es',ep',ho',hx,hd',q⟩:=(show jy P w H h d (.frz o (.dK aa)) from ok d _ e);rw [ho] at ho'; cases ho';rw [hd] at hd'; cases hd';exact ⟨y,vs,r,o,es,ho,hx,hd,q⟩
noncomputable def aay (J:Addr->Obj->List (L2.Key × V)->It) (i:Nat):TI:=fun σ H R=>∃ d o aa,σ[i]? = some (some (.ref d))/\H d=some (.frz o (.dK aa))/\R (J d o aa) H
section
variable {K:PySem.W.Frag} {S S':Hp} {as:List Addr}
def Ci (S S':Hp):Prop:=(∀ a u,(∀ o v,u≠HO.frz o v)->Rd S a u->Rd S' a u)/\∀ a φ,S a=some (.ext φ)->S' a=some (.ext φ)
mutual
theorem Rep.rdx (e:Ci S S'):∀ {v:V} {t:T},Rep K S as v t->Rep K S' as v t
 | _,_,.non=>.non
 | _,_,.bl b=>.bl b
 | _,_,.int i=>.int i
 | _,_,.str y=>.str y
 | _,_,.tup h r=>.tup (h.imp (e.1 _ _ fun _ _=>HO.noConfusion) id) (jg.rdx e r)
 | _,_,.lst h r=>.lst (h.imp (e.1 _ _ fun _ _=>HO.noConfusion) id) (jg.rdx e r)
 | _,_,.dic h r=>.dic (e.1 _ _ (fun _ _=>HO.noConfusion) h) (u9.rdx e r)
 | _,_,.obj h=>.obj h
 | _,_,.adr a=>.adr a
theorem jg.rdx (e:Ci S S'):∀ {v:List V} {t:List T},jg K S as v t->jg K S' as v t
 | _,_,.nil=>.nil
 | _,_,.cons h r=>.cons (Rep.rdx e h) (jg.rdx e r)
theorem u9.rdx (e:Ci S S'):∀ {v:List (L2.Key × V)} {t:List (L2.Key × T)},u9 K S as v t->u9 K S' as v t
 | _,_,.nil=>.nil
 | _,_,.cons h r=>.cons (Rep.rdx e h) (u9.rdx e r)
end
theorem Fz.rdx (e:Ci S S'):∀ {v:List (List L2.Key × V)} {t:List (List L2.Key × T)},Fz K S as v t->Fz K S' as v t
 | _,_,.nil=>.nil
 | _,_,.cons h r=>.cons (Rep.rdx e h) (Fz.rdx e r)
theorem vo.rdx (e:Ci S S') {b:Addr} {k:List (List L2.Key)} (h:vo K S b k):vo K S' b k :=
 let ⟨us,h1,h2⟩:=h; ⟨us,h1.imp (e.1 _ _ fun _ _=>HO.noConfusion) id,Paired.aae h2 fun _ _ z7=>by obtain ⟨c,x,y⟩:=z7; exact ⟨c,x,y.imp (e.1 _ _ fun _ _=>HO.noConfusion) id⟩⟩
theorem Ge.rdx (e:Ci S S') {v:List (List (List L2.Key) × Addr × V)} {t:List (List (List L2.Key) × T)} (h:Ge K S as v t):Ge K S' as v t:=by
 induction h with
 | nil=>exact .nil
 | cons n h _ ih=>exact .cons (n.rdx e) (h.rdx e) ih
theorem Yi.rdx (e:Ci S S') {v:List (Str × V)} {t:List (Str × T)} (h:Yi K S as v t):Yi K S' as v t:=by
 induction h with
 | nil=>exact .nil
 | cons h _ ih=>exact .cons (h.rdx e) ih
theorem Own.rdx {H H':Hp} {p:Addr} {t:T} (e:Ci S S') (hh:H p=H' p) (o:Own K S as H p t):Own K S' as H' p t:=by
 cases t with
 | lst ts=>obtain ⟨vs,h,r⟩:=o; exact ⟨vs,hh ▸ h,r.rdx e⟩
 | dic ts=>obtain ⟨vs,h,r⟩:=o; exact ⟨vs,hh ▸ h,r.rdx e⟩
 | _=>exact o.elim
theorem W7.rdx {H H':Hp} {a:Addr} {so:SO} (e:Ci S S') (hh:H a=H' a) (o:W7 K S as H a so):W7 K S' as H' a so:=by
 cases so with
 | dic ts=>obtain ⟨vs,h,r⟩:=o; exact ⟨vs,hh ▸ h,r.rdx e⟩
 | lst ts=>obtain ⟨vs,h,r⟩:=o; exact ⟨vs,hh ▸ h,r.rdx e⟩
 | dit ts=>obtain ⟨vs,h,r⟩:=o; exact ⟨vs,hh ▸ h,r.rdx e⟩
 | exc C f t=>obtain ⟨dx,v,h,g,r⟩:=o; exact ⟨dx,v,hh ▸ h,e.2 _ _ g,r.rdx e⟩
 | ins C fs=>obtain ⟨dx,vs,h,r⟩:=o; exact ⟨dx,vs,hh ▸ h,r.rdx e⟩
 | fdc ts=>obtain ⟨vs,h,r⟩:=o; exact ⟨vs,hh ▸ h,r.rdx e⟩
 | tab P q=>obtain ⟨z,vs,h,t,r⟩:=o; exact ⟨z,vs,hh ▸ h,t,fun pos cv z=>let ⟨c,x,y⟩:=r pos cv z; ⟨c,x,e.2 _ _ y⟩⟩
 | dnk ts=>obtain ⟨vs,h,r⟩:=o; exact ⟨vs,hh ▸ h,r.rdx e⟩
def Still (z:HO) (aa:List (L2.Key × V)):Prop:=z=.dK aa\/∃ o,z=.frz o (.dK aa)
theorem Gz {d:Addr} {aa:List (L2.Key × V)} {z z':HO} (hd:S d=some z') (h':Still z' aa) (h:Still z aa):Ci S (upd S d z):=⟨fun a u hu r=>by
 by_cases e:a=d
 ·subst e
  have eu:u=.dK aa:=by
   rcases r with r | ⟨o,r⟩
   ·rw [hd] at r; cases r;rcases h' with h' | ⟨o,h'⟩
    ·exact h'
    ·exact absurd h' (hu _ _)
   ·rw [hd] at r; cases r;rcases h' with h' | ⟨o,h'⟩
    ·cases h'
    ·cases h'; rfl
  subst eu;rcases h with rfl | ⟨o,rfl⟩
  ·exact .inl bw
  ·exact .inr ⟨o,bw⟩
 ·rcases r with r | ⟨o,r⟩
  ·exact .inl (by rw [c7 e]; exact r)
  ·exact .inr ⟨o,by rw [c7 e]; exact r⟩,fun a φ q=>by
 have ne:a≠d:=fun e=>by
  subst e;rw [hd] at q; cases q;rcases h' with h' | ⟨o,h'⟩ <;> cases h'
 rw [c7 ne]; exact q⟩
theorem Ip.swap {B B':Bas} {H:Hp} {p d:Addr} {t:T} {aa:List (L2.Key × V)} {z z':HO} (o:Ip K B S as H p t) (hd:S d=some z') (h':Still z' aa) (h:Still z aa) (hB:B.H p=none->B'.H p=none) :
  Ip K B' (upd S d z) as (upd H d z) p t:=by
 have ne:p≠d:=fun e=>by have:=o.out; rw [e,hd] at this; cases this
 exact ⟨o.own.rdx (Gz hd h' h) (c7 ne).symm,by rw [c7 ne]; exact o.out,o.nas,hB o.new⟩
theorem Rel.swap {B B':Bas} {st:Sta} {σ:L2.St} {H:Hp} {ps:List (V × T)} {d:Addr} {aa:List (L2.Key × V)} {z z':HO} (r:Rel K B st σ H ps S as) (hd:S d=some z') (h':Still z' aa) (h:Still z aa)
  (hg:Ol B' (upd S d z) as (upd H d z)) (hB:∀ p,B.H p=none->B'.H p=none):Rel K B' st σ (upd H d z) ps (upd S d z) as where
 sub:=fun b u e=>by
  by_cases eb:b=d
  ·subst eb; rw [bw] at e ⊢; exact e
  ·rw [c7 eb] at e ⊢; exact r.sub _ _ e
 grow:=hg
 slots:=fun i t f e=>by
  obtain ⟨v,h1,h2,h3⟩:=r.slots i t f e;refine ⟨v,h1,fun q=>(h2 q).rdx (Gz hd h' h),fun q=>?_⟩;obtain ⟨p,ep,o⟩:=h3 q;exact ⟨p,ep,o.swap hd h' h (hB p)⟩
 apart:=r.apart
 sto:=⟨r.sto.len,r.sto.nd,fun n so e=>by
  obtain ⟨a,h1,h2,h3⟩:=r.sto.at' n so e;have ne:a≠d:=fun e=>by rw [e,hd] at h2; cases h2
  exact ⟨a,h1,by rw [c7 ne]; exact h2,h3.rdx (Gz hd h' h) (c7 ne).symm⟩⟩
 pend:=fun p hp=>(r.pend p hp).rdx (Gz hd h' h)
 len:=r.len
theorem Ol.still {B:Bas} {H:Hp} {d:Addr} {z z':HO} (g:Ol B S as H) (hd:S d=some z'):Ol ⟨upd S d z,as,B.H⟩ (upd S d z) as (upd H d z) where
 same:=Same.refl _
 more:=nol
 keep:=fun p o h1 h2 h3=>by
  have ne:p≠d:=fun e=>by subst e; change upd S p z p=none at h2; rw [bw] at h2; cases h2
  have kU:S p=none:=by rw [<- c7 (H:=S) (o:=z) ne]; exact h2
  have b2:B.S p=none:=by
   cases q:B.S p with
   | none=>rfl
   | some u=>have:=g.same _ _ q; rw [kU] at this; cases this
  have b3:p∉B.as:=fun q=>by obtain ⟨l,e⟩:=g.more; exact h3 (by show p∈as; rw [e]; exact List.mem_append_left _ q)
  exact ⟨by rw [c7 ne]; exact (g.keep p o h1 b2 b3).1,h2,h3⟩
theorem Ol.back {B:Bas} {H H':Hp} {ag:List Addr} {d:Addr} {z z':HO} (g:Ol B S as H) (hd:S d=some z') (g':Ol ⟨upd S d z,as,B.H⟩ S' ag H'):Ol B (upd S' d z') ag (upd H' d z') where
 same:=fun b u e=>by
  have e1:=g.same _ _ e
  by_cases eb:b=d
  ·subst eb; rw [hd] at e1; cases e1; exact bw
  ·rw [c7 eb]; exact g'.same _ _ (by show upd S d z b=some u; rw [c7 eb]; exact e1)
 more:=by
  obtain ⟨l,e⟩:=g.more;obtain ⟨l',e'⟩:=g'.more;exact ⟨l++l',by rw [e',<- List.append_assoc,<- e]⟩
 keep:=fun p o h1 h2 h3=>by
  obtain ⟨a,b,c⟩:=g.keep p o h1 h2 h3;have ne:p≠d:=fun e=>by subst e; rw [hd] at b; cases b
  obtain ⟨a',b',c'⟩:=g'.keep p o h1 (by show upd S d z p=none; rw [c7 ne]; exact b) c;exact ⟨by rw [c7 ne]; exact a',by rw [c7 ne]; exact b',c'⟩
end
theorem Zy {X:Cx} {pins:List (Addr × Obj)} {σ:L2.St} {H:Hp} {s:Shared} {d:Addr} {o:Obj} {aa:List (L2.Key × V)} (I:Inv X pins σ H s) (e:H d=some (.frz o (.dK aa))) (n:∀ o u,X.H₀ d≠some (.frz o u)) :
  Inv X pins σ (upd H d (.dK aa)) s:=by
 have nn:∀ b,H b=none->upd H d (.dK aa) b=none:=fun b h=>by rw [c7 (fun q=>by subst q; rw [e] at h; cases h)]; exact h
 have nt:∀ b xs,H b=some (.tup xs)->upd H d (.dK aa) b=some (.tup xs):=fun b xs h=>by rw [c7 (fun q=>by subst q; rw [e] at h; cases h)]; exact h
 have no:∀ b x,H b=some (.own x)->upd H d (.dK aa) b=some (.own x):=fun b xs h=>by rw [c7 (fun q=>by subst q; rw [e] at h; cases h)]; exact h
 have hok:HOk X.prog X.w (upd H d (.dK aa)) s.heap:=fun b u q=>by
  by_cases eb:b=d
  ·subst eb;rw [bw] at q; cases q;obtain ⟨_,x⟩:=(show jy X.prog X.w H s.heap b (.frz o (.dK aa)) from I.hok b _ e);exact jy.stay x (fun _ _ _ q=>q) (fun b q=>no b _ q) nt
  ·rw [c7 eb] at q;exact (I.hok b u q).stay (fun _ _ _ q=>q) (fun b q=>no b _ q) nt
 refine ⟨I.ok,I.os,I.bare,⟨I.base.keep,I.base.slot,fun b ob h1 h2 h3=>nn b (I.base.free b ob h1 h2 h3),I.base.there,fun b xs q=>nt b xs (I.base.tups b xs q),fun b ob u q=>?_,fun b ps q=>?_⟩,I.loc,I.cell,nn _ I.free,fun x c q=>nn c (I.freeC x c q),fun p hp=>?_,hok,I.len⟩
 ·rw [c7 (fun z=>by subst z; exact n _ _ q)]; exact I.base.frzs b ob u q
 ·obtain ⟨m,hm⟩:=I.base.tbls b ps q;exact ⟨m,by rw [c7 (fun z=>by subst z; rw [e] at hm; cases hm)]; exact hm⟩
 ·obtain ⟨a,b,c⟩:=I.pin p hp;exact ⟨a,nn _ b,c⟩
section
variable {X:Cx} {scope:Scope} {N:List Str} {B:Bas} {nv:Nat} {cap:List Nat} {g:G} {c:M Bool} {e:M T} {tg iter elt:Expr} {ifs:List Expr} {pos:Pos} {i:Nat}
theorem Zq {f:List (L2.Key × T)->List T} {ts:List T} {s s1:Sta} (h:a8n f (bf i) s=some (ts,s1)):∃ aa,ts=f aa/\aa.length<lim/\((s.env[i]? = some (some (.dic aa,false))/\s1=s)\/(s.env[i]? = some (some (.dic aa,true))/\s1 = { s with env:=s.env.set i (some (.dic aa,false)) })):=by
 unfold a8n at h;split at h
 ·rename_i aa s2 e2;split at h
  ·rename_i hl;cases h;exact ⟨aa,rfl,hl,Pu e2⟩
  ·cases h
 ·cases h
def Walk (K:PySem.W.Frag) (J:Addr->Obj->List (L2.Key × V)->It) (f:List (L2.Key × T)->List T):Prop:=∀ S as H d o vs ts,Same S H->H d=some (.frz o (.dK vs))->u9 K S as vs ts->Gu K S as H (J d o vs) (f ts)
theorem Jq {J:Addr->Obj->List (L2.Key × V)->It} {f:List (L2.Key × T)->List T} (wk:Walk X.K J f) (co:Xi X scope N nv cap) {st s1 s2:Sta} {ps:List (V × T)} {S:Hp} {as:List Addr} {σ:L2.St} {H:Hp} {d:Addr} {o:Obj} {vs:List (L2.Key × V)} {ts:List (L2.Key × T)} {us:List T} {Q:VK}
  (R:Rel X.K B s1 σ H ps S as) (gz:σ[i]? = some (some (.ref d))) (hB:B.S d=some (.frz o (.dK vs))) (hk:u9 X.K B.S B.as vs ts)
  (hc:Bg g c e (f ts) ⟨List.replicate nv none++cap.map (fun i=>((j5 cap s1.env)[i]?).getD none),s1.sto⟩ []=some (us,s2))
  (q:∀ p H' S' ag,Rel X.K B ⟨j5 cap s1.env,s2.sto⟩ σ H' ps S' ag->Ip X.K B S' ag H' p (.lst us)->G7 ⟨j5 cap s1.env,s2.sto⟩ σ p->Q (.ref p) H') :
  a6n X scope N (aay J i) (gE X.K g) (cE X.K c) (eE X.K e) σ H Q:=by
 obtain ⟨S2,R2⟩:=R.j5 cap;refine ⟨d,o,vs,gz,R.sub _ _ (R.grow.same _ _ hB),?_⟩;exact La (ps':=[]) co.len (fun _ _ _ _=>trivial) co.at' R2 (fun k hk=>Cu cap s1.env k hk) (fun S as H sB mr _ sub=>wk S as H d o vs ts sub (sub _ _ (sB _ _ hB)) (hk.mono sB mr)) hc fun D H' S' ag R' o n=>q D H' S' ag R' o n
theorem Yr {J:Addr->Obj->List (L2.Key × V)->It} {f:List (L2.Key × T)->List T} (wk:Walk X.K J f) (co:Xi X scope N nv cap) (sc:Gm X scope N) (calm:X.calm=true) (hi:PI X tg iter (aay J i))
  (hg:∀ C s₀ H₀ ex pn,PG (mz X scope N C s₀ H₀ ex pn) tg (gE X.K g)) (hc:∀ C s₀ H₀ ex pn,PTs (mz X scope N C s₀ H₀ ex pn) ifs (cE X.K c)) (he:∀ C s₀ H₀ ex pn,PE (mz X scope N C s₀ H₀ ex pn) elt (eE X.K e))
  (hs:∀ x,foldedSetIterable iter X.env x=pure x:=by intro _; rfl):PE X (.ListComp elt [⟨tg,iter,ifs,0⟩] scope pos) (fOf X.K B (v9 nv cap g (a8n f (bf i)) c e)):=by
 have P:=W3 (pos:=pos) sc calm hi hg hc he hs;intro pins s σ H Q I z8;obtain ⟨st,ps,S0,as,R0,t,ae,em,q⟩:=z8;obtain ⟨eS,s1,us,s2,e1,e2,rfl,rfl⟩:=Lk em;obtain ⟨ts,rfl,hl,cC⟩:=Zq e1
 have hR:∃ S,Rel X.K B s1 σ H ps S as/\s1.env[i]? = some (some (.dic ts,false)):=by
  rcases cC with ⟨h1,rfl⟩ | ⟨h1,rfl⟩
  ·exact ⟨S0,R0,h1⟩
  ·obtain ⟨S,R⟩:=R0.Oi h1;exact ⟨S,R,List.getElem?_set_self (List.getElem?_eq_some_iff.mp h1).1⟩
 obtain ⟨S,R,hE⟩:=hR;obtain ⟨v,gz,hv,_⟩:=R.slots i _ _ hE;cases hv rfl with
 | @dic d vs _ iS hrk =>
  obtain ⟨z',hS,gK⟩:∃ z',S d=some z'/\Still z' vs:=by
   rcases iS with h | ⟨o,h⟩
   ·exact ⟨_,h,.inl rfl⟩
   ·exact ⟨_,h,.inr ⟨o,rfl⟩⟩
  have hH:=R.sub _ _ hS
  obtain ⟨o,ho⟩:∃ o,s.heap.get? d=some o:=by
   have:=(I.hok d _ hH).lt;rcases gK with rfl | ⟨o,rfl⟩
   ·obtain ⟨_,_,_,_,o,_,_,e,_⟩:=(show jy X.prog X.w H s.heap d (.dK vs) from I.hok d _ hH); exact ⟨o,e⟩
   ·exact ⟨o,(show jy X.prog X.w H s.heap d (.frz o (.dK vs)) from I.hok d _ hH).1⟩
  rcases gK with rfl | ⟨o',rfl⟩
  ·have nf:∀ o u,X.H₀ d≠some (.frz o u):=fun o u h=>by have:=I.base.frzs d o u h; rw [hH] at this; cases this
   have I1:Inv X pins σ (upd H d (.frz o (.dK vs))) s:=I.write (x:=d) (e:=d) (h':=s.heap) (t':=s.toks) (by rw [hH]; trivial) (.inl rfl) (fun _ _ _ q=>q) ⟨o,ho⟩
    ⟨ho,jy.stay (show jy X.prog X.w H s.heap d (.dK vs) from I.hok d _ hH) (fun _ _ _ q=>q) (fun b q=>by rw [c7 (fun z=>by subst z; rw [hH] at q; cases q)]; exact q) fun b xs q=>by rw [c7 (fun z=>by subst z; rw [hH] at q; cases q)]; exact q⟩
   have R1:=R.swap (B':=⟨upd S d (.frz o (.dK vs)),as,B.H⟩) (z:=.frz o (.dK vs)) hS (.inl rfl) (.inr ⟨o,rfl⟩) (R.grow.still hS) fun _ h=>h;refine thn (P pins s σ _ (fun v H'=>H' d=some (.frz o (.dK vs))/\Q v (upd H' d (.dK vs))) I1 (Jq wk (st:=st) (o:=o) (vs:=vs) (ts:=ts) co R1 gz bw (hrk.rdx (Gz hS (.inl rfl) (.inr ⟨o,rfl⟩))) e2 fun p H' S' ag R' ow n=>?_)) fun u s' ⟨v,H',I',r,hf,hq⟩=>⟨v,_,Zy I' hf nf,r,hq⟩;have iE:S' d=some (.frz o (.dK vs)):=R'.grow.same _ _ bw;refine ⟨R'.sub _ _ iE,q p _ (upd S' d (.dK vs)) ag (R'.swap iE (.inr ⟨o,rfl⟩) (.inl rfl) (R.grow.back hS R'.grow) fun _ h=>h) (ow.swap iE (.inr ⟨o,rfl⟩) (.inl rfl) fun h=>h) n⟩
  ·have R1:Rel X.K ⟨S,as,B.H⟩ s1 σ H ps S as:=⟨R.sub,⟨Same.refl _,nol,fun p o h1 h2 h3=>by
     change S p=none at h2
     have b2:B.S p=none:=by
      cases q:B.S p with
      | none=>rfl
      | some u=>have:=R.grow.same _ _ q; rw [h2] at this; cases this
     have b3:p∉B.as:=fun q=>by obtain ⟨l,e⟩:=R.grow.more; exact h3 (by show p∈as; rw [e]; exact List.mem_append_left _ q)
     exact ⟨(R.grow.keep p o h1 b2 b3).1,h2,h3⟩⟩,fun i t f e=>by
      obtain ⟨v,h1,h2,h3⟩:=R.slots i t f e;exact ⟨v,h1,h2,fun q=>by obtain ⟨p,ep,o⟩:=h3 q; exact ⟨p,ep,o.own,o.out,o.nas,o.new⟩⟩,R.apart,R.sto,R.pend,R.len⟩
   refine P pins s σ _ Q I (Jq wk (st:=st) (o:=o') (vs:=vs) (ts:=ts) co R1 gz hS hrk e2 fun p H' S' ag R' ow n=>q p H' S' ag ⟨R'.sub,⟨R.grow.same.trans R'.grow.same,?_,fun p o h1 h2 h3=>?_⟩,fun i t f e=>?_,R'.apart,R'.sto,R'.pend,R'.len⟩ ⟨ow.own,ow.out,ow.nas,ow.new⟩ n)
   ·obtain ⟨l,e⟩:=R.grow.more;obtain ⟨l',e'⟩:=R'.grow.more;exact ⟨l++l',by rw [e',<- List.append_assoc,<- e]⟩
   ·obtain ⟨a,b,c⟩:=R.grow.keep p o h1 h2 h3;exact R'.grow.keep p o h1 b c
   ·obtain ⟨v,h1,h2,h3⟩:=R'.slots i t f e;exact ⟨v,h1,h2,fun q=>by obtain ⟨p,ep,o⟩:=h3 q; exact ⟨p,ep,o.own,o.out,o.nas,o.new⟩⟩
end
section
noncomputable def Itp (d:Addr) (o:Obj) (aa:List (L2.Key × V)):It :=
 ⟨fun i H=>H d=some (.frz o (.dK aa))/\∃ p,aa[i]? = some p,fun i H v H'=>∃ p,H p=none/\v=.ref p/\∀ q,aa[i]? = some q->H'=upd H p (.tup [kV q.1,q.2]),fun i H=>H d=some (.frz o (.dK aa))/\aa.length<=i⟩
theorem Cr:entryFor table "dict_itemiterator.__iter__" = some Builtin.«dict_keyiterator.__iter__» :=
 entryFor_alias (id' := "dict_keyiterator.__iter__") (by kernel_rfl) (by first | rfl | decide +kernel | (unfold String.splitOn; simp +decide [String.splitOnAux])) (by decide +kernel) (by kernel_rfl) -- here
theorem Gj {prog:Program} {w:World} {A:Around} {E:Value->Shared->Prop} {s:Shared} {it d:Addr} {i n ep:Nat} {ok ov:Value} {Q:Value->Shared->Prop} (hit:IsItemIter s.heap it d i n ep ok ov) (h:Q (.ref it) s):wpAny (model prog w) A (pyIter (.ref it)) Q E s:=by
 have hT:s.TypeIs (.ref it) "dict_itemiterator" := ⟨_,hit,rfl⟩;refine wpAny_pyIter_slot hT PySem.F.slot_dict_itemiterator_iter (wpAny_call_entry PySem.F.slot_dict_itemiterator_iter hT Cr ?_ (PySem.F.args_dict_itemiterator_iter_1 _));show wpAny _ _ (ret (.ref it)) _ _ s;exact wpAny_pure ⟨_,rfl,"dict_itemiterator",_,hT,PySem.F.slot_dict_itemiterator_next.lookup,h⟩
theorem Rx {P:Program} {w:World} {K:PySem.W.Frag} {elts:List Expr} {x1:Nat} {pos:Pos} (d it:Addr) {o:Obj} {aa:List (L2.Key × V)} {es:Array DictEntry} {ep:Nat} (hd:o.data=.dict es ep) :
  Turn P w K (.Tuple elts x1 pos) (Itp d o aa) [it] it (fun i h=>∃ ok ov,IsItemIter h it d i aa.length ep ok ov) where
 mem:=by simp
 obj:=fun i h ⟨ok,ov,st⟩ b hb=>by
  have e:b=it:=by simpa using hb
  subst e;exact ⟨_,st,fun v z=>by cases z⟩
 keep:=fun i h h' ⟨ok,ov,st⟩ k=>⟨ok,ov,k it (by simp) _ st⟩
 item:=by
  intro X hP hw hK hc i pins s σ H E I hf z8 hg;obtain ⟨ok,ov,st⟩:=z8;subst hP hw hK;obtain ⟨hF,⟨k,v⟩,hx⟩:=hg;obtain ⟨_,vs,rv,da⟩:=Xq hd I.hok hF;obtain ⟨u,hu,ru⟩:=a8q rv hx;rw [KV.length rv] at st;refine wpAny_pyNext_items_item st da hu fun key h' hk ae hp bE kp=>?_;refine ⟨_,rfl,wpAny_letOwnedTupleGo_items (s:={ s with heap:=h' }) ae fun h2 dX s2=>?_⟩;have lt:s.heap.objs.size≠it:=Nat.ne_of_gt (Heap.lt_size st);have pair:h2.get? s.heap.objs.size=some { cls:=.type "tuple",data:=.seq #[key,u] }:=s2.extBut _ _ lt hp
  have J:L2.Inv X pins σ (upd H s.heap.objs.size (.tup [kV k,v])) { s with heap:=h2,toks:=s.toks }:=Inv.Wf (ch:=[it]) I hf (fun b o hb eb=>by
   have iD:b≠it:=by simpa using hb
   exact s2.extBut _ _ iD (kp b o iD eb)) (Nat.le_refl _) ⟨by show 2<=sizeLine; rw [sizeLine_eq]; decide,[key,u],.cons (a5z hk) (.cons ru .nil),⟨_,pair,rfl,rfl,0,rfl⟩⟩
  refine ⟨.ref s.heap.objs.size,_,J,rfl,⟨s.heap.objs.size,I.hok.fresh (Nat.le_refl _),rfl,fun q hq=>by rw [hx] at hq; cases hq; rfl⟩,⟨key,u,by rw [KV.length rv]; exact dX⟩,fun b hb=>?_⟩;have e:b=it:=by simpa using hb
  subst e;rw [c7 (Ne.symm lt)]; exact (hf b hb).1
 done:=by
  intro X hP hw hK hc i pins s σ H E I hf z8 hg;obtain ⟨ok,ov,st⟩:=z8;subst hP hw hK;obtain ⟨hF,hx⟩:=hg;obtain ⟨_,vs,rv,da⟩:=Xq hd I.hok hF;obtain ⟨f0,f1,f2,f3,f4,f5⟩:=hf it (by simp);rw [KV.length rv] at st hx;exact wpAny_pyNext_items_end (I.ok.hd hc) st da (List.getElem?_eq_none hx) fun h' eb=>⟨rfl,I.turned (t':=s.toks) (fun b o hb e=>eb b o hb e) f0 f1 f3 f4 f5⟩
 self:=fun _ _ _ _ _ ⟨ok,ov,st⟩ h=>Gj st h
theorem Zv {X:Cx} {elts:List Expr} {x1:Nat} {a8 apos aL:Pos} {l:Expr} {i:Nat} (hl:PE X l (Xm i)) (bO:attributeBase l "items" X.env (eval l X.env)=eval l X.env:=by rfl) (cw:(apos.endLine==aL.line)=true:=by rfl) :
  PI X (.Tuple elts x1 a8) (.Call (.Attribute l "items" apos) [] [] aL) (aay Itp i):=by
 intro pins s σ H R I z8;obtain ⟨d,o,aa,e1,e2,q⟩:=z8;refine wpAny_Call_method0_late bO cw (thn (hl pins s σ H (fun x H1=>x=.ref d/\H1=H) I ⟨_,e1,rfl,rfl⟩) fun v s1 z0=>?_);obtain ⟨x,H1,I1,r1,hx,hH⟩:=z0;subst hx; subst hH;cases r1;obtain ⟨ho,z,y,vs,r,o',es,ep,ho',hxd,hd',qq⟩:=(show jy X.prog X.w H1 s1.heap d (.frz o (.dK aa)) from I1.hok d _ e2);rw [ho] at ho'; cases ho';obtain ⟨_,vs',rv,da⟩:=Xq hd' I1.hok e2;refine ⟨"dict","dict.items",PySem.F.plainAttrs_dict,PySem.F.slot_dict_items,PySem.F.type_dict_items,da.dictOf.typeIs,da.dictOf.mapOf.noDict,Calls.callWith_builtin rfl (PySem.evalArgs_none ?_)⟩;refine call_meetsIn PySem.F.slot_dict_items da.dictOf.typeIs PySem.F.entry_dict_items (PySem.F.args_dict_items_1 _) (meets_dict_items (j6 X.prog X.w) d y) ⟨⟨vs',da.dictOf⟩,?_⟩;have I2:=I1.kept (h':=s1.heap.push { cls:=.type "dict_items",data:=.fields #[.ref d] }) (t':=s1.toks) fun b o e=>Heap.get?_push_of_some _ e;refine wpAny_pyIter_items (s:={ s1 with heap:=s1.heap.push { cls:=.type "dict_items",data:=.fields #[.ref d] } }) ⟨_,Heap.get?_push_size _ rfl,rfl,rfl⟩ (da.push _) ?_;generalize hg:s1.heap.push { cls:=.type "dict_items",data:=.fields #[.ref d] } = g at *;refine ⟨g.objs.size,[g.objs.size],_,_,H1,rfl,I2.kept (t':=s1.toks) fun b o e=>Heap.get?_push_of_some _ e,Rx d g.objs.size hd',⟨.none,.none,?_⟩,fun b hb=>?_,q⟩
 ·show (g.push _).get? g.objs.size=_;rw [Heap.get?_push_size _ rfl,KV.length rv]; rfl
 have e:b=g.objs.size:=by simpa using hb
 subst e;exact I2.a81 (Nat.le_refl _) (I2.hok.fresh (Nat.le_refl _))
theorem Ml {K:PySem.W.Frag} {S:Hp} {as:List Addr}:∀ {vs:List (L2.Key × V)} {ts:List (L2.Key × T)},u9 K S as vs ts->∀ (i:Nat) (t:T),(Ez ts)[i]? = some t->∃ k v u,vs[i]? = some (k,v)/\t=.tup [a1h k,u]/\Rep K S as v u
 | _,_,.nil,i,t,e=>by simp [Ez] at e
 | _,_,.cons (k:=k) (v:=v) (t:=u) hu hr,0,t,e=>by simp [Ez] at e; exact ⟨k,v,u,rfl,e.symm,hu⟩
 | _,_,.cons hu hr,j+1,t,e=>by
  obtain ⟨k2,v2,u2,a,b,c⟩:=Ml hr j t (by simpa [Ez] using e);exact ⟨k2,v2,u2,by simpa using a,b,c⟩
theorem Td {K:PySem.W.Frag}:Walk K Itp Ez:=fun S as H d o vs ts sub h r=>by
 refine ⟨fun i t e=>?_,fun i hi=>⟨h,?_⟩⟩
 ·obtain ⟨k,v,u,a,rfl,c⟩:=Ml r i t e;refine ⟨⟨h,_,a⟩,fun x H' z0=>?_⟩;obtain ⟨p,hn,hv,hH⟩:=z0;have:=hH _ a;subst hv this;have x:=Ext.laid sub hn (.tup [kV k,v]);refine ⟨_,x,.tup (SqT.of bw) (.cons ?_ (.cons (c.mono x.s nol) .nil))⟩;cases k with
  | inl i=>exact .int i
  | inr y=>exact .str y
 ·have:=r.length;unfold Ez at hi;rw [List.length_map] at hi;omega
theorem R7 {X:Cx} {scope:Scope} {N:List Str} {B:Bas} {nv:Nat} {cap:List Nat} {g:G} {c:M Bool} {e:M T} {elt:Expr} {ifs:List Expr} {pos:Pos} {i:Nat} {elts:List Expr} {x1:Nat} {a8 apos aL:Pos} {l:Expr} (co:Xi X scope N nv cap) (sc:Gm X scope N) (calm:X.calm=true) (hi:PE X l (Xm i))
  (hg:∀ C s₀ H₀ ex pn,PG (mz X scope N C s₀ H₀ ex pn) (.Tuple elts x1 a8) (gE X.K g)) (hc:∀ C s₀ H₀ ex pn,PTs (mz X scope N C s₀ H₀ ex pn) ifs (cE X.K c)) (he:∀ C s₀ H₀ ex pn,PE (mz X scope N C s₀ H₀ ex pn) elt (eE X.K e))
  (hs:∀ x,foldedSetIterable (.Call (.Attribute l "items" apos) [] [] aL) X.env x=pure x:=by intro _; rfl) (bO:attributeBase l "items" X.env (eval l X.env)=eval l X.env:=by rfl) (cw:(apos.endLine==aL.line)=true:=by rfl) :
  PE X (.ListComp elt [⟨.Tuple elts x1 a8,.Call (.Attribute l "items" apos) [] [] aL,ifs,0⟩] scope pos) (fOf X.K B (v9 nv cap g (J6 (bf i)) c e)) :=
 Yr Td co sc calm (Zv hi bO cw) hg hc he hs
end
noncomputable def Itm (K:PySem.W.Frag) (a:Addr):It :=
 ⟨fun i H=>∃ xs x,SqL K H a xs/\xs[i]? = some x,fun i H v H'=>∃ p x,H p=none/\v=.ref p/\H'=upd H p (.tup [.int (i:Int),x])/\∀ xs,SqL K H a xs->xs[i]? = some x,fun i H=>∃ xs,SqL K H a xs/\xs.length<=i⟩
theorem Wv {P:Program} {w:World} {K:PySem.W.Frag} {elts:List Expr} {x1:Nat} {pos:Pos} {a e it:Addr} (dC:e≠it) :
  Turn P w K (.Tuple elts x1 pos) (Itm K a) [e,it] e (fun i h=>(∃ old,IsEnum h e it (i:Int) old)/\h.IsListIter it a i) where
 mem:=by simp
 obj:=fun i h ⟨⟨old,he⟩,t⟩ b hb=>by
  simp only [List.mem_cons,List.not_mem_nil,or_false] at hb;rcases hb with rfl | rfl
  ·exact ⟨_,he,fun v q=>by cases q⟩
  ·obtain ⟨o,e,c,d⟩:=t;exact ⟨o,e,fun v z=>by rw [d] at z; cases z⟩
 keep:=fun i h h' ⟨⟨old,he⟩,t⟩ k=>⟨⟨old,k e (by simp) _ he⟩,t.at fun o q=>k it (by simp) o q⟩
 item:=by
  intro X hP hw hK hc i pins s σ H E I hf ⟨⟨old,he⟩,t⟩ ⟨xs,x,q1,e1⟩;subst hP hw hK;obtain ⟨its,rv,p,hz⟩:=I.list q1;obtain ⟨u,g1,ru⟩:=rv.get e1;refine wpAny_pyNext_enum_item he t p.isList (x:=u) (by simpa using g1) dC fun h' dW t' hp bE kp=>?_;refine ⟨_,rfl,wpAny_letOwnedTupleGo_enum (s:={ s with heap:=h',toks:=s.toks+1 }) dW fun h2 gf s2=>?_⟩
  have lt:∀ b∈[e,it],s.heap.objs.size≠b:=fun b hb=>by
   simp only [List.mem_cons,List.not_mem_nil,or_false] at hb;rcases hb with rfl | rfl
   ·exact Nat.ne_of_gt (Heap.lt_size he)
   ·obtain ⟨o,e,_⟩:=t;exact Nat.ne_of_gt (Heap.lt_size e)
  have pair:h2.get? s.heap.objs.size=some { cls:=.type "tuple",data:=.seq #[.int i s.toks,u] }:=s2.extBut _ _ (lt e (by simp)) hp
  have J:L2.Inv X pins σ (upd H s.heap.objs.size (.tup [.int (i:Int),x])) { s with heap:=h2,toks:=s.toks+1 }:=Inv.Wf (ch:=[e,it]) I hf (fun b o hb eb=>by
   simp only [List.mem_cons,List.not_mem_nil,or_false,not_or] at hb;exact s2.extBut _ _ hb.1 (kp b o hb.1 hb.2 eb)) (Nat.le_refl _) ⟨by show 2<=sizeLine; rw [sizeLine_eq]; decide,[.int i s.toks,u],.cons ⟨_,rfl⟩ (.cons ru .nil),⟨_,pair,rfl,rfl,0,rfl⟩⟩
  refine ⟨.ref s.heap.objs.size,_,J,rfl,⟨s.heap.objs.size,x,I.hok.fresh (Nat.le_refl _),rfl,rfl,fun dF h=>by rw [I.R9 h q1]; exact e1⟩,⟨⟨u,?_⟩,?_⟩,fun b hb=>?_⟩
  ·have:((i+1:Nat):Int)=(i:Int)+1:=by omega
   rw [this]; exact gf
  ·exact t'.at fun o q=>s2.extBut _ _ (Ne.symm dC) q
  ·rw [c7 (Ne.symm (lt b hb))]; exact (hf b hb).1
 done:=by
  intro X hP hw hK hc i pins s σ H E I hf ⟨⟨old,he⟩,t⟩ ⟨xs,q1,hx⟩;subst hP hw hK;obtain ⟨its,rv,p,hz⟩:=I.list q1;have hl:=rv.length;refine wpAny_pyNext_enum_end (I.ok.hd hc) he t p.isList (by simp; omega) fun h' kp=>⟨rfl,Inv.a5c (t':=s.toks) (ch:=[e,it]) I hf fun b u hb eb=>?_⟩;simp only [List.mem_cons,List.not_mem_nil,or_false,not_or] at hb;exact kp b u hb.2 eb
 self:=fun _ _ _ _ _ ⟨⟨_,he⟩,_⟩ h=>wpAny_pyIter_enum he h
noncomputable def iEm (K:PySem.W.Frag) (ta:TA):TI:=fun σ H R=>ta σ H fun vs H1=>∃ a xs,vs=[.ref a]/\SqL K H1 a xs/\R (Itm K a) H1
section
variable {X:Cx} {B:Bas} {a:Expr} {m:M T} {pos p:Pos} {elts:List Expr} {x1:Nat} {a8:Pos}
theorem a4p {ta:TA} (hg:Gl X "enumerate") (hm:X.mg "enumerate" = none) (ha:PA X [a] ta) (hs:starEach [a] X.env=[(false,eval a X.env)]:=by rfl) :
  PI X (.Tuple elts x1 a8) (.Call (.Name "enumerate" p) [a] [] pos) (iEm X.K ta):=by
 intro pins s σ H R I h;refine Call_ (Ht I hg hm boot_enumerate (PyProof.Rows.callWith_type1 (thn (ha pos pins s σ H _ I h) fun us s1 z0=>?_) (by rw [hs]; rfl) (by rfl)));obtain ⟨vs,H1,I1,r1,q1⟩:=z0;obtain ⟨a,xs,e,w1,q⟩:=q1;subst e;cases r1 with
 | cons r rr =>
  cases rr;cases r;obtain ⟨its,rv,pL,hz⟩:=I1.list w1;refine call_enumerate_list pL.isList fun h' he hit bE kp=>wpAny_pyIter_enum he ?_;refine ⟨_,[s1.heap.objs.size+1,s1.heap.objs.size],_,_,H1,rfl,I1.kept (t':=s1.toks) kp,Wv (Nat.succ_ne_self _),⟨⟨_,he⟩,hit⟩,fun b hb=>?_,q⟩
  have hle:s1.heap.objs.size<=b:=by
   simp only [List.mem_cons,List.not_mem_nil,or_false] at hb;rcases hb with rfl | rfl
   ·exact Nat.le_succ _
   ·exact Nat.le_refl _
  exact I1.a81 hle (I1.hok.fresh hle)
theorem Mr {ts:List T} {s s':Sta} (h:Gv m s=some (ts,s')):∃ xs,m s=some (.lst xs,s')/\xs.length<lim/\ts=Ky xs:=by
 unfold Gv at h;split at h
 ·rename_i xs s1 e1;split at h
  ·rename_i hl; cases h; exact ⟨xs,e1,hl,rfl⟩
  ·cases h
 ·cases h
theorem Yb:∀ st ts ae,Gv m st=some (ts,ae)->ts.length<=sizeLine:=fun st ts ae e=>by
 obtain ⟨xs,_,l1,rfl⟩:=Mr e;unfold Ky;rw [List.length_map,List.length_zipIdx];exact Nat.le_trans (Nat.le_of_lt l1) jw
theorem Xl {xs:List T} {i:Nat} {t:T} (h:(Ky xs)[i]? = some t):∃ x,xs[i]? = some x/\t=.tup [.int (i:Int),x]:=by
 unfold Ky at h;rw [List.getElem?_map,List.getElem?_zipIdx] at h;cases q:xs[i]? with
 | none=>rw [q] at h; cases h
 | some x=>rw [q] at h; simp at h; exact ⟨x,rfl,h.symm⟩
theorem Ur (hg:Gl X "enumerate") (hm:X.mg "enumerate" = none) (h1:PE X a (tOf X.K B m)) (hs:starEach [a] X.env=[(false,eval a X.env)]:=by rfl) :
  PI X (.Tuple elts x1 a8) (.Call (.Name "enumerate" p) [a] [] pos) (iOf X.K B (Gv m)):=by
 intro pins s σ H R I hw;refine a4p (ta:=Zo (tOf X.K B m) a9s) hg hm (nq h1 wg hs) hs pins s σ H R I ?_;obtain ⟨st,ps,S,as,Rl,ts,ae,e,hz,q⟩:=hw;obtain ⟨xs,e1,l1,rfl⟩:=Mr e;refine ⟨st,ps,S,as,Rl,_,_,e1,fun v H1 S1 aC R1=>?_⟩;have top:=R1.top;cases top with
 | @lst a vs _ hs hr =>
  refine ⟨a,vs,rfl,iz R1.sub hs,q _ H1 S1 aC [(.ref a,.lst xs)] R1 fun S2 aQ H2 hp hh=>?_⟩;have:=hp _ List.mem_cons_self;cases this with
  | @lst _ cb _ bW bV =>
   refine ⟨fun i tt et=>?_,fun i hi=>⟨cb,iz hh bW,?_⟩⟩
   ·obtain ⟨x,f1,rfl⟩:=Xl et;obtain ⟨vx,gx,rx⟩:=bV.get f1;refine ⟨⟨cb,vx,iz hh bW,gx⟩,fun v H' z0=>?_⟩;obtain ⟨pp,x',hn,hv,hH,b1⟩:=z0;have c1:=b1 _ (iz hh bW);rw [gx] at c1;cases c1;subst hv hH;have x:=Ext.laid hh hn (.tup [.int (i:Int),vx]);exact ⟨_,x,.tup (SqT.of bw) (.cons (.int _) (.cons (rx.mono x.s nol) .nil))⟩
   ·rw [bV.length];unfold Ky at hi
    rwa [List.length_map,List.length_zipIdx] at hi
end
theorem Fe:typeLookup (.type "zip") "__getattr__" = pure none:=by rw [typeLookup_type,builtinLookup_eq_fast]; kernel_rfl
theorem Am:entryFor table "zip.__getattribute__" = some Builtin.«object.__getattribute__» :=
 entryFor_alias (id' := "object.__getattribute__") (by kernel_rfl) (by decide +kernel) (by decide +kernel) (by kernel_rfl) -- here
theorem Ka:typeLookup (.type "zip") "keys" = pure none:=am_miss_of_fast (by decide +kernel)
theorem vg (a:Addr) (fs:Array Value) (name:Str) (u:Tok) (jJ:typeLookup (.type "zip") name=pure none) (fT:(["__module__","__name__","__qualname__","__doc__","__annotations__"]:List Str).contains name=false) (bE:name.length+100<=sizeLine:=by size_fits) :
  Meets (Builtin.«object.__getattribute__» ⟨[.ref a,.str name u],[]⟩) (fun A R s=>s.heap.get? a=some { cls:=.type "zip",dict:=none,data:=.fields fs,slots:=#[] }/\raisesAttr (.ref a) name A R s) :=
 Meets.of_wp fun prog w A R s hs=>by
  obtain ⟨hp,g,d,tk,os⟩:=s;obtain ⟨hx,hs⟩:=hs;have hT:(⟨hp,g,d,tk,os⟩:Shared).TypeIs (.ref a) "zip" := ⟨_,hx,rfl⟩;unfold Builtin.«object.__getattribute__»
  repeat (any_goals (first | assumption | wp_step)) -- here
  simp only [fT,Bool.false_eq_true,if_false]
  repeat (any_goals (first | assumption | wp_step)) -- here
  exact wpAny_raiseAttrError hs.1 hs.2 (attrMsg_fits (by decide +kernel) bE)
section
variable {prog:Program} {w:World} {A:Around} {E:Value->Shared->Prop} {s:Shared}
theorem a0v {l:Addr} {fs:Array Value} {Q:Option Value->Shared->Prop} (hx:s.heap.get? l=some { cls:=.type "zip",dict:=none,data:=.fields fs,slots:=#[] }) (nh:A.handled=none)
  (h:∀ h' tk e,Heap.NewExcOf s.heap h' e "AttributeError" -> Q none { s with heap:=h',toks:=tk }):wpAny (model prog w) A (getAttr? (.ref l) "keys") Q E s:=by
 obtain ⟨h0,g0,d0,tk,os⟩:=s;have hT:∀ dR,(⟨h0,g0,d0,dR,os⟩:Shared).TypeIs (.ref l) "zip" := fun _=>⟨_,hx,rfl⟩;have g1:=sub_AttributeError;have g3:=F.slot_zip_getattribute.lookup;have g4:=F.slot_zip_getattribute.bind (.ref l);have g5:=Fe;unfold getAttr?;unfold getAttrBy?;unfold getAttrBy
 repeat (any_goals (first | assumption | exact hT _ | ((with_reducible show wpAny _ _ (call (Value.builtin "zip.__getattribute__") _ _) _ _ _); refine call_meets F.slot_zip_getattribute (hT _) Am (F.args_zip_getattribute_2 _ _) (vg l fs "keys" _ Ka (by decide +kernel)) ⟨hx,nh,fun h' dR e y=>?_⟩) | wp_step))
 obtain ⟨t',u',he⟩:=y.there;change wpAny _ _ (getattributeRaised _ _ _ _ _ _ _) _ _ _;unfold getattributeRaised
 repeat (any_goals first | assumption | wp_step)
 exact h _ _ _ y.of
end
open Sem (wp)
section
variable {prog:Program} {w:World} {A:Around} {E:Value->Shared->Prop} {s:Shared}
theorem a0m {M:Model} {a:Addr} {Q:Option Obj->Shared->Prop} (h:Q (s.heap.get? a) s):wpAny M A (loadIfAlive a) Q E s:=fun Γ p _=>by
 unfold loadIfAlive;rw [Sem.wp_loadIfAlive];exact (Sem.wp_pure ..).mpr h
abbrev a5n (h:Heap) (z ti aB:Addr) (a:Addr) (b:Bool):Prop:=h.get? z=some { cls:=.type "zip",dict:=none,data:=.fields #[rawInt a,.bool b,.bool false,.ref ti,.ref aB],slots:=#[] }
theorem Py {z ti aB a:Addr} {b:Bool} {o:Obj} {Q:Bool->Shared->Prop} (hz:a5n s.heap z ti aB a b) (ha:s.heap.get? a=some o)
  (q:∀ h',a5n h' z ti aB a true->Heap.ExtBut z s.heap h'->h'.objs.size=s.heap.objs.size->Q false { s with heap:=h' }):wpAny (model prog w) A (Builtin.SmallTypes.ownedTupleIsFree (.ref z)) Q E s:=by
 unfold Builtin.SmallTypes.ownedTupleIsFree;refine wpAny_bind (wpAny_field hz rfl (x:=rawInt a) rfl ?_);show wpAny _ _ (loadIfAlive ((a:Int)).toNat >>= _) _ _ s;refine wpAny_bind (a0m ?_);rw [Int.toNat_natCast,ha];dsimp only;rw [if_neg (by simp)];refine wpAny_bind (wpAny_field hz rfl (x:=.bool b) rfl ?_);cases b with
 | true =>
  rw [if_neg (by decide)];exact wpAny_pure (q _ hz (fun _ _ _ e=>e) rfl)
 | false =>
  rw [if_pos (by decide)];exact wpAny_bind (wpAny_setField_rec hz (by simp) fun h' gK s'=>wpAny_pure (q h' gK s'.extBut s'.1))
theorem Wt {k1 k2:Bool} {z ti aB i1 i2 a1 a2 a:Addr} {b:Bool} {o:Obj} {j1 j2:Nat} {xs ys:Array Value} {x y:Value} {Q:Value->Shared->Prop} (D:Far z ti aB i1 i2) (hz:a5n s.heap z ti aB a b) (hI:IsPair s.heap ti (.ref i1) (.ref i2)) (ha:s.heap.get? a=some o)
  (h1:Ax k1 s.heap i1 a1 j1) (h2:Ax k2 s.heap i2 a2 j2) (r1:n8 k1 s.heap a1 xs) (r2:n8 k2 s.heap a2 ys) (n2:a2≠z/\a2≠i1/\a2≠i2) (n1:a1≠z) (hx:xs[j1]? = some x) (hy:ys[j2]? = some y)
  (q:∀ h',a5n h' z ti aB a true->Ax k1 h' i1 a1 (j1+1)->Ax k2 h' i2 a2 (j2+1)->IsPair h' s.heap.objs.size x y->(∀ c o,c≠z->c≠i1->c≠i2->s.heap.get? c=some o->h'.get? c=some o)->Q (.ref s.heap.objs.size) { s with heap:=h' }) :
  wpAny (model prog w) A (Builtin.«zip.__next__» ⟨[.ref z],[]⟩) (fun fin s'=>∃ v,fin=.done (.ret v)/\Q v s') E s:=by
 obtain ⟨d1,d2,d3,d4,d5,d6,d7,d8,d9,d10⟩:=D.all;refine (show wpAny _ _ (field (.ref z) 2 >>= _) _ _ _ from wpAny_bind (wpAny_field hz rfl (x:=.bool false) rfl ?_));refine (show wpAny _ _ (field (.ref z) 3 >>= _) _ _ _ from wpAny_bind (wpAny_field hz rfl (x:=.ref ti) rfl (wpAny_bind (wpAny_seqItems hI rfl ?_))));refine (show wpAny _ _ (Builtin.SmallTypes.ownedTupleIsFree (.ref z) >>= _) _ _ _ from wpAny_bind (Py hz ha fun g1 z1 s1 jv=>?_));dsimp only;rw [if_neg (by decide)];rw [<- Array.forIn_toList];simp only [List.forIn_cons,List.forIn_nil];refine wpAny_bind (wpAny_bind (wpAny_bind (wpAny_holding (show wpAny _ _ (Builtin.SmallTypes.nextOf (.ref i1) >>= fun x=>pure (some x)) _ _ _ from wpAny_bind (Bp (s:={ s with heap:=g1 }) (h1.to fun o e=>s1 _ _ d3 e) (r1.to fun o e=>s1 _ _ n1 e) hx fun g2 t2 s2=>wpAny_pure (wpAny_pure ?_))))));have e2:∀ c o,c≠z->c≠i1->s.heap.get? c=some o->g2.get? c=some o:=fun c o c1 c2 e=>s2.extBut _ _ c2 (s1 _ _ c1 e);refine wpAny_bind (wpAny_bind (wpAny_holding (show wpAny _ _ (Builtin.SmallTypes.nextOf (.ref i2) >>= fun x=>pure (some x)) _ _ _ from wpAny_bind (Bp (s:={ s with heap:=g2 }) (h2.to fun o e=>e2 _ o d4 (Ne.symm d10) e) (r2.to fun o e=>e2 _ o n2.1 n2.2.1 e) hy fun g3 t3 s3=>wpAny_pure (wpAny_pure (wpAny_pure ?_))))));dsimp only;have sz:g3.objs.size=s.heap.objs.size:=by rw [s3.1]; show g2.objs.size=_; rw [s2.1]; exact jv
 refine wpAny_bind (wpAny_newTuple (wpAny_pure ⟨_,rfl,?_⟩) (by show 2<=sizeLine; rw [sizeLine_eq]; decide));show Q (.ref g3.objs.size) _;have z3:a5n g3 z ti aB a true:=s3.extBut _ _ (Ne.symm d4) (s2.extBut _ _ (Ne.symm d3) z1);have p3:IsPair (g3.push { cls:=.type "tuple",data:=.seq #[x,y] }) g3.objs.size x y:=Heap.get?_push_size _ rfl;rw [sz] at p3 ⊢;exact q _ (Heap.get?_push_of_some _ z3) (t2.to fun o e=>Heap.get?_push_of_some _ (s3.extBut _ _ d10 e)) (t3.to fun o e=>Heap.get?_push_of_some _ e) p3 fun c o c1 c2 c3 e=>Heap.get?_push_of_some _ (s3.extBut _ _ c3 (e2 c o c1 c2 e))
theorem Vf {k1 k2:Bool} {z ti aB i1 i2 a1 a2 a:Addr} {b:Bool} {o:Obj} {j1 j2:Nat} {xs ys:Array Value} {Q:PySem.Fin->Shared->Prop} (hh:A.handled=none) (D:Far z ti aB i1 i2) (hz:a5n s.heap z ti aB a b) (hI:IsPair s.heap ti (.ref i1) (.ref i2)) (ha:s.heap.get? a=some o)
  (h1:Ax k1 s.heap i1 a1 j1) (h2:Ax k2 s.heap i2 a2 j2) (r1:n8 k1 s.heap a1 xs) (r2:n8 k2 s.heap a2 ys) (n2:a2≠z/\a2≠i1/\a2≠i2) (n1:a1≠z) (cx:xs[j1]? = none\/ys[j2]? = none)
  (q:∀ h' e,(∀ c o,c≠z->c≠i1->c≠i2->s.heap.get? c=some o->h'.get? c=some o)->(∃ o,h'.get? e=some o/\o.cls=.type "StopIteration")->E (.ref e) { s with heap:=h' }) :
  wpAny (model prog w) A (Builtin.«zip.__next__» ⟨[.ref z],[]⟩) Q E s:=by
 obtain ⟨d1,d2,d3,d4,d5,d6,d7,d8,d9,d10⟩:=D.all;refine (show wpAny _ _ (field (.ref z) 2 >>= _) _ _ _ from wpAny_bind (wpAny_field hz rfl (x:=.bool false) rfl ?_));refine (show wpAny _ _ (field (.ref z) 3 >>= _) _ _ _ from wpAny_bind (wpAny_field hz rfl (x:=.ref ti) rfl (wpAny_bind (wpAny_seqItems hI rfl ?_))));refine (show wpAny _ _ (Builtin.SmallTypes.ownedTupleIsFree (.ref z) >>= _) _ _ _ from wpAny_bind (Py hz ha fun g1 z1 s1 jv=>?_));dsimp only;rw [if_neg (by decide)];rw [<- Array.forIn_toList];simp only [List.forIn_cons,List.forIn_nil];cases hx:xs[j1]? with
 | none =>
  exact wpAny_bind (wpAny_bind (wpAny_bind (wpAny_holding (show wpAny _ _ (Builtin.SmallTypes.nextOf (.ref i1) >>= fun x=>pure (some x)) _ _ _ from wpAny_bind (w6 (s:={ s with heap:=g1 }) hh (h1.to fun o e=>s1 _ _ d3 e) (r1.to fun o e=>s1 _ _ n1 e) hx fun g2 e s2 he=>q g2 e (fun c o c1 c2 _ x=>s2 _ _ c2 (s1 _ _ c1 x)) he)))))
 | some x =>
  have hy:ys[j2]? = none:=cx.resolve_left fun h=>by rw [hx] at h; cases h
  refine wpAny_bind (wpAny_bind (wpAny_bind (wpAny_holding (show wpAny _ _ (Builtin.SmallTypes.nextOf (.ref i1) >>= fun x=>pure (some x)) _ _ _ from wpAny_bind (Bp (s:={ s with heap:=g1 }) (h1.to fun o e=>s1 _ _ d3 e) (r1.to fun o e=>s1 _ _ n1 e) hx fun g2 t2 s2=>wpAny_pure (wpAny_pure ?_))))));have e2:∀ c o,c≠z->c≠i1->s.heap.get? c=some o->g2.get? c=some o:=fun c o c1 c2 e=>s2.extBut _ _ c2 (s1 _ _ c1 e);exact wpAny_bind (wpAny_bind (wpAny_holding (show wpAny _ _ (Builtin.SmallTypes.nextOf (.ref i2) >>= fun x=>pure (some x)) _ _ _ from wpAny_bind (w6 (s:={ s with heap:=g2 }) hh (h2.to fun o e=>e2 _ o d4 (Ne.symm d10) e) (r2.to fun o e=>e2 _ o n2.1 n2.2.1 e) hy fun g3 e s3 he=>q g3 e (fun c o c1 c2 c3 x=>s3 _ _ c3 (e2 c o c1 c2 x)) he))))
structure a9v (k1 k2:Bool) (z ti aB i1 i2 a1 a2:Addr) (i:Nat) (h:Heap):Prop where
 it1:Ax k1 h i1 a1 i
 it2:Ax k2 h i2 a2 i
 its:IsPair h ti (.ref i1) (.ref i2)
 st:Im h z ti aB i1 i2 .none\/∃ a b o,a5n h z ti aB a b/\h.get? a=some o/\a≠z/\a≠i1/\a≠i2
theorem Wx {k1 k2:Bool} {z ti aB i1 i2 a1 a2:Addr} {i:Nat} {xs ys:Array Value} {x y:Value} {Q:Option Value->Shared->Prop} (D:Far z ti aB i1 i2) (Z:a9v k1 k2 z ti aB i1 i2 a1 a2 i s.heap)
  (r1:n8 k1 s.heap a1 xs) (r2:n8 k2 s.heap a2 ys) (n2:a2≠z/\a2≠aB/\a2≠i1/\a2≠i2) (n1:a1≠z) (hx:xs[i]? = some x) (hy:ys[i]? = some y)
  (q:∀ h',a9v k1 k2 z ti aB i1 i2 a1 a2 (i+1) h'->IsPair h' s.heap.objs.size x y->O7 z aB i1 i2 s.heap h'->Q (some (.ref s.heap.objs.size)) { s with heap:=h' }):wpAny (model prog w) A (pyNext (.ref z)) Q E s:=by
 obtain ⟨t1,t2,hI,st⟩:=Z;obtain ⟨d1,d2,d3,d4,d5,d6,d7,d8,d9,d10⟩:=D.all;rcases st with Z | ⟨a,b,o,hz,ha,na,na1,na2⟩
 ·have nz:s.heap.objs.size≠z:=Nat.ne_of_gt (Heap.lt_size Z.zip);obtain ⟨o1,g1,_⟩:=t1.obj;obtain ⟨o2,g2,_⟩:=t2.obj;exact a0z D Z t1 t2 r1 r2 n2 n1 hx hy fun h' Z' fq eZ hp kp=>q h' ⟨fq,eZ,Z'.its,.inr ⟨_,false,_,Z'.zip,hp,nz,Nat.ne_of_gt (Heap.lt_size g1),Nat.ne_of_gt (Heap.lt_size g2)⟩⟩ hp kp
 ·have ty:s.TypeIs (.ref z) "zip" := ⟨_,hz,rfl⟩;unfold pyNext
  exact wpAny_bind (wpAny_attempt (wpAny_callSpecial?_slot (name:=Str.ofString "__next__") ty F.slot_zip_next (wpAny_call_entry F.slot_zip_next ty F.entry_zip_next
   (Wt D hz hI ha t1 t2 r1 r2 ⟨n2.1,n2.2.2⟩ n1 hx hy fun h' z' fq eZ hp kp=>wpAny_pure (q h' ⟨fq,eZ,kp _ _ d1 d6 d7 hI,.inr ⟨a,true,o,z',kp _ _ na na1 na2 ha,na,na1,na2⟩⟩ hp fun c o c1 _ c3 c4 e=>kp c o c1 c3 c4 e)) (F.args_zip_next_1 _))))
theorem V7 {k1 k2:Bool} {z ti aB i1 i2 a1 a2:Addr} {i:Nat} {xs ys:Array Value} {Q:Option Value->Shared->Prop} (hh:A.handled=none) (D:Far z ti aB i1 i2) (Z:a9v k1 k2 z ti aB i1 i2 a1 a2 i s.heap)
  (r1:n8 k1 s.heap a1 xs) (r2:n8 k2 s.heap a2 ys) (n2:a2≠z/\a2≠aB/\a2≠i1/\a2≠i2) (n1:a1≠z) (cx:xs[i]? = none\/ys[i]? = none)
  (q:∀ h',O7 z aB i1 i2 s.heap h'->Q none { s with heap:=h' }):wpAny (model prog w) A (pyNext (.ref z)) Q E s:=by
 obtain ⟨t1,t2,hI,st⟩:=Z;rcases st with Z | ⟨a,b,o,hz,ha,na,na1,na2⟩
 ·exact a0j hh D Z t1 t2 r1 r2 n2 n1 cx q
 ·have ty:s.TypeIs (.ref z) "zip" := ⟨_,hz,rfl⟩;unfold pyNext
  refine wpAny_bind (wpAny_attempt (wpAny_callSpecial?_slot (name:=Str.ofString "__next__") ty F.slot_zip_next (wpAny_call_entry F.slot_zip_next ty F.entry_zip_next
   (Vf hh D hz hI ha t1 t2 r1 r2 ⟨n2.1,n2.2.2⟩ n1 cx fun h' e kp he=>?_) (F.args_zip_next_1 _))))
  obtain ⟨o,ho,hc⟩:=he;exact wpAny_bind (wpAny_isInstance (T := "StopIteration") (b:=true) ⟨o,ho,hc⟩ isSubtype_stop (wpAny_pure (q _ fun c o c1 _ c3 c4 e=>kp c o c1 c3 c4 e)))
end
end C
end
section
namespace C
open PySem PySem.Spec PyProof.Rows L2
section
variable {prog:Program} {w:World} {A:Around} {R:Result->Shared->Prop} {k1 k2:Bool} {z ti aB i1 i2 a1 a2:Addr} {xs ys:Array Value} {κ:Type} [DecidableEq κ] {knd:PySem.KeyKind prog w κ}
theorem Uu (nh:A.handled=none) (Df:Far z ti aB i1 i2) (D:Addr) (fm:D∉[z,ti,aB,i1,i2]) (result:Value) (h0:Heap) (key:Nat->κ) (val:Nat->Value) (n:Nat) (hz:n<=sizeLine)
  (r1:n8 k1 h0 a1 xs) (r2:n8 k2 h0 a2 ys) (n1:a1∉[D,z,ti,aB,i1,i2]) (n2:a2∉[D,z,ti,aB,i1,i2]) (fN:n=min xs.size ys.size)
  (hk:∀ i x,i<n->xs[i]? = some x->knd.is (key i) x=true) (hv:∀ i y,i<n->ys[i]? = some y->y=val i) :
  ∀ (j i:Nat) (c:Nat) (s:Shared),n - i=j->i<=n->a9v k1 k2 z ti aB i1 i2 a1 a2 i s.heap->(∀ b o,b∉[D,z,ti,aB,i1,i2]->h0.get? b=some o->s.heap.get? b=some o)->s.heap.DictOf knd D (told key val i) ->
   (∀ h' tk,h'.DictOf knd D (told key val n)->(∀ b o,b∉[D,z,ti,aB,i1,i2]->h0.get? b=some o->h'.get? b=some o)->R (.ok (.ret result)) { s with heap:=h',toks:=tk }) ->
   codeAny (model prog w) A (.builtin "dict.update.loop" ⟨[.ref D,.ref z,rawInt (c:Int),result],[]⟩) R s:=by
 simp only [List.mem_cons,List.not_mem_nil,or_false,not_or] at fm n1 n2;obtain ⟨f1,f2,f3,f4,f5⟩:=fm
 have mem:∀ b,b∉[D,z,ti,aB,i1,i2]->b≠D/\b≠z/\b≠ti/\b≠aB/\b≠i1/\b≠i2:=fun b hb=>by
  simpa only [List.mem_cons,List.not_mem_nil,or_false,not_or] using hb
 have fy:∀ b,b≠D->b≠z->b≠ti->b≠aB->b≠i1->b≠i2->b∉[D,z,ti,aB,i1,i2]:=fun b c1 c2 c3 c4 c5 c6=>by
  simp only [List.mem_cons,List.not_mem_nil,or_false,not_or]; exact ⟨c1,c2,c3,c4,c5,c6⟩
 have rows:∀ {h:Heap},(∀ b o,b∉[D,z,ti,aB,i1,i2]->h0.get? b=some o->h.get? b=some o)->n8 k1 h a1 xs/\n8 k2 h a2 ys:=fun k =>
  ⟨r1.to fun o e=>k _ o (fy _ n1.1 n1.2.1 n1.2.2.1 n1.2.2.2.1 n1.2.2.2.2.1 n1.2.2.2.2.2) e,r2.to fun o e=>k _ o (fy _ n2.1 n2.2.1 n2.2.2.1 n2.2.2.2.1 n2.2.2.2.2.1 n2.2.2.2.2.2) e⟩
 intro j
 induction j with
 | zero =>
  intro i c s hj hi Z keep hD hR;have e:i=n:=by omega
  subst e;obtain ⟨q1,q2⟩:=rows keep;refine codeAny_builtin n6 ?_;rw [Around.under_plainId iu _];change wpAny _ A.in1 (pyNext (.ref z) >>= _) _ _ s;refine wpAny_bind (V7 (A:=A.in1) nh Df Z q1 q2 ⟨n2.2.1,n2.2.2.2.1,n2.2.2.2.2.1,n2.2.2.2.2.2⟩ n1.2.1 ?_ fun h' kp=>?_)
  ·rcases Nat.le_total xs.size ys.size with hle | hle
   ·exact .inl (Array.getElem?_eq_none (by omega))
   ·exact .inr (Array.getElem?_eq_none (by omega))
  show wpAny _ A.in1 (Builtin.Dict.addKeywords D [] >>= fun _=>ret result) _ _ { s with heap:=h' };refine wpAny_bind (wpAny_pure (wpAny_pure (hR h' s.toks ?_ fun b o hb e=>?_)))
  ·obtain ⟨o,es,ep,ho,rest⟩:=hD;exact ⟨o,es,ep,kp D _ f1 f3 f4 f5 ho,rest⟩
  ·obtain ⟨c1,c2,c3,c4,c5,c6⟩:=mem b hb;exact kp b o c2 c4 c5 c6 (keep b o hb e)
 | succ j ih =>
  intro i c s hj hi Z keep hD hR;have bA:i<n:=by omega
  obtain ⟨q1,q2⟩:=rows keep;have hx:xs[i]? = some xs[i]:=Array.getElem?_eq_getElem (by omega);have hy:ys[i]? = some ys[i]:=Array.getElem?_eq_getElem (by omega);refine codeAny_builtin n6 ?_;rw [Around.under_plainId iu _];change wpAny _ A.in1 (pyNext (.ref z) >>= _) _ _ s;refine wpAny_bind (Wx (A:=A.in1) Df Z q1 q2 ⟨n2.2.1,n2.2.2.2.1,n2.2.2.2.2.1,n2.2.2.2.2.2⟩ n1.2.1 hx hy fun h' Z' hp kp=>?_);have df:=hk i _ bA hx;have gN:=hv i _ bA hy
  have eL:h'.DictOf knd D (told key val i):=by
   obtain ⟨o,es,ep,ho,rest⟩:=hD;exact ⟨o,es,ep,kp D _ f1 f3 f4 f5 ho,rest⟩
  have hT:(Shared.mk h' s.gens s.drawn s.toks s.os).TypeIs (.ref s.heap.objs.size) "tuple" := ⟨_,hp,rfl⟩;dsimp only;refine wpAny_bind (wpAny_holding (wpAny_bind (wpAny_tryCatch ?_)));unfold Builtin.Dict.pairItems;refine wpAny_bind (wpAny_typeOf (T := "tuple") hT ?_);rw [if_pos (by decide)];refine wpAny_bind (Ie (s:=Shared.mk h' s.gens s.drawn s.toks s.os) hp rfl ?_);refine wpAny_pure ?_;show wpAny _ A.in1 (holding [xs[i],ys[i]] (dictSet D xs[i] ys[i])) _ _ _;refine wpAny_holding (wpAny_dictSet_pairs df eL (fun h2 b9 same=>?_) (Nat.le_trans (Aa key val i) (Nat.le_trans hi hz)));rw [gN] at b9;refine wpAny_pure ⟨plainId_quiet iu _,?_⟩;have ec:((c:Int)+1)=((c+1:Nat):Int):=by omega
  rw [ec];have e2:∀ b o,b≠D->h'.get? b=some o->h2.get? b=some o:=fun b o hb e=>by rw [same.2 b hb]; exact e
  obtain ⟨t1,t2,hI,st⟩:=Z';refine ih (i+1) (c+1) _ (by omega) bA ⟨t1.to fun o e=>e2 _ o (Ne.symm f4) e,t2.to fun o e=>e2 _ o (Ne.symm f5) e,e2 _ _ (Ne.symm f2) hI,?_⟩ (fun b o hb e=>?_) b9 fun h3 tk dP kH=>hR h3 tk dP kH
  ·rcases st with ⟨zz,ii,a,b,kk⟩ | ⟨a,b,o,hz,ha,na,na1,na2⟩
   ·exact .inl ⟨e2 _ _ (Ne.symm f1) zz,e2 _ _ (Ne.symm f2) ii,a,b,e2 _ _ (Ne.symm f3) kk⟩
   ·by_cases haD:a=D
    ·obtain ⟨o',es,ep,ho',rest⟩:=b9;exact .inr ⟨a,b,o',e2 _ _ (Ne.symm f1) hz,by rw [haD]; exact ho',na,na1,na2⟩
    ·exact .inr ⟨a,b,o,e2 _ _ (Ne.symm f1) hz,e2 _ _ haD ha,na,na1,na2⟩
  ·obtain ⟨c1,c2,c3,c4,c5,c6⟩:=mem b hb;exact e2 b o c1 (kp b o c2 c4 c5 c6 (keep b o hb e))
end
section
variable {prog:Program} {w:World} {A:Around} {E:Value->Shared->Prop} {s:Shared} {k1 k2:Bool} {z ti aB i1 i2 a1 a2:Addr} {xs ys:Array Value} {κ:Type} [DecidableEq κ] {knd:PySem.KeyKind prog w κ}
theorem O1 {key:Nat->κ} {val:Nat->Value} {n:Nat} {Q:Value->Shared->Prop} (nh:A.handled=none) (Df:Far z ti aB i1 i2) (Z:Im s.heap z ti aB i1 i2 .none) (t1:Ax k1 s.heap i1 a1 0) (t2:Ax k2 s.heap i2 a2 0) (r1:n8 k1 s.heap a1 xs) (r2:n8 k2 s.heap a2 ys)
  (n1:a1∉[z,ti,aB,i1,i2]) (n2:a2∉[z,ti,aB,i1,i2]) (hz:n<=sizeLine) (fN:n=min xs.size ys.size) (hk:∀ i x,i<n->xs[i]? = some x->knd.is (key i) x=true) (hv:∀ i y,i<n->ys[i]? = some y->y=val i)
  (q:∀ h' tk,h'.DictOf knd s.heap.objs.size (told key val n)->(∀ b o,b∉[z,ti,aB,i1,i2]->s.heap.get? b=some o->h'.get? b=some o)->Q (.ref s.heap.objs.size) { s with heap:=h',toks:=tk }) :
  wpAny (model prog w) A (call (.type "dict") [.ref z]) Q E s:=by
 refine callType_codes (Q₁:=fun ob z=>ob=.ref s.heap.objs.size/\z = { s with heap:=s.heap.push { cls:=.type "dict",data:=.dict #[] } }) F.kt_called_dict (F.kt_typeCall_dict_1 _) F.entry_dict_init (kt_code_dict_new _ ⟨rfl,rfl⟩) ?_;rintro obj ax ⟨rfl,rfl⟩;have bJ:(s.heap.push { cls:=.type "dict",data:=.dict #[] }).DictOf knd s.heap.objs.size []:=Heap.DictOf.new s.heap;have up:∀ b o,s.heap.get? b=some o->(s.heap.push { cls:=.type "dict",data:=.dict #[] }).get? b=some o:=fun b o e=>Heap.get?_push_of_some _ e;have ja:=up _ _ Z.zip;refine ⟨bJ.typeIs,F.args_dict_init_2 _ _,?_⟩;unfold Builtin.«dict.__init__» Builtin.Dict.selfAndRest;refine wpAny_bind (wpAny_bind (wpAny_notOrdered_dict bJ.typeIs ?_));show wpAny _ _ (pure (s.heap.objs.size,[Value.ref z])) _ _ _;refine wpAny_pure ?_;show wpAny _ _ (Builtin.Dict.updateFrom "dict.__init__" s.heap.objs.size (.ref z) [] .none) _ _ _;unfold Builtin.Dict.updateFrom; refine wpAny_bind (wpAny_typeOf (T := "zip") ⟨_,ja,rfl⟩ ?_);rw [if_pos (by decide)];refine wpAny_bind (a0v ja nh fun h2 tk e ne=>?_);rw [if_pos (show (none:Option Value).isNone=true from rfl)];have bu:∀ b o,s.heap.get? b=some o->h2.get? b=some o:=fun b o hb=>ne.keeps b o (up b o hb)
 have b9:h2.DictOf knd s.heap.objs.size []:=by
  obtain ⟨o,es,ep,ho,rest⟩:=bJ;exact ⟨o,es,ep,ne.keeps _ _ ho,rest⟩
 obtain ⟨zz,its,ka,kb,kk⟩:=Z;have Z2:Im h2 z ti aB i1 i2 .none:=⟨bu _ _ zz,bu _ _ its,ka,kb,bu _ _ kk⟩;refine wpAny_bind (wpAny_rule (wpAny_bind (wpAny_pyIter_zip (s:={ s with heap:=h2,toks:=tk }) Z2.zip ?_)));refine wpAny_pure ⟨plainId_quiet iu _,?_⟩;have lt:∀ b,(∃ o,s.heap.get? b=some o)->s.heap.objs.size≠b:=fun b ⟨o,e⟩=>Nat.ne_of_gt (Heap.lt_size e)
 have nD:s.heap.objs.size∉[z,ti,aB,i1,i2]:=by
  simp only [List.mem_cons,List.not_mem_nil,or_false,not_or];obtain ⟨o1,g1,_⟩:=t1.obj;obtain ⟨o2,g2,_⟩:=t2.obj;exact ⟨lt _ ⟨_,zz⟩,lt _ ⟨_,its⟩,lt _ ⟨_,kk⟩,lt _ ⟨_,g1⟩,lt _ ⟨_,g2⟩⟩
 have nr:∀ {k:Bool} {a:Addr} {xs:Array Value},n8 k s.heap a xs->a∉[z,ti,aB,i1,i2]->a∉[s.heap.objs.size,z,ti,aB,i1,i2]:=fun {k a xs} r h=>by
  have:a≠s.heap.objs.size:=by
   cases k <;> obtain ⟨o,e,_⟩:=r <;> exact Nat.ne_of_lt (Heap.lt_size e)
  simp only [List.mem_cons,not_or] at h ⊢;exact ⟨this,h⟩
 refine Uu (A:=A.in1) (knd:=knd) (h0:=s.heap) nh Df s.heap.objs.size nD .none key val n hz r1 r2 (nr r1 n1) (nr r2 n2) fN hk hv (n - 0) 0 0 { s with heap:=h2,toks:=tk } rfl (Nat.zero_le _) ⟨t1.to fun o e=>bu _ o e,t2.to fun o e=>bu _ o e,Z2.its,.inl Z2⟩ (fun b o _ e=>bu b o e) b9 fun h3 jW dP kp=>?_;refine ⟨rfl,q h3 jW dP fun b o hb e=>kp b o ?_ e⟩;simp only [List.mem_cons,not_or] at hb ⊢;exact ⟨Nat.ne_of_lt (Heap.lt_size e),hb⟩
end
section
variable {X:Cx} {B:Bas} {a b:Expr} {m1 m2:M T} {p1 p2 p3 p4:Pos}
theorem a2s {K:PySem.W.Frag} {S:Hp} {as:List Addr} {prog:Program} {w:World}:∀ {cA:List V} {xs:List T} {gJ:List Value} {cb:List V} {ys:List T} {ik:List Value} {l:List (L2.Key × T)},jg K S as cA xs->Vals cA gJ->jg K S as cb ys->Vals cb ik->qm (a5j xs ys)=some l ->
  l.length=min gJ.length ik.length/\(∀ (i:Nat) x,i<l.length->gJ[i]? = some x->(j6 prog w).is ((l.map (·.1)).getD i (.inl 0)) x=true)/\Vals (cb.take l.length) (ik.take l.length)/\jg K S as (cb.take l.length) (l.map (·.2))
 | _,_,_,_,_,_,l,.nil,.nil,_,_,e=>by
  have:l=[]:=by simpa [a5j,qm] using e.symm
  subst this;exact ⟨by simp,fun i x h=>by simp at h,.nil,.nil⟩
 | _,_,_,_,_,_,l,.cons _ _,.cons _ _,.nil,.nil,e=>by
  have:l=[]:=by simpa [a5j,qm] using e.symm
  subst this;exact ⟨by simp,fun i x h=>by simp at h,.nil,.nil⟩
 | _,_,_,_,_,_,l,.cons h1 q1,.cons b1 c1,.cons h2 q2,.cons b2 c2,e=>by
  obtain ⟨k,v,qk,l',ex,e1,e2,rfl⟩:=Gf (show qm (_::a5j _ _)=some l from e);cases ex;obtain ⟨a1,a2,a3,a4⟩:=a2s (prog:=prog) (w:=w) q1 c1 q2 c2 e2;refine ⟨by simp [a1],fun i x hi hx=>?_,.cons b2 a3,.cons h2 a4⟩;cases i with
  | zero =>
   simp at hx;subst hx;have ek:=Uw h1 e1;subst ek;exact U5 b1
  | succ j=>simpa using a2 j x (by simpa using hi) (by simpa using hx)
theorem Tg (hc:X.calm=true) (hg:Gl X "dict") (hm:X.mg "dict" = none) (eR:Gl X "zip") (dE:X.mg "zip" = none) (ha:PE X a (tOf X.K B m1)) (hb:PE X b (tOf X.K B m2))
  (hs:starEach [a,b] X.env=[(false,eval a X.env),(false,eval b X.env)]:=by rfl) (bW:starEach [b] X.env=[(false,eval b X.env)]:=by rfl)
  (he:starEach [.Call (.Name "zip" p2) [a,b] [] p3] X.env=(false,eval (.Call (.Name "zip" p2) [a,b] [] p3) X.env)::starEach [] X.env:=by rfl) (bB:(backTo p4 (starEach [] X.env)).any (·.1)=false:=by rfl) :
  PE X (.Call (.Name "dict" p1) [.Call (.Name "zip" p2) [a,b] [] p3] [] p4) (fOf X.K B (mOp G6 m1 m2)):=by
 intro pins s σ H Q I z8;obtain ⟨st,ps,S,as,R,t,ae,ev,q⟩:=z8;obtain ⟨t1,s1,t2,e1,e2,e3⟩:=Es ev;unfold G6 at e3;split at e3
 ·rename_i xs ys f1 f2;split at e3
  ·rename_i hl;obtain ⟨l,el,rfl⟩:=Option.map_eq_some_iff.mp e3;refine wpAny_Call_Name_kw (Ht I hg hm PyProof.Rows.boot_dict ?_ (by decide) (by decide));refine PyProof.Rows.callWith_type1 ?_ he bB;rw [he];show wpAny _ _ (spliced ((false,eval (.Call (.Name "zip" p2) [a,b] [] p3) X.env)::backTo p4 (starEach [] X.env))) _ _ s;refine Calls.spliced_cons ?_;have pa:=nq ha (nq hb wg (by rw [bW]; rfl)) (by rw [hs,bW]);refine Call_ (Ht I eR dE boot_zip (PyProof.Rows.callWith_type1 (thn (pa p3 pins s σ H (fun vs H2=>∃ k1 k2 a1 a2 cA cb S2 aQ,vs=[.ref a1,.ref a2]/\Rel X.K B ae σ H2 ps S2 aQ/\Sq k1 X.K S2 a1 cA/\Sq k2 X.K S2 a2 cb/\jg X.K S2 aQ cA xs/\jg X.K S2 aQ cb ys) I ?_) fun us s2 ⟨vs,H1,I1,r1,q1⟩=>?_) (by rw [hs,bW]) (by rw [bW]; rfl)))
   ·refine ⟨st,ps,S,as,R,t1,s1,e1,fun v H1 S1 aC R1=>⟨s1,_,S1,aC,R1,t2,ae,e2,fun v2 H2 S2 aQ R2=>?_⟩⟩;obtain ⟨k1,a1,cA,rfl,w1,p1,_⟩:=Uh R2.top2 f1;obtain ⟨k2,a2,cb,rfl,w2,p2,_⟩:=Uh R2.top f2;exact ⟨k1,k2,a1,a2,cA,cb,S2,aQ,rfl,R2.drop.drop,w1,w2,p1,p2⟩
   obtain ⟨k1,k2,a1,a2,cA,cb,S2,aQ,rfl,R2,w1,w2,g1,g2⟩:=q1;cases r1 with
   | cons r rr =>
    cases rr with
    | cons r' rr =>
     cases rr;cases r;cases r';obtain ⟨its1,v1,r1⟩:=(w1.mono R2.sub).row I1;obtain ⟨its2,v2,r2⟩:=(w2.mono R2.sub).row I1;obtain ⟨b1,b2,b3,b4⟩:=a2s (prog:=X.prog) (w:=X.w) g1 v1 g2 v2 el;refine Zm r1 r2 fun h' Z fq eZ kp=>Calls.spliced_nil ?_;have Df:Far (s2.heap.objs.size+4) (s2.heap.objs.size+2) (s2.heap.objs.size+3) s2.heap.objs.size (s2.heap.objs.size+1):=a4c s2.heap.objs.size
     have out:∀ b,b<s2.heap.objs.size->b∉[s2.heap.objs.size+4,s2.heap.objs.size+2,s2.heap.objs.size+3,s2.heap.objs.size,s2.heap.objs.size+1]:=fun b hb=>by
      have iD:(b:Nat)<s2.heap.objs.size:=hb;simp only [List.mem_cons,List.not_mem_nil,or_false,not_or];refine ⟨?_,?_,?_,?_,?_⟩ <;> apply Nat.ne_of_lt <;> omega
     have low:∀ {k:Bool} {a:Addr} {zs:Array Value},n8 k s2.heap a zs->a<s2.heap.objs.size:=fun {k a zs} r=>by
      cases k <;> obtain ⟨o,e,_⟩:=r <;> exact Heap.lt_size e
     obtain ⟨kv,k5,k6⟩:=Fw l b3 b4 l.length (Nat.le_refl _);rw [List.take_length] at k6;have bE:s2.heap.objs.size<=h'.objs.size:=Nat.le_of_lt (Nat.lt_of_le_of_lt (Nat.le_add_right _ 4) (Heap.lt_size Z.zip))
     have lz:l.length<=sizeLine:=by
      rw [b1,<- v1.length,g1.length];exact Nat.le_trans (Nat.min_le_left _ _) (Nat.le_trans (Nat.le_of_lt hl.1) jw)
     refine O1 (s:={ s2 with heap:=h' }) (knd:=j6 X.prog X.w) (key:=fun i=>(l.map (·.1)).getD i (.inl 0)) (val:=fun i=>(its2.take l.length).getD i .none) (n:=l.length) (I1.ok.hd hc) Df Z fq eZ (r1.to fun o e=>kp _ o e) (r2.to fun o e=>kp _ o e) (out _ (low r1)) (out _ (low r2)) lz (by simpa using b1)
      (fun i x hi hx=>b2 i x hi (by simpa using hx)) (fun i y hi hy=>?_) fun h3 tk hD old=>?_
     ·have fg:its2[i]? = some y:=by simpa using hy
      rw [List.getD_eq_getElem?_getD,List.getElem?_take,if_pos hi,fg]; rfl
     ·have hp:H1 h'.objs.size=none:=I1.hok.fresh bE
      have kl:kv.length<=sizeLine:=by
       rw [k5.length];exact Nat.le_trans (Aa _ _ _) lz
      obtain ⟨z1,z2,z3,z4⟩:=R2.fresh hp;refine ⟨.ref h'.objs.size,_,I1.laid (a:=h'.objs.size) (o:=.dK kv) (h':=h3) (t':=tk) (fun b o e=>old b o (out b (Heap.lt_size e)) (kp b o e)) bE (Pr kl (beq_eq_false_iff_ne.mpr (Ne.symm (Nat.ne_of_lt (Nat.lt_of_lt_of_le I1.big bE)))) k5 hD),rfl,q _ _ _ _ (R2.a9j z1 z2 z3 z4) ⟨⟨_,bw,k6⟩,z2,z3,z1⟩ z4⟩
  ·cases e3
 ·cases e3
theorem J4 (hc:X.calm=true) (hg:Gl X "dict") (hm:X.mg "dict" = none) (eR:Gl X "zip") (dE:X.mg "zip" = none) (ha:PE X a (tOf X.K B m1)) (hb:PE X b (tOf X.K B m2))
  (hs:starEach [a,b] X.env=[(false,eval a X.env),(false,eval b X.env)]:=by rfl) (bW:starEach [b] X.env=[(false,eval b X.env)]:=by rfl)
  (he:starEach [.Call (.Name "zip" p2) [a,b] [] p3] X.env=(false,eval (.Call (.Name "zip" p2) [a,b] [] p3) X.env)::starEach [] X.env:=by rfl) (bB:(backTo p4 (starEach [] X.env)).any (·.1)=false:=by rfl) :
  PE X (.Call (.Name "dict" p1) [.Call (.Name "zip" p2) [a,b] [] p3] [] p4) (tOf X.K B (mOp G6 m1 m2)):=ug (Tg hc hg hm eR dE ha hb hs bW he bB)
end
section
variable {K:PySem.W.Frag} {S:Hp} {as:List Addr}
mutual
theorem Rep.bare:∀ {v:V} {t:T},Rep K S as v t->noObj t=true->Rep K S [] v t
 | _,_,.non,_=>.non
 | _,_,.bl b,_=>.bl b
 | _,_,.int i,_=>.int i
 | _,_,.str y,_=>.str y
 | _,_,.tup h r,n=>.tup h (jg.bare r (by simpa only [noObj] using n))
 | _,_,.lst h r,n=>.lst h (jg.bare r (by simpa only [noObj] using n))
 | _,_,.dic h r,n=>.dic h (u9.bare r (by simpa only [noObj] using n))
 | _,_,.obj h,n=>by simp [noObj] at n
 | _,_,.adr a,_=>.adr a
theorem jg.bare:∀ {v:List V} {t:List T},jg K S as v t->Jk t=true->jg K S [] v t
 | _,_,.nil,_=>.nil
 | _,_,.cons h r,n=>by
  simp only [Jk,Bool.and_eq_true] at n;exact .cons (Rep.bare h n.1) (jg.bare r n.2)
theorem u9.bare:∀ {v:List (L2.Key × V)} {t:List (L2.Key × T)},u9 K S as v t->Oz t=true->u9 K S [] v t
 | _,_,.nil,_=>.nil
 | _,_,.cons h r,n=>by
  simp only [Oz,Bool.and_eq_true] at n;exact .cons (Rep.bare h n.1) (u9.bare r n.2)
end
theorem jg.rep {vs:List V} {ts:List T} (r:jg K S as vs ts):∀ k:Nat,jg K S as (List.replicate k vs).flatten (List.replicate k ts).flatten
 | 0=>.nil
 | k+1=>by
  rw [List.replicate_succ,List.replicate_succ,List.flatten_cons,List.flatten_cons];exact r.append (r.rep k)
end
section
variable {X:Cx} {B:Bas} {a b e:Expr} {m m2:M T} {pos p1:Pos} {es:List Expr} {ms:M (List T)}
theorem Rel.base {K:PySem.W.Frag} {B:Bas} {st:Sta} {σ:L2.St} {H S:Hp} {ps:List (V × T)} {as:List Addr} (r:Rel K B st σ H ps S as):Rel K ⟨S,as,B.H⟩ st σ H ps S as :=
 ⟨r.sub,⟨Same.refl _,nol,fun p o h1 h2 h3=>by
  change S p=none at h2
  have b2:B.S p=none:=by
   cases q:B.S p with
   | none=>rfl
   | some u=>have:=r.grow.same _ _ q; rw [h2] at this; cases this
  have b3:p∉B.as:=fun q=>by obtain ⟨l,e⟩:=r.grow.more; exact h3 (by show p∈as; rw [e]; exact List.mem_append_left _ q)
  exact ⟨(r.grow.keep p o h1 b2 b3).1,h2,h3⟩⟩,fun i t f e=>by
   obtain ⟨v,h1,h2,h3⟩:=r.slots i t f e;exact ⟨v,h1,h2,fun q=>by obtain ⟨p,ep,o⟩:=h3 q; exact ⟨p,ep,o.own,o.out,o.nas,o.new⟩⟩,r.apart,r.sto,r.pend,r.len⟩
theorem Rel.a92 {K:PySem.W.Frag} {B:Bas} {st ae:Sta} {σ σ':L2.St} {H H' S S':Hp} {ps ps':List (V × T)} {as ag:List Addr} (r:Rel K B st σ H ps S as) (r':Rel K ⟨S,as,B.H⟩ ae σ' H' ps' S' ag):Rel K B ae σ' H' ps' S' ag :=
 ⟨r'.sub,⟨r.grow.same.trans r'.grow.same,by
  obtain ⟨l,e⟩:=r.grow.more;obtain ⟨l',e'⟩:=r'.grow.more;exact ⟨l++l',by rw [e',<- List.append_assoc,<- e]⟩,fun p o h1 h2 h3=>by
  obtain ⟨a,b,c⟩:=r.grow.keep p o h1 h2 h3
  exact r'.grow.keep p o h1 b c⟩,fun i t f e=>by
   obtain ⟨v,h1,h2,h3⟩:=r'.slots i t f e;exact ⟨v,h1,h2,fun q=>by obtain ⟨p,ep,o⟩:=h3 q; exact ⟨p,ep,o.own,o.out,o.nas,o.new⟩⟩,r'.apart,r'.sto,r'.pend,r'.len⟩
theorem a4n (h:PA X es (aOf X.K B ms)) (hm:∀ st ts ae,ms st=some (ts,ae)->ts.length<=1000) (hb:∀ B,PE X b (tOf X.K B m2)):PE X (.BinOp (.List es p1) .Mult b pos) (tOf X.K B (mOp W4 (iy (fun l=>some (.lst l)) ms) m2)) :=
 (a3o a7m (Xo h) (peE hb)).imp fun σ H Q z9=>by
  obtain ⟨st,ps,S,as,R,t,ae,ev,q⟩:=z9;obtain ⟨t1,s1,t2,e1,e2,e3⟩:=Es ev;obtain ⟨ts,e4,e5⟩:=Bh e1;cases e5;cases t2 <;> simp only [W4,reduceCtorEq] at e3
  rename_i j;split at e3
  ·rename_i hl;cases e3;refine ⟨st,ps,S,as,R,ts,s1,e4,fun vs H1 S1 aC R1 rs=>⟨?_,fun p hp=>?_⟩⟩
   ·rw [rs.length]; exact Nat.le_of_lt (Bb (hm _ _ _ e4))
   ·have x:=Ext.laid R1.sub hp (.lst vs);have R2:=R1.ext x;refine ⟨_,s1,_,_,aC,R2.base,_,_,e2,fun v2 H3 S3 bp R3=>?_⟩;have tp:=R3.top;cases tp;have hS:S3 p=some (.lst vs):=R3.grow.same _ _ bw;have R4:=(R2.a92 R3).drop;refine ⟨p,j,vs,rfl,rfl,R3.sub _ _ hS,by omega,by omega,?_,fun p2 ft=>?_⟩
    ·rw [rs.length];exact Nat.le_of_lt (Nat.lt_of_lt_of_le hl.2.2 jw)
    ·have y:=Ext.laid R4.sub ft (.lst (List.replicate j.toNat vs).flatten);have sm:Same S1 S3:=x.s.trans R3.grow.same;exact q _ _ _ _ ((R4.ext y).push (.lst (SqL.of bw) (((rs.mono sm R3.grow.more).rep j.toNat).mono y.s nol)))
  ·cases e3
end
end C
end
section
namespace C
open PySem
noncomputable def Ho (i:Nat) (lo hi:M (Option Int)):M T:=fun s=>if El i s then (match lo s with
 | some (l,s1)=>match hi s1 with
  | some (h,s2)=>match s2.env[i]? with
   | some (some (.lst xs,_))=>some (.lst (a9z xs l h),s2)
   | _=>none
  | none=>none
 | none=>none) else none
noncomputable def keysOf:List T->Option (List Key)
 | []=>some []
 | t::r=>match keyOf t,keysOf r with
  | some k,some q=>some (k::q)
  | _,_=>none
noncomputable def a6i (k:List Key):List (List Key × T)->Option T
 | []=>none
 | (q,t)::r=>if q=k then some t else a6i k r
noncomputable def abk (k:List Key) (t:T) (aa:List (List Key × T)):List (List Key × T) :=
 if aa.any fun p=>decide (p.1=k) then aa.map fun p=>if p.1=k then (p.1,t) else p else aa++[(k,t)]
noncomputable def Dc (o k:M T):M T:=fun s=>match o s with
 | some (.obj n,s1)=>match k s1 with
  | some (.tup ts,s2)=>match s2.sto[n]?,keysOf ts with
   | some (.dit aa),some q=>match a6i q aa with
    | some t=>some (t,s2)
    | none=>none
   | _,_=>none
  | _=>none
 | _=>none
end C
end
section
namespace C
open PySem PySem.Spec PyProof.Rows L2
theorem Kw {o k:M T} {s s':Sta} {t:T} (h:Dc o k s=some (t,s')):∃ n s1 ts aa q,o s=some (.obj n,s1)/\k s1=some (.tup ts,s')/\s'.sto[n]? = some (.dit aa)/\keysOf ts=some q/\a6i q aa=some t:=by
 unfold Dc at h;split at h
 ·rename_i n s1 e1;split at h
  ·rename_i ts s2 e2;split at h
   ·rename_i aa q e3 e4;split at h
    ·rename_i t' e5;cases h;exact ⟨n,s1,ts,aa,q,e1,e2,e3,e4,e5⟩
    ·cases h
   ·cases h
  ·cases h
 ·cases h
section
variable {K:PySem.W.Frag} {S:Hp} {as:List Addr}
theorem Qd:∀ {ts:List T} {vs:List V} {q:List L2.Key},jg K S as vs ts->keysOf ts=some q->vs=q.map kV
 | [],_,_,h0,h=>by cases h0; cases h; rfl
 | t::r,_,q,h0,h=>by
  cases h0 with | cons a b=>?_
  simp only [keysOf] at h;cases e1:keyOf t with
  | none=>rw [e1] at h; cases h
  | some k =>
   cases e2:keysOf r with
   | none=>rw [e1,e2] at h; cases h
   | some qs =>
    rw [e1,e2] at h;cases h;rw [Uw a e1,Qd b e2,List.map_cons]
theorem Fz.get (k:List L2.Key):∀ {vs:List (List L2.Key × V)} {ts:List (List L2.Key × T)} {t:T},Fz K S as vs ts->a6i k ts=some t->∃ z,K9 vs k=some z/\Rep K S as z t
 | _,[],_,h0,h=>by cases h
 | _,(q,_)::_,t,h0,h=>by
  cases h0 with | cons a b=>?_
  unfold a6i at h
  by_cases e:q=k
  ·rw [if_pos e] at h; cases h;exact ⟨_,Dq e,a⟩
  ·rw [if_neg e] at h;obtain ⟨z,h1,h2⟩:=Fz.get k b h;exact ⟨z,by rw [Dl e]; exact h1,h2⟩
theorem Fz.put {k:List L2.Key} {v:V} {t:T} (r:Rep K S as v t) {vs:List (List L2.Key × V)} {ts:List (List L2.Key × T)} (h:Fz K S as vs ts):Fz K S as (putK vs k v) (abk k t ts):=by
 have any:∀ {vs:List (List L2.Key × V)} {ts:List (List L2.Key × T)},Fz K S as vs ts->(vs.any fun kv=>decide (kv.1=k))=(ts.any fun p=>decide (p.1=k)):=by
  intro vs ts h
  induction vs generalizing ts with
  | nil=>cases h; rfl
  | cons p r ih=>cases h with | cons h1 h2=>rw [List.any_cons,List.any_cons,ih h2]
 have mp:∀ {vs:List (List L2.Key × V)} {ts:List (List L2.Key × T)},Fz K S as vs ts->Fz K S as (vs.map fun kv=>if kv.1=k then (kv.1,v) else kv) (ts.map fun p=>if p.1=k then (p.1,t) else p):=by
  intro vs ts h
  induction vs generalizing ts with
  | nil=>cases h; exact .nil
  | cons p rr ih =>
   cases h with
   | @cons q v0 t0 _ _ h1 h2 =>
    rw [List.map_cons,List.map_cons]
    by_cases e:q=k
    ·rw [if_pos e,if_pos e]; exact .cons r (ih h2)
    ·rw [if_neg e,if_neg e]; exact .cons h1 (ih h2)
 have ap:∀ {vs:List (List L2.Key × V)} {ts:List (List L2.Key × T)},Fz K S as vs ts->Fz K S as (vs++[(k,v)]) (ts++[(k,t)]):=by
  intro vs ts h
  induction vs generalizing ts with
  | nil=>cases h; exact .cons r .nil
  | cons p rr ih=>cases h with | cons h1 h2=>exact .cons h1 (ih h2)
 unfold putK abk;rw [any h];split
 ·exact mp h
 ·exact ap h
end
section
variable {X:Cx} {pins:List (Addr × Obj)} {σ:L2.St} {H:Hp} {s:Shared} {a b:Addr} {u:Value} {v:V} {A:Around} {E:Value->Shared->Prop}
theorem a3f {ks:List L2.Key} (I:Inv X pins σ H s) (e:SqT X.K H b (ks.map kV)):(tupleKind (j6 X.prog X.w)).is s.heap ks b:=by
 obtain ⟨its,r,⟨o,h1,h2,n,h3⟩,_⟩:=I.tuple e;exact ⟨o,its.toArray,n,h1,h2,h3,by simpa using Gi r⟩
theorem U3 {Q:Value->Shared->Prop} {aa:List (List L2.Key × V)} {k:List L2.Key} (hu:A.units+1<cLine) (I:Inv X pins σ H s) (e:Rd H a (.dT aa)) (eb:SqT X.K H b (k.map kV)) (l:K9 aa k=some v) (h:∀ w' s',Inv X pins σ H s'->RelV v w'->Q w' s') :
  wpAny (model X.prog X.w) A (getItem (.ref a) (.ref b)) Q E s:=by
 obtain ⟨z,hd,xs,rel,dd⟩:=Oq I.hok e;obtain ⟨w',hw,cJ⟩:=Kq.some_of (v:=v) (o:=(atKey xs k).map (·.2)) (by rw [<- l]; exact rel.val k);obtain ⟨p,hp,ft⟩:=Option.map_eq_some_iff.mp hw;refine wpAny_getItem_heap (tupleKind_room_in1 hu) (a3f I eb) dd hp ?_;rw [ft];exact h w' _ (I.tok _) cJ
end
section
variable {X:Cx} {B:Bas} {o k e:Expr} {es:List Expr} {mo mk mv:M T} {ms:M (List T)} {td ty:TE} {i:Expr} {pos pos' p2:Pos} {j:Nat}
theorem a1m (hu:X.A.units+1<cLine) (ho:PE X o td) (hi:PE X i ty) (hs:a9w i) :
  PE X (.Subscript o i pos) (fun σ H Q=>td σ H fun x H1=>ty σ H1 fun y H2=>∃ a b v aa q,x=.ref a/\y=.ref b/\Rd H2 a (.dT aa)/\SqT X.K H2 b (q.map kV)/\K9 aa q=some v/\Q v H2):=by
 intro pins s σ H Q I h;refine Xv PySem.F.slot_dict_getitem.lookup hs (thn (ho pins s σ H _ I h) fun u s1 z1=>?_);obtain ⟨x,H1,I1,rx,q1⟩:=z1;refine thn (hi pins s1 σ H1 _ I1 q1) fun iv s2 z2=>?_;obtain ⟨y,H2,I2,ry,a,b,v,aa,q,ex,ey,g1,g2,g3,q2⟩:=z2;subst ex;subst ey;obtain rfl:u=Value.ref a:=rx;obtain rfl:iv=Value.ref b:=ry;refine ⟨?_,U3 hu I2 g1 g2 g3 fun w' s3 I3 cJ=>⟨v,H2,I3,cJ,q2⟩⟩;obtain ⟨_,_,xs,_,dd⟩:=Oq I2.hok g1;exact dd.typeIs
theorem Sd (hu:X.A.units+1<cLine) (ho:PE X o (tOf X.K B mo)) (hk:PE X k (tOf X.K B mk)) (hs:a9w k):PE X (.Subscript o k pos) (tOf X.K B (Dc mo mk)):=(a1m hu ho hk hs).imp fun σ H Q z9=>by
 obtain ⟨st,ps,S,as,R,t,ae,e,q⟩:=z9;obtain ⟨n,s1,ts,aa,qk,e1,e2,e3,e4,e5⟩:=Kw e;refine ⟨st,ps,S,as,R,_,s1,e1,fun v H1 S1 aC R1=>⟨s1,_,S1,aC,R1,_,ae,e2,fun u H2 S2 aQ R2=>?_⟩⟩;have t2:=R2.top2;have t1:=R2.top;cases t2 with
 | @obj _ a ha =>
  obtain ⟨a',h1,h2,vs,h3,h4⟩:=R2.sto.at' n _ e3;rw [ha] at h1; cases h1;cases t1 with
  | @tup b us _ g1 g2 =>
   have ey:=Qd g2 e4;subst ey;obtain ⟨z,z1,z2⟩:=h4.get qk e5;exact ⟨a,b,z,vs,qk,rfl,rfl,.inl h3,j4 R2.sub g1,z1,q z H2 S2 aQ (R2.drop.drop.push z2)⟩
end
end C
end
section
namespace C
open PySem PySem.W PyProof.Rows
noncomputable def a04:T->T->Option T
 | .lst x,.lst y=>if x.length+y.length<lim then some (.lst (x++y)) else none
 | _,_=>none
end C
end
section
namespace C
open PySem PySem.Spec PyProof.Rows L2
section
variable {X:Cx} {B:Bas} {a b c e:Expr} {m:M T} {pos p:Pos} {u v:S}
theorem a6k {m1 m2:M T} (h1:PE X a (tOf X.K B m1)) (h2:PE X b (tOf X.K B m2)):PE X (.BinOp a .Add b pos) (fOf X.K B (mOp a04 m1 m2)):=(a3o Ug h1 h2).imp fun σ H Q z9=>by
 obtain ⟨st,ps,S,as,R,t,ae,ev,q⟩:=z9;obtain ⟨t1,s1,t2,e1,e2,e3⟩:=Es ev;refine ⟨st,ps,S,as,R,t1,s1,e1,fun v H1 S1 aC R1=>⟨s1,_,S1,aC,R1,t2,ae,e2,fun u H2 S2 aQ R2=>?_⟩⟩;have tq:=R2.top2;have tp:=R2.top;cases tq <;> simp only [a04,reduceCtorEq] at e3
 cases tp <;> simp only [reduceCtorEq] at e3
 rename_i b1 cA lD g1 r1 b2 cb lC g2 r2;split at e3
 ·rename_i hl;cases e3;refine ⟨b1,b2,cA,cb,rfl,rfl,iz R2.sub g1,iz R2.sub g2,?_,fun l dU=>?_⟩
  ·rw [r1.length,r2.length]; exact Nat.le_trans (Nat.le_of_lt hl) jw
  ·obtain ⟨bD,sD,nD,no⟩:=R2.fresh dU;exact q l _ S2 aQ (R2.drop.drop.a9j bD sD nD (fun j w e1 e2=>no j w e1 e2)) ⟨⟨cA++cb,bw,r1.append r2⟩,sD,nD,bD⟩ (fun j w e1 e2=>no j w e1 e2)
 ·cases e3
end
end C
end
section
namespace HT
open PySem PyProof.Rows
section
variable {prog:Program} {w:World} {A:Around} {E:Value->Shared->Prop} {s:Shared}
end
end HT
namespace C
open PySem PySem.Spec PyProof.Rows L2
section
variable {X:Cx} {B:Bas} {a:Expr} {m:M T} {ml mh:M (Option Int)} {lo hi:Option Expr} {pos p2:Pos}
end
end C
end
section
namespace L2
open PySem PySem.Spec PyProof.Rows
section
variable {X:Cx}
end
end L2
namespace C
open PySem PySem.Spec PyProof.Rows L2
section
variable {X:Cx} {B:Bas} {m:M T}
end
section
variable {X:Cx} {B:Bas} {a b c e o k:Expr} {m mo mk:M T} {pos p:Pos} {op:CmpOp} {f:T->T->Option T}
end
end C
end
section
namespace C
open PySem PySem.Spec
section
variable {prog:Program} {w:World} {A:Around} {E:Value->Shared->Prop} {s:Shared} {it l:Addr} {xs:Array Value}
end
end C
end
section
namespace C
open PySem PySem.Spec PyProof.Rows L2
section
variable {X:Cx} {B:Bas} {a b e e1 e2:Expr} {m m1 m2:M T} {pos p1 p2 p3 p4:Pos} {lo hi:Option Expr} {ml mh:M (Option Int)}
theorem S9 {i:Nat} {s s':Sta} {t:T} (h:Ho i ml mh s=some (t,s')):El i s=true/\∃ l s1 u xs f,ml s=some (l,s1)/\mh s1=some (u,s')/\s'.env[i]? = some (some (.lst xs,f))/\t=.lst (a9z xs l u):=by
 unfold Ho at h;split at h
 ·rename_i hd;refine ⟨hd,?_⟩;split at h
  ·rename_i l s1 e1;split at h
   ·rename_i u s2 e2;split at h
    ·rename_i xs f e3;cases h;exact ⟨l,s1,u,xs,f,e1,e2,e3,rfl⟩
    ·cases h
   ·cases h
  ·cases h
 ·cases h
theorem Pz (i:Nat) (ha:PE X a (Xm i)) (hl:PO X lo (oOf X.K B ml)) (hh:PO X hi (oOf X.K B mh)):PE X (.Subscript a (.Slice lo hi none p2) pos) (tOf X.K B (Ho i ml mh)) :=
 (a0c (a4b.or a7z) ha hl hh).imp fun σ H Q z9=>by
  obtain ⟨st,ps,S,as,R,t,ae,ev,q⟩:=z9;obtain ⟨hd,l,s1,u,xs,f,e1,e2,e3,rfl⟩:=S9 ev;obtain ⟨xs0,f0,e0⟩:=Hy hd;obtain ⟨p0,vs0,s0,_⟩:=R.listAt e0;refine ⟨_,s0,st,_,S,as,R,l,s1,e1,fun H2 S2 aQ R2=>⟨s1,_,S2,aQ,R2,u,ae,e2,fun H3 S3 bp R3=>?_⟩⟩;obtain ⟨q1,cA,s1',rd1,h4⟩:=R3.listAt e3;rw [s0] at s1'; cases s1';refine .inl ⟨p0,cA,rfl,rd1,fun p hp=>?_⟩;have x:=Ext.laid R3.sub hp (.lst (Za cA l u));exact q _ _ _ _ ((R3.ext x).push (.lst (SqL.of bw) ((Zk h4 l u).mono x.s nol)))
end
section
variable {X:Cx} {B:Bas} {e1:Expr} {m1:M T} {pos p1:Pos}
end
end C
end
section
namespace C
open PySem
noncomputable def Zn (j:Nat) (fa:Nat) (F:Fn) (a:M (List T)):M T:=fun s=>match s.env[j]? with
 | some (some (.adr b,false))=>if b=fa then gk F a s else none
 | _=>none
noncomputable def Xp (n:Nat) (m:M T):Fn:=fun args sto=>match m ⟨args.map (fun t=>some (t,false))++List.replicate (n - args.length) none,sto⟩ with
 | some (t,s1)=>some (t,s1.sto)
 | none=>none
noncomputable def N5:List Nat->List Slot->Option (List T)
 | [],_=>some []
 | i::r,env=>match env[i]?,N5 r env with
  | some (some (t,false)),some ts=>some (t::ts)
  | _,_=>none
noncomputable def Dw (a:M (List T)) (is:List Nat):M (List T):=fun s=>match a s with
 | some (ts,s1)=>match N5 is s1.env with
  | some us=>some (ts++us,s1)
  | none=>none
 | none=>none
open Classical in
noncomputable def J9 (FL:Nat->Fn->FnX) (F:Fn) (ts:List T) (sto:List SO):Option ((T ⊕ T) × List SO) :=
 if h:∃ q,∀ fa,FL fa F (ts++[.adr fa]) sto=some q then some h.choose else none
noncomputable def a0h (n i P:Nat) (q:Str) (FL:Nat->Fn->FnX) (cn:Nat) (L:M T):FnX:=fun ts sto=>match sto[i]? with
 | some (.tab P' q')=>if P'=P/\q'=q then J9 FL (fun us st=>Xp (1+cn) L (us++ts.drop n) st) (ts.take n) sto else none
 | _=>none
theorem Rj {FL:Nat->Fn->FnX} {F:Fn} {ts:List T} {sto:List SO} {q:(T ⊕ T) × List SO} (h:J9 FL F ts sto=some q) (fa:Nat):FL fa F (ts++[.adr fa]) sto=some q:=by
 unfold J9 at h;split at h
 ·rename_i e; cases h; exact e.choose_spec fa
 ·cases h
theorem V6 {FL:Nat->Fn->FnX} {F:Fn} {ts:List T} {sto:List SO} {q:(T ⊕ T) × List SO} (h:∀ fa,FL fa F (ts++[.adr fa]) sto=some q):J9 FL F ts sto=some q:=by
 unfold J9;have e:∃ q,∀ fa,FL fa F (ts++[.adr fa]) sto=some q:=⟨q,h⟩;rw [dif_pos e];have:=e.choose_spec 0;rw [h 0] at this;exact this.symm
end C
end
section
namespace C
open PySem
noncomputable def nestsOf:List T->Option (List (List Key))
 | []=>some []
 | .tup us::r=>match keysOf us,nestsOf r with
  | some k,some q=>some (k::q)
  | _,_=>none
 | _::_=>none
noncomputable def G5 (k:List (List Key)):List (List (List Key) × T)->Option T
 | []=>none
 | (q,t)::r=>if q=k then some t else G5 k r
def nT (k:List (List Key)):T:=.tup (k.map fun q=>.tup (q.map a1h))
noncomputable def Yu (k v:M T):M T:=fun s=>match k { s with sto:=s.sto++[.dnk []] } with
 | some (.tup ts,s1)=>match v s1 with
  | some (t,s2)=>match s2.sto[s.sto.length]?,nestsOf ts with
   | some (.dnk []),some q=>some (.obj s.sto.length,{ s2 with sto:=s2.sto.set s.sto.length (.dnk [(q,t)]) })
   | _,_=>none
  | none=>none
 | _=>none
noncomputable def Ii (x o:M T):M T:=fun s=>match x s with
 | some (.tup ts,s1)=>match o s1 with
  | some (.obj n,s2)=>match s2.sto[n]?,nestsOf ts with
   | some (.dnk aa),some q=>some (.bl (G5 q aa).isSome,s2)
   | _,_=>none
  | _=>none
 | _=>none
noncomputable def Ab (o k:M T):M T:=fun s=>match o s with
 | some (.obj n,s1)=>match k s1 with
  | some (.tup ts,s2)=>match s2.sto[n]?,nestsOf ts with
   | some (.dnk aa),some q=>match G5 q aa with
    | some t=>some (t,s2)
    | none=>none
   | _,_=>none
  | _=>none
 | _=>none
noncomputable def Ea (o k v:M T):S:=fun s=>match v s with
 | some (t,s1)=>match o s1 with
  | some (.obj n,s2)=>match k s2 with
   | some (.tup ts,s3)=>match s3.sto[n]?,nestsOf ts with
    | some (.dnk aa),some q=>if aa.length<lim/\G5 q aa=none then some (.next,{ s3 with sto:=s3.sto.set n (.dnk (aa++[(q,t)])) }) else none
    | _,_=>none
   | _=>none
  | _=>none
 | none=>none
def noOwn (env:List Slot):Bool:=env.all fun s=>match s with
 | some (_,true)=>false
 | _=>true
noncomputable def Te (ks:M (List T)) (v:M T):M T:=fun s=>match ks { s with sto:=s.sto++[.dit []] } with
 | some (ts,s1)=>if noOwn s1.env then (match v s1 with
  | some (t,s2)=>match s2.sto[s.sto.length]?,keysOf ts with
   | some (.dit []),some q=>some (.obj s.sto.length,{ s1 with sto:=s2.sto.set s.sto.length (.dit [(q,t)]) })
   | _,_=>none
  | none=>none) else none
 | none=>none
noncomputable def a71 (i j:Nat) (a:M (List T)):S:=fun s=>match a s with
 | some ([t,u],s1)=>some (.next,gn j u false (gn i t false s1))
 | _=>none
def X6 (aa:List (List (List Key) × T)):List T:=aa.map fun p=>nT p.1
noncomputable def G3 (F:FnX) (a:M (List T)):SX:=fun s=>match a s with
 | some (ts,s1)=>match F ts s1.sto with
  | some (.inl (.tup (.obj n::_)),sto)=>match sto[n]? with
   | some (.dnk aa)=>some (.inl (.ret (.lst (X6 aa))),{ s1 with sto:=sto })
   | _=>none
  | some (.inr t,sto)=>some (.inr t,{ s1 with sto:=sto })
  | _=>none
 | none=>none
end C
end
section
namespace L2
open PySem PySem.Spec PyProof.Rows PySem.W
section
variable {prog:Program} {w:World} {A:Around} {E:Value->Shared->Prop} {s:Shared} {it d:Addr} {i ep:Nat} {es:Array DictEntry} {o od:Obj}
def Yn (h:Heap) (d:Addr) (es:Array DictEntry) (ep:Nat):Prop:=∃ o,h.get? d=some o/\o.ExactDict/\o.data=.dict es ep
theorem Yn.ty (x:Yn s.heap d es ep):s.TypeIs (.ref d) "dict" := let ⟨o,h,c,_⟩:=x; ⟨o,h,c.1⟩
theorem Yn.at {h h':Heap} (x:Yn h d es ep) (k:∀ o,h.get? d=some o->h'.get? d=some o):Yn h' d es ep:=let ⟨o,a,r⟩:=x; ⟨o,k o a,r⟩
theorem a00 {Q:Value->Shared->Prop} (lo:(d==sysModules)=false) (x:Yn s.heap d es ep) (h:Q (.ref s.heap.objs.size) { s with heap:=s.heap.push { cls:=.type "dict_keyiterator",data:=.fields #[.ref d,.int 0 0,.int es.size 0,.int ep 0] } }):wpAny (model prog w) A (pyIter (.ref d)) Q E s:=by
 have T:=x.ty;obtain ⟨o,ho,_,hd⟩:=x;refine wpAny_pyIter_slot T F.slot_dict_iter (wpAny_call_entry F.slot_dict_iter T F.entry_dict_iter (?_:wpAny _ _ (Builtin.«dict.__iter__» _) _ _ _) (F.args_dict_iter_1 _));unfold Builtin.«dict.__iter__» Builtin.Dict.dictSlotNone;refine wpAny_bind (wpAny_bind (wpAny_notOrdered_dict T (wpAny_pure (?_:wpAny _ _ (Builtin.Dict.showsAll d >>= _) _ _ s))));unfold Builtin.Dict.showsAll;rw [if_neg (by simp [lo])];exact wpAny_bind (wpAny_pure (wpAny_bind (wpAny_dictEntries ho hd (wpAny_bind (wpAny_dictEpoch ho hd (wpAny_bind (wpAny_newObj_type (wpAny_pure ⟨_,rfl,"dict_keyiterator",_,⟨_,Heap.get?_push_size _ rfl,rfl⟩,F.slot_dict_keyiterator_next.lookup,by simpa [rawInt] using h⟩))))))))
theorem Pg {Q:Option Value->Shared->Prop} (hh:A.handled=none) (hit:s.heap.IsKeyIter it d i es.size ep) (hm:Yn s.heap d es ep)
  (h1:∀ e h',es[i]? = some e->h'.IsKeyIter it d (i+1) es.size ep->Heap.SameBut it s.heap h'->Q (some e.key) { s with heap:=h' })
  (h2:es[i]? = none->∀ h',Heap.ExtBut it s.heap h'->Q none { s with heap:=h' }):wpAny (model prog w) A (pyNext (.ref it)) Q E s:=by
 have T:=hit.typeIs;obtain ⟨o,ho,hc,hd⟩:=id hit;obtain ⟨od,hod,bG,hdd⟩:=id hm;unfold pyNext;refine wpAny_bind (wpAny_attempt (wpAny_callSpecial?_slot (name:=Str.ofString "__next__") T F.slot_dict_keyiterator_next (wpAny_call_entry F.slot_dict_keyiterator_next T F.entry_dict_keyiterator_next (?_:wpAny _ _ (Builtin.«dict_keyiterator.__next__» _) _ _ _) (F.args_dict_keyiterator_next_1 _))));refine wpAny_bind (wpAny_pure (wpAny_bind (wpAny_bind (wpAny_bind (?_:wpAny _ _ (typeNameOfWhole (.ref it)) _ _ _)))));refine wpAny_typeNameOfWhole_keyiter T (wpAny_pure (wpAny_bind (wpAny_fieldsOf ho hd ?_)));simp only [show Builtin.Dict_items.ownsTuple "dict_keyiterator" = false by decide,Bool.false_eq_true,if_false];show wpAny _ _ (if (Value.ref d==Value.none)=true then _ else _) _ _ s;rw [if_neg (by exact Bool.false_ne_true)];refine wpAny_bind (wpAny_pure (wpAny_bind (wpAny_dictEntries hod hdd ?_)));rw [if_neg (by simp)];refine wpAny_bind (wpAny_pure (wpAny_bind (wpAny_dictEpoch hod hdd ?_)));rw [if_neg (by simp)];refine wpAny_pure ?_;simp only [show ¬ ((i:Int)<0) by omega,if_false,Int.toNat_natCast];cases he:es[i]? with
 | some e =>
  have up:(s.heap.update it (Obj.mapFields (·.setIfInBounds 1 (rawInt ((i:Int)+1))))).IsKeyIter it d (i+1) es.size ep:=⟨_,Heap.get?_update_self _ ho (Obj.isFreed_of_fields (Obj.data_mapFields hd _)),(Obj.cls_mapFields ..).trans hc,by simp [Obj.data_mapFields hd,rawInt]⟩;refine wpAny_bind (wpAny_bind (wpAny_typeNameOfWhole_keyiter T (wpAny_pure (wpAny_bind (wpAny_isOneOf_keyiter T (?_:wpAny _ _ (setField (.ref it) 1 (rawInt ((i:Int)+1)) >>= _) _ _ s))))));refine wpAny_bind (wpAny_setField ho hd (by simp) (wpAny_bind (wpAny_holding (wpAny_bind (wpAny_isOneOf_keyiter (s:={ s with heap:=s.heap.update it (Obj.mapFields (·.setIfInBounds 1 (rawInt ((i:Int)+1)))) }) up.typeIs (?_:wpAny _ _ (pure e.key) _ _ _))))));exact wpAny_pure (wpAny_pure ⟨_,rfl,wpAny_pure (h1 e _ he up (Heap.SameBut.update ..))⟩)
 | none =>
  refine wpAny_bind (wpAny_bind (wpAny_typeNameOfWhole_keyiter T (wpAny_pure (?_:wpAny _ _ (setField (.ref it) 0 .none >>= _) _ _ s))));refine wpAny_bind (wpAny_setField ho hd (by simp) (wpAny_bind (?_:wpAny _ _ (newExc (.type "StopIteration") []) _ _ _)));simp only [newExc,newTuple];refine wpAny_bind (wpAny_newObj_type (wpAny_bind (m:=firstArgMember _ _) (wpAny_of_eq (a:=Value.none) (by first | rfl | (simp only [firstArgMember]; rfl)) (wpAny_newObj_type ?_ (by size_fits)))) (by size_fits));simp only [raiseNew];refine wpAny_bind (wpAny_handled ?_);rw [show A.in1.handled=none from hh];refine wpAny_bind (wpAny_pure (wpAny_throw ?_));exact wpAny_bind (wpAny_isInstance (T := "StopIteration") (b:=true) ⟨_,Heap.get?_push_size _ rfl,rfl⟩ isSubtype_stop (wpAny_pure (h2 he _ (((Heap.SameBut.update ..).extBut.push _).push _))))
theorem Uz (hh:A.handled=none) (I:Addr) (ne:d≠I):Walks prog w A I [I,d] [I] es.size (fun i v=>∃ e,es[i]? = some e/\v=e.key) (fun i h=>h.IsKeyIter I d i es.size ep/\Yn h d es ep) where
 sub:=fun b hb=>by simp at hb; simp [hb]
 frame:=fun _ _ _ ⟨a,b⟩ hk=>⟨a.at fun o e=>hk I (by simp) o e,b.at fun o e=>hk d (by simp) o e⟩
 item:=fun i s Q E hi ⟨a,b⟩ hQ=>Pg hh a b (fun e h' he g sb=>hQ e.key h' s.toks ⟨e,he,rfl⟩ ⟨g,b.at fun o q=>sb.extBut d o ne q⟩ fun c o hc q=>sb.extBut c o (fun z=>hc (by simp [z])) q) fun z=>absurd z (by simp [hi])
 done:=fun s Q E ⟨a,b⟩ hQ=>Pg hh a b (fun e h' he=>by simp at he) fun _ h' x=>hQ h' s.toks fun c o hc q=>x c o (fun z=>hc (by simp [z])) q
 self:=fun _ _ _ _ st hQ=>wpAny_pyIter_keyiter st.1 hQ
theorem a5d (lo:(d==sysModules)=false):KdlSrc prog w "dict" d d es.size (fun i v=>∃ e,es[i]? = some e/\v=e.key) (fun h=>Yn h d es ep) where
 type:=fun _ hm=>hm.ty
 there:=fun _ ⟨o,h,_⟩=>⟨Heap.lt_size h,Heap.lt_size h⟩
 keep:=fun _ _ hm hk=>hm.at fun o e=>hk d (.inl rfl) o e
 notList:=by decide
 notTuple:=by decide
 hint:=fun _ _ _ _ hm hq=>kdl_hint_dict hm.ty hq
 iter:=fun _ _ hh hm=>⟨_,_,(fun _ _ hq=>a00 lo hm hq),Uz hh _ (Nat.ne_of_lt (let ⟨o,h,_⟩:=hm; Heap.lt_size h)),⟨_,Heap.get?_push_size _ rfl,rfl,rfl⟩,hm.at fun o e=>Heap.get?_push_of_some _ e⟩
end
end L2
end
section
namespace C
open PySem PySem.Spec PyProof.Rows L2
noncomputable def aa8 (K:PySem.W.Frag) (S0:Hp) (dA:List Addr) (ar:Nat) (F:Fn):Sp:=fun vs H Q _=>∃ S as sto ts t aR,Same S0 S/\(∃ l,as=dA++l)/\Same S H/\Al K S as H sto/\jg K S as vs ts/\ts.length=ar/\F ts sto=some (t,aR) /\
 ∀ v H' S' ag,Ol ⟨S,as,H⟩ S' ag H'->Same S' H'->Al K S' ag H' aR->Rep K S' ag v t->Q v H'
def Nr (P:Program) (w:World) (K:PySem.W.Frag) (mg:Str->Option Value) (base:Heap) (k:Nat) (fa:Addr) (S0:Hp) (dA:List Addr) (F:Fn):Prop :=
 ∃ o fd x,base.get? fa=some o/\o.data=.func fd/\qz P w K mg base CX0 k fa fd [x] (aa8 K S0 dA 1 F)/\Binds K fd [x] []
theorem Nr.mono {P:Program} {w:World} {K:PySem.W.Frag} {mg:Str->Option Value} {base:Heap} {j k:Nat} {fa:Addr} {S0:Hp} {dA:List Addr} {F:Fn} (L:Nr P w K mg base j fa S0 dA F) (h:j<=k):Nr P w K mg base k fa S0 dA F :=
 let ⟨o,fd,x,a,b,c,d⟩:=L; ⟨o,fd,x,a,b,c.mono h,d⟩
section
variable {X:Cx} {B:Bas} {e:Expr} {es:List Expr} {ms:M (List T)} {k j:Nat} {fa:Addr} {F:Fn} {x:Str} {p pos:Pos}
theorem a07 {s s':Sta} {t:T} (h:Zn j fa F ms s=some (t,s')):s.env[j]? = some (some (.adr fa,false))/\gk F ms s=some (t,s'):=by
 unfold Zn at h;split at h
 ·rename_i b e;split at h
  ·rename_i hb; subst hb; exact ⟨e,h⟩
  ·cases h
 ·cases h
theorem a2v (L:Nr X.prog X.w X.K X.mg X.base k fa B.S B.as F) (hr:zy k X.A) (hv:PE X (.Name x p) (Xm j)) (ha:PA X (e::es) (aOf X.K B ms)) (hl:∀ st ts ae,ms st=some (ts,ae)->ts.length=1)
  (he:starEach (e::es) X.env=(false,eval e X.env)::starEach es X.env:=by rfl) (bB:(backTo pos (starEach es X.env)).any (·.1)=false:=by rfl) :
  PE X (.Call (.Name x p) (e::es) [] pos) (tOf X.K B (Zn j fa F ms)):=by
 obtain ⟨o,fd,y,ho,hd,G,hb⟩:=L;intro pins s σ H Q I z8;obtain ⟨st,ps,S,as,R,t,ae,em,q⟩:=z8;obtain ⟨ej,ec⟩:=a07 em;obtain ⟨ts,s1,sto,e1,e2,rfl⟩:=Mg ec;obtain ⟨v,v1,v2,_⟩:=R.slots j _ _ ej;have rv:=v2 rfl;cases rv;refine wpAny_Call_Name_kw (thn (hv pins s σ H (fun v' H'=>v'=.ref fa/\H'=H) I ⟨_,v1,rfl,rfl⟩) fun f s0 z0=>?_);obtain ⟨v',H',I0,r0,ev,eh⟩:=z0;subst ev; subst eh;obtain rfl:f=Value.ref fa:=r0
 have kin:∀ {h:Heap},(∀ b o,X.base.get? b=some o->h.get? b=some o)->PySem.W.Frag.In [(fa,o)] h:=fun {h} hk b ob eb=>by
  rw [List.lookup] at eb;split at eb
  ·rename_i hb;cases eb;rw [eq_of_beq hb];exact hk _ _ ho
  ·cases eb
 have keep:PySem.W.keepIn [(fa,o)] (.ref fa)=true:=by
  unfold PySem.W.keepIn;simp only [List.lookup,beq_self_eq_true];obtain ⟨c,d,da,sl⟩:=o;cases hd;rfl
 refine PySem.W.callWith_K (K:=[(fa,o)]) (h₀:=X.base) (kin fun _ _ e=>e) keep (thn (ha pos pins s0 σ _ (fun vs H1=>aa8 X.K B.S B.as 1 F vs H1 Q E0) I0 ⟨st,ps,S,as,R,ts,s1,e1,fun vs H1 S1 aC R1 rs=>?_⟩) fun us s2 ⟨vs,H1,I1,r1,q1⟩=>⟨kin I1.bk,?_⟩) he bB
 ·exact ⟨S1,aC,s1.sto,ts,t,sto,R1.grow.same,R1.grow.more,R1.sub,R1.sto,rs,hl _ _ _ e1,e2,fun v H2 S2 aQ g sub so r=>q v H2 S2 aQ ((R1.call g sub so).push r)⟩
 ·exact a3m (dvs:=[]) (ds:=[]) G hr hb .nil a8j I1 r1 (by rw [List.append_nil]; exact q1)
end
noncomputable def cxL (P:Program) (w:World) (K:PySem.W.Frag) (mg:Str->Option Value) (base:Heap) (N:List Str) (qual:Str) (scope:Scope) (f:Addr) (cd:Value) (clos:List (Str × Addr)) (A:Around) (outer:List Env) (s:Shared) (H:Hp):Cx where
 prog:=P
 w:=w
 K:=K
 mg:=mg
 base:=base
 A:=A.deeper (PySem.W.envX qual scope s.heap.objs.size f cd clos)
 N:=N
 s₀:=s
 H₀:=H
 env:=PySem.W.envX qual scope s.heap.objs.size f cd clos
 outer:=outer
 stack:=PySem.W.envX qual scope s.heap.objs.size f cd clos::outer
 ex:=[]
 calm:=true
 fn:=fun _=>false
 pn:=[]
 xe:=fun _ _=>False
structure a3v (x:Str) (scope:Scope) (clos:List (Str × Addr)):Prop where
 kind:scope.kind=.function
 co:scope.isCoroutine=false
 gen:scope.isGenerator=false
 nd:(x::clos.map (·.1)).Nodup
 nocell:∀ y∈scope.names,y.2≠.cell
 par:scope.names.lookup x=some .local
 fre:∀ y,scope.names.lookup y=some .free->∃ c,clos.lookup y=some c
 isf:∀ y∈clos.map (·.1),scope.names.lookup y=some .free
 adr:clos.Pairwise fun x y=>x.2≠y.2
inductive Cells (K:PySem.W.Frag) (S:Hp) (as:List Addr) (base:Heap):List (Str × Addr)->List V->List T->Prop where
 | nil:Cells K S as base [] [] []
 | cons {x:Str} {c:Addr} {v:V} {u:Value} {t:T} {cs:List (Str × Addr)} {vs:List V} {ts:List T}:base.IsCell c (some u)->RelV v u->Rep K S as v t->Cells K S as base cs vs ts->Cells K S as base ((x,c)::cs) (v::vs) (t::ts)
theorem Cells.reps {K:PySem.W.Frag} {S:Hp} {as:List Addr} {base:Heap} {cs:List (Str × Addr)} {vs:List V} {ts:List T} (h:Cells K S as base cs vs ts):jg K S as vs ts:=by
 induction h with
 | nil=>exact .nil
 | cons _ _ r _ ih=>exact .cons r ih
theorem Cells.len {K:PySem.W.Frag} {S:Hp} {as:List Addr} {base:Heap} {cs:List (Str × Addr)} {vs:List V} {ts:List T} (h:Cells K S as base cs vs ts):vs.length=cs.length:=by
 induction h with
 | nil=>rfl
 | cons _ _ _ _ ih=>exact congrArg (· + 1) ih
theorem Cells.get {K:PySem.W.Frag} {S:Hp} {as:List Addr} {base:Heap} {cs:List (Str × Addr)} {vs:List V} {ts:List T} (h:Cells K S as base cs vs ts):∀ {i:Nat} {x:Str} {v:V},(cs.map (·.1))[i]? = some x->vs[i]? = some v->(cs.map (·.1)).Nodup->∃ c u,cs.lookup x=some c/\base.IsCell c (some u)/\RelV v u:=by
 induction h with
 | nil=>intro i x v e; simp at e
 | @cons y c v0 u t cs vs ts hc hr _ _ ih =>
  intro i x v e1 e2 nd;cases i with
  | zero =>
   simp at e1 e2;subst e1; subst e2;exact ⟨c,u,by simp [List.lookup],hc,hr⟩
  | succ i =>
   simp only [List.map_cons,List.getElem?_cons_succ] at e1 e2;simp only [List.map_cons,List.nodup_cons] at nd;obtain ⟨c',u',h1,h2,h3⟩:=ih e1 e2 nd.2
   have ne:(x==y)=false:=by
    simp only [beq_eq_false_iff_ne,ne_eq];intro z; subst z;exact nd.1 (List.mem_of_getElem? e1)
   exact ⟨c',u',by rw [List.lookup,ne]; exact h1,h2,h3⟩
theorem Cells.is {K:PySem.W.Frag} {S:Hp} {as:List Addr} {base:Heap} {cs:List (Str × Addr)} {vs:List V} {ts:List T} (h:Cells K S as base cs vs ts):∀ {x:Str} {c:Addr},cs.lookup x=some c->∃ u,base.IsCell c (some u):=by
 induction h with
 | nil=>intro x c e; cases e
 | @cons y c v0 u t cs vs ts hc hr _ _ ih =>
  intro x c' e;rw [List.lookup] at e;split at e
  ·cases e; exact ⟨u,hc⟩
  ·exact ih e
theorem Ks {h h':Heap} {c:Addr} {v:Option Value} (x:h.IsCell c v) (k:∀ b o,h.get? b=some o->h'.get? b=some o):h'.IsCell c v:=by
 obtain ⟨o,e,d⟩:=x;exact ⟨o,k _ _ e,d⟩
theorem a06 {h:Heap} {c:Addr} {v:Option Value} (x:h.IsCell c v):∃ o,h.get? c=some o:=let ⟨o,e,_⟩:=x; ⟨o,e⟩
theorem a5m {P:Program} {w:World} {K:PySem.W.Frag} {mg:Str->Option Value} {base:Heap} {x:Str} {qual:Str} {scope:Scope} {f:Addr} {cd:Value} {clos:List (Str × Addr)} {A:Around} {outer:List Env} {s:Shared} {H S0:Hp} {dA:List Addr} {u:Value} {v:V} {dO:List V} {dH:List T} {h1:Heap} {tk:Tok}
  (L:a3v x scope clos) (hd:A.handled=none) (e0:Zu P w K mg base A outer s H) (r:RelV v u) (C:Cells K S0 dA base clos dO dH)
  (fc:h1.Ns s.heap.objs.size (fun y=>([(x,u)]:List (Str × Value)).reverse.lookup y)) (gs:Heap.SameBut s.heap.objs.size (s.heap.push { cls:=.type "frame",data:=.dict #[] }) h1) :
  L2.Inv (cxL P w K mg base (x::clos.map (·.1)) qual scope f cd clos A outer s H) [] (L2.start (x::clos.map (·.1)) (v::dO)) H { s with heap:=h1,toks:=tk }:=by
 have hk:∀ b o,s.heap.get? b=some o->h1.get? b=some o:=fun b o e=>gs.extBut b o (Nat.ne_of_lt (Heap.lt_size e)) (Heap.get?_push_of_some _ e);have eP:∀ b:Addr,b∉(cxL P w K mg base (x::clos.map (·.1)) qual scope f cd clos A outer s H).ex:=fun b z=>absurd (show b∈([]:List Addr) from z) (by simp);have nocell:∀ y,scope.names.lookup y≠some .cell:=fun y h=>L.nocell _ (PySem.mem_of_lookup h) rfl;have bk:∀ b o,base.get? b=some o->h1.get? b=some o:=fun b o e=>hk b o (e0.bs b o e).1;have hlen:=C.len
 refine ⟨⟨e0.mod,L.kind,rfl,rfl,Nat.le_refl _,fun y z c q1 q2=>?_,fun y hy=>?_,fun y c h=>(Bool.noConfusion h),fun _=>hd,Around.frames_deeper e0.frames,.inr ⟨rfl,rfl⟩,fun b z=>absurd z (eP b),e0.bs,e0.bsz,fun b _ _=>eP b,fun b z=>absurd z (eP b),e0.Ko,e0.frf⟩,
  rfl,e0.bare,Un.kept hk,⟨_,fc,fun i y v' q1 q2 q3=>?_⟩,fun y c h=>?_,e0.hok.fresh (Nat.le_refl _),fun y c h=>?_,fun p hp=>absurd (show p∈([]:List (Addr × Obj)) from hp) (by simp),e0.hok.kept hk,?_⟩
 ·exact name_of_addr L.adr (PySem.mem_of_lookup q1) (PySem.mem_of_lookup q2)
 ·have hy:scope.names.lookup y=some .cell\/scope.names.lookup y=some .free:=hy;rcases hy with hy | hy
  ·exact absurd hy (nocell y)
  ·exact L.fre y hy
 ·have q1:(x::clos.map (·.1))[i]? = some y:=q1;have q2:(L2.start (x::clos.map (·.1)) (v::dO))[i]? = some (some v'):=q2;unfold L2.start at q2;have hi:i<(x::clos.map (·.1)).length:=(List.getElem?_eq_some_iff.mp q1).1;rw [List.getElem?_append_left (by simp at hi ⊢; omega),List.getElem?_map] at q2;cases i with
  | zero =>
   simp at q1 q2;subst q1; subst q2;exact ⟨u,r,.inl ⟨L.par,by simp [List.lookup]⟩⟩
  | succ i =>
   simp only [List.getElem?_cons_succ] at q1 q2
   have q2:dO[i]? = some v':=by
    cases e:dO[i]? with
    | none=>rw [e] at q2; cases q2
    | some a=>rw [e] at q2; cases q2; rfl
   obtain ⟨c,u',g1,g2,g3⟩:=C.get q1 q2 (List.nodup_cons.mp L.nd).2;exact ⟨u',g3,.inr ⟨.inr (L.isf y (List.mem_of_getElem? q1)),c,g1,Ks g2 bk⟩⟩
 ·obtain ⟨u',hc⟩:=C.is (show clos.lookup y=some c from h);exact ⟨_,Ks hc bk⟩
 ·obtain ⟨u',hc⟩:=C.is (show clos.lookup y=some c from h);obtain ⟨o,ho⟩:=a06 hc;exact (e0.bs c o ho).2
 ·unfold L2.start;show _=(x::clos.map (·.1)).length;simp; omega
theorem a3y {P:Program} {w:World} {K:PySem.W.Frag} {mg:Str->Option Value} {base:Heap} {k:Nat} {f c':Addr} {name qual:Str} {params:Arguments} {body:Expr} {scope:Scope} {clos:List (Str × Addr)} {pm bX:Value} {x:Str} {S0:Hp} {dA:List Addr} {dO:List V} {dH:List T} {m:M T}
  (hf:base.get? f=some (PySem.W.kla_obj name qual params body scope clos pm c' bX)) (L:a3v x scope clos) (C:Cells K S0 dA base clos dO dH) (hc:S0 c'=some (.ext (Cd c' qual)))
  (hb:∀ (A:Around) (outer:List Env) (s:Shared) (H:Hp) (B:Bas),zy k (A.deeper (PySem.W.envX qual scope s.heap.objs.size f (.ref c') clos))->PE (cxL P w K mg base (x::clos.map (·.1)) qual scope f (.ref c') clos A outer s H) body (tOf K B m)) :
  qz P w K mg base CX0 (k+1) f (PySem.W.kla_fn name qual params body scope clos pm (.ref c') bX) [x] (aa8 K S0 dA 1 fun ts sto=>Xp (1+clos.length) m (ts++dH) sto):=by
 refine ⟨fun vs H Q E ⟨S,as,sto,ts,t,aR,_,_,h1,h2,h3,h4,_⟩=>by rw [h3.length,h4]; rfl,fun A outer s H args us vs Q E hr e0 km r h=>?_⟩;obtain ⟨S,as,sto,ts,t,aR,g1,g2,h1,h2,h3,h4,h5,q⟩:=h;have hlen:=C.len;have lv:vs.length=1:=by rw [h3.length,h4]
 obtain ⟨v,rfl⟩:∃ v,vs=[v]:=List.length_eq_one_iff.mp lv;obtain ⟨u,rfl,ru⟩:=r.one;have lim:s.heap.NoLimit:=e0.mod.nolimit.keeps fun b o e=>(e0.bs b o e).1
 have cr:s.heap.CodeRec (.ref c') qual:=by
  obtain ⟨⟨o,vs,tk,z1,z2,z3⟩,_⟩:=e0.hok _ _ (h1 _ _ (g1 _ _ hc));exact ⟨c',o,vs,tk,rfl,z1,z2,z3⟩
 refine PySem.W.kla_callFunE hr.depth (e0.bs _ _ hf).1 rfl L.co L.gen rfl cr (km _ _ _ _ ?_);refine wpAny_newFunctionEnv L.nocell (fun y hy=>?_) (fun eJ fc gs=>⟨lim.fresh _ gs,?_⟩) L.kind
 ·obtain rfl:y=(x,u):=List.mem_singleton.mp hy;exact L.par
 have cap:=C.reps.mono g1 g2;have h6:Xp (1+clos.length) m (ts++dH) sto=some (t,aR):=h5;unfold Xp at h6;cases em:m ⟨(ts++dH).map (fun t=>some (t,false))++List.replicate (1+clos.length - (ts++dH).length) none,sto⟩ with
 | none=>rw [em] at h6; cases h6
 | some p =>
  obtain ⟨t1,s1⟩:=p;rw [em] at h6;cases h6;have R:Rel K ⟨S,as,H⟩ ⟨(ts++dH).map (fun t=>some (t,false))++List.replicate ((x::clos.map (·.1)).length - (ts++dH).length) none,sto⟩ (L2.start (x::clos.map (·.1)) ([v]++dO)) H [] S as:=Bc h1 h2 (h3.append cap) (by have:=C.reps.length; simp; omega);have hN:(x::clos.map (·.1)).length=1+clos.length:=by simp; omega
  rw [hN] at R;have I:=a5m (qual:=qual) (f:=f) (cd:=.ref c') (tk:=s.toks+[(x,u)].length) L hr.hd e0 ru C fc gs;refine PySem.W.kla_codeExpr (wpAny_mono (hb A outer s H ⟨S,as,H⟩ (hr.deeper _) [] _ _ H Q I ⟨_,[],S,as,R,_,s1,em,fun v' H' S' ag R'=>q v' H' S' ag R'.grow R'.sub R'.sto R'.top⟩) (fun u' s' hs=>?_) fun _ _ hs=>hs.elim);obtain ⟨v',H',J,rv,qv⟩:=hs;exact ⟨v',H',J.os,J.bare,J.base,J.hok,rv,qv⟩
def BM (h:Heap) (mg:Str->Option Value):Prop:=∃ bm ob,mg "__builtins__" = some (.ref bm)/\bm≠builtinsNs/\h.get? bm=some ob/\ob.cls=.type "module" /\ ob.dict=some builtinsNs/\ob.data=.plain
theorem Rr {pos pos':Pos} {c cv:Value} (l:List Value) (h:TriplesOk l) (e:codeAmong pos' (l++[rawInt pos.line,rawInt pos.col,c])=some cv):codeAmong pos' l=some cv\/cv=c:=by
 fun_induction TriplesOk l with -- here
 | case1 =>
  right
  simp only [List.nil_append,codeAmong,rawInt] at e;split at e
  ·cases e; rfl
  ·cases e
 | case2 a t b u x rest ih =>
  simp only [List.cons_append,codeAmong] at e ⊢;split at e
  ·rename_i hc; left; rw [if_pos hc]; exact e
  ·rename_i hc; rw [if_neg hc]; exact ih h e
 | case3 l h1 h2=>exact h.elim
section
variable {X:Cx} {pins:List (Addr × Obj)} {σ:L2.St} {H:Hp} {s:Shared} {c P:Addr} {ps:Array Value} {params:Arguments} {body:Expr} {scope:Scope} {pos:Pos} {clos:List (Str × Addr)} {qual:Str}
structure Made (X:Cx) (pins:List (Addr × Obj)) (σ:L2.St) (H:Hp) (P:Addr) (ps:Array Value) (qual:Str) (params:Arguments) (body:Expr) (scope:Scope) (clos:List (Str × Addr)) (s0:Shared) (f:Addr) (s':Shared) (H':Hp) (c':Addr) (bX:Value):Prop where
 inv:L2.Inv X pins σ H' s'
 obj:s'.heap.get? f=some (PySem.W.kla_obj "<lambda>" qual params body scope clos ((X.mg "__name__").getD .none) c' bX)
 new:s0.heap.objs.size<=f
 free:H' f=none
 keep:∀ b o,H b=none->s0.heap.get? b=some o->s'.heap.get? b=some o/\H' b=none
 as:(H'=H/\∃ pos':Pos,codeAmong pos' ps.toList=some (.ref c'))\/(H c'=none/\s0.heap.objs.size<=c'/\∃ pos':Pos,H'=upd (upd H P (.tbl (ps ++ #[rawInt pos'.line,rawInt pos'.col,.ref c']))) c' (.ext (Cd c' qual)))
theorem Zj {h:Heap} {c:Addr} {q:Str} {H:Hp} {P:Program} {w:World} (x:h.CodeRec (.ref c) q):jy P w H h c (.ext (Cd c q)):=by
 obtain ⟨c2,o,vs,tk,e,h1,h2,h3⟩:=x;cases e;exact ⟨⟨o,vs,tk,h1,h2,h3⟩,⟨o,h1⟩,fun a b ⟨o,vs,tk,z1,z2,z3⟩ k=>⟨o,vs,tk,k _ z1,z2,z3⟩⟩
theorem a97 {E:Value->Shared->Prop} (I:L2.Inv X pins σ H s) (cQ:X.env.code=.ref c) (hC:PySem.W.CodeHd X.base c P) (hP:H P=some (.tbl ps)) (ht:TriplesOk ps.toList) (cB:BM X.base X.mg)
  (eU:defaultsOf params X.env=([],[])) (dB:closureFor scope X.env=pure clos) (hq:X.env.qual ++ "<lambda>" = qual)
  (hit:∀ pos cv,codeAmong pos ps.toList=some cv->∃ c',cv=.ref c'/\H c'=some (.ext (Cd c' qual))) :
  wpAny (model X.prog X.w) X.A (eval (.Lambda params body scope pos) X.env) (fun u s'=>∃ f H' c' bX,u=.ref f/\Made X pins σ H P ps qual params body scope clos s f s' H' c' bX) E s:=by
 have gm:s.heap.Ns mainGlobals X.mg:=I.mod.glob.keeps I.bk;have oP:s.heap.get? P=some (PySem.W.tabObj ps):=I.hok P _ hP;obtain ⟨bm,ob,b1,b2,b3,b4,b5,b6⟩:=cB;have ff:=I.bk _ _ b3
 have jX:mainGlobals≠P:=fun q=>by
  obtain ⟨o,es,ep,e,hd,_⟩:=gm;rw [q,oP] at e; cases e; cases hd
 have jV:bm≠P:=fun q=>by
  have e:=ff;rw [q,oP] at e; cases e; cases b4
 have kc:bm≠mainGlobals:=fun q=>by
  obtain ⟨o,es,ep,e,hd,_⟩:=gm;rw [q,e] at ff; cases ff; rw [hd] at b6; cases b6
 have hB:s.heap.BuiltinsAt X.mg P:=⟨bm,ob,b1,b2,kc,jV,ff,b4,b5,b6⟩;have nP:∀ b,H b=none->b≠P:=fun b n q=>by subst q; rw [hP] at n; cases n
 refine PySem.W.kla_eval eU ?_;rw [hq];cases hf:codeAmong pos ps.toList with
 | some cv =>
  obtain ⟨c',rfl,hc⟩:=hit pos cv hf;refine PySem.W.kla_makeFunctionHit (mg:=X.mg) dB I.ok.glob gm cQ (hC.keeps I.bk) oP ht hf hB fun bX h' tk hk bE=>?_;have cY:∀ b o,s.heap.get? b=some o->(h'.push (PySem.W.kla_obj "<lambda>" qual params body scope clos ((X.mg "__name__").getD .none) c' bX)).get? b=some o:=fun b o e=>Heap.get?_push_of_some _ (hk b o e)
  refine ⟨h'.objs.size,H,c',bX,rfl,I.step (g':=s.gens) (d':=s.drawn) (ch:=[]) (fun _ z=>nomatch z) (fun b o _ _ _ e _=>cY b o e) (fun b o _ _ _ e _=>⟨o.slots,cY b o e⟩) (fun _ _ _ _ n=>n) (fun b o _ e=>⟨o,cY b o e⟩) (fun _ _ e=>e) (fun _ _ _ e=>e) (fun b ps e=>⟨#[],by rw [e]; simp⟩) (fun m hm=>hm.keeps cY) (I.hok.kept cY) I.bare,
   Heap.get?_push_size _ rfl,bE,I.hok.fresh bE,fun b o n e=>⟨cY b o e,n⟩,.inl ⟨rfl,pos,hf⟩⟩
 | none =>
  refine PySem.W.kla_makeFunction (mg:=X.mg) dB I.ok.glob gm cQ (hC.keeps I.bk) oP ht hf jX hB fun c' bX h' tk hx gv bA gY jn=>?_;have fr:H c'=none:=I.hok.fresh gv;have lE:c'≠P:=fun q=>by rw [q,hP] at fr; cases fr
  have cY:∀ b o,b≠P->s.heap.get? b=some o->(h'.push (PySem.W.kla_obj "<lambda>" qual params body scope clos ((X.mg "__name__").getD .none) c' bX)).get? b=some o:=fun b o n e=>Heap.get?_push_of_some _ (hx b o n e);have ic:∀ b o,s.heap.get? b=some o->b≠c':=fun b o e q=>Nat.lt_irrefl _ (Nat.lt_of_lt_of_le (Heap.lt_size e) (q ▸ gv));have up:∀ b,b≠P->b≠c'->upd (upd H P (.tbl (ps ++ #[rawInt pos.line,rawInt pos.col,.ref c']))) c' (.ext (Cd c' qual)) b=H b:=fun b n1 n2=>by rw [c7 n2,c7 n1]
  have neC:∀ b u,H b=some u->b≠c':=fun b u e q=>by subst q; rw [fr] at e; cases e
  have bE:s.heap.objs.size<=h'.objs.size:=Nat.le_of_lt (Nat.lt_of_le_of_lt gv bA);have iY:∀ b o,s.heap.get? b=some o->H b=none->upd (upd H P (.tbl (ps ++ #[rawInt pos.line,rawInt pos.col,.ref c']))) c' (.ext (Cd c' qual)) b=none:=fun b o e n=>by rw [up b (nP b n) (ic b o e)]; exact n
  refine ⟨h'.objs.size,_,c',bX,rfl,I.step (H':=upd (upd H P (.tbl (ps ++ #[rawInt pos.line,rawInt pos.col,.ref c']))) c' (.ext (Cd c' qual))) (g':=s.gens) (d':=s.drawn) (ch:=[]) (fun _ z=>nomatch z) (fun b o _ _ _ e n=>cY b o (nP b n) e) (fun b o _ _ _ e n=>⟨o.slots,cY b o (nP b n) e⟩) (fun b o _ e n=>iY b o e n) (fun b o _ e=>?_) (fun b xs e=>?_) (fun b o u e=>?_) (fun b qs e=>?_) (fun m hm=>?_) (fun b u e=>?_) I.bare,
   Heap.get?_push_size _ rfl,bE,?_,fun b o n e=>⟨cY b o (nP b n) e,iY b o e n⟩,.inr ⟨fr,gv,pos,rfl⟩⟩
  ·by_cases hb:b=P
   ·subst hb; exact ⟨_,Heap.get?_push_of_some _ jn⟩
   ·exact ⟨o,cY b o hb e⟩
  ·rw [up b (fun q=>by subst q; rw [hP] at e; cases e) (neC b _ e)]; exact e
  ·rw [up b (fun q=>by subst q; rw [hP] at e; cases e) (neC b _ e)]; exact e
  ·by_cases hb:b=P
   ·subst hb;rw [hP] at e; cases e;exact ⟨#[rawInt pos.line,rawInt pos.col,.ref c'],by rw [c7 (neC _ _ hP),bw]⟩
   ·exact ⟨#[],by rw [up b hb (neC b _ e),e]; simp⟩
  ·obtain ⟨o,es,ep,ho,r⟩:=hm;exact ⟨o,es,ep,cY _ o (nP _ I.free) ho,r⟩
  ·by_cases hc:b=c'
   ·subst hc;rw [bw] at e; cases e;exact Zj (let ⟨c2,o,vs,tk,e,h1,h2,h3⟩:=gY; ⟨c2,o,vs,tk,e,Heap.get?_push_of_some _ h1,h2,h3⟩)
   ·rw [c7 hc] at e
    by_cases hb:b=P
    ·subst hb;rw [bw] at e; cases e;exact Heap.get?_push_of_some _ jn
    ·rw [c7 hb] at e;have dv:∀ d a,H d=some (.own a)->d≠P:=fun d a z q=>by subst q; rw [hP] at z; cases z
     refine (I.hok b u e).stay (fun d v hd z=>cY d v (hd.elim (fun q=>by rw [q]; exact hb) fun q=>dv d b q) z) (fun d q=>?_) fun d xs q=>?_
     ·rw [up d (dv d b q) (neC d _ q)]; exact q
     ·rw [up d (fun z=>by subst z; rw [hP] at q; cases q) (neC d _ q)]; exact q
  ·rw [up _ (fun q=>Nat.lt_irrefl _ (Nat.lt_of_lt_of_le (Heap.lt_size oP) (q ▸ bE))) (fun q=>Nat.lt_irrefl c' (by rw [q] at bA; exact bA))];exact I.hok.fresh bE
end
noncomputable def a9p (h base:Heap) (l:List Addr):List Addr:=(List.range h.objs.size).filter fun b=>(base.get? b).isNone && !(l.contains b)
def Dk (h base:Heap) (l:List Addr):Heap:=PySem.W.hideAll h (a9p h base l)
theorem Qk {h base:Heap} {l:List Addr} {b:Addr}:b∈a9p h base l↔b<h.objs.size/\base.get? b=none/\b∉l:=by
 unfold a9p;rw [List.mem_filter,List.mem_range];simp [Option.isNone_iff_eq_none]
theorem Rg (h base:Heap) (l:List Addr):(Dk h base l).objs.size=h.objs.size:=PySem.W.hideAll_size _ _
theorem G9 {h base:Heap} {l:List Addr} {b:Addr} {o:Obj} (e:h.get? b=some o) (k:base.get? b≠none\/b∈l):(Dk h base l).get? b=some o :=
 PySem.W.hideAll_get _ e fun z=>by
  have:=Qk.mp z;exact k.elim (fun q=>q this.2.1) fun q=>this.2.2 q
theorem Q0 {h base:Heap} {l:List Addr} {b:Addr} {o:Obj} (e:(Dk h base l).get? b=some o):h.get? b=some o/\(base.get? b≠none\/b∈l):=by
 have e1:=PySem.W.of_hideAll _ e;refine ⟨e1,?_⟩
 by_cases z:base.get? b≠none\/b∈l
 ·exact z
 ·exfalso;have hm:b∈a9p h base l:=Qk.mpr ⟨Heap.lt_size e1,Classical.byContradiction fun q=>z (.inl q),fun q=>z (.inr q)⟩;have:=PySem.W.hideAll_none _ (h:=h) hm;unfold Dk at e;rw [this] at e; cases e
theorem Hj {h base base':Heap}:∀ {l:List Env},h.FunFrames base l->(∀ env∈l,∀ L,env.frame=some L->base.get? L=none->base'.get? L=none)->h.FunFrames base' l
 | [],_,_=>trivial
 | env::r,⟨a,⟨L,o,b1,b2,b3,b4⟩,c⟩,k=>⟨a,⟨L,o,b1,k env List.mem_cons_self L b1 b2,b3,b4⟩,Hj c fun e he=>k e (List.mem_cons_of_mem _ he)⟩
theorem FunFrames.lt {h base:Heap}:∀ {l:List Env},h.FunFrames base l->∀ env∈l,∀ L,env.frame=some L->L<h.objs.size
 | env::r,⟨a,⟨L,o,b1,b2,b3,b4⟩,c⟩,e,he,L',q=>by
  rcases List.mem_cons.mp he with rfl | he -- here
  ·rw [b1] at q; cases q; exact Heap.lt_size b3
  ·exact FunFrames.lt c e he L' q
noncomputable def a9y (P:Program) (w:World) (K:PySem.W.Frag) (mg:Str->Option Value) (base:Heap) (kL:Nat) (fa:Addr) (G:Fn) (ar:Nat) (Cl:Addr) (f:Str) (F:FnX):Sp:=fun vs H Q E=>∃ S as sto ts r aR,Same S H/\Al K S as H sto/\jg K S as vs ts/\ts.length=ar/\Nr P w K mg base kL fa S as G/\F ts sto=some (r,aR)/\abq K ⟨S,as,H⟩ Cl f aR Q E r
def Cz (P:Program) (w:World) (K:PySem.W.Frag) (mg:Str->Option Value) (base:Heap) (x:Str) (n kL:Nat) (ps:List Str) (Cl:Addr) (f:Str) (FL:Nat->Fn->FnX):Prop :=
 ∃ (a:Addr) (fd:FuncData),(∀ fa G,qz P w K mg base (CXx P w) n a fd ps (a9y P w K mg base kL fa G ps.length Cl f (FL fa G)))/\Binds K fd ps []/\PySem.W.keepIn K (.ref a)=true/\mg x=some (.ref a)
theorem Cz.mono {P:Program} {w:World} {K:PySem.W.Frag} {mg:Str->Option Value} {base:Heap} {x:Str} {n m kL:Nat} {ps:List Str} {Cl:Addr} {f:Str} {FL:Nat->Fn->FnX} (D:Cz P w K mg base x n kL ps Cl f FL) (h:n<=m):Cz P w K mg base x m kL ps Cl f FL :=
 let ⟨a,fd,h1,h2⟩:=D; ⟨a,fd,fun fa G=>(h1 fa G).mono h,h2⟩
section
variable {P:Program} {w:World} {K:PySem.W.Frag} {mg:Str->Option Value} {base:Heap}
theorem V4 {x qual:Str} {st:Stmt} {a Cl fa:Addr} {G:Fn} {f:Str} {fd:FuncData} {N ps:List Str} {k kL:Nat} {b:SX} (F:Fun K x qual st a fd) (Sc:jc N ps (dh st)) (hN:ps.length<=N.length)
  (hb:∀ (aS:Value) (A:Around) (outer:List Env) (s:Shared) (H:Hp) (E:XK) (B:Bas),zy k (A.deeper (envOfC qual (dh st) s.heap.objs.size a aS))->Nr P w K mg base kL fa B.S B.as G ->
   PSs (Og (CXx P w) P w K mg base N qual (dh st) a aS A outer s H E) (nu st) (Iw K B Cl f E b)):qz P w K mg base (CXx P w) (k+1) a fd ps (a9y P w K mg base kL fa G ps.length Cl f (u6 N.length b)):=by
 obtain ⟨oc,od,kV,doc,pm,an,aS,ct,cM,rfl,lk,bG⟩:=F.ex;refine Yo lk bG Sc (fun vs H Q E ⟨S,as,sto,ts,t,aR,h1,h2,h3,h4,_⟩=>by rw [h3.length,h4]) fun A outer s H vs Q E hr h=>?_;obtain ⟨S,as,sto,ts,r,aR,h1,h2,h3,h4,hL,h5,q⟩:=h;refine ⟨_,hb aS A outer s H E ⟨S,as,H⟩ hr hL,?_⟩;have R:Rel K ⟨S,as,H⟩ ⟨ts.map (fun t=>some (t,false))++List.replicate (N.length - ts.length) none,sto⟩ (L2.start N vs) H [] S as:=Bc h1 h2 h3 (by rw [h4]; exact hN);unfold u6 at h5;split at h5
 ·rename_i t' s' e;cases h5;exact ⟨_,[],S,as,R,.inl (.ret _),s',e,fun v σ' H' S' ag R'=>q v H' S' ag R'.grow R'.sub R'.sto R'.top⟩
 ·rename_i s' e;cases h5;exact ⟨_,[],S,as,R,.inl .next,s',e,fun σ' H' S' ag R'=>q .non H' S' ag R'.grow R'.sub R'.sto .non⟩
 ·rename_i t' s' e;cases h5;exact ⟨_,[],S,as,R,.inr _,s',e,fun v dx σ' H' S' ag R' hd=>q v dx H' S' ag R'.grow R'.sub R'.sto R'.top hd⟩
 ·cases h5
theorem N7 {x qual:Str} {st:Stmt} {a Cl:Addr} {f:Str} {fd:FuncData} {N ps:List Str} {k:Nat} {b:SX} {aS:Value} (F:Fun K x qual st a fd) (bG:fd.code=aS) (Sc:jc N ps (dh st)) (hN:ps.length<=N.length)
  (hb:∀ (A:Around) (outer:List Env) (s:Shared) (H:Hp) (E:XK) (B:Bas),zy k (A.deeper (envOfC qual (dh st) s.heap.objs.size a aS)) ->
   PSs (Og (CXx P w) P w K mg base N qual (dh st) a aS A outer s H E) (nu st) (Iw K B Cl f E b)):qz P w K mg base (CXx P w) (k+1) a fd ps (spX K ps.length Cl f (u6 N.length b)):=by
 obtain ⟨oc,od,kV,doc,pm,an,cdv',ct,cM,rfl,lk,hcd'⟩:=F.ex;have ec:cdv'=aS:=bG;subst ec;refine Yo lk hcd' Sc (fun vs H Q E ⟨S,as,sto,ts,t,aR,h1,h2,h3,h4,_⟩=>by rw [h3.length,h4]) fun A outer s H vs Q E hr h=>?_;obtain ⟨S,as,sto,ts,r,aR,h1,h2,h3,h4,h5,q⟩:=h;refine ⟨_,hb A outer s H E ⟨S,as,H⟩ hr,?_⟩;have R:Rel K ⟨S,as,H⟩ ⟨ts.map (fun t=>some (t,false))++List.replicate (N.length - ts.length) none,sto⟩ (L2.start N vs) H [] S as:=Bc h1 h2 h3 (by rw [h4]; exact hN);unfold u6 at h5;split at h5
 ·rename_i t' s' e;cases h5;exact ⟨_,[],S,as,R,.inl (.ret _),s',e,fun v σ' H' S' ag R'=>q v H' S' ag R'.grow R'.sub R'.sto R'.top⟩
 ·rename_i s' e;cases h5;exact ⟨_,[],S,as,R,.inl .next,s',e,fun σ' H' S' ag R'=>q .non H' S' ag R'.grow R'.sub R'.sto .non⟩
 ·rename_i t' s' e;cases h5;exact ⟨_,[],S,as,R,.inr _,s',e,fun v dx σ' H' S' ag R' hd=>q v dx H' S' ag R'.grow R'.sub R'.sto R'.top hd⟩
 ·cases h5
end
inductive U6 (X:Cx):List Nat->List (Str × Addr)->Prop where
 | nil:U6 X [] []
 | cons {i:Nat} {y:Str} {c:Addr} {is:List Nat} {cs:List (Str × Addr)}:X.N[i]? = some y->Vis X.env.scope y->X.env.kindOf y≠some .local->X.env.cells.lookup y=some c->U6 X is cs->U6 X (i::is) ((y,c)::cs)
theorem U6.mem {X:Cx} {is:List Nat} {cs:List (Str × Addr)} (h:U6 X is cs):∀ p∈cs,X.env.cells.lookup p.1=some p.2:=by
 induction h with
 | nil=>intro p hp; cases hp
 | cons _ _ _ e _ ih =>
  intro p hp;rcases List.mem_cons.mp hp with rfl | hp
  ·exact e
  ·exact ih p hp
theorem U6.cells {X:Cx} {B:Bas} {st:Sta} {pins:List (Addr × Obj)} {σ:L2.St} {H S:Hp} {s:Shared} {ps:List (V × T)} {as:List Addr} {base':Heap} (I:L2.Inv X pins σ H s) (R:Rel X.K B st σ H ps S as) {is:List Nat} {cs:List (Str × Addr)} (h:U6 X is cs)
  (hk:∀ p∈cs,∀ o,s.heap.get? p.2=some o->base'.get? p.2=some o):∀ {ts:List T},N5 is st.env=some ts->∃ vs,Cells X.K S as base' cs vs ts:=by
 induction h with
 | nil=>intro ts e; cases e; exact ⟨[],.nil⟩
 | @cons i y c is cs hi hv hk' hl _ ih =>
  intro ts e;unfold N5 at e;split at e
  ·rename_i t us e1 e2;cases e;obtain ⟨v,h1,h2,_⟩:=R.slots i _ _ e1;obtain ⟨m,hn,hloc⟩:=I.loc;obtain ⟨u,ru,l⟩:=hloc i y v hi h1 hv;obtain ⟨vs,hc⟩:=ih (fun p hp=>hk p (List.mem_cons_of_mem _ hp)) e2;rcases l with ⟨z,_⟩ | ⟨_,c',cW,hcell⟩
   ·exact absurd z hk'
   ·rw [hl] at cW; cases cW;obtain ⟨o,ho,hd⟩:=hcell;exact ⟨v::vs,.cons ⟨o,hk (y,c) List.mem_cons_self o ho,hd⟩ ru (h2 rfl) hc⟩
  ·cases e
theorem Tw {a:M (List T)} {is:List Nat} {s s':Sta} {ts:List T} (h:Dw a is s=some (ts,s')):∃ eS us,a s=some (eS,s')/\N5 is s'.env=some us/\ts=eS++us:=by
 unfold Dw at h;split at h
 ·rename_i eS s1 e;split at h
  ·rename_i us e2; cases h; exact ⟨eS,us,e,e2,rfl⟩
  ·cases h
 ·cases h
theorem a0y {n i P cn:Nat} {q:Str} {FL:Nat->Fn->FnX} {L:M T} {ts:List T} {sto:List SO} {r:(T ⊕ T) × List SO} (h:a0h n i P q FL cn L ts sto=some r):sto[i]? = some (.tab P q)/\J9 FL (fun us st=>Xp (1+cn) L (us++ts.drop n) st) (ts.take n) sto=some r:=by
 unfold a0h at h;split at h
 ·rename_i P' q' e;split at h
  ·rename_i hh; obtain ⟨rfl,rfl⟩:=hh; exact ⟨e,h⟩
  ·cases h
 ·cases h
noncomputable def tXc (K:PySem.W.Frag) (B:Bas) (Cl:Addr) (f:Str) (E:XK) (F:FnX) (ms:M (List T)):TE:=fun σ H Q=>∃ st ps S as,Rel K B st σ H ps S as/\∃ ts s1 r sto,ms st=some (ts,s1)/\F ts s1.sto=some (r,sto) /\
 match r with
 | .inl t=>∀ v H' S' ag,Rel K B { s1 with sto:=sto } σ H' ((v,t)::ps) S' ag->Q v H'
 | .inr t=>∀ v dx H' S' ag,Rel K B { s1 with sto:=sto } σ H' ((v,t)::ps) S' ag->S' dx=some (Ce dx f v)->E (.ref Cl) (some dx) H'
theorem Rel.tabled {K:PySem.W.Frag} {B:Bas} {st:Sta} {σ:L2.St} {H S:Hp} {ps:List (V × T)} {as:List Addr} {i:Nat} {P c:Addr} {q:Str} {qs:Array Value} {pos:Pos} (R:Rel K B st σ H ps S as) (e:st.sto[i]? = some (.tab P q)) (hP:H P=some (.tbl qs)) (ht:TriplesOk qs.toList)
  (hit:∀ pos cv,codeAmong pos qs.toList=some cv->∃ c,cv=.ref c/\S c=some (.ext (Cd c q))) (hc:H c=none) :
  ∃ S',Rel K B st σ (upd (upd H P (.tbl (qs ++ #[rawInt pos.line,rawInt pos.col,.ref c]))) c (.ext (Cd c q))) ps S' as/\S' c=some (.ext (Cd c q))/\Same S S':=by
 have ne:c≠P:=fun z=>by rw [z,hP] at hc; cases hc
 have x:=Ext.laid R.sub hc (.ext (Cd c q));have R1:=R.ext x;obtain ⟨a,h1,h2,h3⟩:=R1.sto.at' i _ e;obtain ⟨ea,_⟩:=h3;subst ea;have R2:=R1.Pq (so':=.tab a q) (ob:=.tbl (qs ++ #[rawInt pos.line,rawInt pos.col,.ref c])) e h1 ⟨rfl,_,bw,?_,fun pos' cv z=>?_⟩
 ·refine ⟨upd S c (.ext (Cd c q)),?_,bw,x.s⟩
  have e1:st.sto.set i (.tab a q)=st.sto:=by
   have:=List.getElem?_eq_some_iff.mp e;obtain ⟨hl,hv⟩:=this;rw [<- hv,List.set_getElem_self]
  have e2:upd (upd H c (.ext (Cd c q))) a (.tbl (qs ++ #[rawInt pos.line,rawInt pos.col,.ref c]))=upd (upd H a (.tbl (qs ++ #[rawInt pos.line,rawInt pos.col,.ref c]))) c (.ext (Cd c q)):=by
   funext b
   by_cases z1:b=c
   ·subst z1; rw [c7 ne,bw,bw]
   ·by_cases z2:b=a
    ·subst z2; rw [bw,c7 z1,bw]
    ·rw [c7 z2,c7 z1,c7 z1,c7 z2]
  rw [e2] at R2;have e3:({ st with sto:=st.sto.set i (.tab a q) }:Sta)=st:=by rw [e1]
  rw [e3] at R2;exact R2
 ·rw [Array.toList_append]; exact TriplesOk_snoc _ _ _ _ ht
 ·rw [Array.toList_append] at z;rcases Rr _ ht z with z | z
  ·obtain ⟨c2,e1,e2⟩:=hit pos' cv z;exact ⟨c2,e1,x.s _ _ e2⟩
  ·exact ⟨c,z,bw⟩
section
variable {X:Cx} {B:Bas} {e1 e2 body:Expr} {m1 m2 L:M T} {k kL i:Nat} {c P Cl:Addr} {f x lx qual:Str} {pn:List Str} {FL:Nat->Fn->FnX} {E:XK} {params:Arguments} {scope:Scope} {clos:List (Str × Addr)} {is:List Nat} {p pos bQ:Pos}
theorem Jo (hx:Passes (CXx X.prog X.w) X E) (D:∀ base',Mod X.K X.mg base'->Cz X.prog X.w X.K X.mg base' x k (kL+1) pn Cl f FL) (i6:pn.length=3) (hr:zy k X.A) (hg:Gl X x)
  (h1:PE X e1 (tOf X.K B m1)) (h2:PE X e2 (tOf X.K B m2)) (fK:∀ y,X.fn y=true)
  (cQ:X.env.code=.ref c) (hC:PySem.W.CodeHd X.base c P) (cB:BM X.base X.mg) (eU:defaultsOf params X.env=([],[])) (dB:closureFor scope X.env=pure clos) (hq:X.env.qual ++ "<lambda>" = qual) (bb:U6 X is clos) (hS:a3v lx scope clos)
  (dq:∀ c' bX,Binds X.K (PySem.W.kla_fn "<lambda>" qual params body scope clos ((X.mg "__name__").getD .none) (.ref c') bX) [lx] [])
  (cm:∀ (base':Heap) (f c':Addr) (A:Around) (outer:List Env) (s:Shared) (H:Hp) (B:Bas),Mod X.K X.mg base'->zy kL (A.deeper (PySem.W.envX qual scope s.heap.objs.size f (.ref c') clos))->PE (cxL X.prog X.w X.K X.mg base' (lx::clos.map (·.1)) qual scope f (.ref c') clos A outer s H) body (tOf X.K B L))
  (bI:(x==("__debug__" : Str))=false:=by decide) (jE:starEach [e1,e2,.Lambda params body scope bQ] X.env=(false,eval e1 X.env)::starEach [e2,.Lambda params body scope bQ] X.env:=by rfl) (gf:starEach [e2,.Lambda params body scope bQ] X.env=(false,eval e2 X.env)::starEach [.Lambda params body scope bQ] X.env:=by rfl)
  (la:starEach [.Lambda params body scope bQ] X.env=(false,eval (.Lambda params body scope bQ) X.env)::starEach [] X.env:=by rfl) (bB:(backTo pos (starEach [e2,.Lambda params body scope bQ] X.env)).any (·.1)=false:=by rfl) :
  PE X (.Call (.Name x p) [e1,e2,.Lambda params body scope bQ] [] pos) (tXc X.K B Cl f E (a0h 2 i P qual FL clos.length L) (Dw (aj m1 (aj m2 dz)) is)):=by
 intro pins s σ H Q I z8;obtain ⟨st,ps,S,as,R,ts,sE,r,sto,em,ev,fin⟩:=z8;obtain ⟨eS,us,e3,e4,rfl⟩:=Tw em;obtain ⟨t1,z1,r1,e5,e6,rfl⟩:=yu e3;obtain ⟨t2,z2,r2,e7,e8,rfl⟩:=yu e6;cases e8;obtain ⟨et,ev2⟩:=a0y ev;obtain ⟨a,fd,G0,hb0,hk,hm⟩:=D X.base I.mod;refine wpAny_Call_Name_kw (Ih I hg hm ?_ bI);refine PySem.W.callWith_K (h₀:=X.base) I.ok.mod.kin hk ?_ jE bB;rw [jE];show wpAny _ _ (spliced ((false,eval e1 X.env)::backTo pos (starEach [e2,.Lambda params body scope bQ] X.env))) _ _ s;refine Calls.spliced_cons (thn (h1 pins s σ H (fun v H1=>∃ S1 aC,Rel X.K B z1 σ H1 ((v,t1)::ps) S1 aC) I ⟨st,ps,S,as,R,t1,z1,e5,fun v H1 S1 aC R1=>⟨S1,aC,R1⟩⟩) fun u1 s1 z0=>?_);obtain ⟨v1,H1,I1,ru1,S1,aC,R1⟩:=z0;rw [gf];show wpAny _ _ (spliced ((false,eval e2 X.env)::backTo pos (starEach [.Lambda params body scope bQ] X.env))) _ _ s1;refine Calls.spliced_cons (thn (h2 pins s1 σ H1 (fun v H2=>∃ S2 aQ,Rel X.K B sE σ H2 ((v,t2)::(v1,t1)::ps) S2 aQ) I1 ⟨z1,_,S1,aC,R1,t2,sE,e7,fun v H2 S2 aQ R2=>⟨S2,aQ,R2⟩⟩) fun u2 s2 z0=>?_);obtain ⟨v2,H2,I2,ru2,S2,aQ,R2⟩:=z0;rw [la];show wpAny _ _ (spliced ((false,eval (.Lambda params body scope bQ) X.env)::backTo pos (starEach [] X.env))) _ _ s2;obtain ⟨aP,g1,g2,gP,qs,g3,g4,g5⟩:=R2.sto.at' i _ et;subst gP;refine Calls.spliced_cons (thn (a97 I2 cQ hC g3 g4 cB eU dB hq fun pos' cv z=>?_) fun u3 s3 ⟨fa,H3,c',bX,eu,Md⟩=>Calls.spliced_nil ⟨Md.inv.kIn,?_⟩)
 ·obtain ⟨c2,q1,q2⟩:=g5 pos' cv z;exact ⟨c2,q1,R2.sub _ _ q2⟩
 subst eu;have I3:=Md.inv
 obtain ⟨S3,R3,hS3,same3⟩:∃ S3,Rel X.K B sE σ H3 ((v2,t2)::(v1,t1)::ps) S3 aQ/\S3 c'=some (.ext (Cd c' qual))/\Same S2 S3:=by
  rcases Md.as with ⟨eh,pos',hc⟩ | ⟨hn,_,pos',eh⟩
  ·subst eh;obtain ⟨c2,q1,q2⟩:=g5 pos' _ hc;cases q1;exact ⟨S2,R2,q2,Same.refl _⟩
  ·subst eh;exact R2.tabled et g3 g4 g5 hn
 have c8:∀ q∈clos,X.env.cells.lookup q.1=some q.2:=bb.mem
 have ff:∀ b o,(Dk s3.heap X.base (fa::clos.map (·.2))).get? b=some o->s3.heap.get? b=some o/\H3 b=none:=fun b o e=>by
  obtain ⟨q1,q2⟩:=Q0 e;refine ⟨q1,?_⟩;rcases q2 with q2 | q2
  ·cases z:X.base.get? b with
   | none=>exact absurd z q2
   | some o'=>exact (I3.bs b o' z).2
  ·rcases List.mem_cons.mp q2 with rfl | q2
   ·exact Md.free
   ·obtain ⟨y,hy,rfl⟩:=List.mem_map.mp q2;exact I3.freeC _ _ (c8 y hy)
 have bk:∀ b o,X.base.get? b=some o->(Dk s3.heap X.base (fa::clos.map (·.2))).get? b=some o:=fun b o e=>G9 (I3.bk b o e) (.inl (by rw [e]; simp));have eW:Mod X.K X.mg (Dk s3.heap X.base (fa::clos.map (·.2))):=⟨I3.mod.kin.keeps bk,I3.mod.glob.keeps bk,let ⟨mb,q1,q2⟩:=I3.mod.blt; ⟨mb,q1.keeps bk,q2⟩,I3.mod.nolimit.keeps bk⟩
 have cH:s3.heap.FunFrames (Dk s3.heap X.base (fa::clos.map (·.2))) X.stack:=by
  refine Hj I3.stack fun env bH Lf gy hn=>?_;cases z:(Dk s3.heap X.base (fa::clos.map (·.2))).get? Lf with
  | none=>rfl
  | some o =>
   exfalso;obtain ⟨q1,q2⟩:=Q0 z;rcases q2 with q2 | q2
   ·exact q2 hn
   ·rcases List.mem_cons.mp q2 with rfl | q2
    ·exact Nat.lt_irrefl _ (Nat.lt_of_lt_of_le (FunFrames.lt I2.stack env bH _ gy) Md.new)
    ·obtain ⟨y,hy,rfl⟩:=List.mem_map.mp q2;have fP:=I3.ok.cab y.1 y.2 (fK _) (c8 y hy);rcases I3.ok.stk with q | ⟨q,qf⟩
     ·rw [q] at bH;exact Nat.lt_irrefl _ (Nat.lt_of_lt_of_le (FunFrames.lt I3.ok.Ko env bH _ gy) fP)
     ·rw [q] at bH;rcases List.mem_cons.mp bH with rfl | bH
      ·have hl:X.env.locals=y.2:=Option.some.inj (qf.symm.trans gy);obtain ⟨m,⟨oo,es,ep,w1,w2,_⟩,_⟩:=I3.loc;obtain ⟨vv,o2,w3,w4⟩:=I3.cell _ _ (c8 y hy);rw [hl,w3] at w1;cases w1;rw [w4] at w2; cases w2
      ·exact Nat.lt_irrefl _ (Nat.lt_of_lt_of_le (FunFrames.lt I3.ok.Ko env bH _ gy) fP)
 have env0:Zu X.prog X.w X.K X.mg (Dk s3.heap X.base (fa::clos.map (·.2))) X.A X.stack s3 H3:=⟨I3.ok.frames,eW,ff,Nat.le_of_eq (Rg _ _ _),cH,I3.Ju,I3.hok,I3.bare⟩;obtain ⟨dO,hcells⟩:=bb.cells (base':=Dk s3.heap X.base (fa::clos.map (·.2))) I3 R3 (fun q hq o ho=>G9 ho (.inr (List.mem_cons_of_mem _ (List.mem_map_of_mem hq)))) e4;have cX:(Dk s3.heap X.base (fa::clos.map (·.2))).get? fa=some (PySem.W.kla_obj "<lambda>" qual params body scope clos ((X.mg "__name__").getD .none) c' bX):=G9 Md.obj (.inr List.mem_cons_self)
 have LO:Nr X.prog X.w X.K X.mg (Dk s3.heap X.base (fa::clos.map (·.2))) (kL+1) fa S3 aQ (fun ts sto=>Xp (1+clos.length) L (ts++us) sto) :=
  ⟨_,_,lx,cX,rfl,a3y cX hS hcells hS3 fun A outer s H B hr=>cm _ fa c' A outer s H B eW hr,dq c' bX⟩
 obtain ⟨a',fd',G,hb,hk',hm'⟩:=D _ eW;have ea:a'=a:=by rw [hm] at hm'; cases hm'; rfl
 subst ea;have es:(t1::[t2]++us).take 2=[t1,t2]:=rfl;have ed:(t1::[t2]++us).drop 2=us:=rfl;have kC:Vals [v1,v2,.ref fa] [u1,u2,.ref fa]:=.cons ru1 (.cons ru2 (.cons rfl .nil));have fx:jg X.K S3 aQ [v1,v2,.ref fa] [t1,t2,.adr fa]:=.cons R3.top2 (.cons R3.top (.cons (.adr fa) .nil))
 have dD:a9y X.prog X.w X.K X.mg (Dk s3.heap X.base (fa::clos.map (·.2))) (kL+1) fa (fun ts sto=>Xp (1+clos.length) L (ts++us) sto) pn.length Cl f (FL fa fun ts sto=>Xp (1+clos.length) L (ts++us) sto) [v1,v2,.ref fa] H3 Q E :=
  ⟨S3,aQ,sE.sto,[t1,t2,.adr fa],r,sto,R3.sub,R3.sto,fx,i6.symm,LO,Rj ev2 fa,by
   cases r with
   | inl t=>exact fun v H4 S4 eX g sub so rp=>fin v H4 S4 eX ((R3.drop.drop.call g sub so).push rp)
   | inr t=>exact fun v dx H4 S4 eX g sub so rp hd=>fin v dx H4 S4 eX ((R3.drop.drop.call g sub so).push rp) hd⟩
 refine wpAny_call (codeAny_mono ((G fa _).run X.A X.stack s3 H3 ⟨[u1,u2,.ref fa],[]⟩ [u1,u2,.ref fa] [v1,v2,.ref fa] Q E hr env0 ?_ kC dD) fun rr s' hq=>?_)
 ·have:=hb s3 [u1,u2,.ref fa] I3.kIn (by simp [i6]);rw [List.append_nil] at this;exact this
 ·cases rr with
  | error e=>exact hx pins σ H3 s3 e s' I3 hq
  | ok fl =>
   cases fl with
   | ret u=>exact I3.after hq
   | next=>exact False.elim hq
   | brk=>exact False.elim hq
   | cont=>exact False.elim hq
end
abbrev NK:=List (List L2.Key)
section
variable {K:PySem.W.Frag} {S:Hp} {as:List Addr}
theorem Jv {b:Addr} {us:List V} (h:SqT K S b us):∀ {ts:List T} {q:NK},jg K S as us ts->nestsOf ts=some q->vo K S b q:=by
 have key:∀ {us:List V} {ts:List T} {q:NK},jg K S as us ts->nestsOf ts=some q->Paired (fun (u:V) (q:List L2.Key)=>∃ c,u=.ref c/\SqT K S c (q.map kV)) us q:=by
  intro us ts q r
  induction ts generalizing us q with
  | nil=>intro e; cases r; cases e; exact .nil
  | cons t ts ih =>
   intro e;cases r with
   | @cons v _ vs _ a b =>
    cases t with
    | tup xs =>
     simp only [nestsOf] at e;split at e
     ·rename_i k q' e1 e2;cases e;cases a with
      | @tup c ws _ g1 g2 =>
       have:=Qd g2 e1;subst this;exact .cons ⟨c,rfl,g1⟩ (ih b e2)
     ·cases e
    | _=>simp [nestsOf] at e
 intro ts q r e;exact ⟨us,h,key r e⟩
theorem Oh:∀ (q:List L2.Key),jg K S as (q.map kV) (q.map a1h)
 | []=>.nil
 | .inl i::r=>.cons (.int i) (Oh r)
 | .inr x::r=>.cons (.str x) (Oh r)
theorem a0a {b:Addr} {q:NK} (h:vo K S b q):Rep K S as (.ref b) (nT q):=by
 obtain ⟨us,h1,h2⟩:=h;refine .tup h1 ?_;clear h1
 induction h2 with
 | nil=>exact .nil
 | cons x _ ih =>
  obtain ⟨c,rfl,e⟩:=x;exact .cons (.tup e (Oh _)) ih
end
section
variable {X:Cx} {pins:List (Addr × Obj)} {σ:L2.St} {H S:Hp} {s:Shared} {a b:Addr} {as:List Addr} {A:Around} {E:Value->Shared->Prop}
theorem Ga {q:NK} (I:L2.Inv X pins σ H s) (h:vo X.K H b q):(Ac (j6 X.prog X.w)).is s.heap q b:=by
 obtain ⟨us,h1,h2⟩:=h;obtain ⟨its,r,⟨o,g1,g2,n,g3⟩,_⟩:=I.tuple h1
 have key:∀ {us:List V} {q:NK},Paired (fun (u:V) (q:List L2.Key)=>∃ c,u=.ref c/\SqT X.K H c (q.map kV)) us q->∀ {its:List Value},Vals us its->pq (j6 X.prog X.w) s.heap q its:=by
  intro us q h
  induction h with
  | nil=>intro its r; cases r; exact .nil
  | cons x _ ih =>
   intro its r;obtain ⟨c,rfl,e⟩:=x;cases r with
   | cons r1 r2 =>
    cases r1;exact .cons (a3f I e) (ih r2)
 exact ⟨o,its.toArray,n,g1,g2,g3,by simpa using key h2 r⟩
abbrev NP:List (NK × Addr × V)->List (NK × Addr × Value)->Prop:=Paired fun (p:NK × Addr × V) (q:NK × Addr × Value)=>p.1=q.1/\p.2.1=q.2.1/\RelV p.2.2 q.2.2
theorem Hx {xs:List (NK × Addr × V)} (I:L2.Inv X pins σ H s) (e:H a=some (.dN xs)) (hk:∀ x∈xs,vo X.K H x.2.1 x.1):xs.length<=sizeLine/\(a==sysModules)=false/\∃ ys,NP xs ys/\s.heap.DictOfH (Ac (j6 X.prog X.w)) a ys:=by
 obtain ⟨z,y,ys,r,o,es,ep,h1,h2,h3,h4,h5⟩:=(show jy X.prog X.w H s.heap a (.dN xs) from I.hok a _ e)
 have key:∀ {xs:List (NK × Addr × V)} {ys:List (NK × Addr × Value)},NP xs ys->(∀ x∈xs,vo X.K H x.2.1 x.1)->∀ y∈ys,(Ac (j6 X.prog X.w)).is s.heap y.1 y.2.1:=by
  intro xs ys r
  induction r with
  | nil=>intro _ x hx; cases hx
  | @cons p q _ _ hq _ ih =>
   intro hk x hx;rcases List.mem_cons.mp hx with rfl | hx
   ·have:=Ga I (hk p List.mem_cons_self);rw [hq.1,hq.2.1] at this;exact this
   ·exact ih (fun y hy=>hk y (List.mem_cons_of_mem _ hy)) x hx
 exact ⟨z,y,ys,r,o,es,ep,h1,h2,h3,h4,key r hk,h5⟩
theorem Ge.nests {xs:List (NK × Addr × V)} {ts:List (NK × T)} {K:PySem.W.Frag} (h:Ge K S as xs ts) (e:Same S H):∀ x∈xs,vo K H x.2.1 x.1:=by
 induction h with
 | nil=>intro x hx; cases hx
 | cons n _ _ ih =>
  intro x hx;rcases List.mem_cons.mp hx with rfl | hx
  ·exact n.mono e
  ·exact ih x hx
theorem Ge.length {xs:List (NK × Addr × V)} {ts:List (NK × T)} {K:PySem.W.Frag} (h:Ge K S as xs ts):xs.length=ts.length:=by
 induction h with
 | nil=>rfl
 | cons _ _ _ ih=>exact congrArg (· + 1) ih
theorem Lr {xs:List (NK × Addr × V)} {ts:List (NK × T)} {K:PySem.W.Frag} (h:Ge K S as xs ts) {ys:List (NK × Addr × Value)} (r:NP xs ys) {k:NK} (e:G5 k ts=none):atKey ys k=none:=by
 induction h generalizing ys with
 | nil=>cases r; rfl
 | @cons q b v t _ _ _ _ _ ih =>
  cases r with
  | @cons _ y _ _ hq r2 =>
   unfold G5 at e;split at e
   ·cases e
   ·rename_i dC;have:=ih r2 e;unfold atKey at this ⊢;rw [List.find?_cons_of_neg (by simp only [decide_eq_true_eq]; rw [<- hq.1]; exact dC)];exact this
theorem Lh {xs:List (NK × Addr × V)} {ts:List (NK × T)} {K:PySem.W.Frag} (h:Ge K S as xs ts) {ys:List (NK × Addr × Value)} (r:NP xs ys) {k:NK} {t:T} (e:G5 k ts=some t):∃ p v,atKey ys k=some p/\RelV v p.2/\Rep K S as v t:=by
 induction h generalizing ys with
 | nil=>cases e
 | @cons q b v t' _ _ _ rp _ ih =>
  cases r with
  | @cons _ y _ _ hq r2 =>
   unfold G5 at e;split at e
   ·rename_i he;cases e;exact ⟨y.2,v,by unfold atKey; rw [List.find?_cons_of_pos (by simp only [decide_eq_true_eq]; rw [<- hq.1]; exact he)]; rfl,hq.2.2,rp⟩
   ·rename_i dC;obtain ⟨p,v,h1,h2,h3⟩:=ih r2 e;refine ⟨p,v,?_,h2,h3⟩;unfold atKey at h1 ⊢;rw [List.find?_cons_of_neg (by simp only [decide_eq_true_eq]; rw [<- hq.1]; exact dC)];exact h1
theorem a3a {P:Program} {w:World} {H':Hp} {h':Heap} {xs:List (NK × Addr × V)} {ys:List (NK × Addr × Value)} (z:xs.length<=sizeLine) (hd:(a==sysModules)=false) (rel:NP xs ys) (dd:h'.DictOfH (Ac (j6 P w)) a ys):jy P w H' h' a (.dN xs) :=
 let ⟨o,es,ep,h1,h2,h3,h4,_,h5⟩:=dd; ⟨z,hd,ys,rel,o,es,ep,h1,h2,h3,h4,h5⟩
theorem NP.snoc {xs:List (NK × Addr × V)} {ys:List (NK × Addr × Value)} (r:NP xs ys) {p:NK × Addr × V} {q:NK × Addr × Value} (h:p.1=q.1/\p.2.1=q.2.1/\RelV p.2.2 q.2.2):NP (xs++[p]) (ys++[q]):=by
 induction r with
 | nil=>exact .cons h .nil
 | cons h1 _ ih=>exact .cons h1 ih
theorem Ge.snoc {xs:List (NK × Addr × V)} {ts:List (NK × T)} {K:PySem.W.Frag} (r:Ge K S as xs ts) {k:NK} {b:Addr} {v:V} {t:T} (n:vo K S b k) (h:Rep K S as v t):Ge K S as (xs++[(k,b,v)]) (ts++[(k,t)]):=by
 induction r with
 | nil=>exact .cons n h .nil
 | cons n1 h1 _ ih=>exact .cons n1 h1 ih
theorem Ge.keys {xs:List (NK × Addr × V)} {ts:List (NK × T)} {K:PySem.W.Frag} (r:Ge K S as xs ts):jg K S as (xs.map fun x=>.ref x.2.1) (X6 ts):=by
 induction r with
 | nil=>exact .nil
 | cons n _ _ ih=>exact .cons (a0a n) ih
end
section
variable {X:Cx} {B:Bas} {o k e v:Expr} {mo mk mv mx:M T} {pos pos' p:Pos}
theorem Zc {P:Program} {w:World} {H:Hp} (h:Heap) (hb:sysModules<h.objs.size):jy P w H (h.push { cls:=.type "dict",data:=.dict #[] }) h.objs.size (.dN []) :=
 ⟨Nat.zero_le _,beq_eq_false_iff_ne.mpr (Ne.symm (Nat.ne_of_lt hb)),[],.nil,_,#[],0,Heap.get?_push_size _ rfl,⟨rfl,rfl,rfl⟩,rfl,rfl,.nil⟩
theorem W2 {A:Around} (hu:A.units+64<cLine) {P:Program} {w:World}:(Ac (j6 P w)).room A:=by show A.units+3<cLine; omega
theorem Dz {A:Around} (hu:A.units+64<cLine) {P:Program} {w:World}:(Ac (j6 P w)).room A.in1:=by
 show A.in1.units+3<cLine;have:A.in1.units<=A.units+1:=Nat.le_refl _;omega
theorem a5w (hu:X.A.units+64<cLine) (hk:PE X k (tOf X.K B mk)) (hv:PE X v (tOf X.K B mv)):PE X (.Dict [some k] [v] pos) (tOf X.K B (Yu mk mv)):=by
 intro pins s σ H Q I z8;obtain ⟨st,ps,S,as,R,t,ae,em,q⟩:=z8;unfold Yu at em;split at em
 case h_2=>cases em
 rename_i ts z1 e1;split at em
 case h_2=>cases em
 rename_i tv z2 e2;split at em
 case h_2=>cases em
 rename_i qk e3 e4;cases em;have hn:=I.hok.fresh (Nat.le_refl s.heap.objs.size);have I1:=I.laid (a:=s.heap.objs.size) (o:=.dN []) (h':=s.heap.push { cls:=.type "dict",data:=.dict #[] }) (t':=s.toks) (fun _ _ q=>Heap.get?_push_of_some _ q) (Nat.le_refl _) (Zc s.heap I.big);have R1:=R.newObj (so:=.dnk []) (ob:=.dN []) hn ⟨[],bw,.nil⟩
 refine wpAny_Dict_any rfl rfl (by simp) (by show 1<=15; decide) (thn (a0g hk hv a6j pins _ σ _ (fun ws H3=>∃ x y S3 bp,ws=[(x,y)]/\Rel X.K B z2 σ H3 ((y,tv)::(x,.tup ts)::(.ref s.heap.objs.size,.obj st.sto.length)::ps) S3 bp) I1
  ⟨_,_,S,_,R1,_,z1,e1,fun x H2 S2 aQ R2=>⟨z1,_,S2,aQ,R2,tv,z2,e2,fun y H3 S3 bp R3=>⟨x,y,S3,bp,rfl,R3⟩⟩⟩) fun ws s3 ⟨us,H3,I3,rel,x,y,S3,bp,eu,R3⟩=>?_)
 subst eu;cases rel with
 | @cons _ w1 _ _ hw rr =>
 cases rr;obtain ⟨uk,uv⟩:=w1;have tp:Rep X.K S3 bp (.ref s.heap.objs.size) (.obj st.sto.length):=R3.pend _ (List.mem_cons_of_mem _ (List.mem_cons_of_mem _ List.mem_cons_self));have tk:=R3.top2;have ty:=R3.top;cases tp with
 | obj ha =>
 cases tk with
 | @tup b vs _ g1 g2 =>
 have nk:=Jv g1 g2 e4;obtain rfl:uk=Value.ref b:=hw.1;obtain ⟨a',h1,h2,xs,h3,h4⟩:=R3.sto.at' st.sto.length _ e3;rw [ha] at h1; cases h1;cases h4;obtain ⟨z,hd,ys,rl,dd⟩:=Hx I3 h3 (fun x hx=>nomatch hx);cases rl;show wpAny _ _ (forIn [(Value.ref b,uv)] PUnit.unit _) _ _ s3;rw [List.forIn_cons];refine wpAny_bind (wpAny_bind (wpAny_dictSet_heap (W2 hu) (Ga I3 (nk.mono R3.sub)) dd (fun h' b7 hs=>wpAny_pure ?_) (Nat.zero_le _)));show wpAny _ _ (forIn [] PUnit.unit _) _ _ _;rw [List.forIn_nil];refine wpAny_pure ?_;rw [storedH_new rfl] at b7;have he:∃ q,h'.get? s.heap.objs.size=some q:=let ⟨q,_,_,hq,_⟩:=b7; ⟨q,hq⟩;refine ⟨.ref s.heap.objs.size,_,Nv I3 (by rw [h3]; exact True.intro) hs he (a3a (xs:=[(qk,b,y)]) (by simp [sizeLine_eq]) hd (.cons ⟨rfl,rfl,hw.2⟩ .nil) b7),rfl,?_⟩;exact q _ _ S3 bp ((R3.Pq (so':=.dnk [(qk,tv)]) e3 ha ⟨_,bw,.cons nk ty .nil⟩).drop.drop)
noncomputable def acq (K:PySem.W.Frag) (f:Bool->Bool):R2:=fun x y H Q=>∃ S as a b xs ts k,x=.ref b/\y=.ref a/\Same S H/\H a=some (.dN xs)/\Ge K S as xs ts/\vo K S b k/\Q (.bl (f (G5 k ts).isSome)) H
theorem a7e (hu:X.A.units+64<cLine):OpR X (compareOp .In) (acq X.K id):=by
 intro pins s σ H x y v u Q I rx ry z8;obtain ⟨S,as,a,b,xs,ts,k,ex,ey,sub,h1,h2,h3,q⟩:=z8;subst ex; subst ey;cases rx; cases ry;obtain ⟨z,hd,ys,rl,dd⟩:=Hx I h1 (h2.nests sub);refine wpAny_in_heap (Dz hu) (Ga I (h3.mono sub)) hd dd ⟨.bl (atKey ys k).isSome,H,I.tok _,rfl,?_⟩;cases e:G5 k ts with
 | none=>rw [e] at q; rw [Lr h2 rl e]; exact q
 | some t =>
  obtain ⟨p,v,g1,_⟩:=Lh h2 rl e;rw [e] at q; rw [g1]; exact q
theorem Rp {s s':Sta} {t:T} (h:Ii mx mo s=some (t,s')):∃ ts s1 n aa q,mx s=some (.tup ts,s1)/\mo s1=some (.obj n,s')/\s'.sto[n]? = some (.dnk aa)/\nestsOf ts=some q/\t=.bl (G5 q aa).isSome:=by
 unfold Ii at h;split at h
 case h_2=>cases h
 rename_i ts s1 e1;split at h
 case h_2=>cases h
 rename_i n s2 e2;split at h
 case h_2=>cases h
 rename_i aa q e3 e4;cases h;exact ⟨ts,s1,n,aa,q,e1,e2,e3,e4,rfl⟩
theorem a1d (hu:X.A.units+64<cLine) (hx:PE X e (tOf X.K B mx)) (ho:PE X o (tOf X.K B mo)) (hm:behindInMarks .In o=false:=by rfl):PT X (.Compare e [.In] [o] pos) (cOf X.K B (gw (Ii mx mo))):=(Vk (a7e hu) hx ho hm).imp fun σ H Q z9=>by
 obtain ⟨st,ps,S,as,R,t,ae,em,q⟩:=z9;have e0:=Gy em;obtain ⟨ts,s1,n,aa,qk,e1,e2,e3,e4,et⟩:=Rp e0;cases et;refine ⟨st,ps,S,as,R,_,s1,e1,fun v H1 S1 aC R1=>⟨s1,_,S1,aC,R1,_,ae,e2,fun u H2 S2 aQ R2=>?_⟩⟩;have t2:=R2.top2;have t1:=R2.top;cases t1 with
 | @obj _ a ha =>
  obtain ⟨a',h1,h2,xs,h3,h4⟩:=R2.sto.at' n _ e3;rw [ha] at h1; cases h1;cases t2 with
  | @tup b us _ g1 g2=>exact ⟨S2,aQ,a,b,xs,aa,qk,rfl,rfl,R2.sub,h3,h4,Jv g1 g2 e4,_,rfl,q H2 S2 aQ R2.drop.drop⟩
theorem Jr (hu:X.A.units+64<cLine) (ho:PE X o (tOf X.K B mo)) (hk:PE X k (tOf X.K B mk)) (hs:a9w k):PE X (.Subscript o k pos) (tOf X.K B (Ab mo mk)):=by
 intro pins s σ H Q I z8;obtain ⟨st,ps,S,as,R,t,ae,em,q⟩:=z8;unfold Ab at em;split at em
 case h_2=>cases em
 rename_i n z1 e1;split at em
 case h_2=>cases em
 rename_i ts z2 e2;split at em
 case h_2=>cases em
 rename_i aa qk e3 e4;split at em
 case h_2=>cases em
 rename_i t' e5;cases em;refine Xv PySem.F.slot_dict_getitem.lookup hs (thn (ho pins s σ H (fun x H1=>∃ S1 aC,Rel X.K B z1 σ H1 ((x,.obj n)::ps) S1 aC) I ⟨st,ps,S,as,R,_,z1,e1,fun x H1 S1 aC R1=>⟨S1,aC,R1⟩⟩) fun u s1 z0=>?_);obtain ⟨x,H1,I1,rx,S1,aC,R1⟩:=z0;refine thn (hk pins s1 σ H1 (fun y H2=>∃ S2 aQ,Rel X.K B ae σ H2 ((y,.tup ts)::(x,.obj n)::ps) S2 aQ) I1 ⟨z1,_,S1,aC,R1,_,_,e2,fun y H2 S2 aQ R2=>⟨S2,aQ,R2⟩⟩) fun iv s2 z0=>?_;obtain ⟨y,H2,I2,ry,S2,aQ,R2⟩:=z0;have t2:=R2.top2;have t1:=R2.top;cases t2 with
 | @obj _ a ha =>
  obtain ⟨a',h1,h2,xs,h3,h4⟩:=R2.sto.at' n _ e3;rw [ha] at h1; cases h1;cases t1 with
  | @tup b us _ g1 g2 =>
   obtain rfl:u=Value.ref a:=rx;obtain rfl:iv=Value.ref b:=ry;obtain ⟨z,hd,ys,rl,dd⟩:=Hx I2 h3 (h4.nests R2.sub);obtain ⟨p,v,w1,w2,w3⟩:=Lh h4 rl e5;exact ⟨dd.typeIs,wpAny_getItem_heap (Dz hu) (Ga I2 ((Jv g1 g2 e4).mono R2.sub)) dd w1 ⟨v,H2,I2.tok _,w2,q v H2 S2 aQ (R2.drop.drop.push w3)⟩⟩
theorem Wd (hu:X.A.units+64<cLine) (ho:PE X o (tOf X.K B mo)) (hk:PE X k (tOf X.K B mk)) (hv:PE X v (tOf X.K B mv)) (hs:swapsWith v (some (.Subscript o k pos')) pos.line X.env=pure false:=by rfl) :
  PS X (.Assign [.Subscript o k pos'] v pos) (sOf X.K B (Ea mo mk mv)):=by
 intro pins s σ H D I z8;obtain ⟨st,ps,S,as,R,fl,ae,em,q⟩:=z8;unfold Ea at em;split at em
 case h_2=>cases em
 rename_i t z1 e1;split at em
 case h_2=>cases em
 rename_i n z2 e2;split at em
 case h_2=>cases em
 rename_i ts z3 e3;split at em
 case h_2=>cases em
 rename_i aa qk e4 e5;split at em
 case isFalse=>cases em
 rename_i hl;cases em;refine wpAny_Assign_Subscript (thn (hv pins s σ H (fun x H1=>∃ S1 aC,Rel X.K B z1 σ H1 ((x,t)::ps) S1 aC) I ⟨st,ps,S,as,R,t,z1,e1,fun x H1 S1 aC R1=>⟨S1,aC,R1⟩⟩) fun r s1 z0=>?_) hs;obtain ⟨vv,H1,I1,rv,S1,aC,R1⟩:=z0;refine thn (ho pins s1 σ H1 (fun x H2=>∃ S2 aQ,Rel X.K B z2 σ H2 ((x,.obj n)::(vv,t)::ps) S2 aQ) I1 ⟨z1,_,S1,aC,R1,_,z2,e2,fun x H2 S2 aQ R2=>⟨S2,aQ,R2⟩⟩) fun u s2 z0=>?_;obtain ⟨x,H2,I2,rx,S2,aQ,R2⟩:=z0;refine thn (hk pins s2 σ H2 (fun y H3=>∃ S3 bp,Rel X.K B z3 σ H3 ((y,.tup ts)::(x,.obj n)::(vv,t)::ps) S3 bp) I2 ⟨z2,_,S2,aQ,R2,_,z3,e3,fun y H3 S3 bp R3=>⟨S3,bp,R3⟩⟩) fun iv s3 z0=>?_;obtain ⟨y,H3,I3,ry,S3,bp,R3⟩:=z0;have t2:=R3.top2;have t1:=R3.top;have tv:Rep X.K S3 bp vv t:=R3.pend _ (List.mem_cons_of_mem _ (List.mem_cons_of_mem _ List.mem_cons_self));cases t2 with
 | @obj _ a ha =>
  obtain ⟨a',h1,h2,xs,h3,h4⟩:=R3.sto.at' n _ e4;rw [ha] at h1; cases h1;cases t1 with
  | @tup b us _ g1 g2 =>
   obtain rfl:u=Value.ref a:=rx;obtain rfl:iv=Value.ref b:=ry;have nk:=Jv g1 g2 e5;obtain ⟨z,hd,ys,rl,dd⟩:=Hx I3 h3 (h4.nests R3.sub);have hlen:xs.length<sizeLine:=by rw [h4.length]; exact Nat.lt_of_lt_of_le hl.1 jw
   have kG:ys.length<=sizeLine:=by rw [<- rl.length]; exact z
   refine wpAny_setItem_heap (Dz hu) (Ga I3 (nk.mono R3.sub)) dd (fun h' b7 hs=>?_) kG;rw [storedH_new (Lr h4 rl hl.2)] at b7;have he:∃ q,h'.get? a=some q:=let ⟨q,_,_,hq,_⟩:=b7; ⟨q,hq⟩;exact ⟨σ,_,Nv I3 (by rw [h3]; exact True.intro) hs he (a3a (xs:=xs++[(qk,b,vv)]) (by rw [List.length_append]; exact hlen) hd (rl.snoc ⟨rfl,rfl,rv⟩) b7),q _ _ S3 bp ((R3.Pq (so':=.dnk (aa++[(qk,t)])) e4 ha ⟨_,bw,h4.snoc nk tv⟩).drop.drop.drop)⟩
theorem Ws:∀ {xs:List (NK × Addr × V)} {ys:List (NK × Addr × Value)} {us:List Value},NP xs ys->us.length=xs.length->(∀ (j:Nat) (v:Value),us[j]? = some v->∃ y,ys[j]? = some y/\v=.ref y.2.1)->Vals (xs.map fun x=>V.ref x.2.1) us:=by
 intro xs ys us r
 induction r generalizing us with
 | nil =>
  intro hl _;cases us with
  | nil=>exact .nil
  | cons _ _=>simp at hl
 | cons h _ ih =>
  intro hl hu;cases us with
  | nil=>simp at hl
  | cons u us =>
   refine .cons ?_ (ih (by simpa using hl) fun j v e=>by simpa using hu (j+1) v (by simpa using e));obtain ⟨y,e1,e2⟩:=hu 0 u rfl;simp at e1;subst e1;rw [e2,<- h.2.1];rfl
theorem Ij (hc:X.calm=true):Dy X (.type "list") (fun zs H Q=>∃ S as a xs ts,zs=[.ref a]/\Same S H/\H a=some (.dN xs)/\Ge X.K S as xs ts/\∀ v H' S',Ext S H S' H'->Rep X.K S' as v (.lst (X6 ts))->Q v H'):=by
 intro pins s σ H zs us Q I rs z8;obtain ⟨S,as,a,xs,ts,ex,sub,h1,h2,q⟩:=z8;subst ex;obtain ⟨u,rfl,ru⟩:=rs.one;cases ru;obtain ⟨z,hd,ys,rl,o,es,ep,g1,g2,g3,g4,g5,g6⟩:=Hx I h1 (h2.nests sub);have bE:es.size=xs.length:=by rw [<- Array.length_toList,g4,List.length_map,rl.length]
 refine PySem.W.kdl_call (a5d hd) (I.ok.hd hc) ⟨o,g1,g2,g3⟩ (by rw [bE]; exact z) fun h' tk acc c kp at' it=>?_;have hp:H s.heap.objs.size=none:=I.hok.fresh (Nat.le_refl _);have len:acc.toList.length=xs.length:=by rw [<- bE]; simpa using it.1
 have vals:Vals (xs.map fun x=>V.ref x.2.1) acc.toList:=by
  refine Ws rl len fun j v e=>?_;obtain ⟨en,h3,h4⟩:=it.2 j v (by rw [<- Array.getElem?_toList]; exact e);rw [<- Array.getElem?_toList,g4,List.getElem?_map] at h3;obtain ⟨y,h5,h6⟩:=Option.map_eq_some_iff.mp h3;exact ⟨y,h5,by rw [h4,<- h6]; rfl⟩
 have x:=Ext.laid sub hp (.lst (xs.map fun x=>V.ref x.2.1));refine ⟨.ref _,_,I.laid (a:=s.heap.objs.size) (o:=.lst (xs.map fun x=>V.ref x.2.1)) (h':=h') (t':=tk) kp (Nat.le_refl _) ⟨by rw [List.length_map]; exact z,acc.toList,c,vals,by simpa using at'⟩,rfl,q _ _ _ x (.lst (SqL.of bw) (h2.keys.mono x.s nol))⟩
end
section
variable {X:Cx} {B:Bas} {e:Expr} {ms:M (List T)} {pos p p2 p3 q1 a8:Pos} {Cl:Addr} {f y:Str} {E:XK} {F:FnX} {i j:Nat}
theorem a4f (h:PE X e (tXc X.K B Cl f E F ms)) (hN:X.N.Nodup) (hi:X.N[i]? = some y) (hy:Loc X.env.scope y) (dQ:swapsWith e (some (.Name y a8)) q1.line X.env=pure false:=by rfl)
  (hf:X.fn y=true\/X.env.scope.names.lookup y=some .local:=by first | exact .inl rfl | exact .inr rfl | assumption) :
  PS X (.Assign [.Name y a8] e q1) (Iw X.K B Cl f E (N8 F ms (a3e i))):=(j7 hN hi hy h dQ hf).imp fun D σ H z9=>by
 obtain ⟨st,ps,S,as,R,fl,ae,em,fin⟩:=z9;obtain ⟨ts,s1,r,sto,e1,e2,z⟩:=Vm em;refine ⟨st,ps,S,as,R,ts,s1,r,sto,e1,e2,?_⟩;cases r with
 | inl t =>
  obtain ⟨rfl,rfl⟩:=z;exact fun v H' S' ag R'=>fin _ _ _ _ (R'.drop.put R'.top)
 | inr t =>
  obtain ⟨rfl,rfl⟩:=z;exact fun v dx H' S' ag R' hd=>fin v dx _ H' S' ag R' hd
theorem Tv (hc:X.calm=true) (hg:Gl X "list") (hm:X.mg "list" = none) (h:PE X e (tXc X.K B Cl f E F ms)) (hs:Kc (.Constant (.int 0) j p3)) (he:starEach [.Subscript e (.Constant (.int 0) j p3) p2] X.env=(false,eval (.Subscript e (.Constant (.int 0) j p3) p2) X.env)::starEach [] X.env:=by rfl) :
  PS X (.Return (some (.Call (.Name "list" p) [.Subscript e (.Constant (.int 0) j p3) p2] [] pos)) q1) (Iw X.K B Cl f E (G3 F ms)) :=
 (a2g (vh (Ij hc) hg hm PyProof.Rows.boot_list (nq (a4x a2w h Xw hs) wg he))).imp fun D σ H z9=>by
  obtain ⟨st,ps,S,as,R,fl,ae,em,fin⟩:=z9;unfold G3 at em;split at em
  case h_2=>cases em
  rename_i ts s1 e1;split at em
  ·rename_i n rest sto e2;split at em
   case h_2=>cases em
   rename_i aa e3;cases em;refine ⟨st,ps,S,as,R,ts,s1,_,sto,e1,e2,fun v H' S' ag R'=>?_⟩;have tp:=R'.top;cases tp with
   | @tup b vs _ g1 g2 =>
    cases g2 with
    | @cons v0 _ vs' _ r1 r2 =>
     cases r1 with
     | @obj _ a ha =>
      obtain ⟨a',h1,h2,xs,h3,h4⟩:=R'.sto.at' n _ e3;rw [ha] at h1; cases h1;exact ⟨b,_,0,_,rfl,rfl,j4 R'.sub g1,by simp [atI,ixN],S',ag,a,xs,aa,rfl,R'.sub,h3,h4,fun res H3 S3 x rp=>fin _ _ _ _ _ ((R'.drop.ext x).push rp)⟩
  ·rename_i t sto e2;cases em;exact ⟨st,ps,S,as,R,ts,s1,_,sto,e1,e2,fun v dx H' S' ag R' hd=>fin v dx _ H' S' ag R' hd⟩
  ·cases em
end
end C
end
section
namespace L2
open PySem PySem.Spec PyProof.Rows
theorem Um {P:Program} {w:World} {K:PySem.W.Frag} {mg mb:Str->Option Value} {CX:CXT} {k:Nat} {fa a:Addr} {fd:FuncData} {x:Str} {sp:Sp} {ax:Shared} {vs:List Value} {ns:List Int} {tabs:List (Addr × Addr)}
  (KX:K.In ax.heap) (fc:ax.heap.Ns mainGlobals mg) (hb:ax.heap.Ns builtinsNs mb) (k7:∀ x:Str,x ≠ "__name__" -> mb x=bootBuiltins x) (iF:ax.heap.NoLimit) (hg:ax.gens = #[]) (cB:C.BM ax.heap mg)
  (ht:∀ q∈tabs,K.lookup q.2=none/\PySem.W.CodeHd ax.heap q.1 q.2/\ax.heap.get? q.2=some (PySem.W.tabObj #[]))
  (ha:ax.heap.get? a=some { cls:=.type "list",data:=.seq vs.toArray }) (hi:IntsAre vs ns) (hl:ns.length<=sizeLine) (hr:zy k callerA)
  (F:∀ base:Heap,K.In base->base.Ns mainGlobals mg->C.BM base mg->qz P w K mg base CX k fa fd [x] sp) (dq:∀ (s:Shared) (u:Value),BindsTo s fd ⟨[u],[]⟩ [(x,u)])
  (dD:∀ H:Hp,(∀ q∈tabs,H q.2=some (.tbl #[])/\q.2≠a)->SqL K H a (ns.map V.int)->sp [.ref a] H (fun v _=>v=.bl true) fun _ _ _=>False)
  (iG:∀ H e s',CX [] H ax (fun _ _ _=>False) e s'->False) :
  codeAny (model P w) callerA (.call (.ref fa) ⟨[.ref a],[]⟩) (fun r s'=>r=.ok (.ret (.bool true))/\OldK ax.heap s'.heap/\s'.os=ax.os/\AllBare s'.gens) ax:=by
 have rv:=Ku hi;have ir:=hi.length
 have jD:∀ q∈tabs,q.2≠a:=fun q hq z=>by
  have e:=(ht q hq).2.2;rw [z,ha] at e; cases e
 have core:∀ H:Hp,(∀ b u,H b=some u->(b=a/\(∃ o xs,u=.frz o (.lst xs))/\K.lookup a=none)\/(∃ q∈tabs,b=q.2/\u=.tbl #[]))->(∀ q∈tabs,H q.2=some (.tbl #[]))->SqL K H a (ns.map V.int)->HOk P w H ax.heap ->
   codeAny (model P w) callerA (.call (.ref fa) ⟨[.ref a],[]⟩) (fun r s'=>r=.ok (.ret (.bool true))/\OldK ax.heap s'.heap/\s'.os=ax.os/\AllBare s'.gens) ax:=by
  intro H hT hJ hS hok;have bZ:∀ {b:Addr} {o:Obj},ax.heap.get? b=some o->H b=none->(Yh ax.heap H).get? b=some o:=fun e n=>a09 e n
  have cR:∀ {b:Addr} {o:Obj},ax.heap.get? b=some o->(∀ it n,o.data≠.seq it n)->(∀ ps,o.data≠.fields ps)->H b=none:=fun {b o} e n1 n2=>by
   cases q:H b with
   | none=>rfl
   | some u =>
    rcases hT b u q with ⟨rfl,_⟩ | ⟨t,h1,rfl,_⟩
    ·rw [ha] at e; cases e; exact absurd rfl (n1 _ _)
    ·rw [(ht t h1).2.2] at e; cases e; exact absurd rfl (n2 _)
  have gC:∀ {b:Addr} {m:Str->Option Value},ax.heap.Ns b m->(Yh ax.heap H).Ns b m:=fun {b m} ⟨o,es,ep,e,d,r⟩=>⟨o,es,ep,bZ e (cR e (fun _ _ z=>by rw [d] at z; cases z) fun _ z=>by rw [d] at z; cases z),d,r⟩
  have iV:K.In (Yh ax.heap H):=fun b o e=>bZ (KX b o e) (by
   cases q:H b with
   | none=>rfl
   | some u =>
    rcases hT b u q with ⟨rfl,_,z⟩ | ⟨t,h1,rfl,_⟩
    ·rw [z] at e; cases e
    ·rw [(ht t h1).1] at e; cases e)
  have hM:Mod K mg (Yh ax.heap H):=⟨iV,gC fc,⟨mb,gC hb,k7⟩,let ⟨mc,h1,h2⟩:=iF; ⟨mc,gC h1,h2⟩⟩;have hB:C.BM (Yh ax.heap H) mg:=let ⟨bm,ob,b1,b2,b3,b4,b5,b6⟩:=cB; ⟨bm,ob,b1,b2,bZ b3 (cR b3 (fun _ _ z=>by rw [b6] at z; cases z) fun _ z=>by rw [b6] at z; cases z),b4,b5,b6⟩;have e0:Zu P w K mg (Yh ax.heap H) callerA [] ax H:=⟨rfl,hM,fun b o e=>a6q e,Nat.le_of_eq (Uc _ _),trivial,fun b hb=>absurd (show b∈([]:List Addr) from hb) (by simp),hok,.of_eq hg⟩;refine codeAny_mono ((F _ iV (gC fc) hB).run callerA [] ax H ⟨[.ref a],[]⟩ [.ref a] [.ref a] _ _ hr e0 (dq ax (.ref a)) (.cons rfl .nil) (dD H (fun q hq=>⟨hJ q hq,jD q hq⟩) hS)) fun r s' h=>?_;cases r with
  | error e=>exact (iG H e s' h).elim
  | ok fl =>
   cases fl with
   | next=>exact False.elim h
   | brk=>exact False.elim h
   | cont=>exact False.elim h
   | ret u =>
    obtain ⟨v,H',os,bare,un,hok',r',q⟩:=h;have q':v=.bl true:=q;subst q';obtain rfl:u=Value.bool true:=r';refine ⟨rfl,⟨fun b o e=>?_,fun b o e=>un.there b o e (by simp)⟩,os,bare⟩;cases q:H b with
    | none=>exact .inl (un.keep b o e q (by intro z; exact absurd (show b∈([]:List Addr) from z) (by simp)) (by simp))
    | some u =>
     rcases hT b u q with ⟨rfl,⟨ob,xs,rfl⟩,_⟩ | ⟨t,h1,rfl,rfl⟩
     ·have z2:=un.frzs _ ob _ q;obtain ⟨e1,_⟩:=hok _ _ q;obtain ⟨e2,_⟩:=hok' _ _ z2;rw [e] at e1; cases e1;exact .inl e2
     ·obtain ⟨more,z2⟩:=un.tbls _ _ q;have e2:s'.heap.get? t.2=some _:=hok' _ _ z2;have e1:=(ht t h1).2.2;rw [e] at e1; cases e1;exact .inr (.inl ⟨((ht t h1).2.1.tab e).isCodeTable,rfl,#[],more,rfl,e2⟩)
 have kz:∀ b,(b∈tabs.map (·.2))\/¬ (b∈tabs.map (·.2)):=fun b=>Classical.em _;cases hk:K.lookup a with
 | some o =>
  have e:=KX a o hk;rw [ha] at e;cases e;refine core (fun b=>if b∈tabs.map (·.2) then some (.tbl #[]) else none) (fun b u z=>?_) (fun q hq=>if_pos (List.mem_map_of_mem hq)) (.inr ⟨_,vs.toArray,_,hk,rfl,rfl,rfl,by rw [List.size_toArray,ir]; exact hl,by simpa using rv⟩) (fun b u z=>?_)
  ·try dsimp only at z
   split at z
   ·rename_i hm;cases z;obtain ⟨q,hq,rfl⟩:=List.mem_map.mp hm;exact .inr ⟨q,hq,rfl,rfl⟩
   ·cases z
  ·try dsimp only at z
   split at z
   ·rename_i hm;cases z;obtain ⟨q,hq,rfl⟩:=List.mem_map.mp hm;exact (ht q hq).2.2
   ·cases z
 | none =>
  refine core (fun b=>if b∈tabs.map (·.2) then some (.tbl #[]) else if b=a then some (.frz { cls:=.type "list",data:=.seq vs.toArray } (.lst (ns.map V.int))) else none) (fun b u z=>?_) (fun q hq=>if_pos (List.mem_map_of_mem hq)) (.inl (.inr ⟨{ cls:=.type "list",data:=.seq vs.toArray },?_⟩)) (fun b u z=>?_)
  ·try dsimp only at z
   split at z
   ·rename_i hm;cases z;obtain ⟨q,hq,rfl⟩:=List.mem_map.mp hm;exact .inr ⟨q,hq,rfl,rfl⟩
   ·split at z
    ·rename_i hb;cases z;exact .inl ⟨hb,⟨_,_,rfl⟩,hk⟩
    ·cases z
  ·show (if a∈tabs.map (·.2) then _ else _)=_;rw [if_neg,if_pos rfl];intro hm;obtain ⟨q,hq,e⟩:=List.mem_map.mp hm;exact jD q hq e
  ·try dsimp only at z
   split at z
   ·rename_i hm;cases z;obtain ⟨q,hq,rfl⟩:=List.mem_map.mp hm;exact (ht q hq).2.2
   ·split at z
    ·rename_i hb;cases z;subst hb;exact ⟨ha,by rw [List.length_map]; exact hl,vs,_,rv,ha⟩
    ·cases z
theorem a0w {l:PySem.W.OpenLaw} {n k:Nat} {q:Program} {loose:List Str} {XP:(Str->Option Value)->Heap->Prop} {YP:World->Heap->Prop} {d:DefRec} {K:Params->PySem.W.Frag} {CX:World->CXT} {sp:World->Sp} {x:Str} {ts:List Addr} {tabs:Params->List (Addr × Addr)}
  (hn:l.most=some n) (i5:n<=sizeLine) (fi:d.params.defaults=[]) (hr:zy k callerA)
  (hY:∀ (w:World) (h:Heap),YP w h->(K w.params).In h/\∀ P∈ts,h.get? P=some (PySem.W.tabObj #[]))
  (hT:∀ (w:World),∀ q∈tabs w.params,q.2∈ts/\(K w.params).lookup q.2=none/\∀ h:Heap,(K w.params).In h->PySem.W.CodeHd h q.1 q.2)
  (F:∀ (w:World) (mg:Str->Option Value) (fa:Addr) (h:Heap),(K w.params).In h->h.Ns mainGlobals mg->mg d.name=some (.ref fa) ->
   ∃ fd:FuncData,(∀ (s:Shared) (u:Value),BindsTo s fd ⟨[u],[]⟩ [(x,u)]) /\
    ∀ base:Heap,(K w.params).In base->base.Ns mainGlobals mg->C.BM base mg->qz l.prog w (K w.params) mg base (CX w) k fa fd [x] (sp w))
  (dD:∀ (w:World) (H:Hp) (a:Addr) (ns:List Int),ns.length<=n->(∀ q∈tabs w.params,H q.2=some (.tbl #[])/\q.2≠a)->SqL (K w.params) H a (ns.map V.int)->sp w [.ref a] H (fun v _=>v=.bl true) fun _ _ _=>False)
  (iG:∀ (w:World) (H:Hp) (s:Shared) (e:Value) (s':Shared),CX w [] H s (fun _ _ _=>False) e s'->False) :
  PySem.W.WalkO q loose XP YP l.row.toRowW d [] (fun f vs=>PySem.call f vs):=by
 refine Att.O9 hn fi fun w s₀ ax mg mb fa o pm cd doc a vs ns G Y ho hd bG bj cX hints hlen hg=>?_;obtain ⟨KX,TX⟩:=hY w _ Y;obtain ⟨fd,hb,hF⟩:=F w mg fa _ KX G.T.g bj;exact Um (tabs:=tabs w.params) KX G.T.g G.T.b G.T.builtins G.T.nolimit hg G.T.bmain (fun q hq=>let ⟨h1,h2,h3⟩:=hT w q hq; ⟨h2,h3 _ KX,TX _ h1⟩) cX hints (Nat.le_trans hlen i5) hr hF hb (fun H hO hS=>dD w H a ns hlen hO hS) fun H e s'=>iG w H ax e s'
end L2
namespace C
open PySem PySem.Spec PyProof.Rows L2
theorem a5q {K:PySem.W.Frag} {F:Fn} {H:Hp} {a:Addr} {ns:List Int} {tabs:List (Addr × Str)} (hS:SqL K H a (ns.map V.int)) (hT:∀ q∈tabs,H q.1=some (.tbl #[])/\q.1≠a) (ie:(tabs.map (·.1)).Nodup) (hE:∃ st,F [.lst (ns.map T.int)] (tabs.map fun q=>.tab q.1 q.2)=some (.bl true,st)):spF K 1 F [.ref a] H (fun v _=>v=.bl true) fun _ _ _=>False:=by
 obtain ⟨st,hF⟩:=hE
 have reps:∀ (S:Hp) (as:List Addr) (l:List Int),jg K S as (l.map V.int) (l.map T.int):=fun S as l=>by
  induction l with
  | nil=>exact .nil
  | cons x l ih=>exact .cons (.int x) ih
 let S:Hp:=fun p=>if p=a then H p else none
 have sa:S a=H a:=if_pos rfl
 have sub:Same S H:=fun p u h=>by
  by_cases e:p=a
  ·subst e; rw [<- sa]; exact h
  ·have:S p=none:=if_neg e;rw [this] at h; cases h
 have sq:SqL K S a (ns.map V.int):=by
  rcases hS with h | h
  ·refine .inl ?_;unfold Rd at h ⊢;rw [sa]; exact h
  ·exact .inr h
 refine ⟨S,tabs.map (·.1),tabs.map fun q=>.tab q.1 q.2,[.lst (ns.map T.int)],.bl true,st,sub,⟨by simp,ie,fun n so e=>?_⟩,.cons (.lst sq (reps S _ ns)) .nil,rfl,hF,fun v H' S' ag _ _ _ r=>?_⟩
 ·rw [List.getElem?_map] at e;obtain ⟨q,e1,rfl⟩:=Option.map_eq_some_iff.mp e;obtain ⟨h1,h2⟩:=hT q (List.mem_of_getElem? e1);exact ⟨q.1,by rw [List.getElem?_map,e1]; rfl,if_neg h2,rfl,#[],h1,trivial,fun pos cv z=>by simp [codeAmong] at z⟩
 ·cases r;rfl
section
variable {X:Cx} {B:Bas} {a b v:Expr} {es:List Expr} {mv:M T} {ms:M (List T)} {pos p2 px py pt eV:Pos} {x y:Str} {i j kt k2 jj:Nat}
theorem a89 (hc:X.calm=true) (hN:X.N.Nodup) (hi:X.N[i]? = some x) (hj:X.N[j]? = some y) (bt:i≠j)
  (hx:X.env.scope.names.lookup x=some .local) (hy:X.env.scope.names.lookup y=some .local) (ha:PA X [a,b] (aOf X.K B ms))
  (hw:swappedStores [.Tuple [.Name x px,.Name y py] kt pt] (.Tuple [a,b] k2 eV) X.env=pure (some [x,y]))
  (hs:swapsWithSole [.Tuple [.Name x px,.Name y py] kt pt] (.Tuple [a,b] k2 eV) pos.line X.env=pure false:=by rfl) :
  PS X (.Assign [.Tuple [.Name x px,.Name y py] kt pt] (.Tuple [a,b] k2 eV) pos) (sOf X.K B (a71 i j ms)):=(a88 hc hN hi hj bt hx hy ha hw hs).imp fun D σ H z9=>by
 obtain ⟨st,ps,S,as,R,fl,ae,em,q⟩:=z9;unfold a71 at em;split at em
 case h_2=>cases em
 rename_i t u s1 e1;cases em;refine ⟨st,ps,S,as,R,_,s1,e1,fun vs H1 S1 aC R1 rs=>?_⟩;cases rs with
 | cons r1 rs =>
  cases rs with
  | cons r2 rs =>
   cases rs;exact ⟨_,_,rfl,q _ _ _ _ ((R1.put r1).put r2)⟩
theorem a01 {env:List Slot} (h:noOwn env=true) {i:Nat} {t:T} (e:env[i]? = some (some (t,true))):False:=by
 have:=List.all_eq_true.mp h _ (List.mem_of_getElem? e);simp at this
theorem Rel.a3r {K:PySem.W.Frag} {st:Sta} {σ:L2.St} {H S:Hp} {ps:List (V × T)} {as:List Addr} (r:Rel K B st σ H ps S as) (ho:noOwn st.env=true):Rel K ⟨S,as,H⟩ st σ H ps S as :=
 ⟨r.sub,⟨Same.refl _,nol,fun p o h1 h2 h3=>⟨h1,h2,h3⟩⟩,fun i t f e=>by
  obtain ⟨v,h1,h2,h3⟩:=r.slots i t f e;exact ⟨v,h1,h2,fun z=>by subst z; exact (a01 ho e).elim⟩,r.apart,r.sto,r.pend,r.len⟩
theorem Y7 (hu:X.A.units+64<cLine) (hk:PA X es (aOf X.K B ms)) (hm:∀ st ts ae,ms st=some (ts,ae)->ts.length<=1000) (hv:∀ B,PE X v (tOf X.K B mv)):PE X (.Dict [some (.Tuple es jj p2)] [v] pos) (tOf X.K B (Te ms mv)):=by
 intro pins s σ H Q I z8;obtain ⟨st,ps,S,as,R,t,ae,em,q⟩:=z8;unfold Te at em;split at em
 case h_2=>cases em
 rename_i ts z1 e1;split at em
 case isFalse=>cases em
 rename_i eC;split at em
 case h_2=>cases em
 rename_i tv z2 e2;split at em
 case h_2=>cases em
 rename_i qk e3 e4;cases em;have hn:=I.hok.fresh (Nat.le_refl s.heap.objs.size);have I1:=I.laid (a:=s.heap.objs.size) (o:=.dT []) (h':=s.heap.push { cls:=.type "dict",data:=.dict #[] }) (t':=s.toks) (fun _ _ q=>Heap.get?_push_of_some _ q) (Nat.le_refl _) (a0f s.heap I.big);have R1:=R.newObj (so:=.dit []) (ob:=.dT []) hn ⟨[],bw,.nil⟩
 refine wpAny_Dict_any rfl rfl (by simp) (by show 1<=15; decide) (thn (pairTrees_cons_walk (Q:=fun ws s3=>∃ b y H3 S3 bp uv,ws=[(Value.ref b,uv)]/\L2.Inv X pins σ H3 s3/\RelV y uv/\Rel X.K B { z1 with sto:=z2.sto } σ H3 ((y,tv)::(.ref s.heap.objs.size,.obj st.sto.length)::ps) S3 bp/\S3 b=some (.tup (qk.map kV))) (thn (a2f hk pins _ σ _ (fun x H2=>∃ b S2 aQ,x=.ref b/\Rel X.K B z1 σ H2 ((.ref s.heap.objs.size,.obj st.sto.length)::ps) S2 aQ/\S2 b=some (.tup (qk.map kV))) I1
  ⟨_,_,S,_,R1,ts,z1,e1,fun us H2 S2 aQ R2 rs=>⟨by rw [rs.length]; exact Nat.le_of_lt (Bb (hm _ _ _ e1)),fun p hp=>?_⟩⟩) fun uk s1 ⟨x,H2,I2,rx,b,S2,aQ,ex,R2,hb⟩=>thn (hv ⟨S2,aQ,H2⟩ pins s1 σ H2 (fun y H3=>∃ S3 bp,Rel X.K B { z1 with sto:=z2.sto } σ H3 ((y,tv)::(.ref s.heap.objs.size,.obj st.sto.length)::ps) S3 bp/\Same S2 S3) I2
  ⟨z1,_,S2,aQ,R2.a3r eC,tv,z2,e2,fun y H3 S3 bp R3=>⟨S3,bp,(R2.call R3.grow R3.sub R3.sto).push R3.top,R3.grow.same⟩⟩) fun uv s2 z9=>pairTrees_nil_walk (by
   obtain ⟨y,H3,I3,ry,S3,bp,R3,sm⟩:=z9;subst ex; cases rx;exact ⟨b,y,H3,S3,bp,uv,rfl,I3,ry,R3,sm _ _ hb⟩))) fun ws s3 ⟨b,y,H3,S3,bp,uv,ew,I3,ry,R3,hb⟩=>?_)
 ·have x:=Ext.laid R2.sub hp (.tup us);exact ⟨p,_,aQ,rfl,R2.ext x,by rw [bw,Qd rs e4]⟩
 subst ew;have tp:Rep X.K S3 bp (.ref s.heap.objs.size) (.obj st.sto.length):=R3.top2;have ty:=R3.top;cases tp with
 | obj ha =>
 obtain ⟨a',h1,h2,xs,h3,h4⟩:=R3.sto.at' st.sto.length _ e3;rw [ha] at h1; cases h1;cases h4;obtain ⟨z,hd,ys,rl,dd⟩:=aa7 I3.hok h3;cases rl;show wpAny _ _ (forIn [(Value.ref b,uv)] PUnit.unit _) _ _ s3;rw [List.forIn_cons];have gr:H3 b=some (.tup (qk.map kV)):=R3.sub _ _ hb;refine wpAny_bind (wpAny_bind (wpAny_dictSet_heap (show (tupleKind (j6 X.prog X.w)).room X.A from by show X.A.units<cLine; omega) (Ma I3.hok gr) dd (fun h' b7 hs=>wpAny_pure ?_) (Nat.zero_le _)));show wpAny _ _ (forIn [] PUnit.unit _) _ _ _;rw [List.forIn_nil];refine wpAny_pure ?_;rw [storedH_new rfl] at b7;have he:∃ q,h'.get? s.heap.objs.size=some q:=let ⟨q,_,_,hq,_⟩:=b7; ⟨q,hq⟩;have jP:b≠s.heap.objs.size:=fun z=>by rw [z,h3] at gr; cases gr
 refine ⟨.ref s.heap.objs.size,_,Nv (ob:=.dT [(qk,y)]) I3 (by rw [h3]; exact True.intro) hs he ?_,rfl,?_⟩
 ·obtain ⟨o,es,ep,g1,g2,g3,g4,_,g5⟩:=b7;exact ⟨by simp [sizeLine_eq],hd,[(qk,b,uv)],.cons ⟨rfl,by rw [c7 jP]; exact gr,ry⟩ .nil,o,es,ep,g1,g2,g3,g4,g5⟩
 ·exact q _ _ S3 bp ((R3.Pq (so':=.dit [(qk,tv)]) e3 ha ⟨_,bw,.cons ty .nil⟩).drop)
end
theorem Vc {k:Option NameKind} (h:k=some NameKind.cell):k≠some .local:=by rw [h]; decide
theorem a3v.of {x:Str} {scope:Scope} {clos:List (Str × Addr)} {ns:List Str} (e:clos.map (·.1)=ns) (k:scope.kind=.function) (c:scope.isCoroutine=false) (g:scope.isGenerator=false) (nd:(x::ns).Nodup) (nc:∀ y∈scope.names,y.2≠.cell) (par:scope.names.lookup x=some .local)
  (fre:∀ y∈scope.names,y.2=.free->y.1∈ns) (isf:∀ y∈ns,scope.names.lookup y=some .free) (ad:clos.Pairwise fun x y=>x.2≠y.2):a3v x scope clos:=by
 subst e;refine ⟨k,c,g,nd,nc,par,fun y h=>?_,isf,ad⟩;have:=fre _ (PySem.mem_of_lookup h) rfl;obtain ⟨p,hp,e⟩:=List.mem_map.mp this;cases z:clos.lookup y with
 | some c=>exact ⟨c,rfl⟩
 | none =>
  exfalso;have:=List.lookup_eq_none_iff.mp z p hp;simp [e] at this
end C
end
section
namespace C
open PySem
end C
end
section
namespace K
open C PySem
noncomputable def qx:Fn:=uf 2
 (qd (mOp Cm (mOp fj (bf 0) (aq (.int 0))) (iy aac (aj (v9 2 [1] (Em [0,1]) (J5 (mOp fj (bf 0) (aq (.int 1)))) En (mOp Pj (bf 1) (mOp fj (bf 2) (bf 0)))) dz))))
mutual
def jd:Nat->Fn
 | 0=>fun _ _=>none
 | n+1=>uf 4
   (kj (qb 3 (mOp fj (bf 0) (aq (.int 0))))
   (kj (sIf (gw (mOp eqO (bf 3) (aq (.str "most"))))
   (qd (mOp leT (gk qx (aj (mOp fj (bf 0) (aq (.int 1))) (aj (bf 1) dz))) (aq (.int 0))))
   yx)
   (kj (sIf (gw (mOp eqO (bf 3) (aq (.str "rest"))))
   (qd (mOp eqO (mOp Hs (gk qx (aj (mOp fj (bf 0) (aq (.int 1))) (aj (bf 1) dz))) (mOp fj (bf 0) (aq (.int 2)))) (aq (.int 0))))
   yx)
   (kj (sIf (gw (mOp eqO (bf 3) (aq (.str "at"))))
   (qd (mOp eqO (mOp fj (bf 2) (mOp fj (bf 0) (aq (.int 1)))) (mOp fj (bf 0) (aq (.int 2)))))
   yx)
   (kj (sIf (gw (mOp eqO (bf 3) (aq (.str "not"))))
   (qd (Sx (U7 (gw (gk (jd n) (aj (mOp fj (bf 0) (aq (.int 1))) (aj (bf 1) (aj (bf 2) dz))))))))
   yx)
   (kj (sIf (gw (mOp eqO (bf 3) (aq (.str "and"))))
   (qd (Sx (U7 (gw (gk (uh n) (aj (aq (.bl false)) (aj (mOp fj (bf 0) (aq (.int 1))) (aj (bf 1) (aj (bf 2) dz)))))))))
   yx)
   (qd (gk (uh n) (aj (aq (.bl true)) (aj (mOp fj (bf 0) (aq (.int 1))) (aj (bf 1) (aj (bf 2) dz))))))))))))
def uh:Nat->Fn
 | 0=>fun _ _=>none
 | n+1=>uf 5
   (kj (Yj (hName 4) (J5 (bf 1))
   (sIf (gw (mOp eqO (gk (jd n) (aj (bf 4) (aj (bf 2) (aj (bf 3) dz)))) (bf 0)))
   (qd (aq (.bl true)))
   yx))
   (qd (aq (.bl false))))
end
noncomputable def j8:Fn:=uf 1
 (qd (iy (fun l=>some (.tup l)) (aj (iy Ag (aj (v9 1 [] (hName 0) (J5 (mOp fj (bf 0) (aq (.int 1)))) En (aq (.int 0))) dz)) (aj (iy Ag (aj (v9 1 [] (hName 0) (J5 (mOp fj (bf 0) (aq (.int 0)))) En (mOp fj (bf 0) (aq (.int 4)))) dz)) dz))))
noncomputable def mq:Fn:=uf 2
 (qd (mOp G6 (v9 1 [] (hName 0) (J5 (mOp fj (bf 0) (aq (.int 0)))) En (mOp fj (bf 0) (aq (.int 0)))) (mOp fj (bf 1) (aq (.int 1)))))
noncomputable def jm:Fn:=uf 2
 (qd (mOp G6 (v9 1 [] (hName 0) (J5 (mOp fj (bf 0) (aq (.int 1)))) En (mOp fj (bf 0) (aq (.int 0)))) (mOp fj (bf 1) (aq (.int 0)))))
noncomputable def jf:Fn:=uf 11
 (kj (qb 3 (iy O6 (aj (mOp fj (bf 2) (aq (.int 3))) dz)))
 (kj (sNew 4 (iy (fun l=>some (.lst l)) dz))
 (kj (Yj (Em [5,6,7,8,9]) (J5 (mOp fj (bf 0) (aq (.int 0))))
 (kj (qb 10 (mIf (gw (mOp inT (bf 5) (bf 3))) (gk qx (aj (mOp fj (bf 3) (bf 5)) (aj (bf 1) dz))) (mOp fj (bf 1) (bf 5))))
 (kj (sIf (a3h (gw (mOp inT (bf 5) (bf 3))) (mOr (gw (mOp ltT (bf 10) (bf 7))) (gw (mOp gtT (bf 10) (bf 8)))))
 (qd (aq .non))
 yx)
 (m9 4 (bf 10)))))
 (qd (iy Ag (aj (bf 4) dz))))))
noncomputable def je:Fn:=uf 2
 (qd (iy Ag (aj (v9 2 [1] (Em [0,1]) (J6 (bf 0)) En (mIf (gw (mOp eqO (bf 0) (mOp fj (bf 2) (aq (.int 0))))) (mOp fj (bf 2) (aq (.int 4))) (bf 1))) dz)))
noncomputable def qj:Fn:=uf 8
 (kj (qb 2 (gk mq (aj (bf 0) (aj (bf 1) dz))))
 (kj (qb 3 (gk jm (aj (bf 0) (aj (bf 1) dz))))
 (kj (sNew 4 (iy (fun l=>some (.lst l)) dz))
 (kj (Yj (Em [5,6]) (Gv (mOp fj (bf 0) (aq (.int 2))))
 (sIf (a3h (gw (mOp eqO (mOp fj (bf 3) (mOp fj (bf 6) (aq (.int 0)))) (mOp fj (bf 6) (aq (.int 1))))) (gw (gk (jd 40) (aj (mOp fj (bf 6) (aq (.int 2))) (aj (bf 2) (aj (bf 3) dz))))))
 (kj (qb 7 (gk jf (aj (bf 0) (aj (bf 2) (aj (bf 6) dz)))))
 (sIf (gw (mOp Cj (bf 7) (aq .non)))
 (m9 4 (iy (fun l=>some (.tup l)) (aj (bf 5) (aj (iy (fun l=>some (.tup l)) (aj (gk je (aj (bf 3) (aj (bf 6) dz))) (aj (bf 7) dz))) dz))))
 yx))
 yx))
 (qd (bf 4))))))
noncomputable def Kf:FnX:=u6 6
 (vd (lx (sNew 2 (iy (fun l=>some (.lst l)) (aj (gk j8 (aj (bf 0) dz)) dz))))
 (vd (a3d (Em [3,4]) (Gv (bf 1))
 (vd (lx (qb 5 (iy O6 (aj (gk qj (aj (bf 0) (aj (Eu 2 (mUn a4s (aq (.int 1)))) dz))) dz))))
 (vd (xIf (gw (mOp Kr (bf 4) (bf 5)))
 (Hz (bf 3))
 (lx yx))
 (lx (m9 2 (mOp fj (bf 5) (bf 4)))))))
 (lx (qd (bf 2)))))
def Ep:Fn:=norm Kf
noncomputable def Ah:Fn:=uf 5
 (kj (qb 3 (gk mq (aj (bf 0) (aj (bf 2) dz))))
 (kj (qb 4 (gk jm (aj (bf 0) (aj (bf 2) dz))))
 (qd (v9 2 [3,4,1] (Em [0,1]) (J6 (bf 4)) (U7 (gw (gk (jd 40) (aj (Dc (bf 4) (iy (fun l=>some (.tup l)) (aj (bf 0) (aj (bf 1) dz)))) (aj (bf 2) (aj (bf 3) dz)))))) (bf 0)))))
noncomputable def lq (fa:Nat) (G:Fn):FnX:=u6 10
 (vd (lx (qb 3 (gk j8 (aj (bf 0) dz))))
 (vd (lx (qb 4 (Yu (bf 3) (aq .non))))
 (vd (lx (sIf (gw (Zn 2 fa G (aj (bf 3) dz)))
 (qd (iy (fun l=>some (.tup l)) (aj (bf 4) (aj (bf 3) dz))))
 yx))
 (vd (lx (sNew 5 (iy (fun l=>some (.lst l)) (aj (bf 3) dz))))
 (vd (lx (qb 6 (aq (.int 0))))
 (vd (lu 2000 (gw (mOp ltT (bf 6) (Az 5)))
 (vd (lx (qb 7 (Eu 5 (bf 6))))
 (vd (a3d (Em [8,9]) (J5 (gk qj (aj (bf 0) (aj (bf 7) dz))))
 (vd (lx (sIf (gw (Ii (bf 9) (bf 4)))
 a6p
 yx))
 (vd (xIf (gw (mOp eqO (Az 5) (bf 1)))
 (Hz (bf 1))
 (lx yx))
 (vd (lx (Ea (bf 4) (bf 9) (iy (fun l=>some (.tup l)) (aj (bf 7) (aj (bf 8) dz)))))
 (vd (lx (sIf (gw (Zn 2 fa G (aj (bf 9) dz)))
 (qd (iy (fun l=>some (.tup l)) (aj (bf 4) (aj (bf 9) dz))))
 yx))
 (lx (m9 5 (bf 9))))))))
 (lx (qb 6 (mOp Cm (bf 6) (aq (.int 1))))))))
 (lx (qd (iy (fun l=>some (.tup l)) (aj (bf 4) (aj (aq .non) dz)))))))))))
noncomputable def Dr (tb:Nat->Nat):FnX:=u6 2
 (G3 (a0h 2 0 (tb 0) "reached.<locals>.<lambda>" lq 0 (aq (.bl false))) (Dw (aj (bf 0) (aj (bf 1) dz)) []))
noncomputable def yj (tb:Nat->Nat):Fn:=norm (Dr tb)
noncomputable def m5:Fn:=uf 4
 (kj (sNew 2 (iy (fun l=>some (.lst l)) dz))
 (kj (qb 3 (Ab (bf 0) (bf 1)))
 (kj (sy 2000 (gw (mOp Cj (bf 3) (aq .non)))
 (kj (m9 2 (mOp fj (bf 3) (aq (.int 1))))
 (qb 3 (Ab (bf 0) (mOp fj (bf 3) (aq (.int 0)))))))
 (qd (mUn a99 (bf 2))))))
noncomputable def qg (tb:Nat->Nat):FnX:=u6 4
 (vd (N8 (a0h 2 1 (tb 1) "breach.<locals>.<lambda>" lq 2 (mOp gtT (iy Ob (aj (gk Ah (aj (bf 1) (aj (bf 2) (aj (bf 0) dz)))) dz)) (aq (.int 0)))) (Dw (aj (bf 0) (aj (bf 2) dz)) [0,1]) (a3e 3))
 (vd (lx (sIf (gw (mOp a91 (mOp fj (bf 3) (aq (.int 1))) (aq .non)))
 (qd (aq .non))
 yx))
 (lx (qd (iy (fun l=>some (.tup l)) (aj (gk m5 (aj (mOp fj (bf 3) (aq (.int 0))) (aj (mOp fj (bf 3) (aq (.int 1))) dz))) (aj (mOp fj (gk Ah (aj (bf 0) (aj (bf 1) (aj (mOp fj (bf 3) (aq (.int 1))) dz)))) (aq (.int 0))) dz)))))))
noncomputable def Bu (tb:Nat->Nat):Fn:=norm (qg tb)
noncomputable def dg:Fn:=uf 2
 (kj (sIf (gw (mOp ltT (bf 1) (iy Ob (aj (bf 0) dz))))
 (qd (mOp fj (bf 0) (bf 1)))
 yx)
 (qd (aq (.int 0))))
noncomputable def ni:Fn:=uf 4
 (kj (qb 2 (mOp Cm (aq (.int 1)) (mOp Hs (bf 0) (aq (.int 8)))))
 (kj (qb 3 (mOp Hs (mOp Hi (bf 0) (aq (.int 8))) (bf 2)))
 (qd (mOp Cm (mOp Cm (mOp Pj (aq (.str "q")) (bf 3)) (mOp fj (aq (.str "abcdefghij")) (mOp Hs (mOp Cm (mOp Pj (aq (.int 3)) (bf 1)) (mOp Hi (bf 0) (aq (.int 64)))) (aq (.int 10))))) (mOp Pj (aq (.str "q")) (mOp Ss (mOp Ss (bf 2) (aq (.int 1))) (bf 3)))))))
noncomputable def jk (tb:Nat->Nat):Fn:=uf 5
 (kj (qb 3 (aq .non))
 (kj (Zi (qg tb) (aj (bf 0) (aj (bf 1) (aj (bf 2) dz))) (a3e 3) 4 3 some)
 (qd (bf 3))))
noncomputable def Tq (tb:Nat->Nat):Fn:=uf 14
 (kj (qb 1 (gk dg (aj (bf 0) (aj (aq (.int 1)) dz))))
 (kj (a71 2 3 (aj (gk ni (aj (bf 1) (aj (aq (.int 5)) dz))) (aj (gk ni (aj (bf 1) (aj (aq (.int 0)) dz))) dz)))
 (kj (qb 4 (mOp Ss (mOp Hs (gk dg (aj (bf 0) (aj (aq (.int 2)) dz))) (mOp Pj (aq (.int 2)) (mOp a2p (aq (.int 10)) (aq (.int 8))))) (mOp a2p (aq (.int 10)) (aq (.int 8)))))
 (kj (qb 5 (mOp Cm (aq (.int 1)) (mOp Hs (gk dg (aj (bf 0) (aj (aq (.int 0)) dz))) (aq (.int 40)))))
 (kj (qb 6 (mOp Cm (aq (.int 1)) (mOp Hs (gk dg (aj (bf 0) (aj (aq (.int 3)) dz))) (bf 5))))
 (kj (sIf (gw (mOp eqO (mOp Hs (mOp Hi (gk dg (aj (bf 0) (aj (aq (.int 0)) dz))) (aq (.int 40))) (aq (.int 8))) (aq (.int 1))))
 (kj (qb 5 (mOp Cm (aq (.int 1010)) (mOp Hs (mOp Hi (gk dg (aj (bf 0) (aj (aq (.int 0)) dz))) (aq (.int 320))) (aq (.int 40)))))
 (qb 6 (mOp Ss (bf 5) (mOp Hs (gk dg (aj (bf 0) (aj (aq (.int 3)) dz))) (aq (.int 5))))))
 yx)
 (kj (sNew 7 (iy (fun l=>some (.lst l)) (aj (iy (fun l=>some (.tup l)) (aj (bf 2) (aj (aq (.int 0)) (aj (iy (fun l=>some (.tup l)) (aj (aq (.str "and")) (aj (iy (fun l=>some (.tup l)) dz) dz))) (aj (iy (fun l=>some (.tup l)) (aj (iy (fun l=>some (.tup l)) (aj (bf 3) (aj (iy (fun l=>some (.tup l)) (aj (aq (.int 1)) (aj (iy (fun l=>some (.tup l)) (aj (iy (fun l=>some (.tup l)) (aj (bf 3) (aj (aq (.int 1)) dz))) dz)) dz))) dz))) dz)) (aj (aq (.int 0)) dz)))))) (aj (iy (fun l=>some (.tup l)) (aj (bf 2) (aj (aq (.int 0)) (aj (iy (fun l=>some (.tup l)) (aj (aq (.str "and")) (aj (iy (fun l=>some (.tup l)) dz) dz))) (aj (iy (fun l=>some (.tup l)) (aj (iy (fun l=>some (.tup l)) (aj (bf 3) (aj (iy (fun l=>some (.tup l)) (aj (bf 4) (aj (iy (fun l=>some (.tup l)) dz) dz))) dz))) dz)) (aj (aq (.int 0)) dz)))))) dz))))
 (kj (m9 7 (iy (fun l=>some (.tup l)) (aj (bf 2) (aj (aq (.int 0)) (aj (iy (fun l=>some (.tup l)) (aj (aq (.str "or")) (aj (iy (fun l=>some (.tup l)) dz) dz))) (aj (iy (fun l=>some (.tup l)) dz) (aj (aq (.int 0)) dz)))))))
 (kj (qb 8 (mOp Hs (gk dg (aj (bf 0) (aj (aq (.int 4)) dz))) (aq (.int 3))))
 (kj (sNew 7 (mOp a04 (Ho 7 (Tz (bf 8)) Ul) (Ho 7 Ul (Tz (bf 8)))))
 (kj (qb 9 (mOp fj (iy (fun l=>some (.lst l)) (aj (aq (.int 0)) (aj (aq (.int 2)) (aj (aq (.int 1)) dz)))) (bf 8)))
 (kj (qb 10 (iy (fun l=>some (.tup l)) (aj (iy (fun l=>some (.lst l)) (aj (iy (fun l=>some (.tup l)) (aj (bf 3) (aj (aq (.str "")) (aj (bf 4) (aj (mOp Cm (bf 4) (bf 5)) (aj (bf 4) dz)))))) dz)) (aj (iy (fun l=>some (.lst l)) (aj (iy (fun l=>some (.tup l)) (aj (bf 2) (aj (aq (.int 1)) dz))) dz)) (aj (bf 7) (aj (iy (fun l=>some (.tup l)) dz) dz))))))
 (kj (qb 11 (Te (aj (bf 2) (aj (aq (.int 0)) dz)) (iy (fun l=>some (.tup l)) (aj (aq (.str "most")) (aj (iy (fun l=>some (.tup l)) (aj (mOp Ss (mOp Ss (aq (.int 1)) (bf 4)) (bf 6)) (aj (iy (fun l=>some (.tup l)) (aj (iy (fun l=>some (.tup l)) (aj (bf 3) (aj (aq (.int 1)) dz))) dz)) dz))) dz)))))
 (kj (qb 12 (gk (jk tb) (aj (bf 10) (aj (bf 11) (aj (mOp Cm (bf 6) (aq (.int 1))) dz)))))
 (kj (sIf (mOr (U7 (gw (iy isTup (aj (bf 12) dz)))) (gw (mOp neO (bf 12) (iy (fun l=>some (.tup l)) (aj (mOp W4 (iy (fun l=>some (.lst l)) (aj (bf 9) dz)) (bf 6)) (aj (bf 2) dz))))))
 (qd (aq (.bl false)))
 yx)
 (kj (qb 13 (gk Ep (aj (bf 10) (aj (mOp fj (bf 12) (aq (.int 0))) dz))))
 (kj (sIf (mOr (gw (mOp neO (iy Ob (aj (bf 13) dz)) (mOp Cm (bf 6) (aq (.int 1))))) (gw (mOp neO (mOp fj (bf 13) (mUn a4s (aq (.int 1)))) (iy (fun l=>some (.tup l)) (aj (iy (fun l=>some (.tup l)) (aj (aq (.int 0)) dz)) (aj (iy (fun l=>some (.tup l)) (aj (mOp Cm (bf 4) (bf 6)) dz)) dz))))))
 (qd (aq (.bl false)))
 yx)
 (kj (sIf (gw (mOp gtT (bf 5) (aq (.int 999))))
 (qd (aq (.bl true)))
 yx)
 (kj (sIf (gw (mOp neO (gk (jk tb) (aj (bf 10) (aj (bf 11) (aj (bf 6) dz)))) (bf 6)))
 (qd (aq (.bl false)))
 yx)
 (kj (sIf (gw (mOp Cj (gk (Bu tb) (aj (bf 10) (aj (Te (aj (bf 2) (aj (aq (.int 0)) dz)) (iy (fun l=>some (.tup l)) (aj (aq (.str "and")) (aj (iy (fun l=>some (.tup l)) dz) dz)))) (aj (mOp Cm (bf 5) (aq (.int 1))) dz)))) (aq .non)))
 (qd (aq (.bl false)))
 yx)
 (qd (mOp eqO (gk (yj tb) (aj (bf 10) (aj (mOp Cm (bf 5) (aq (.int 1))) dz))) (v9 1 [4] (hName 0) (Dv (mOp Cm (bf 5) (aq (.int 1)))) En (iy (fun l=>some (.tup l)) (aj (iy (fun l=>some (.tup l)) (aj (aq (.int 0)) dz)) (aj (iy (fun l=>some (.tup l)) (aj (mOp Cm (bf 1) (bf 0)) dz)) dz))))))))))))))))))))))))))
end K
end
section
namespace D
open PySem L2 C
noncomputable def top (i:Nat):Stmt:=PySem.Challenge.pw_calm_k28_far_breaches.main.body.getD i (.Pass ⟨0,0,0,0⟩)
def Qq:Stmt->Stmt
 | .ClassDef _ _ _ b _ _ _ _ _ _ _=>b.getD 0 (.Pass ⟨0,0,0,0⟩)
 | s=>s
section
variable {P:Program} {w:World} {K:PySem.W.Frag} {mg:Str->Option Value} {base:Heap} {f:Addr} {fd:FuncData} {tb:Nat->Nat}
abbrev Ig:Stmt:=Qq (top 3)
theorem T9:jc ["self","place"] ["self","place"] (dh Ig):=⟨rfl,rfl,rfl,by decide +kernel,rfl,by decide +kernel,by decide +kernel⟩
theorem Y9 {Cl D fI:Addr} {fS:FuncData} (c:XC K Cl D fI "place") (F:Fun K "__init__" "NoStep.__init__" Ig fI fS) (m:mg "NoStep" = some (.ref Cl)):XR P w K mg base "NoStep" Cl "place" "place" :=
 ⟨⟨D,fI,fS,c,Y4 c F T9 rfl rfl rfl (by decide) (by decide) (by decide) (fun _=>rfl),F.binds (ps:=["self","place"]) fun _ _ _ _ _ _ us hl=>bd2 (fun _ _=>rfl) us hl⟩,m⟩
abbrev Er:Stmt:=Qq (top 2)
theorem O5:jc ["self","most"] ["self","most"] (dh Er):=⟨rfl,rfl,rfl,by decide +kernel,rfl,by decide +kernel,by decide +kernel⟩
theorem Rk {Cl D fI:Addr} {fS:FuncData} (c:XC K Cl D fI "most") (F:Fun K "__init__" "TooMany.__init__" Er fI fS) (m:mg "TooMany" = some (.ref Cl)):XR P w K mg base "TooMany" Cl "most" "most" :=
 ⟨⟨D,fI,fS,c,Y4 c F O5 rfl rfl rfl (by decide) (by decide) (by decide) (fun _=>rfl),F.binds (ps:=["self","most"]) fun _ _ _ _ _ _ us hl=>bd2 (fun _ _=>rfl) us hl⟩,m⟩
abbrev K8:Stmt:=top 5
theorem Qa:jc ["one","book"] ["one","book"] (dh K8):=⟨rfl,rfl,rfl,by decide +kernel,rfl,by decide +kernel,by decide +kernel⟩
theorem a0b (F:Fun K "value" "value" K8 f fd) (cz:mg "sum" = none):qz P w K mg base CX0 1 f fd ["one","book"] (spF K (["one","book"]:List Str).length _root_.K.qx):=by
 refine ou (N:=["one","book"]) F Qa (by decide)  fun aS A outer s H E B hr=>?_;have hu:=wz hr;have hq:=hr.units;have nd:(["one","book"]:List Str).Nodup:=Qa.nd;refine j9 ?_
 ·refine ji ?_
  ·refine ju ?_ ?_ ?_
   ·exact mj
   ·exact jt hu (ao 0 (pv 0)) cu (fun _ _=>rfl)
   ·refine rm ?_
    ·refine Ca (Ud (by rfl)) ?_ ?_ PyProof.Rows.boot_sum ?_
     ·exact by rfl
     ·exact cz
     ·refine ak ?_ ?_
      ·refine ug ?_
       ·refine Eb (N:=["box","times","book"]) ?_ ?_ ?_ ?_ ?_ ?_ ?_ ?_
        ·exact ⟨rfl,fun j k h=>match j,h with | 0,h=>(by cases h; exact ⟨_,rfl,rfl,⟨.inl rfl,.inr (.inl rfl),.inl rfl⟩⟩) | _+1,h=>(by cases h)⟩
        ·exact ⟨rfl,rfl,by decide +kernel,by decide +kernel⟩
        ·exact rfl
        ·exact Ew (jt hu (ao 0 (pv 0)) cu (fun _ _=>rfl))
        ·exact Et
        ·exact fun C s₀ H₀ ex pn=>pgE fun B=>(Gn (is:=[0,1]) (Hq rfl (jx (jr (show (["box","times","book"]:List Str).Nodup by decide +kernel) rfl (Or.inl rfl)) (jx (jr (show (["box","times","book"]:List Str).Nodup by decide +kernel) rfl (Or.inl rfl)) Cw))))
        ·exact fun C s₀ H₀ ex pn=>zu
        ·exact fun C s₀ H₀ ex pn=>peE fun B=>(ju Gk (ao 1 (pv 1)) (jt hu (ao 2 (pv 2)) (ao 0 (pv 0)) (fun _ _=>rfl)))
      ·exact cj
theorem Yz (F:Fun K "value" "value" K8 f fd) (bj:mg "value" = some (.ref f)) (cz:mg "sum" = none):gq P w K mg base "value" 1 ["one","book"] _root_.K.qx :=
 ⟨f,fd,a0b F cz,F.binds (ps:=["one","book"]) fun _ _ _ _ _ _ us hl=>bd2 (fun _ _=>rfl) us hl,F.kp,bj⟩
abbrev Gd:Stmt:=top 7
theorem Qy:jc ["remark","book","places","kind"] ["remark","book","places"] (dh Gd):=⟨rfl,rfl,rfl,by decide +kernel,rfl,by decide +kernel,by decide +kernel⟩
theorem a05 (F:Fun K "holds" "holds" Gd f fd) {nn:Nat} (aV:gq P w K mg base "any_is" (1+nn) ["wanted","members","book","places"] (_root_.K.uh nn)) (av:gq P w K mg base "holds" (1+nn) ["remark","book","places"] (_root_.K.jd nn)) (aG:gq P w K mg base "value" 1 ["one","book"] (_root_.K.qx)):qz P w K mg base CX0 (1+nn+1) f fd ["remark","book","places"] (spF K (["remark","book","places"]:List Str).length (_root_.K.jd (nn+1))):=by
 have aV:=aV.mono (show (1+nn)<=(1+nn) by first | decide | omega);have av:=av.mono (show (1+nn)<=(1+nn) by first | decide | omega);have aG:=aG.mono (show 1<=(1+nn) by first | decide | omega);refine ou (N:=["remark","book","places","kind"]) F Qy (by decide)  fun aS A outer s H E B hr=>?_;have hu:=wz hr;have hq:=hr.units;have nd:(["remark","book","places","kind"]:List Str).Nodup:=Qy.nd;refine fu ?_ ?_
 ·exact jq 3 (j7 nd rfl (Or.inl rfl) (jt hu (ao 0 (pv 0)) cu (fun _ _=>rfl))) (fun _ _ _ h=>h)
 ·refine fu ?_ ?_
  ·exact xu (m6 (yg hq) (ao 3 (pv 3)) vq (lg _))   (j9 (ji (Mv a7b (gb aG hr (by rfl) (ak (jt hu (ao 0 (pv 0)) cu (fun _ _=>rfl)) (ak (ao 1 (pv 1)) cj)) (bh (bh eq_nil))) cu (lg _))))   nj
  ·refine fu ?_ ?_
   ·refine xu ?_ ?_ ?_
    ·exact m6 (yg hq) (ao 3 (pv 3)) vq (lg _)
    ·exact j9 (ji (Mv (yg hq) (ju v8 (gb aG hr (by rfl) (ak (jt hu (ao 0 (pv 0)) cu (fun _ _=>rfl)) (ak (ao 1 (pv 1)) cj)) (bh (bh eq_nil))) (jt hu (ao 0 (pv 0)) cu (fun _ _=>rfl))) cu (lg _)))
    ·exact nj
   ·refine fu ?_ ?_
    ·exact xu (m6 (yg hq) (ao 3 (pv 3)) vq (lg _))   (j9 (ji (Mv (yg hq) (jt hu (ao 2 (pv 2)) (jt hu (ao 0 (pv 0)) cu (fun _ _=>rfl)) (fun _ _=>rfl)) (jt hu (ao 0 (pv 0)) cu (fun _ _=>rfl)) (lg _))))   nj
    ·refine fu ?_ ?_
     ·exact xu (m6 (yg hq) (ao 3 (pv 3)) vq (lg _))   (j9 (ji (a2a (gb av hr (by rfl) (ak (jt hu (ao 0 (pv 0)) cu (fun _ _=>rfl)) (ak (ao 1 (pv 1)) (ak (ao 2 (pv 2)) cj))) (bh (bh (bh eq_nil)))))))   nj
     ·refine fu ?_ ?_
      ·refine xu ?_ ?_ ?_
       ·exact m6 (yg hq) (ao 3 (pv 3)) vq (lg _)
       ·exact j9 (ji (a2a (gb aV hr (by rfl) (ak Iu (ak (jt hu (ao 0 (pv 0)) cu (fun _ _=>rfl)) (ak (ao 1 (pv 1)) (ak (ao 2 (pv 2)) cj)))) (bh (bh (bh (bh eq_nil)))))))
       ·exact nj
      ·exact j9 (ji (gb aV hr (by rfl) (ak Iu (ak (jt hu (ao 0 (pv 0)) cu (fun _ _=>rfl)) (ak (ao 1 (pv 1)) (ak (ao 2 (pv 2)) cj)))) (bh (bh (bh (bh eq_nil))))))
theorem a0l (F:Fun K "holds" "holds" Gd f fd) (bj:mg "holds" = some (.ref f)) {nn:Nat} (aV:gq P w K mg base "any_is" (1+nn) ["wanted","members","book","places"] (_root_.K.uh nn)) (av:gq P w K mg base "holds" (1+nn) ["remark","book","places"] (_root_.K.jd nn)) (aG:gq P w K mg base "value" 1 ["one","book"] (_root_.K.qx)):gq P w K mg base "holds" (1+nn+1) ["remark","book","places"] (_root_.K.jd (nn+1)) :=
 ⟨f,fd,a05 F aV av aG,F.binds (ps:=["remark","book","places"]) fun _ _ _ _ _ _ us hl=>bd3 (fun _ _ _=>rfl) us hl,F.kp,bj⟩
abbrev Cy:Stmt:=top 8
theorem Lx:jc ["wanted","members","book","places","member"] ["wanted","members","book","places"] (dh Cy):=⟨rfl,rfl,rfl,by decide +kernel,rfl,by decide +kernel,by decide +kernel⟩
theorem Vi (F:Fun K "any_is" "any_is" Cy f fd) {nn:Nat} (av:gq P w K mg base "holds" (1+nn) ["remark","book","places"] (_root_.K.jd nn)):qz P w K mg base CX0 (1+nn+1) f fd ["wanted","members","book","places"] (spF K (["wanted","members","book","places"]:List Str).length (_root_.K.uh (nn+1))):=by
 have av:=av.mono (show (1+nn)<=(1+nn) by first | decide | omega);refine ou (N:=["wanted","members","book","places","member"]) F Lx (by decide)  fun aS A outer s H E B hr=>?_;have hu:=wz hr;have hq:=hr.units;have nd:(["wanted","members","book","places","member"]:List Str).Nodup:=Lx.nd;refine fu ?_ ?_
 ·refine Wo ?_ ?_ ?_ ?_ ?_ ?_
  ·exact PassesOwn.never
  ·exact rfl
  ·exact Ew (ao 1 (pv 1))
  ·exact Ec 4 (jr nd rfl (Or.inl rfl))
  ·exact j9 (xu (m6 (yg hq) (gb av hr (by rfl) (ak (ao 4 (pv 4)) (ak (ao 2 (pv 2)) (ak (ao 3 (pv 3)) cj))) (bh (bh (bh eq_nil)))) (ao 0 (pv 0)) (lg _))   (j9 (ji Iu))   nj)
  ·exact Et
 ·exact j9 (ji Iu)
theorem W0 (F:Fun K "any_is" "any_is" Cy f fd) (bj:mg "any_is" = some (.ref f)) {nn:Nat} (av:gq P w K mg base "holds" (1+nn) ["remark","book","places"] (_root_.K.jd nn)):gq P w K mg base "any_is" (1+nn+1) ["wanted","members","book","places"] (_root_.K.uh (nn+1)) :=
 ⟨f,fd,Vi F av,F.binds (ps:=["wanted","members","book","places"]) fun _ _ _ _ _ _ us hl=>bd4 (fun _ _ _ _=>rfl) us hl,F.kp,bj⟩
theorem Le {cT:Addr} {dk:FuncData} {cq:Addr} {cZ:FuncData} (bK:Fun K "holds" "holds" Gd cT dk) (bY:mg "holds" = some (.ref cT)) (bF:Fun K "any_is" "any_is" Cy cq cZ) (bM:mg "any_is" = some (.ref cq)) (aG:gq P w K mg base "value" 1 ["one","book"] _root_.K.qx):∀ nn:Nat,gq P w K mg base "holds" (1+nn) ["remark","book","places"] (_root_.K.jd nn)/\gq P w K mg base "any_is" (1+nn) ["wanted","members","book","places"] (_root_.K.uh nn)
 | 0=>⟨gq.zero bK bY (bK.binds (ps:=["remark","book","places"]) fun _ _ _ _ _ _ us hl=>bd3 (fun _ _ _=>rfl) us hl),gq.zero bF bM (bF.binds (ps:=["wanted","members","book","places"]) fun _ _ _ _ _ _ us hl=>bd4 (fun _ _ _ _=>rfl) us hl)⟩
 | nn+1=>by
  have ih:=Le bK bY bF bM aG nn;obtain ⟨av,aV⟩:=ih;exact ⟨a0l bK bY aV av aG,W0 bF bM av⟩
abbrev um:Stmt:=top 10
theorem Cq:jc ["program"] ["program"] (dh um):=⟨rfl,rfl,rfl,by decide +kernel,rfl,by decide +kernel,by decide +kernel⟩
theorem Iv (F:Fun K "first_stand" "first_stand" um f fd) (aE:mg "tuple" = none):qz P w K mg base CX0 1 f fd ["program"] (spF K (["program"]:List Str).length _root_.K.j8):=by
 refine ou (N:=["program"]) F Cq (by decide)  fun aS A outer s H E B hr=>?_;have hu:=wz hr;have hq:=hr.units;have nd:(["program"]:List Str).Nodup:=Cq.nd;refine j9 ?_
 ·refine ji ?_
  ·refine iw ?_ ?_
   ·refine ak ?_ ?_
    ·refine rm ?_
     ·refine vh Ae ?_ ?_ PyProof.Rows.boot_tuple ?_
      ·exact by rfl
      ·exact aE
      ·refine ak ?_ ?_
       ·refine ug ?_
        ·refine Eb (N:=["hand"]) ?_ ?_ ?_ ?_ ?_ ?_ ?_ ?_
         ·exact ⟨rfl,fun j k h=>match j,h with | _+0,h=>(by cases h)⟩
         ·exact ⟨rfl,rfl,by decide +kernel,by decide +kernel⟩
         ·exact rfl
         ·exact Ew (jt hu (ao 0 (pv 0)) cu (fun _ _=>rfl))
         ·exact Et
         ·exact fun C s₀ H₀ ex pn=>pgE fun B=>(Ec 0 (jr (show (["hand"]:List Str).Nodup by decide +kernel) rfl (Or.inl rfl)))
         ·exact fun C s₀ H₀ ex pn=>zu
         ·exact fun C s₀ H₀ ex pn=>peE fun B=>cu
       ·exact cj
    ·refine ak ?_ ?_
     ·refine rm ?_
      ·refine vh Ae ?_ ?_ PyProof.Rows.boot_tuple ?_
       ·exact by rfl
       ·exact aE
       ·refine ak ?_ ?_
        ·refine ug ?_
         ·refine Eb (N:=["box"]) ?_ ?_ ?_ ?_ ?_ ?_ ?_ ?_
          ·exact ⟨rfl,fun j k h=>match j,h with | _+0,h=>(by cases h)⟩
          ·exact ⟨rfl,rfl,by decide +kernel,by decide +kernel⟩
          ·exact rfl
          ·exact Ew (jt hu (ao 0 (pv 0)) cu (fun _ _=>rfl))
          ·exact Et
          ·exact fun C s₀ H₀ ex pn=>pgE fun B=>(Ec 0 (jr (show (["box"]:List Str).Nodup by decide +kernel) rfl (Or.inl rfl)))
          ·exact fun C s₀ H₀ ex pn=>zu
          ·exact fun C s₀ H₀ ex pn=>peE fun B=>(jt hu (ao 0 (pv 0)) cu (fun _ _=>rfl))
        ·exact cj
     ·exact cj
   ·exact gj (au (au dj)) (by decide)
theorem Il (F:Fun K "first_stand" "first_stand" um f fd) (bj:mg "first_stand" = some (.ref f)) (aE:mg "tuple" = none):gq P w K mg base "first_stand" 1 ["program"] _root_.K.j8 :=
 ⟨f,fd,Iv F aE,F.binds (ps:=["program"]) fun _ _ _ _ _ _ us hl=>bd1 (fun _=>rfl) us hl,F.kp,bj⟩
abbrev Dp:Stmt:=top 13
theorem Ja:jc ["program","stand"] ["program","stand"] (dh Dp):=⟨rfl,rfl,rfl,by decide +kernel,rfl,by decide +kernel,by decide +kernel⟩
theorem T5 (F:Fun K "book_of" "book_of" Dp f fd) (aI:mg "dict" = none) (bC:mg "zip" = none):qz P w K mg base CX0 1 f fd ["program","stand"] (spF K (["program","stand"]:List Str).length _root_.K.mq):=by
 refine ou (N:=["program","stand"]) F Ja (by decide)  fun aS A outer s H E B hr=>?_;have hu:=wz hr;have hq:=hr.units;have nd:(["program","stand"]:List Str).Nodup:=Ja.nd;refine j9 ?_
 ·refine ji ?_
  ·refine J4 ?_ ?_ ?_ ?_ ?_ ?_ ?_
   ·exact rfl
   ·exact by rfl
   ·exact aI
   ·exact by rfl
   ·exact bC
   ·refine ug ?_
    ·refine Eb (N:=["box"]) ?_ ?_ ?_ ?_ ?_ ?_ ?_ ?_
     ·exact ⟨rfl,fun j k h=>match j,h with | _+0,h=>(by cases h)⟩
     ·exact ⟨rfl,rfl,by decide +kernel,by decide +kernel⟩
     ·exact rfl
     ·exact Ew (jt hu (ao 0 (pv 0)) cu (fun _ _=>rfl))
     ·exact Et
     ·exact fun C s₀ H₀ ex pn=>pgE fun B=>(Ec 0 (jr (show (["box"]:List Str).Nodup by decide +kernel) rfl (Or.inl rfl)))
     ·exact fun C s₀ H₀ ex pn=>zu
     ·exact fun C s₀ H₀ ex pn=>peE fun B=>(jt hu (ao 0 (pv 0)) cu (fun _ _=>rfl))
   ·exact jt hu (ao 1 (pv 1)) cu (fun _ _=>rfl)
theorem Tr (F:Fun K "book_of" "book_of" Dp f fd) (bj:mg "book_of" = some (.ref f)) (aI:mg "dict" = none) (bC:mg "zip" = none):gq P w K mg base "book_of" 1 ["program","stand"] _root_.K.mq :=
 ⟨f,fd,T5 F aI bC,F.binds (ps:=["program","stand"]) fun _ _ _ _ _ _ us hl=>bd2 (fun _ _=>rfl) us hl,F.kp,bj⟩
abbrev Ad:Stmt:=top 14
theorem Ey:jc ["program","stand"] ["program","stand"] (dh Ad):=⟨rfl,rfl,rfl,by decide +kernel,rfl,by decide +kernel,by decide +kernel⟩
theorem Lb (F:Fun K "places_of" "places_of" Ad f fd) (aI:mg "dict" = none) (bC:mg "zip" = none):qz P w K mg base CX0 1 f fd ["program","stand"] (spF K (["program","stand"]:List Str).length _root_.K.jm):=by
 refine ou (N:=["program","stand"]) F Ey (by decide)  fun aS A outer s H E B hr=>?_;have hu:=wz hr;have hq:=hr.units;have nd:(["program","stand"]:List Str).Nodup:=Ey.nd;refine j9 ?_
 ·refine ji ?_
  ·refine J4 ?_ ?_ ?_ ?_ ?_ ?_ ?_
   ·exact rfl
   ·exact by rfl
   ·exact aI
   ·exact by rfl
   ·exact bC
   ·refine ug ?_
    ·refine Eb (N:=["hand"]) ?_ ?_ ?_ ?_ ?_ ?_ ?_ ?_
     ·exact ⟨rfl,fun j k h=>match j,h with | _+0,h=>(by cases h)⟩
     ·exact ⟨rfl,rfl,by decide +kernel,by decide +kernel⟩
     ·exact rfl
     ·exact Ew (jt hu (ao 0 (pv 0)) cu (fun _ _=>rfl))
     ·exact Et
     ·exact fun C s₀ H₀ ex pn=>pgE fun B=>(Ec 0 (jr (show (["hand"]:List Str).Nodup by decide +kernel) rfl (Or.inl rfl)))
     ·exact fun C s₀ H₀ ex pn=>zu
     ·exact fun C s₀ H₀ ex pn=>peE fun B=>(jt hu (ao 0 (pv 0)) cu (fun _ _=>rfl))
   ·exact jt hu (ao 1 (pv 1)) cu (fun _ _=>rfl)
theorem Ly (F:Fun K "places_of" "places_of" Ad f fd) (bj:mg "places_of" = some (.ref f)) (aI:mg "dict" = none) (bC:mg "zip" = none):gq P w K mg base "places_of" 1 ["program","stand"] _root_.K.jm :=
 ⟨f,fd,Lb F aI bC,F.binds (ps:=["program","stand"]) fun _ _ _ _ _ _ us hl=>bd2 (fun _ _=>rfl) us hl,F.kp,bj⟩
abbrev qe:Stmt:=top 16
theorem Aj:jc ["program","book","step","sets","values","box","owner","low","high","start","new"] ["program","book","step"] (dh qe):=⟨rfl,rfl,rfl,by decide +kernel,rfl,by decide +kernel,by decide +kernel⟩
theorem Fb (F:Fun K "values_behind" "values_behind" qe f fd) (aG:gq P w K mg base "value" 1 ["one","book"] (_root_.K.qx)) (aI:mg "dict" = none) (aE:mg "tuple" = none):qz P w K mg base CX0 2 f fd ["program","book","step"] (spF K (["program","book","step"]:List Str).length _root_.K.jf):=by
 have aG:=aG.mono (show 1<=1 by first | decide | omega);refine ou (N:=["program","book","step","sets","values","box","owner","low","high","start","new"]) F Aj (by decide)  fun aS A outer s H E B hr=>?_;have hu:=wz hr;have hq:=hr.units;have nd:(["program","book","step","sets","values","box","owner","low","high","start","new"]:List Str).Nodup:=Aj.nd;refine fu ?_ ?_
 ·exact jq 3 (j7 nd rfl (Or.inl rfl) (rm (vh (Jf (by rfl)) (by rfl) aI PyProof.Rows.boot_dict (ak (jt hu (ao 2 (pv 2)) cu (fun _ _=>rfl)) cj)))) (fun _ _ _ h=>h)
 ·refine fu ?_ ?_
  ·exact Ib 4 (j7 nd rfl (Or.inl rfl) (Jm cj (gj dj (by decide)))) (fun _ _ _ h=>h)
  ·refine fu ?_ ?_
   ·refine Wo ?_ ?_ ?_ ?_ ?_ ?_
    ·exact PassesOwn.never
    ·exact rfl
    ·exact Ew (jt hu (ao 0 (pv 0)) cu (fun _ _=>rfl))
    ·exact Gn (is:=[5,6,7,8,9]) (Hq rfl (jx (jr nd rfl (Or.inl rfl)) (jx (jr nd rfl (Or.inl rfl)) (jx (jr nd rfl (Or.inl rfl)) (jx (jr nd rfl (Or.inl rfl)) (jx (jr nd rfl (Or.inl rfl)) Cw))))))
    ·refine fu ?_ ?_
     ·refine @jq _ _ _ _ (tOf _ _ _) _ ?_ (fun _ _ _ h=>h)
      ·refine j7 ?_ ?_ ?_ ?_
       ·exact nd
       ·exact rfl
       ·exact Or.inl rfl
       ·exact Qi (m6 (a2d hq) (ao 5 (pv 5)) (ao 3 (pv 3)) rfl) (gb aG hr (by rfl) (ak (jt hu (ao 3 (pv 3)) (ao 5 (pv 5)) (fun _ _=>rfl)) (ak (ao 1 (pv 1)) cj)) (bh (bh eq_nil))) (jt hu (ao 1 (pv 1)) (ao 5 (pv 5)) (fun _ _=>rfl))
     ·refine fu ?_ ?_
      ·exact xu (PW.pt (a3l (m6 (a2d hq) (ao 5 (pv 5)) (ao 3 (pv 3)) rfl) (Uo (PW.pt (a6f (m6 Wb (ao 10 (pv 10)) (ao 7 (pv 7)) (lg _)) (Vs (m6 Y0 (ao 10 (pv 10)) (ao 8 (pv 8)) (lg _))))))))   (j9 (ji Dh))   nj
      ·exact j9 (yp 4 (Eo (Tf PySem.F.plainAttrs_list PySem.F.slot_list_append PySem.F.type_list_append vf (pv 4) (nq (ao 10 (pv 10)) wg))))
    ·exact Et
   ·exact j9 (ji (rm (vh Ae (by rfl) aE PyProof.Rows.boot_tuple (ak (ao 4 (pv 4)) cj))))
theorem Fj (F:Fun K "values_behind" "values_behind" qe f fd) (bj:mg "values_behind" = some (.ref f)) (aG:gq P w K mg base "value" 1 ["one","book"] (_root_.K.qx)) (aI:mg "dict" = none) (aE:mg "tuple" = none):gq P w K mg base "values_behind" 2 ["program","book","step"] _root_.K.jf :=
 ⟨f,fd,Fb F aG aI aE,F.binds (ps:=["program","book","step"]) fun _ _ _ _ _ _ us hl=>bd3 (fun _ _ _=>rfl) us hl,F.kp,bj⟩
abbrev ql:Stmt:=top 17
theorem Ak:jc ["places","step"] ["places","step"] (dh ql):=⟨rfl,rfl,rfl,by decide +kernel,rfl,by decide +kernel,by decide +kernel⟩
theorem Fd (F:Fun K "places_behind" "places_behind" ql f fd) (aE:mg "tuple" = none):qz P w K mg base CX0 1 f fd ["places","step"] (spF K (["places","step"]:List Str).length _root_.K.je):=by
 refine ou (N:=["places","step"]) F Ak (by decide)  fun aS A outer s H E B hr=>?_;have hu:=wz hr;have hq:=hr.units;have nd:(["places","step"]:List Str).Nodup:=Ak.nd;refine j9 ?_
 ·refine ji ?_
  ·refine rm ?_
   ·refine vh Ae ?_ ?_ PyProof.Rows.boot_tuple ?_
    ·exact by rfl
    ·exact aE
    ·refine ak ?_ ?_
     ·refine ug ?_
      ·refine R7 (N:=["hand","place","step"]) ?_ ?_ ?_ ?_ ?_ ?_ ?_
       ·exact ⟨rfl,fun j k h=>match j,h with | 0,h=>(by cases h; exact ⟨_,rfl,rfl,⟨.inl rfl,.inr (.inl rfl),.inl rfl⟩⟩) | _+1,h=>(by cases h)⟩
       ·exact ⟨rfl,rfl,by decide +kernel,by decide +kernel⟩
       ·exact rfl
       ·exact pv 0
       ·exact fun C s₀ H₀ ex pn=>pgE fun B=>(Gn (is:=[0,1]) (Hq rfl (jx (jr (show (["hand","place","step"]:List Str).Nodup by decide +kernel) rfl (Or.inl rfl)) (jx (jr (show (["hand","place","step"]:List Str).Nodup by decide +kernel) rfl (Or.inl rfl)) Cw))))
       ·exact fun C s₀ H₀ ex pn=>zu
       ·exact fun C s₀ H₀ ex pn=>peE fun B=>(Qi (m6 (yg hq) (ao 0 (pv 0)) (jt hu (ao 2 (pv 2)) cu (fun _ _=>rfl)) (lg _)) (jt hu (ao 2 (pv 2)) cu (fun _ _=>rfl)) (ao 1 (pv 1)))
     ·exact cj
theorem Fg (F:Fun K "places_behind" "places_behind" ql f fd) (bj:mg "places_behind" = some (.ref f)) (aE:mg "tuple" = none):gq P w K mg base "places_behind" 1 ["places","step"] _root_.K.je :=
 ⟨f,fd,Fd F aE,F.binds (ps:=["places","step"]) fun _ _ _ _ _ _ us hl=>bd2 (fun _ _=>rfl) us hl,F.kp,bj⟩
abbrev Jw:Stmt:=top 15
theorem Qj:jc ["program","stand","book","places","told","number","step","values"] ["program","stand"] (dh Jw):=⟨rfl,rfl,rfl,by decide +kernel,rfl,by decide +kernel,by decide +kernel⟩
theorem Zz (F:Fun K "moves" "moves" Jw f fd) (ay:gq P w K mg base "book_of" 1 ["program","stand"] (_root_.K.mq)) (av:gq P w K mg base "holds" 41 ["remark","book","places"] (_root_.K.jd 40)) (aA:gq P w K mg base "places_behind" 1 ["places","step"] (_root_.K.je)) (aw:gq P w K mg base "places_of" 1 ["program","stand"] (_root_.K.jm)) (az:gq P w K mg base "values_behind" 2 ["program","book","step"] (_root_.K.jf)) (aF:mg "enumerate" = none):qz P w K mg base CX0 42 f fd ["program","stand"] (spF K (["program","stand"]:List Str).length _root_.K.qj):=by
 have ay:=ay.mono (show 1<=41 by first | decide | omega);have av:=av.mono (show 41<=41 by first | decide | omega);have aA:=aA.mono (show 1<=41 by first | decide | omega);have aw:=aw.mono (show 1<=41 by first | decide | omega);have az:=az.mono (show 2<=41 by first | decide | omega);refine ou (N:=["program","stand","book","places","told","number","step","values"]) F Qj (by decide)  fun aS A outer s H E B hr=>?_;have hu:=wz hr;have hq:=hr.units;have nd:(["program","stand","book","places","told","number","step","values"]:List Str).Nodup:=Qj.nd;refine fu ?_ ?_
 ·exact jq 2 (j7 nd rfl (Or.inl rfl) (gb ay hr (by rfl) (ak (ao 0 (pv 0)) (ak (ao 1 (pv 1)) cj)) (bh (bh eq_nil)))) (fun _ _ _ h=>h)
 ·refine fu ?_ ?_
  ·exact jq 3 (j7 nd rfl (Or.inl rfl) (gb aw hr (by rfl) (ak (ao 0 (pv 0)) (ak (ao 1 (pv 1)) cj)) (bh (bh eq_nil)))) (fun _ _ _ h=>h)
  ·refine fu ?_ ?_
   ·exact Ib 4 (j7 nd rfl (Or.inl rfl) (Jm cj (gj dj (by decide)))) (fun _ _ _ h=>h)
   ·refine fu ?_ ?_
    ·refine Wo ?_ ?_ ?_ ?_ ?_ ?_
     ·exact PassesOwn.never
     ·exact rfl
     ·exact Ur (by rfl) aF (jt hu (ao 0 (pv 0)) cu (fun _ _=>rfl))
     ·exact Gn (is:=[5,6]) (Hq rfl (jx (jr nd rfl (Or.inl rfl)) (jx (jr nd rfl (Or.inl rfl)) Cw)))
     ·refine j9 ?_
      ·refine xu ?_ ?_ ?_
       ·refine PW.pt ?_
        ·refine a3l ?_ ?_
         ·exact m6 (yg hq) (jt hu (ao 3 (pv 3)) (jt hu (ao 6 (pv 6)) cu (fun _ _=>rfl)) (fun _ _=>rfl)) (jt hu (ao 6 (pv 6)) cu (fun _ _=>rfl)) (lg _)
         ·exact Uo (Mf (gb av hr (by rfl) (ak (jt hu (ao 6 (pv 6)) cu (fun _ _=>rfl)) (ak (ao 2 (pv 2)) (ak (ao 3 (pv 3)) cj))) (bh (bh (bh eq_nil)))))
       ·refine fu ?_ ?_
        ·exact jq 7 (j7 nd rfl (Or.inl rfl) (gb az hr (by rfl) (ak (ao 0 (pv 0)) (ak (ao 2 (pv 2)) (ak (ao 6 (pv 6)) cj))) (bh (bh (bh eq_nil))))) (fun _ _ _ h=>h)
        ·refine j9 ?_
         ·refine xu ?_ ?_ ?_
          ·exact m6 Gp (ao 7 (pv 7)) Dh (lg _)
          ·refine j9 ?_
           ·refine yp _ ?_
            ·refine Eo ?_
             ·refine Tf PySem.F.plainAttrs_list PySem.F.slot_list_append PySem.F.type_list_append vf ?_ ?_
              ·exact pv 4
              ·refine nq ?_ ?_
               ·refine iw ?_ ?_
                ·exact ak (ao 5 (pv 5)) (ak (iw (ak (gb aA hr (by rfl) (ak (ao 3 (pv 3)) (ak (ao 6 (pv 6)) cj)) (bh (bh eq_nil))) (ak (ao 7 (pv 7)) cj)) (gj (au (au dj)) (by decide))) cj)
                ·exact gj (au (au dj)) (by decide)
               ·exact wg
          ·exact nj
       ·exact nj
     ·exact Yb
    ·exact j9 (ji (ao 4 (pv 4)))
theorem a1o (F:Fun K "moves" "moves" Jw f fd) (bj:mg "moves" = some (.ref f)) (ay:gq P w K mg base "book_of" 1 ["program","stand"] (_root_.K.mq)) (av:gq P w K mg base "holds" 41 ["remark","book","places"] (_root_.K.jd 40)) (aA:gq P w K mg base "places_behind" 1 ["places","step"] (_root_.K.je)) (aw:gq P w K mg base "places_of" 1 ["program","stand"] (_root_.K.jm)) (az:gq P w K mg base "values_behind" 2 ["program","book","step"] (_root_.K.jf)) (aF:mg "enumerate" = none):gq P w K mg base "moves" 42 ["program","stand"] _root_.K.qj :=
 ⟨f,fd,Zz F ay av aA aw az aF,F.binds (ps:=["program","stand"]) fun _ _ _ _ _ _ us hl=>bd2 (fun _ _=>rfl) us hl,F.kp,bj⟩
abbrev Kh:Stmt:=top 11
theorem Qh:jc ["program","numbers","stands","place","number","there"] ["program","numbers"] (dh Kh):=⟨rfl,rfl,rfl,by decide +kernel,rfl,by decide +kernel,by decide +kernel⟩
theorem a0p {aM:Addr} (F:Fun K "woven" "woven" Kh f fd) (ah:gq P w K mg base "first_stand" 1 ["program"] _root_.K.j8) (aK:gq P w K mg base "moves" 42 ["program","stand"] _root_.K.qj) (a7:XR P w K mg base "NoStep" aM "place" "place") (aI:mg "dict" = none) (aF:mg "enumerate" = none):qz P w K mg base (CXx P w) 43 f fd ["program","numbers"] (spX K (["program","numbers"]:List Str).length aM "place" _root_.K.Kf):=by
 have ah:=ah.mono (show 1<=42 by decide);have aK:=aK.mono (show 42<=42 by decide);refine a0i (N:=["program","numbers","stands","place","number","there"]) F Qh (by decide) fun aS A outer s H E B hr=>?_;have hu:=wz hr;have hq:=hr.units;have nd:(["program","numbers","stands","place","number","there"]:List Str).Nodup:=Qh.nd;have bV:=hr.mono (show 2<=42 by decide);refine m8 ?_ ?_
 ·exact m7 (Ib 2 (j7 nd rfl (Or.inl rfl) (Jm (ak (gb ah hr (by rfl) (ak (ao 0 (pv 0)) cj) (bh eq_nil)) cj) (gj (au dj) (by decide)))) (fun _ _ _ h=>h))
 ·refine m8 ?_ ?_
  ·refine a1w ?_ ?_ ?_ ?_ ?_ ?_
   ·exact PassesOwn.leaving
   ·exact rfl
   ·exact Ur (by rfl) aF (ao 1 (pv 1))
   ·exact Gn (is:=[3,4]) (Hq rfl (jx (jr nd rfl (Or.inl rfl)) (jx (jr nd rfl (Or.inl rfl)) Cw)))
   ·refine m8 ?_ ?_
    ·refine m7 ?_
     ·refine @jq _ _ _ _ (tOf _ _ _) _ ?_ (fun _ _ _ h=>h)
      ·exact j7 nd rfl (Or.inl rfl) (rm (vh (Jf (by rfl)) (by rfl) aI PyProof.Rows.boot_dict (ak (gb aK hr (by rfl) (ak (ao 0 (pv 0)) (ak (Qp 2 (pv 2) (a9h Xn cu) (fun _ _=>rfl)) cj)) (bh (bh eq_nil))) cj)))
    ·refine m8 ?_ ?_
     ·exact a83 (m6 (Vg hq) (ao 4 (pv 4)) (ao 5 (pv 5)) rfl)   (Du (Kv a7 a8o bV (by rfl) (ao 3 (pv 3))))   (Qm nj)
     ·exact Du (m7 (yp 2 (Eo (Tf PySem.F.plainAttrs_list PySem.F.slot_list_append PySem.F.type_list_append vf (pv 2) (nq (jt hu (ao 5 (pv 5)) (ao 4 (pv 4)) (fun _ _=>rfl)) wg)))))
   ·exact Yb
  ·exact Du (m7 (ji (ao 2 (pv 2))))
theorem a1n {aM:Addr} (F:Fun K "woven" "woven" Kh f fd) (bj:mg "woven" = some (.ref f)) (ah:gq P w K mg base "first_stand" 1 ["program"] _root_.K.j8) (aK:gq P w K mg base "moves" 42 ["program","stand"] _root_.K.qj) (a7:XR P w K mg base "NoStep" aM "place" "place") (aI:mg "dict" = none) (aF:mg "enumerate" = none):Bd P w K mg base "woven" 43 ["program","numbers"] aM "place" _root_.K.Kf :=
 ⟨f,fd,a0p F ah aK a7 aI aF,F.binds (ps:=["program","numbers"]) fun _ _ _ _ _ _ us hl=>bd2 (fun _ _=>rfl) us hl,F.kp,bj⟩
abbrev Q5:Stmt:=top 12
theorem V9:jc ["program","annotation","stand","book","places"] ["program","annotation","stand"] (dh Q5):=⟨rfl,rfl,rfl,by decide +kernel,rfl,by decide +kernel,by decide +kernel⟩
theorem a6c (F:Fun K "fits" "fits" Q5 f fd) (ay:gq P w K mg base "book_of" 1 ["program","stand"] (_root_.K.mq)) (av:gq P w K mg base "holds" 41 ["remark","book","places"] (_root_.K.jd 40)) (aw:gq P w K mg base "places_of" 1 ["program","stand"] (_root_.K.jm)):qz P w K mg base CX0 42 f fd ["program","annotation","stand"] (spF K (["program","annotation","stand"]:List Str).length _root_.K.Ah):=by
 have ay:=ay.mono (show 1<=41 by first | decide | omega);have av:=av.mono (show 41<=41 by first | decide | omega);have aw:=aw.mono (show 1<=41 by first | decide | omega);refine ou (N:=["program","annotation","stand","book","places"]) F V9 (by decide)  fun aS A outer s H E B hr=>?_;have hu:=wz hr;have hq:=hr.units;have nd:(["program","annotation","stand","book","places"]:List Str).Nodup:=V9.nd;refine fu ?_ ?_
 ·exact jq 3 (j7 nd rfl (Or.inr rfl) (gb ay hr (by rfl) (ak (ao 0 (pv 0)) (ak (ao 2 (pv 2)) cj)) (bh (bh eq_nil)))) (fun _ _ _ h=>h)
 ·refine fu ?_ ?_
  ·exact jq 4 (j7 nd rfl (Or.inr rfl) (gb aw hr (by rfl) (ak (ao 0 (pv 0)) (ak (ao 2 (pv 2)) cj)) (bh (bh eq_nil)))) (fun _ _ _ h=>h)
  ·refine j9 ?_
   ·refine ji ?_
    ·refine ug ?_
     ·refine R7 (N:=["hand","place","book","places","annotation"]) ?_ ?_ ?_ ?_ ?_ ?_ ?_
      ·refine ⟨rfl,fun j k h=>match j,h with | 0,h=>(by cases h; exact ⟨_,rfl,rfl,⟨.inl rfl,.inr (.inl rfl),.inl rfl⟩⟩) | 1,h=>(by cases h; exact ⟨_,rfl,rfl,⟨.inl rfl,.inr (.inl rfl),.inl rfl⟩⟩) | 2,h=>(by cases h; exact ⟨_,rfl,rfl,⟨.inl rfl,.inr (.inl rfl),.inl rfl⟩⟩) | _+3,h=>(by cases h)⟩
      ·exact ⟨rfl,rfl,by decide +kernel,by decide +kernel⟩
      ·exact rfl
      ·exact pv 4
      ·intro C s₀ H₀ ex pn;refine pgE ?_;intro B;refine Gn (is:=[0,1]) ?_
       ·exact Hq rfl (jx (jr (show (["hand","place","book","places","annotation"]:List Str).Nodup by decide +kernel) rfl (Or.inl rfl)) (jx (jr (show (["hand","place","book","places","annotation"]:List Str).Nodup by decide +kernel) rfl (Or.inl rfl)) Cw))
      ·intro C s₀ H₀ ex pn;refine Zr ?_;intro B;refine a3c ?_
       ·refine Mf ?_
        ·refine gb av ?_ ?_ ?_ ?_
         ·exact hr
         ·exact by rfl
         ·exact ak (Sd hu (ao 4 (pv 4)) (iw (ak (ao 0 (pv 0)) (ak (ao 1 (pv 1)) cj)) (gj (au (au dj)) (by decide))) (fun _ _=>rfl)) (ak (ao 2 (pv 2)) (ak (ao 3 (pv 3)) cj))
         ·exact bh (bh (bh eq_nil))
      ·exact fun C s₀ H₀ ex pn=>peE fun B=>(ao 0 (pv 0))
theorem a4w (F:Fun K "fits" "fits" Q5 f fd) (bj:mg "fits" = some (.ref f)) (ay:gq P w K mg base "book_of" 1 ["program","stand"] (_root_.K.mq)) (av:gq P w K mg base "holds" 41 ["remark","book","places"] (_root_.K.jd 40)) (aw:gq P w K mg base "places_of" 1 ["program","stand"] (_root_.K.jm)):gq P w K mg base "fits" 42 ["program","annotation","stand"] _root_.K.Ah :=
 ⟨f,fd,a6c F ay av aw,F.binds (ps:=["program","annotation","stand"]) fun _ _ _ _ _ _ us hl=>bd3 (fun _ _ _=>rfl) us hl,F.kp,bj⟩
abbrev Fq:Stmt:=top 21
theorem M7:jc ["program","most","wanted","first","links","met","spot","here","number","there"] ["program","most","wanted"] (dh Fq):=⟨rfl,rfl,rfl,by decide +kernel,rfl,by decide +kernel,by decide +kernel⟩
theorem Xj {af fa:Addr} {G:Fn} (F:Fun K "search" "search" Fq f fd) (ah:gq P w K mg base "first_stand" 1 ["program"] _root_.K.j8) (aK:gq P w K mg base "moves" 42 ["program","stand"] _root_.K.qj) (aW:XR P w K mg base "TooMany" af "most" "most") (aU:mg "len" = none):qz P w K mg base (CXx P w) 44 f fd ["program","most","wanted"] (a9y P w K mg base 43 fa G (["program","most","wanted"]:List Str).length af "most" (_root_.K.lq fa G)):=by
 have ah:=ah.mono (show 1<=43 by decide);have aK:=aK.mono (show 42<=43 by decide);refine V4 (N:=["program","most","wanted","first","links","met","spot","here","number","there"]) F M7 (by decide) fun aS A outer s H E B hr hL=>?_;have hL:=hL.mono (show 43<=43 by decide);have hu:=wz hr;have hq:=hr.units;have nd:(["program","most","wanted","first","links","met","spot","here","number","there"]:List Str).Nodup:=M7.nd;have bV:=hr.mono (show 2<=43 by decide);refine m8 ?_ ?_
 ·exact m7 (jq 3 (j7 nd rfl (Or.inl rfl) (gb ah hr (by rfl) (ak (ao 0 (pv 0)) cj) (bh eq_nil))) (fun _ _ _ h=>h))
 ·refine m8 ?_ ?_
  ·exact m7 (jq 4 (j7 nd rfl (Or.inl rfl) (a5w hq (ao 3 (pv 3)) Dh)) (fun _ _ _ h=>h))
  ·refine m8 ?_ ?_
   ·exact m7 (xu (Mf (a2v hL hr (pv 2) (ak (ao 3 (pv 3)) cj) (bh eq_nil)))   (j9 (ji (iw (ak (ao 4 (pv 4)) (ak (ao 3 (pv 3)) cj)) (gj (au (au dj)) (by decide)))))   nj)
   ·refine m8 ?_ ?_
    ·exact m7 (Ib 5 (j7 nd rfl (Or.inl rfl) (Jm (ak (ao 3 (pv 3)) cj) (gj (au dj) (by decide)))) (fun _ _ _ h=>h))
    ·refine m8 ?_ ?_
     ·exact m7 (jq 6 (j7 nd rfl (Or.inl rfl) cu) (fun _ _ _ h=>h))
     ·refine m8 ?_ ?_
      ·refine a1v _ ?_ ?_ ?_
       ·exact PassesOwn.leaving
       ·exact m6 Wb (ao 6 (pv 6)) (Lz 5 aU rfl (pv 5)) (lg _)
       ·refine m8 ?_ ?_
        ·exact m7 (jq 7 (j7 nd rfl (Or.inl rfl) (Qp 5 (pv 5) (ao 6 (pv 6)) (fun _ _=>rfl))) (fun _ _ _ h=>h))
        ·refine m8 ?_ ?_
         ·refine a1w ?_ ?_ ?_ ?_ ?_ ?_
          ·exact PassesOwn.leaving
          ·exact rfl
          ·exact Ew (gb aK hr (by rfl) (ak (ao 0 (pv 0)) (ak (ao 7 (pv 7)) cj)) (bh (bh eq_nil)))
          ·exact Gn (is:=[8,9]) (Hq rfl (jx (jr nd rfl (Or.inl rfl)) (jx (jr nd rfl (Or.inl rfl)) Cw)))
          ·refine m8 ?_ ?_
           ·exact m7 (xu (a1d hq (ao 9 (pv 9)) (ao 4 (pv 4)) rfl)   (j9 a7a)   nj)
           ·refine m8 ?_ ?_
            ·exact a83 (m6 (yg hq) (Lz 5 aU rfl (pv 5)) (ao 1 (pv 1)) (lg _))   (Du (Kv aW a8o bV (by rfl) (ao 1 (pv 1))))   (Qm nj)
            ·refine m8 ?_ ?_
             ·exact m7 (Wd hq (ao 4 (pv 4)) (ao 9 (pv 9)) (iw (ak (ao 7 (pv 7)) (ak (ao 8 (pv 8)) cj)) (gj (au (au dj)) (by decide))) rfl)
             ·refine m8 ?_ ?_
              ·exact m7 (xu (Mf (a2v hL hr (pv 2) (ak (ao 9 (pv 9)) cj) (bh eq_nil)))   (j9 (ji (iw (ak (ao 4 (pv 4)) (ak (ao 9 (pv 9)) cj)) (gj (au (au dj)) (by decide)))))   nj)
              ·exact Du (m7 (yp 5 (Eo (Tf PySem.F.plainAttrs_list PySem.F.slot_list_append PySem.F.type_list_append vf (pv 5) (nq (ao 9 (pv 9)) wg)))))
          ·exact Et
         ·exact Du (m7 (jq 6 (j7 nd rfl (Or.inl rfl) (ju mj (ao 6 (pv 6)) cu)) (fun _ _ _ h=>h)))
      ·exact Du (m7 (ji (iw (ak (ao 4 (pv 4)) (ak Dh cj)) (gj (au (au dj)) (by decide)))))
theorem Wi {af:Addr} (F:Fun K "search" "search" Fq f fd) (bj:mg "search" = some (.ref f)) (ah:gq P w K mg base "first_stand" 1 ["program"] _root_.K.j8) (aK:gq P w K mg base "moves" 42 ["program","stand"] _root_.K.qj) (aW:XR P w K mg base "TooMany" af "most" "most") (aU:mg "len" = none):Cz P w K mg base "search" 44 43 ["program","most","wanted"] af "most" _root_.K.lq :=
 ⟨f,fd,fun fa G=>Xj F ah aK aW aU,F.binds (ps:=["program","most","wanted"]) fun _ _ _ _ _ _ us hl=>bd3 (fun _ _ _=>rfl) us hl,F.kp,bj⟩
abbrev Dj:Stmt:=top 19
theorem J8:jc ["program","most"] ["program","most"] (dh Dj):=⟨rfl,rfl,rfl,by decide +kernel,rfl,by decide +kernel,by decide +kernel⟩
theorem Tj {af cc:Addr} (F:Fun K "reached" "reached" Dj f fd) (aH:∀ base',Mod K mg base'->Cz P w K mg base' "search" 44 43 ["program","most","wanted"] af "most" _root_.K.lq) (bG:fd.code=.ref cc) (hC:PySem.W.CodeHd base cc (tb 0)) (cB:BM base mg) (bP:mg "list" = none):qz P w K mg base (CXx P w) 45 f fd ["program","most"] (spX K (["program","most"]:List Str).length af "most" (_root_.K.Dr tb)):=by
 have aH:=fun base' hm=>(aH base' hm).mono (show 44<=44 by decide);refine N7 (N:=["program","most"]) F bG J8 (by decide) fun A outer s H E B hr=>?_;have hu:=wz hr;have hq:=hr.units;have nd:(["program","most"]:List Str).Nodup:=J8.nd;have bV:=hr.mono (show 2<=44 by decide);refine Du ?_
 ·refine Tv rfl (by rfl) bP (Jo (lx := "stand") (clos:=[]) a2n aH rfl hr (by rfl) (ao 0 (pv 0)) (ao 1 (pv 1)) (fun _=>rfl) ?c1 hC cB ?c2 ?c3 ?c4 ?cap ?lam ?bind ?body ?d1 ?d2 ?d3 ?d4 ?d5) (fun _ _=>rfl)
  ·exact rfl
  ·exact rfl
  ·exact rfl
  ·exact rfl
  ·exact U6.nil
  ·exact a3v.of (ns:=[]) rfl rfl rfl rfl (by decide +kernel) (by decide +kernel) rfl (by decide +kernel) (by decide +kernel) (by simp)
  ·exact fun c' bX s us _ hl=>match us,hl with | [_],_=>.of_eq rfl
  ·intro base' f c' A outer s H B hm hr;have hu:=wz hr;have hq:=hr.units;exact Iu
  ·decide
  ·rfl
  ·rfl
  ·rfl
  ·rfl
theorem Rv {af cc:Addr} (F:Fun K "reached" "reached" Dj f fd) (bj:mg "reached" = some (.ref f)) (aH:∀ base',Mod K mg base'->Cz P w K mg base' "search" 44 43 ["program","most","wanted"] af "most" _root_.K.lq) (bG:fd.code=.ref cc) (hC:PySem.W.CodeHd base cc (tb 0)) (cB:BM base mg) (bP:mg "list" = none):Bd P w K mg base "reached" 45 ["program","most"] af "most" (_root_.K.Dr tb) :=
 ⟨f,fd,Tj F aH bG hC cB bP,F.binds (ps:=["program","most"]) fun _ _ _ _ _ _ us hl=>bd2 (fun _ _=>rfl) us hl,F.kp,bj⟩
abbrev vp:Stmt:=top 22
theorem Dt:jc ["links","stand","numbers","link"] ["links","stand"] (dh vp):=⟨rfl,rfl,rfl,by decide +kernel,rfl,by decide +kernel,by decide +kernel⟩
theorem K6 (F:Fun K "weaving_to" "weaving_to" vp f fd):qz P w K mg base CX0 1 f fd ["links","stand"] (spF K (["links","stand"]:List Str).length _root_.K.m5):=by
 refine ou (N:=["links","stand","numbers","link"]) F Dt (by decide)  fun aS A outer s H E B hr=>?_;have hu:=wz hr;have hq:=hr.units;have nd:(["links","stand","numbers","link"]:List Str).Nodup:=Dt.nd;refine fu ?_ ?_
 ·exact Ib 2 (j7 nd rfl (Or.inl rfl) (Jm cj (gj dj (by decide)))) (fun _ _ _ h=>h)
 ·refine fu ?_ ?_
  ·exact jq 3 (j7 nd rfl (Or.inl rfl) (Jr hq (ao 0 (pv 0)) (ao 1 (pv 1)) (fun _ _=>rfl))) (fun _ _ _ h=>h)
  ·refine fu ?_ ?_
   ·refine a1k _ ?_ ?_ ?_
    ·exact PassesOwn.never
    ·exact m6 Gp (ao 3 (pv 3)) Dh (lg _)
    ·refine fu ?_ ?_
     ·exact yp 2 (Eo (Tf PySem.F.plainAttrs_list PySem.F.slot_list_append PySem.F.type_list_append vf (pv 2) (nq (jt hu (ao 3 (pv 3)) cu (fun _ _=>rfl)) wg)))
     ·exact j9 (jq 3 (j7 nd rfl (Or.inl rfl) (Jr hq (ao 0 (pv 0)) (jt hu (ao 3 (pv 3)) cu (fun _ _=>rfl)) (fun _ _=>rfl))) (fun _ _ _ h=>h))
   ·exact j9 (ji (a5e (ao 2 (pv 2))))
theorem Jt (F:Fun K "weaving_to" "weaving_to" vp f fd) (bj:mg "weaving_to" = some (.ref f)):gq P w K mg base "weaving_to" 1 ["links","stand"] _root_.K.m5 :=
 ⟨f,fd,K6 F,F.binds (ps:=["links","stand"]) fun _ _ _ _ _ _ us hl=>bd2 (fun _ _=>rfl) us hl,F.kp,bj⟩
abbrev Fl:Stmt:=top 20
theorem N6:jc ["program","annotation","most","found"] ["program","annotation","most"] (dh Fl):=⟨rfl,rfl,rfl,by decide +kernel,rfl,by decide +kernel,by decide +kernel⟩
theorem Vy {af cc:Addr} (F:Fun K "breach" "breach" Fl f fd) (aZ:gq P w K mg base "fits" 42 ["program","annotation","stand"] _root_.K.Ah) (aD:gq P w K mg base "weaving_to" 1 ["links","stand"] _root_.K.m5) (aH:∀ base',Mod K mg base'->Cz P w K mg base' "search" 44 43 ["program","most","wanted"] af "most" _root_.K.lq) (bN:∀ base',Mod K mg base'->gq P w K mg base' "fits" 42 ["program","annotation","stand"] _root_.K.Ah) (bG:fd.code=.ref cc) (hC:PySem.W.CodeHd base cc (tb 1)) (cB:BM base mg) (aU:mg "len" = none):qz P w K mg base (CXx P w) 45 f fd ["program","annotation","most"] (spX K (["program","annotation","most"]:List Str).length af "most" (_root_.K.qg tb)):=by
 have aZ:=aZ.mono (show 42<=44 by decide);have aD:=aD.mono (show 1<=44 by decide);have aH:=fun base' hm=>(aH base' hm).mono (show 44<=44 by decide);refine N7 (N:=["program","annotation","most","found"]) F bG N6 (by decide) fun A outer s H E B hr=>?_;have hu:=wz hr;have hq:=hr.units;have nd:(["program","annotation","most","found"]:List Str).Nodup:=N6.nd;have bV:=hr.mono (show 2<=44 by decide);refine m8 ?_ ?_
 ·refine a4f (Jo (lx := "stand") (clos:=[("program",s.heap.objs.size+1),("annotation",s.heap.objs.size+1+1)]) a2n aH rfl hr (by rfl) (ao 0 (pv 0)) (ao 2 (pv 2)) (fun _=>rfl) ?c1 hC cB ?c2 ?c3 ?c4 ?cap ?lam ?bind ?body ?d1 ?d2 ?d3 ?d4 ?d5) nd rfl (Or.inl rfl)
  ·exact rfl
  ·exact rfl
  ·exact rfl
  ·exact rfl
  ·exact (U6.cons rfl (Or.inr (Or.inl rfl)) (Vc rfl) rfl (U6.cons rfl (Or.inr (Or.inl rfl)) (Vc rfl) rfl U6.nil))
  ·exact a3v.of (ns:=["program","annotation"]) rfl rfl rfl rfl (by decide +kernel) (by decide +kernel) rfl (by decide +kernel) (by decide +kernel) (by simp)
  ·exact fun c' bX s us _ hl=>match us,hl with | [_],_=>.of_eq rfl
  ·intro base' f c' A outer s H B hm hr;have hu:=wz hr;have hq:=hr.units;have aZ:=(bN base' hm).mono (show 42<=42 by decide);exact Mv Y0 (rm (Ca Gh (by rfl) aU PySem.boot_len (ak (gb aZ hr (by rfl) (ak (ao 1 (pv 1)) (ak (ao 2 (pv 2)) (ak (ao 0 (pv 0)) cj))) (bh (bh (bh eq_nil)))) cj))) cu (lg _)
  ·decide
  ·rfl
  ·rfl
  ·rfl
  ·rfl
 ·refine m8 ?_ ?_
  ·exact m7 (xu (m6 a7x (jt hu (ao 3 (pv 3)) cu (fun _ _=>rfl)) Dh (lg _))   (j9 (ji Dh))   nj)
  ·refine Du ?_
   ·refine m7 ?_
    ·refine ji ?_
     ·refine iw ?_ ?_
      ·refine ak ?_ ?_
       ·exact gb aD hr (by rfl) (ak (jt hu (ao 3 (pv 3)) cu (fun _ _=>rfl)) (ak (jt hu (ao 3 (pv 3)) cu (fun _ _=>rfl)) cj)) (bh (bh eq_nil))
       ·exact ak (jt hu (gb aZ hr (by rfl) (ak (ao 0 (pv 0)) (ak (ao 1 (pv 1)) (ak (jt hu (ao 3 (pv 3)) cu (fun _ _=>rfl)) cj))) (bh (bh (bh eq_nil)))) cu (fun _ _=>rfl)) cj
      ·exact gj (au (au dj)) (by decide)
theorem Ve {af cc:Addr} (F:Fun K "breach" "breach" Fl f fd) (bj:mg "breach" = some (.ref f)) (aZ:gq P w K mg base "fits" 42 ["program","annotation","stand"] _root_.K.Ah) (aD:gq P w K mg base "weaving_to" 1 ["links","stand"] _root_.K.m5) (aH:∀ base',Mod K mg base'->Cz P w K mg base' "search" 44 43 ["program","most","wanted"] af "most" _root_.K.lq) (bN:∀ base',Mod K mg base'->gq P w K mg base' "fits" 42 ["program","annotation","stand"] _root_.K.Ah) (bG:fd.code=.ref cc) (hC:PySem.W.CodeHd base cc (tb 1)) (cB:BM base mg) (aU:mg "len" = none):Bd P w K mg base "breach" 45 ["program","annotation","most"] af "most" (_root_.K.qg tb) :=
 ⟨f,fd,Vy F aZ aD aH bN bG hC cB aU,F.binds (ps:=["program","annotation","most"]) fun _ _ _ _ _ _ us hl=>bd3 (fun _ _ _=>rfl) us hl,F.kp,bj⟩
abbrev uc:Stmt:=top 24
theorem Cp:jc ["_law_script","_law_k"] ["_law_script","_law_k"] (dh uc):=⟨rfl,rfl,rfl,by decide +kernel,rfl,by decide +kernel,by decide +kernel⟩
theorem J1 (F:Fun K "_law_cell_at" "_law_cell_at" uc f fd) (aU:mg "len" = none):qz P w K mg base CX0 1 f fd ["_law_script","_law_k"] (spF K (["_law_script","_law_k"]:List Str).length _root_.K.dg):=by
 refine ou (N:=["_law_script","_law_k"]) F Cp (by decide)  fun aS A outer s H E B hr=>?_;have hu:=wz hr;have hq:=hr.units;have nd:(["_law_script","_law_k"]:List Str).Nodup:=Cp.nd;exact fu (xu (m6 Wb (ao 1 (pv 1)) (rm (Ca Gh (by rfl) aU PySem.boot_len (ak (ao 0 (pv 0)) cj))) (lg _))   (j9 (ji (jt hu (ao 0 (pv 0)) (ao 1 (pv 1)) (fun _ _=>rfl))))   nj)   (j9 (ji cu))
theorem Iz (F:Fun K "_law_cell_at" "_law_cell_at" uc f fd) (bj:mg "_law_cell_at" = some (.ref f)) (aU:mg "len" = none):gq P w K mg base "_law_cell_at" 1 ["_law_script","_law_k"] _root_.K.dg :=
 ⟨f,fd,J1 F aU,F.binds (ps:=["_law_script","_law_k"]) fun _ _ _ _ _ _ us hl=>bd2 (fun _ _=>rfl) us hl,F.kp,bj⟩
abbrev Br:Stmt:=top 25
theorem Gb:jc ["_law_cell","_law_k","_law_size","_law_place"] ["_law_cell","_law_k"] (dh Br):=⟨rfl,rfl,rfl,by decide +kernel,rfl,by decide +kernel,by decide +kernel⟩
theorem O2 (F:Fun K "_law_name" "_law_name" Br f fd):qz P w K mg base CX0 1 f fd ["_law_cell","_law_k"] (spF K (["_law_cell","_law_k"]:List Str).length _root_.K.ni):=by
 refine ou (N:=["_law_cell","_law_k","_law_size","_law_place"]) F Gb (by decide)  fun aS A outer s H E B hr=>?_;have hu:=wz hr;have hq:=hr.units;have nd:(["_law_cell","_law_k","_law_size","_law_place"]:List Str).Nodup:=Gb.nd;refine fu ?_ ?_
 ·exact jq 2 (j7 nd rfl (Or.inl rfl) (ju mj cu (ju v8 (ao 0 (pv 0)) cu))) (fun _ _ _ h=>h)
 ·refine fu ?_ ?_
  ·exact jq 3 (j7 nd rfl (Or.inl rfl) (ju v8 (ju Fy (ao 0 (pv 0)) cu) (ao 2 (pv 2)))) (fun _ _ _ h=>h)
  ·refine j9 ?_
   ·refine ji ?_
    ·refine ju ?_ ?_ ?_
     ·exact mj
     ·exact ju mj (ju Gk vq (ao 3 (pv 3))) (jt hu vq (ju v8 (ju mj (ju Gk cu (ao 1 (pv 1))) (ju Fy (ao 0 (pv 0)) cu)) cu) (fun _ _=>rfl))
     ·exact ju Gk vq (ju Ed (ju Ed (ao 2 (pv 2)) cu) (ao 3 (pv 3)))
theorem Nq (F:Fun K "_law_name" "_law_name" Br f fd) (bj:mg "_law_name" = some (.ref f)):gq P w K mg base "_law_name" 1 ["_law_cell","_law_k"] _root_.K.ni :=
 ⟨f,fd,O2 F,F.binds (ps:=["_law_cell","_law_k"]) fun _ _ _ _ _ _ us hl=>bd2 (fun _ _=>rfl) us hl,F.kp,bj⟩
abbrev ud:Stmt:=top 26
theorem Ck:jc ["_law_program","_law_annotation","_law_most","_law_found","e"] ["_law_program","_law_annotation","_law_most"] (dh ud):=⟨rfl,rfl,rfl,by decide +kernel,rfl,by decide +kernel,by decide +kernel⟩
theorem Io {af aY:Addr} (F:Fun K "_law_refused" "_law_refused" ud f fd) (aT:Bd P w K mg base "breach" 45 ["program","annotation","most"] af "most" (_root_.K.qg tb)) (aX:a9t K mg "TooMany" af (.ref aY::My.vB)) (bg:XG K af "most"):qz P w K mg base CX0 46 f fd ["_law_program","_law_annotation","_law_most"] (spF K (["_law_program","_law_annotation","_law_most"]:List Str).length (_root_.K.jk tb)):=by
 have aT:=aT.mono (show 45<=45 by decide);refine ou (N:=["_law_program","_law_annotation","_law_most","_law_found","e"]) F Ck (by decide) fun aS A outer s H E B hr=>?_;have hu:=wz hr;have hq:=hr.units;have nd:(["_law_program","_law_annotation","_law_most","_law_found","e"]:List Str).Nodup:=Ck.nd;refine fu ?_ ?_
 ·exact jq 3 (j7 nd rfl (Or.inl rfl) Dh) (fun _ _ _ h=>h)
 ·refine fu ?_ ?_
  ·exact Zt aT rfl rfl nd rfl (Or.inl rfl) hr (by rfl) (ak (ao 0 (pv 0)) (ak (ao 1 (pv 1)) (ak (ao 2 (pv 2)) cj))) (bh (bh (bh eq_nil))) (a3w (fun _=>hr.hd) nd rfl rfl aX.1 aX.1 (by simp) (by rfl) aX.2 (fun a=>K4 (j7 nd rfl (Or.inl rfl) (a9a bg (pv 4) rfl)))) (a4h a9c)
  ·exact j9 (ji (ao 3 (pv 3)))
theorem J2 {af aY:Addr} (F:Fun K "_law_refused" "_law_refused" ud f fd) (bj:mg "_law_refused" = some (.ref f)) (aT:Bd P w K mg base "breach" 45 ["program","annotation","most"] af "most" (_root_.K.qg tb)) (aX:a9t K mg "TooMany" af (.ref aY::My.vB)) (bg:XG K af "most"):gq P w K mg base "_law_refused" 46 ["_law_program","_law_annotation","_law_most"] (_root_.K.jk tb) :=
 ⟨f,fd,Io F aT aX bg,F.binds (ps:=["_law_program","_law_annotation","_law_most"]) fun _ _ _ _ _ _ us hl=>bd3 (fun _ _ _=>rfl) us hl,F.kp,bj⟩
abbrev Js:Stmt:=top 27
theorem a2u:jc ["_law_script","_law_cell","_law_hand","_law_box","_law_low","_law_many","_law_far","_law_steps","_law_turn","_law_up","_law_program","_law_annotation","_law_found","_law_stands"] ["_law_script"] (dh Js):=⟨rfl,rfl,rfl,by decide +kernel,rfl,by decide +kernel,by decide +kernel⟩
theorem a84 (F:Fun K "law" "law" Js f fd) (ai:gq P w K mg base "_law_cell_at" 1 ["_law_script","_law_k"] (_root_.K.dg)) (aN:gq P w K mg base "_law_name" 1 ["_law_cell","_law_k"] (_root_.K.ni)) (aJ:gq P w K mg base "_law_refused" 46 ["_law_program","_law_annotation","_law_most"] ((_root_.K.jk tb))) (bz:gq P w K mg base "breach" 45 ["program","annotation","most"] ((_root_.K.Bu tb))) (bc:gq P w K mg base "reached" 45 ["program","most"] ((_root_.K.yj tb))) (a6:gq P w K mg base "woven" 43 ["program","numbers"] (_root_.K.Ep)) (br:mg "isinstance" = none) (aU:mg "len" = none) (b8:mg "range" = none) (aE:mg "tuple" = none):qz P w K mg base CX0 47 f fd ["_law_script"] (spF K (["_law_script"]:List Str).length (_root_.K.Tq tb)):=by
 have ai:=ai.mono (show 1<=46 by first | decide | omega);have aN:=aN.mono (show 1<=46 by first | decide | omega);have aJ:=aJ.mono (show 46<=46 by first | decide | omega);have bz:=bz.mono (show 45<=46 by first | decide | omega);have bc:=bc.mono (show 45<=46 by first | decide | omega);have a6:=a6.mono (show 43<=46 by first | decide | omega);refine ou (N:=["_law_script","_law_cell","_law_hand","_law_box","_law_low","_law_many","_law_far","_law_steps","_law_turn","_law_up","_law_program","_law_annotation","_law_found","_law_stands"]) F a2u (by decide)  fun aS A outer s H E B hr=>?_;have hu:=wz hr;have hq:=hr.units;have nd:(["_law_script","_law_cell","_law_hand","_law_box","_law_low","_law_many","_law_far","_law_steps","_law_turn","_law_up","_law_program","_law_annotation","_law_found","_law_stands"]:List Str).Nodup:=a2u.nd;refine fu ?_ ?_
 ·exact jq 1 (j7 nd rfl (Or.inl rfl) (gb ai hr (by rfl) (ak (ao 0 (pv 0)) (ak cu cj)) (bh (bh eq_nil)))) (fun _ _ _ h=>h)
 ·refine fu ?_ ?_
  ·exact a89 rfl nd rfl rfl (by decide) rfl rfl (ak (gb aN hr (by rfl) (ak (ao 1 (pv 1)) (ak cu cj)) (bh (bh eq_nil))) (ak (gb aN hr (by rfl) (ak (ao 1 (pv 1)) (ak cu cj)) (bh (bh eq_nil))) cj)) rfl
  ·refine fu ?_ ?_
   ·exact jq 4 (j7 nd rfl (Or.inr rfl) (ju Ed (ju v8 (gb ai hr (by rfl) (ak (ao 0 (pv 0)) (ak cu cj)) (bh (bh eq_nil))) (ju Gk cu (ju Wa cu cu))) (ju Wa cu cu))) (fun _ _ _ h=>h)
   ·refine fu ?_ ?_
    ·exact jq 5 (j7 nd rfl (Or.inl rfl) (ju mj cu (ju v8 (gb ai hr (by rfl) (ak (ao 0 (pv 0)) (ak cu cj)) (bh (bh eq_nil))) cu))) (fun _ _ _ h=>h)
    ·refine fu ?_ ?_
     ·exact jq 6 (j7 nd rfl (Or.inl rfl) (ju mj cu (ju v8 (gb ai hr (by rfl) (ak (ao 0 (pv 0)) (ak cu cj)) (bh (bh eq_nil))) (ao 5 (pv 5))))) (fun _ _ _ h=>h)
     ·refine fu ?_ ?_
      ·refine xu ?_ ?_ ?_
       ·exact m6 (yg hq) (ju v8 (ju Fy (gb ai hr (by rfl) (ak (ao 0 (pv 0)) (ak cu cj)) (bh (bh eq_nil))) cu) cu) cu (lg _)
       ·refine fu ?_ ?_
        ·exact jq 5 (j7 nd rfl (Or.inl rfl) (ju mj cu (ju v8 (ju Fy (gb ai hr (by rfl) (ak (ao 0 (pv 0)) (ak cu cj)) (bh (bh eq_nil))) cu) cu))) (fun _ _ _ h=>h)
        ·exact j9 (jq 6 (j7 nd rfl (Or.inl rfl) (ju Ed (ao 5 (pv 5)) (ju v8 (gb ai hr (by rfl) (ak (ao 0 (pv 0)) (ak cu cj)) (bh (bh eq_nil))) cu))) (fun _ _ _ h=>h))
       ·exact nj
      ·refine fu ?_ ?_
       ·refine @Ib _ _ _ _ (fOf _ _ _) _ ?_ (fun _ _ _ h=>h)
        ·refine j7 ?_ ?_ ?_ ?_
         ·exact nd
         ·exact rfl
         ·exact Or.inl rfl
         ·refine Jm ?_ ?_
          ·refine ak ?_ ?_
           ·refine iw ?_ ?_
            ·refine ak ?_ ?_
             ·exact ao 2 (pv 2)
             ·refine ak ?_ ?_
              ·exact cu
              ·refine ak ?_ ?_
               ·exact iw (ak vq (ak (iw cj (gj dj (by decide))) cj)) (gj (au (au dj)) (by decide))
               ·refine ak ?_ ?_
                ·refine iw ?_ ?_
                 ·refine ak ?_ ?_
                  ·refine iw ?_ ?_
                   ·refine ak ?_ ?_
                    ·exact ao 3 (pv 3)
                    ·exact ak (iw (ak cu (ak (iw (ak (iw (ak (ao 3 (pv 3)) (ak cu cj)) (gj (au (au dj)) (by decide))) cj) (gj (au dj) (by decide))) cj)) (gj (au (au dj)) (by decide))) cj
                   ·exact gj (au (au dj)) (by decide)
                  ·exact cj
                 ·exact gj (au dj) (by decide)
                ·exact ak cu cj
            ·exact gj (au (au (au (au (au dj))))) (by decide)
           ·refine ak ?_ ?_
            ·refine iw ?_ ?_
             ·refine ak ?_ ?_
              ·exact ao 2 (pv 2)
              ·refine ak ?_ ?_
               ·exact cu
               ·refine ak ?_ ?_
                ·exact iw (ak vq (ak (iw cj (gj dj (by decide))) cj)) (gj (au (au dj)) (by decide))
                ·refine ak ?_ ?_
                 ·refine iw ?_ ?_
                  ·exact ak (iw (ak (ao 3 (pv 3)) (ak (iw (ak (ao 4 (pv 4)) (ak (iw cj (gj dj (by decide))) cj)) (gj (au (au dj)) (by decide))) cj)) (gj (au (au dj)) (by decide))) cj
                  ·exact gj (au dj) (by decide)
                 ·exact ak cu cj
             ·exact gj (au (au (au (au (au dj))))) (by decide)
            ·exact cj
          ·exact gj (au (au dj)) (by decide)
       ·refine fu ?_ ?_
        ·refine yp _ ?_
         ·refine Eo ?_
          ·refine Tf PySem.F.plainAttrs_list PySem.F.slot_list_append PySem.F.type_list_append vf ?_ ?_
           ·exact pv 7
           ·refine nq ?_ ?_
            ·refine iw ?_ ?_
             ·exact ak (ao 2 (pv 2)) (ak cu (ak (iw (ak vq (ak (iw cj (gj dj (by decide))) cj)) (gj (au (au dj)) (by decide))) (ak (iw cj (gj dj (by decide))) (ak cu cj))))
             ·exact gj (au (au (au (au (au dj))))) (by decide)
            ·exact wg
        ·refine fu ?_ ?_
         ·exact jq 8 (j7 nd rfl (Or.inl rfl) (ju v8 (gb ai hr (by rfl) (ak (ao 0 (pv 0)) (ak cu cj)) (bh (bh eq_nil))) cu)) (fun _ _ _ h=>h)
         ·refine fu ?_ ?_
          ·exact Ib 7 (j7 nd rfl (Or.inl rfl) (a6k (Pz 7 (pv 7) (Ua (ao 8 (pv 8))) Wy) (Pz 7 (pv 7) Wy (Ua (ao 8 (pv 8)))))) (fun _ _ _ h=>h)
          ·refine fu ?_ ?_
           ·exact jq 9 (j7 nd rfl (Or.inl rfl) (jt hu (X4 (ak cu (ak cu (ak cu cj))) (gj (au (au (au dj))) (by decide))) (ao 8 (pv 8)) (fun _ _=>rfl))) (fun _ _ _ h=>h)
           ·refine fu ?_ ?_
            ·refine @jq _ _ _ _ (tOf _ _ _) _ ?_ (fun _ _ _ h=>h)
             ·refine j7 ?_ ?_ ?_ ?_
              ·exact nd
              ·exact rfl
              ·exact Or.inl rfl
              ·refine iw ?_ ?_
               ·refine ak ?_ ?_
                ·refine X4 ?_ ?_
                 ·exact ak (iw (ak (ao 3 (pv 3)) (ak vq (ak (ao 4 (pv 4)) (ak (ju mj (ao 4 (pv 4)) (ao 5 (pv 5))) (ak (ao 4 (pv 4)) cj))))) (gj (au (au (au (au (au dj))))) (by decide))) cj
                 ·exact gj (au dj) (by decide)
                ·exact ak (X4 (ak (iw (ak (ao 2 (pv 2)) (ak cu cj)) (gj (au (au dj)) (by decide))) cj) (gj (au dj) (by decide))) (ak (ao 7 (pv 7)) (ak (iw cj (gj dj (by decide))) cj))
               ·exact gj (au (au (au (au dj)))) (by decide)
            ·refine fu ?_ ?_
             ·refine @jq _ _ _ _ (tOf _ _ _) _ ?_ (fun _ _ _ h=>h)
              ·refine j7 ?_ ?_ ?_ ?_
               ·exact nd
               ·exact rfl
               ·exact Or.inl rfl
               ·refine Y7 ?_ ?_ ?_ ?_
                ·exact hq
                ·exact ak (ao 2 (pv 2)) (ak cu cj)
                ·exact gj (au (au dj)) (by decide)
                ·intro B;refine iw ?_ ?_
                 ·refine ak ?_ ?_
                  ·exact vq
                  ·refine ak ?_ ?_
                   ·refine iw ?_ ?_
                    ·exact ak (ju Ed (ju Ed cu (ao 4 (pv 4))) (ao 6 (pv 6))) (ak (iw (ak (iw (ak (ao 3 (pv 3)) (ak cu cj)) (gj (au (au dj)) (by decide))) cj) (gj (au dj) (by decide))) cj)
                    ·exact gj (au (au dj)) (by decide)
                   ·exact cj
                 ·exact gj (au (au dj)) (by decide)
             ·refine fu ?_ ?_
              ·exact jq 12 (j7 nd rfl (Or.inl rfl) (gb aJ hr (by rfl) (ak (ao 10 (pv 10)) (ak (ao 11 (pv 11)) (ak (ju mj (ao 6 (pv 6)) cu) cj))) (bh (bh (bh eq_nil))))) (fun _ _ _ h=>h)
              ·refine fu ?_ ?_
               ·refine xu ?_ ?_ ?_
                ·refine PW.pt ?_
                 ·refine a6f ?_ ?_
                  ·exact a3c (Mf (Lw (by rfl) br (by rfl) aE (ao 12 (pv 12))))
                  ·exact Vs (m6 (Pn hq) (ao 12 (pv 12)) (iw (ak (a4n (ak (ao 9 (pv 9)) cj) (gj (au dj) (by decide)) (fun B=>(ao 6 (pv 6)))) (ak (ao 2 (pv 2)) cj)) (gj (au (au dj)) (by decide))) (lg _))
                ·exact j9 (ji Iu)
                ·exact nj
               ·refine fu ?_ ?_
                ·exact jq 13 (j7 nd rfl (Or.inl rfl) (gb a6 hr (by rfl) (ak (ao 10 (pv 10)) (ak (jt hu (ao 12 (pv 12)) cu (fun _ _=>rfl)) cj)) (bh (bh eq_nil)))) (fun _ _ _ h=>h)
                ·refine fu ?_ ?_
                 ·refine xu ?_ ?_ ?_
                  ·refine PW.pt ?_
                   ·refine a6f ?_ ?_
                    ·exact m6 (Pn hq) (rm (Ca Gh (by rfl) aU PySem.boot_len (ak (ao 13 (pv 13)) cj))) (ju mj (ao 6 (pv 6)) cu) (lg _)
                    ·refine Vs ?_
                     ·refine m6 (Pn hq) ?_ ?_ ?_
                      ·exact jt hu (ao 13 (pv 13)) (a9h Xn cu) (fun _ _=>rfl)
                      ·exact iw (ak (iw (ak cu cj) (gj (au dj) (by decide))) (ak (iw (ak (ju mj (ao 4 (pv 4)) (ao 6 (pv 6))) cj) (gj (au dj) (by decide))) cj)) (gj (au (au dj)) (by decide))
                      ·exact lg _
                  ·exact j9 (ji Iu)
                  ·exact nj
                 ·refine fu ?_ ?_
                  ·exact xu (m6 Y0 (ao 5 (pv 5)) cu (lg _))   (j9 (ji Iu))   nj
                  ·refine fu ?_ ?_
                   ·exact xu (m6 (Pn hq) (gb aJ hr (by rfl) (ak (ao 10 (pv 10)) (ak (ao 11 (pv 11)) (ak (ao 6 (pv 6)) cj))) (bh (bh (bh eq_nil)))) (ao 6 (pv 6)) (lg _))   (j9 (ji Iu))   nj
                   ·refine fu ?_ ?_
                    ·refine xu ?_ ?_ ?_
                     ·refine m6 Gp ?_ ?_ ?_
                      ·refine gb bz ?_ ?_ ?_ ?_
                       ·exact hr
                       ·exact by rfl
                       ·refine ak ?_ ?_
                        ·exact ao 10 (pv 10)
                        ·refine ak ?_ ?_
                         ·exact Y7 hq (ak (ao 2 (pv 2)) (ak cu cj)) (gj (au (au dj)) (by decide)) (fun B=>(iw (ak vq (ak (iw cj (gj dj (by decide))) cj)) (gj (au (au dj)) (by decide))))
                         ·exact ak (ju mj (ao 5 (pv 5)) cu) cj
                       ·exact bh (bh (bh eq_nil))
                      ·exact Dh
                      ·exact lg _
                     ·exact j9 (ji Iu)
                     ·exact nj
                    ·refine j9 ?_
                     ·refine ji ?_
                      ·refine Mv (yg hq) ?_ ?_ ?_
                       ·exact gb bc hr (by rfl) (ak (ao 10 (pv 10)) (ak (ju mj (ao 5 (pv 5)) cu) cj)) (bh (bh eq_nil))
                       ·refine ug ?_
                        ·refine Eb (N:=["_law_k","_law_low"]) ?_ ?_ ?_ ?_ ?_ ?_ ?_ ?_
                         ·exact ⟨rfl,fun j k h=>match j,h with | 0,h=>(by cases h; exact ⟨_,rfl,rfl,⟨.inl rfl,.inr (.inl rfl),.inl rfl⟩⟩) | _+1,h=>(by cases h)⟩
                         ·exact ⟨rfl,rfl,by decide +kernel,by decide +kernel⟩
                         ·exact rfl
                         ·exact a0s (by rfl) b8 (ju mj (ao 5 (pv 5)) cu)
                         ·exact Yt
                         ·exact fun C s₀ H₀ ex pn=>pgE fun B=>(Ec 0 (jr (show (["_law_k","_law_low"]:List Str).Nodup by decide +kernel) rfl (Or.inl rfl)))
                         ·exact fun C s₀ H₀ ex pn=>zu
                         ·intro C s₀ H₀ ex pn;exact peE fun B=>(iw (ak (iw (ak cu cj) (gj (au dj) (by decide))) (ak (iw (ak (ju mj (ao 1 (pv 1)) (ao 0 (pv 0))) cj) (gj (au dj) (by decide))) cj)) (gj (au (au dj)) (by decide)))
                       ·exact lg _
end
end D
end
section
namespace C
open PySem
theorem Mu {α:Type} {h f:α->T} {g:G} {c:M Bool} {e:M T} {nv:Nat} {cap:List Slot} {sto:List SO} (bb:cap.map Q9=cap) :
  ∀ (l:List α) (acc:List T) (pre:List Slot),pre.length=nv->acc.length+l.length<=lim ->
   (∀ a∈l,∀ pre:List Slot,pre.length=nv->∃ pre',pre'.length=nv/\g (h a) ⟨pre++cap,sto⟩=some ⟨pre'++cap,sto⟩/\c ⟨pre'++cap,sto⟩=some (true,⟨pre'++cap,sto⟩)/\e ⟨pre'++cap,sto⟩=some (f a,⟨pre'++cap,sto⟩)) ->
   ∃ s',Bg g c e (l.map h) ⟨pre++cap,sto⟩ acc=some (acc++l.map f,s')/\s'.sto=sto
 | [],acc,pre,hp,hl,H=>⟨⟨pre++cap,sto⟩,by simp [Bg],rfl⟩
 | a::l,acc,pre,hp,hl,H=>by
  obtain ⟨pre',p1,p2,p3,p4⟩:=H a List.mem_cons_self pre hp;have hlen:acc.length<lim:=by simp at hl ⊢; omega
  obtain ⟨s',q1,q2⟩:=Mu bb l (acc++[f a]) (pre'.map Q9) (by simpa using p1) (by simp at hl ⊢; omega) fun b hb=>H b (List.mem_cons_of_mem _ hb);refine ⟨s',?_,q2⟩;rw [List.map_cons,Bg,p2];dsimp only;rw [p3];dsimp only;rw [p4];dsimp only;rw [if_pos hlen,jo];dsimp only;rw [List.map_append,bb,q1];simp
theorem Dm {α:Type} (h f:α->T) (l:List α) {g:G} {c:M Bool} {e:M T} {nv:Nat} {ci:List Nat} {it:M (List T)} {s s1:Sta} (env:List Slot) (cap:List Slot) (hit:it s=some (l.map h,s1)) (bH:j5 ci s1.env=env) (fR:ci.map (fun i=>(env[i]?).getD none)=cap) (bb:cap.map Q9=cap) (hl:l.length<=lim)
  (H:∀ a∈l,∀ pre:List Slot,pre.length=nv->∃ pre',pre'.length=nv/\g (h a) ⟨pre++cap,s1.sto⟩=some ⟨pre'++cap,s1.sto⟩/\c ⟨pre'++cap,s1.sto⟩=some (true,⟨pre'++cap,s1.sto⟩)/\e ⟨pre'++cap,s1.sto⟩=some (f a,⟨pre'++cap,s1.sto⟩)) :
  v9 nv ci g it c e s=some (.lst (l.map f),⟨env,s1.sto⟩):=by
 obtain ⟨s',q1,q2⟩:=Mu bb l [] (List.replicate nv none) (by simp) (by simpa using hl) H;unfold v9;rw [hit];dsimp only;rw [bH,fR,q1];dsimp only;rw [q2]; rfl
def okS (x:Str):Prop:=PyData.canLay0 (.str x)=true
theorem Gx {x:Str} (h:okS x):dat (.str x)=some (.str x):=by
 unfold okS at h;simp [dat,h]
theorem a5f {a b:Str} (ha:okS a) (hb:okS b):neO (.str a) (.str b)=some (.bl (!(a==b))):=by
 simp [neO,eqT,eqD,Gx ha,Gx hb,PyData.depth,PyData.eqv]
def Pl (n:Nat) (t:T):Prop:=∃ d,dat t=some d/\d.depth<=n
theorem Qx (n:Nat) (i:Int):Pl n (.int i):=⟨.int i,by simp [dat],by simp [PyData.depth]⟩
theorem a94 (n:Nat) {x:Str} (h:okS x):Pl n (.str x):=⟨.str x,Gx h,by simp [PyData.depth]⟩
theorem pls {n:Nat}:∀ ts:List T,(∀ t∈ts,Pl n t)->∃ ds,Ik ts=some ds/\PyData.depthAll ds<=n
 | [],_=>⟨[],by simp [Ik],by simp [PyData.depthAll]⟩
 | t::r,h=>by
  obtain ⟨d,d1,d2⟩:=h t List.mem_cons_self;obtain ⟨ds,e1,e2⟩:=pls r fun x hx=>h x (List.mem_cons_of_mem _ hx);exact ⟨d::ds,by simp [Ik,d1,e1],by simp only [PyData.depthAll]; omega⟩
theorem Vp {n:Nat} {ts:List T} (h:∀ t∈ts,Pl n t):Pl (n+1) (.tup ts):=by
 obtain ⟨ds,e1,e2⟩:=pls ts h;exact ⟨.tuple ds,by simp [dat,e1],by simp only [PyData.depth]; omega⟩
theorem a2q {n:Nat} {ts:List T} (h:∀ t∈ts,Pl n t):Pl (n+1) (.lst ts):=by
 obtain ⟨ds,e1,e2⟩:=pls ts h;exact ⟨.list ds,by simp [dat,e1],by simp only [PyData.depth]; omega⟩
mutual
theorem Qu:∀ d:PyData,d.canLay0=true->PyData.eqv d d=true
 | .none,_=>by simp [PyData.eqv]
 | .bool b,_=>by simp [PyData.eqv]
 | .int i,_=>by simp [PyData.eqv]
 | .str x,_=>by simp [PyData.eqv]
 | .list xs,h=>by simp only [PyData.eqv]; exact Gq xs (by simpa [PyData.canLay0] using h)
 | .tuple xs,h=>by simp only [PyData.eqv]; exact Gq xs (by simpa [PyData.canLay0] using h)
 | .dict _,h=>by simp [PyData.canLay0] at h
theorem Gq:∀ xs:List PyData,PyData.canLayAll0 xs=true->PyData.eqvAll xs xs=true
 | [],_=>by simp [PyData.eqvAll]
 | x::xs,h=>by
  simp only [PyData.canLayAll0,Bool.and_eq_true] at h;simp only [PyData.eqvAll,Qu x h.1,Gq xs h.2,Bool.and_self]
end
end C
namespace C
open PySem
theorem Xa {g:G} {b:S} (P:List T->Sta->Prop) (H:∀ t r s,P (t::r) s->∃ s1 s2,g t s=some s1/\b s1=some (.next,s2)/\P r s2):∀ (ts:List T) (s:Sta),P ts s->∃ s',forL g b ts s=some (.next,s')/\P [] s'
 | [],s,h=>⟨s,by simp [forL],h⟩
 | t::r,s,h=>by
  obtain ⟨s1,s2,h1,h2,h3⟩:=H t r s h;obtain ⟨s',e,p⟩:=Xa P H r s2 h3;refine ⟨s',?_,p⟩;rw [forL]; dsimp only; rw [h1]; dsimp only; rw [h2]; dsimp only; exact e
theorem a66 {g:G} {b:S} {ts:List T} {s:Sta} {r:Option (Flow × Sta)} (hF:forL g b ts s=r) (P:List T->Sta->Prop) (hP:P ts s) (H:∀ t r s,P (t::r) s->∃ s1 s2,g t s=some s1/\b s1=some (.next,s2)/\P r s2):∃ s',r=some (.next,s')/\P [] s':=by
 obtain ⟨s',e,p⟩:=Xa P H ts s hP;exact ⟨s',hF.symm.trans e,p⟩
end C
namespace C
open PySem
theorem Pa {α:Type} {g:G} {c:M Bool} {e:M T} {nv:Nat} {ci:List Nat} {it:M (List T)} {s:Sta} {r:Option (T × Sta)} (hF:v9 nv ci g it c e s=r) (h f:α->T) (l:List α) (s1:Sta) (env cap:List Slot) (hit:it s=some (l.map h,s1)) (bH:j5 ci s1.env=env) (fR:ci.map (fun i=>(env[i]?).getD none)=cap) (bb:cap.map Q9=cap) (hl:l.length<=lim)
  (H:∀ a∈l,∀ pre:List Slot,pre.length=nv->∃ pre',pre'.length=nv/\g (h a) ⟨pre++cap,s1.sto⟩=some ⟨pre'++cap,s1.sto⟩/\c ⟨pre'++cap,s1.sto⟩=some (true,⟨pre'++cap,s1.sto⟩)/\e ⟨pre'++cap,s1.sto⟩=some (f a,⟨pre'++cap,s1.sto⟩)) :
  r=some (.lst (l.map f),⟨env,s1.sto⟩):=hF.symm.trans (Dm h f l env cap hit bH fR bb hl H)
end C
end
open C
local macro_rules | `(tactic| simp! [$ls,*])=>`(tactic| simp [uf,kj,sIf,qb,sNew,qd,yx,sNx,a4q,sGo,Zx,Yj,m9,a5r,El,gw,U7,a3h,mOr,Sx,mIf,mOp,mUn,bf,iy,aj,dz,aq,a9m,gk,gn,hName,Em,Dv,J5,ltT,leT,Ob,Cm,Ss,Hs,Hi,a4s,aci,K7,En,j5,Q9,$ls,*])
section
namespace C
open PySem
theorem Ao {α:Type} {h f:α->T} {q:α->Bool} {g:G} {c:M Bool} {e:M T} {nv:Nat} {cap:List Slot} {sto:List SO} (bb:cap.map Q9=cap) :
  ∀ (l:List α) (acc:List T) (pre:List Slot),pre.length=nv->acc.length+l.length<=lim ->
   (∀ a∈l,∀ pre:List Slot,pre.length=nv->∃ pre',pre'.length=nv/\g (h a) ⟨pre++cap,sto⟩=some ⟨pre'++cap,sto⟩/\c ⟨pre'++cap,sto⟩=some (q a,⟨pre'++cap,sto⟩)/\(q a=true->e ⟨pre'++cap,sto⟩=some (f a,⟨pre'++cap,sto⟩))) ->
   ∃ s',Bg g c e (l.map h) ⟨pre++cap,sto⟩ acc=some (acc++(l.filter q).map f,s')/\s'.sto=sto
 | [],acc,pre,hp,hl,H=>⟨⟨pre++cap,sto⟩,by simp [Bg],rfl⟩
 | a::l,acc,pre,hp,hl,H=>by
  obtain ⟨pre',p1,p2,p3,p4⟩:=H a List.mem_cons_self pre hp;have hlen:acc.length<lim:=by simp at hl ⊢; omega
  rw [List.map_cons,Bg,p2];dsimp only;rw [p3];cases hq:q a with
  | true =>
   obtain ⟨s',q1,q2⟩:=Ao bb l (acc++[f a]) (pre'.map Q9) (by simpa using p1) (by simp at hl ⊢; omega) fun b hb=>H b (List.mem_cons_of_mem _ hb);refine ⟨s',?_,q2⟩;dsimp only;rw [p4 hq];dsimp only;rw [if_pos hlen,jo];dsimp only;rw [List.map_append,bb,q1];simp [hq]
  | false =>
   obtain ⟨s',q1,q2⟩:=Ao bb l acc (pre'.map Q9) (by simpa using p1) (by simp at hl ⊢; omega) fun b hb=>H b (List.mem_cons_of_mem _ hb);refine ⟨s',?_,q2⟩;dsimp only;rw [jo];dsimp only;rw [List.map_append,bb,q1];simp [hq]
theorem Vo {α:Type} {g:G} {c:M Bool} {e:M T} {nv:Nat} {ci:List Nat} {it:M (List T)} {s:Sta} {r:Option (T × Sta)} (hF:v9 nv ci g it c e s=r) (h f:α->T) (q:α->Bool) (l:List α) (s1:Sta) (env cap:List Slot) (hit:it s=some (l.map h,s1)) (bH:j5 ci s1.env=env) (fR:ci.map (fun i=>(env[i]?).getD none)=cap) (bb:cap.map Q9=cap) (hl:l.length<=lim)
  (H:∀ a∈l,∀ pre:List Slot,pre.length=nv->∃ pre',pre'.length=nv/\g (h a) ⟨pre++cap,s1.sto⟩=some ⟨pre'++cap,s1.sto⟩/\c ⟨pre'++cap,s1.sto⟩=some (q a,⟨pre'++cap,s1.sto⟩)/\(q a=true->e ⟨pre'++cap,s1.sto⟩=some (f a,⟨pre'++cap,s1.sto⟩))) :
  r=some (.lst ((l.filter q).map f),⟨env,s1.sto⟩):=by
 obtain ⟨s',q1,q2⟩:=Ao bb l [] (List.replicate nv none) (by simp) (by simpa using hl) H;rw [<- hF];unfold v9;rw [hit];dsimp only;rw [bH,fR,q1];dsimp only;rw [q2]; rfl
theorem Yy {n:Nat} {t:T} (h:Pl n t) (hn:n<=40):eqD t t=some true:=by
 obtain ⟨d,e1,e2⟩:=h;have:d.depth<=40:=Nat.le_trans e2 hn;simp [eqD,e1,this,Qu d (Af _ e1)]
theorem Qg {n:Nat} {t:T} (h:Pl n t) (hn:n<=40):eqT t t=some true:=by
 cases t with
 | dic k=>obtain ⟨d,e1,_⟩:=h; simp [dat] at e1
 | _=>exact Yy h hn
theorem G4 {n:Nat} {t:T} (h:Pl n t) (hn:n<=40):neO t t=some (.bl false):=by simp [neO,Qg h hn]
theorem Ze {n:Nat} {t:T} (h:Pl n t) (hn:n<=40):eqO t t=some (.bl true):=by simp [eqO,Qg h hn]
theorem Ba {a b:Int}:eqO (.int a) (.int b)=some (.bl (a==b)):=rfl
theorem Uj {a b:Str} (ha:okS a) (hb:okS b):eqO (.str a) (.str b)=some (.bl (a==b)):=by
 simp [eqO,eqT,eqD,Gx ha,Gx hb,PyData.depth,PyData.eqv]
theorem a5i {xs:List T} {k:Nat} {t:T} (h:xs[k]? = some t):fj (.lst xs) (.int (k:Int))=some t:=by
 have hk:k<xs.length:=(List.getElem?_eq_some_iff.mp h).1;have h1:(k:Int)<(xs.length:Int):=by omega
 simp [fj,ixI,h1,h]
theorem Hr {xs:List T} {k:Nat} {t:T} (h:xs[k]? = some t):fj (.tup xs) (.int (k:Int))=some t:=by
 have hk:k<xs.length:=(List.getElem?_eq_some_iff.mp h).1;have h1:(k:Int)<(xs.length:Int):=by omega
 simp [fj,ixI,h1,h]
theorem su {a:T} {r:List T}:fj (.tup (a::r)) (.int 0)=some a:=Hr (k:=0) rfl
theorem Ai {a b:T} {r:List T}:fj (.tup (a::b::r)) (.int 1)=some b:=Hr (k:=1) rfl
theorem Qw {a b c:T} {r:List T}:fj (.tup (a::b::c::r)) (.int 2)=some c:=Hr (k:=2) rfl
theorem a82 {a b c d:T} {r:List T}:fj (.tup (a::b::c::d::r)) (.int 3)=some d:=Hr (k:=3) rfl
theorem Ls {i j:Nat} {x y:T} {s:Sta}:Em [i,j] (.tup [x,y]) s=some (gn j y false (gn i x false s)):=by simp [Em]
theorem Fx {a b:S} {s s':Sta} (h:a s=some (.next,s')):kj a b s=b s':=by unfold kj; rw [h]
theorem Sy {n:Nat} {c:M Bool} {b:S} {s s1 s2:Sta} (hc:c s=some (true,s1)) (hb:b s1=some (.next,s2)):sy (n+1) c b s=sy n c b s2:=by
 rw [sy]; dsimp only; rw [hc]; dsimp only; rw [hb]
theorem Sv {n:Nat} {c:M Bool} {b:S} {s s1:Sta} (hc:c s=some (false,s1)):sy (n+1) c b s=some (.next,s1):=by
 rw [sy]; dsimp only; rw [hc]
end C
end
section
namespace K
open C PySem
abbrev scr (cs:List Int):T:=.lst (cs.map .int)
def cell (cs:List Int) (k:Nat):Int:=cs.getD k 0
theorem a4v {cs:List Int} {k:Nat} {sto:List SO}:dg [scr cs,.int (k:Int)] sto=some (.int (cell cs k),sto):=by
 by_cases h:k<cs.length
 ·have h1:((k:Int)<(cs.length:Int)):=by omega
  have h2:cs[k]? = some cs[k]:=List.getElem?_eq_getElem h;simp! [dg,fj,ixI,h1,h2,cell,List.getD]
 ·have h1:¬ ((k:Int)<(cs.length:Int)):=by omega
  have h2:cs[k]? = none:=List.getElem?_eq_none_iff.mpr (by omega);simp! [dg,fj,ixI,h1,h2,cell,List.getD]
theorem M9 {cs:List Int} {k:Nat} {i:Int} {sto:List SO} (h:i=(k:Int)):dg [scr cs,.int i] sto=some (.int (cell cs k),sto):=by
 rw [h]; exact a4v
end K
end
section
namespace C
open PySem
end C
namespace K
open C PySem
def qs (n:Nat):Str:=⟨((List.replicate n ("q" : Str).cps.toList).flatten).toArray⟩
theorem a78 {j:Int} (h0:0<=j) (h1:j<=1000):Pj (.str "q") (.int j)=some (.str (qs j.toNat)):=by
 have hl:Str.length ("q" : Str)<=100:=by decide +kernel
 simp only [Pj];rw [if_pos ⟨h0,h1,hl⟩]; rfl
def lt1 (i:Nat):Str:=⟨#[("abcdefghij" : Str).cps.toList.getD i 0]⟩
theorem a74 {i:Nat} (h:i<10):fj (.str "abcdefghij") (.int (i:Int))=some (.str (lt1 i)):=by
 match i,h with
 | 0,_=>rfl
 | 1,_=>rfl
 | 2,_=>rfl
 | 3,_=>rfl
 | 4,_=>rfl
 | 5,_=>rfl
 | 6,_=>rfl
 | 7,_=>rfl
 | 8,_=>rfl
 | 9,_=>rfl
def nm (p i q:Nat):Str:=qs p++lt1 i++qs q
def okN (x:Str):Prop:=okS x/\x.length<40
theorem aak:∀ p,p<8->∀ i,i<10->∀ q,q<8->okN (nm p i q)/\(qs p).length+(lt1 i).length<20/\(qs p++lt1 i).length+(qs q).length<40:=by
 unfold okN okS
 decide +kernel
abbrev Sm:=Int × List (Str × Int)
def pT (p:Str × Int):T:=.tup [.str p.1,.int p.2]
def smT (s:Sm):T:=.tup [.int s.1,.tup (s.2.map pT)]
def a7i (N:List Str) (s:Sm):Prop:=s.2.length<=N.length/\∀ p∈s.2,p.1∈N/\-4<p.2/\p.2<4
def aa0 (N:List Str):Prop:=N.length<=2/\∀ x∈N,okN x
abbrev Hd:=Str × Int
def hT (h:Hd):T:=.tup [.str h.1,.int h.2]
def abx (H:List Hd):Prop:=1<=H.length/\H.length<=3/\∀ h∈H,okN h.1/\1<=h.2/\h.2<=4
inductive Rem where
 | most (s:Sm) | rest (s:Sm) (m:Int) | pl (h:Str) (p:Int) | all (l:List Rem) | any (l:List Rem) | no (r:Rem)
mutual
def Aw:Rem->T
 | .most s=>.tup [.str "most",smT s]
 | .rest s m=>.tup [.str "rest",smT s,.int m]
 | .pl h p=>.tup [.str "at",.str h,.int p]
 | .all l=>.tup [.str "and",.tup (X5 l)]
 | .any l=>.tup [.str "or",.tup (X5 l)]
 | .no r=>.tup [.str "not",Aw r]
def X5:List Rem->List T
 | []=>[]
 | r::l=>Aw r::X5 l
end
theorem Hl:∀ l:List Rem,X5 l=l.map Aw
 | []=>rfl
 | r::l=>by rw [X5,Hl l]; rfl
inductive OkR (N:List Str) (H:List Hd):Nat->Rem->Prop where
 | most {d:Nat} {s:Sm}:a7i N s->OkR N H d (.most s)
 | rest {d:Nat} {s:Sm} {m:Int}:a7i N s->2<=m->m<=12->OkR N H d (.rest s m)
 | pl {d:Nat} {h:Hd} {p:Int}:h∈H->0<=p->p<h.2->OkR N H d (.pl h.1 p)
 | all {d:Nat} {l:List Rem}:l.length<=5->(∀ r∈l,OkR N H d r)->OkR N H (d+1) (.all l)
 | any {d:Nat} {l:List Rem}:l.length<=5->(∀ r∈l,OkR N H d r)->OkR N H (d+1) (.any l)
 | no {d:Nat} {r:Rem}:OkR N H d r->OkR N H (d+1) (.no r)
section
variable {n:Nat} {N:List Str} {H:List Hd} {sto:List SO}
end
end K
end
section
namespace C
open PySem
theorem p1 (pre:List Slot) (h:pre.length=1):∃ a,pre=[a]:=by
 match pre,h with
 | [a],_=>exact ⟨a,rfl⟩
theorem p2 (pre:List Slot) (h:pre.length=2):∃ a b,pre=[a,b]:=by
 match pre,h with
 | [a,b],_=>exact ⟨a,b,rfl⟩
end C
namespace K
open C PySem
structure Bx where
 nm:Str
 lo:Int
 hi:Int
 st:Int
def bxT (b:Bx):T:=.tup [.str b.nm,.str "",.int b.lo,.int b.hi,.int b.st]
def ac7 (b:Bx):Prop:=okN b.nm/\b.lo<=b.st/\b.st<=b.hi
section
variable {n:Nat} {N:List Str} {H:List Hd} {sto:List SO}
structure Sp where
 hand:Str
 here:Int
 guard:Rem
 sets:List (Str × Sm)
 there:Int
def seT (p:Str × Sm):T:=.tup [.str p.1,smT p.2]
def spT (s:Sp):T:=.tup [.str s.hand,.int s.here,Aw s.guard,.tup (s.sets.map seT),.int s.there]
structure OkP (N:List Str) (H:List Hd) (s:Sp):Prop where
 hd:okN s.hand
 mem:s.hand∈H.map (·.1)
 gd:OkR N H 3 s.guard
 len:s.sets.length<=2
 set:∀ p∈s.sets,p.1∈N/\a7i N p.2
noncomputable def prT (bs:List Bx) (H:List Hd) (ss:List Sp):T:=.tup [.lst (bs.map bxT),.lst (H.map hT),.lst (ss.map spT),.tup []]
structure Yc (bs:List Bx) (H:List Hd) (ss:List Sp):Prop where
 ndB:(bs.map (·.nm)).Nodup
 ndH:(H.map (·.1)).Nodup
 ns:aa0 (bs.map (·.nm))
 bx:∀ b∈bs,ac7 b
 hs:abx H
 ss:∀ s∈ss,OkP (bs.map (·.nm)) H s
end
end K
end
section
namespace C
open PySem
theorem Z1 {q k:Key} {t:T}:∀ aa:List (Key × T),Av q (Nj k t aa)=if q=k then some t else Av q aa:=by
 have iL:∀ aa:List (Key × T),Av q (aa.map fun p=>if p.1=k then (p.1,t) else p)=if q=k then (if aa.any fun p=>decide (p.1=k) then some t else none) else Av q aa:=by
  intro aa
  induction aa with
  | nil=>simp [Av]
  | cons p r ih =>
   obtain ⟨a,x⟩:=p;rw [List.map_cons]
   by_cases ha:a=k
   ·subst ha
    by_cases hq:q=a
    ·subst hq; simp [Av]
    ·have:¬ a=q:=fun e=>hq e.symm;simp only [if_true,Av,if_neg this,ih,if_neg hq]
   ·by_cases hq:q=k
    ·subst hq;simp only [if_neg ha,Av,ih,if_true,List.any_cons,decide_eq_false ha,Bool.false_or]
    ·simp only [if_neg ha,Av,ih,if_neg hq]
 have iN:∀ aa:List (Key × T),(aa.any fun p=>decide (p.1=k))=false->Av q (aa++[(k,t)])=if q=k then some t else Av q aa:=by
  intro aa
  induction aa with
  | nil =>
   intro _
   by_cases hq:q=k
   ·subst hq; simp [Av]
   ·have:¬ k=q:=fun e=>hq e.symm;simp [Av,this,hq]
  | cons p r ih =>
   obtain ⟨a,x⟩:=p;intro h;simp only [List.any_cons,Bool.or_eq_false_iff,decide_eq_false_iff_not] at h;rw [List.cons_append,Av,Av,ih (by simpa using h.2)]
   by_cases hq:q=k
   ·subst hq; simp [h.1]
   ·simp [hq]
 intro aa;unfold Nj
 by_cases h:(aa.any fun p=>decide (p.1=k))=true
 ·rw [if_pos h,iL,h]; simp
 ·rw [if_neg h]; exact iN aa (eq_false_of_ne_true h)
end C
namespace K
open C PySem
theorem eqC {a b:Str} {c:Bool} (h:(PyData.canLay0 (.str a)&&PyData.canLay0 (.str b)&&((a==b)==c))=true):eqO (.str a) (.str b)=some (.bl c):=by
 simp only [Bool.and_eq_true,beq_iff_eq] at h;rw [Uj h.1.1 h.1.2,h.2]
theorem neC {a b:Str} {c:Bool} (h:(PyData.canLay0 (.str a)&&PyData.canLay0 (.str b)&&((a==b) == !c))=true):neO (.str a) (.str b)=some (.bl c):=by
 simp only [Bool.and_eq_true,beq_iff_eq] at h;rw [a5f h.1.1 h.1.2,h.2,Bool.not_not]
theorem inC {w a b:Str} {c:Bool} (h:(PyData.canLay0 (.str w)&&PyData.canLay0 (.str a)&&PyData.canLay0 (.str b)&&((a==w||b==w)==c))=true):inT (.str w) (.tup [.str a,.str b])=some (.bl c):=by
 simp only [Bool.and_eq_true,beq_iff_eq] at h;obtain ⟨⟨⟨h1,h2⟩,h3⟩,h4⟩:=h;simp [inT,inL,eqD,dat,h1,h2,h3,PyData.depth,PyData.eqv,<- h4]
theorem qp:eqO (.str "most") (.str "most")=some (.bl true):=eqC (by decide +kernel)
theorem qy:eqO (.str "most") (.str "rest")=some (.bl false):=eqC (by decide +kernel)
theorem yc:eqO (.str "most") (.str "at")=some (.bl false):=eqC (by decide +kernel)
theorem uo:eqO (.str "most") (.str "not")=some (.bl false):=eqC (by decide +kernel)
theorem uz:eqO (.str "most") (.str "and")=some (.bl false):=eqC (by decide +kernel)
theorem qw:eqO (.str "rest") (.str "most")=some (.bl false):=eqC (by decide +kernel)
theorem qu:eqO (.str "rest") (.str "rest")=some (.bl true):=eqC (by decide +kernel)
theorem yd:eqO (.str "rest") (.str "at")=some (.bl false):=eqC (by decide +kernel)
theorem ux:eqO (.str "rest") (.str "not")=some (.bl false):=eqC (by decide +kernel)
theorem v7:eqO (.str "rest") (.str "and")=some (.bl false):=eqC (by decide +kernel)
theorem xr:eqO (.str "at") (.str "most")=some (.bl false):=eqC (by decide +kernel)
theorem yq:eqO (.str "at") (.str "rest")=some (.bl false):=eqC (by decide +kernel)
theorem Ef:eqO (.str "at") (.str "at")=some (.bl true):=eqC (by decide +kernel)
theorem Bw:eqO (.str "at") (.str "not")=some (.bl false):=eqC (by decide +kernel)
theorem Bj:eqO (.str "at") (.str "and")=some (.bl false):=eqC (by decide +kernel)
theorem uw:eqO (.str "not") (.str "most")=some (.bl false):=eqC (by decide +kernel)
theorem uy:eqO (.str "not") (.str "rest")=some (.bl false):=eqC (by decide +kernel)
theorem Bt:eqO (.str "not") (.str "at")=some (.bl false):=eqC (by decide +kernel)
theorem xg:eqO (.str "not") (.str "not")=some (.bl true):=eqC (by decide +kernel)
theorem zp:eqO (.str "not") (.str "and")=some (.bl false):=eqC (by decide +kernel)
theorem ur:eqO (.str "and") (.str "most")=some (.bl false):=eqC (by decide +kernel)
theorem uq:eqO (.str "and") (.str "rest")=some (.bl false):=eqC (by decide +kernel)
theorem Bm:eqO (.str "and") (.str "at")=some (.bl false):=eqC (by decide +kernel)
theorem yr:eqO (.str "and") (.str "not")=some (.bl false):=eqC (by decide +kernel)
theorem yh:eqO (.str "and") (.str "and")=some (.bl true):=eqC (by decide +kernel)
theorem yt:eqO (.str "or") (.str "most")=some (.bl false):=eqC (by decide +kernel)
theorem yw:eqO (.str "or") (.str "rest")=some (.bl false):=eqC (by decide +kernel)
theorem Ek:eqO (.str "or") (.str "at")=some (.bl false):=eqC (by decide +kernel)
theorem Bl:eqO (.str "or") (.str "not")=some (.bl false):=eqC (by decide +kernel)
theorem Bq:eqO (.str "or") (.str "and")=some (.bl false):=eqC (by decide +kernel)
theorem J7:inT (.str "most") (.tup [.str "and",.str "or"])=some (.bl false):=inC (by decide +kernel)
theorem Jh:inT (.str "most") (.tup [.str "most",.str "rest"])=some (.bl true):=inC (by decide +kernel)
theorem Jb:neO (.str "most") (.str "at")=some (.bl true):=neC (by decide +kernel)
theorem Jj:inT (.str "rest") (.tup [.str "and",.str "or"])=some (.bl false):=inC (by decide +kernel)
theorem Jc:inT (.str "rest") (.tup [.str "most",.str "rest"])=some (.bl true):=inC (by decide +kernel)
theorem Jl:neO (.str "rest") (.str "at")=some (.bl true):=neC (by decide +kernel)
theorem a6w:inT (.str "at") (.tup [.str "and",.str "or"])=some (.bl false):=inC (by decide +kernel)
theorem a6y:inT (.str "at") (.tup [.str "most",.str "rest"])=some (.bl false):=inC (by decide +kernel)
theorem a72:neO (.str "at") (.str "at")=some (.bl false):=neC (by decide +kernel)
theorem Ry:inT (.str "not") (.tup [.str "and",.str "or"])=some (.bl false):=inC (by decide +kernel)
theorem Tn:inT (.str "not") (.tup [.str "most",.str "rest"])=some (.bl false):=inC (by decide +kernel)
theorem Rb:neO (.str "not") (.str "at")=some (.bl true):=neC (by decide +kernel)
theorem Ra:inT (.str "and") (.tup [.str "and",.str "or"])=some (.bl true):=inC (by decide +kernel)
theorem Rn:inT (.str "and") (.tup [.str "most",.str "rest"])=some (.bl false):=inC (by decide +kernel)
theorem T8:neO (.str "and") (.str "at")=some (.bl true):=neC (by decide +kernel)
theorem a6s:inT (.str "or") (.tup [.str "and",.str "or"])=some (.bl true):=inC (by decide +kernel)
theorem a70:inT (.str "or") (.tup [.str "most",.str "rest"])=some (.bl false):=inC (by decide +kernel)
theorem a6r:neO (.str "or") (.str "at")=some (.bl true):=neC (by decide +kernel)
def bk (B:List (Key × T)) (x:Str):Int:=match Av (.inr x) B with
 | some (.int v)=>v
 | _=>0
structure Bk (N:List Str) (B:List (Key × T)):Prop where
 has:∀ x∈N,∃ v:Int,Av (.inr x) B=some (.int v)
 nums:∀ p∈B,∃ v:Int,p.2=.int v
 nd:(B.map fun p=>p.1).Nodup
theorem Bk.at {N:List Str} {B:List (Key × T)} (h:Bk N B) {x:Str} (hx:x∈N):Av (.inr x) B=some (.int (bk B x)):=by
 obtain ⟨v,e⟩:=h.has x hx;rw [e]; unfold bk; rw [e]
theorem Ia {B:List (Key × T)} {x:Str} {v:T} (h:Av (.inr x) B=some v):fj (.dic B) (.str x)=some v:=by simp [fj,keyOf,h]
def val (B:List (Key × T)) (s:Sm):Int:=s.1+(s.2.map fun p=>p.2 * bk B p.1).sum
section
variable {N:List Str} {H:List Hd} {B G:List (Key × T)} {sto:List SO}
theorem b64 {i:Int} (h0:-4<i) (h1:i<4):Rq i=true:=by simp only [Rq,decide_eq_true_eq]; omega
theorem ints_map {α:Type} (f:α->Int):∀ l:List α,Xc (l.map fun a=>T.int (f a))=some (l.map f)
 | []=>rfl
 | a::l=>by simp [Xc,ints_map f l]
theorem a9l {s:Sm} (hN:aa0 N) (hs:a7i N s):s.2.length<lim:=by
 have:=hs.1; have:=hN.1; show _<1000000; omega
theorem value {s:Sm} (hN:aa0 N) (hs:a7i N s) (hB:Bk N B):qx [smT s,.dic B] sto=some (.int (val B s),sto):=by
 have hl:=a9l hN hs;unfold qx smT;simp! [su];generalize hF:v9 _ _ _ _ _ _ _=r
 obtain rfl:=Pa hF pT (fun p=>.int (p.2 * bk B p.1)) s.2 ⟨[some (smT s,false),some (.dic B,false)],sto⟩ [some (smT s,false),some (.dic B,false)] [some (.dic B,false)]
  (by unfold smT; simp! [Ai,hl]) rfl rfl rfl (Nat.le_of_lt hl) (by
   intro p hp pre bT
   obtain ⟨a,b,rfl⟩:∃ a b,pre=[a,b]:=by
    match pre,bT with
    | [a,b],_=>exact ⟨a,b,rfl⟩
   obtain ⟨h1,h2,h3⟩:=hs.2 p hp;refine ⟨[some (.str p.1,false),some (.int p.2,false)],rfl,by unfold pT; rw [Ls]; rfl,rfl,?_⟩;simp! [fj,keyOf,hB.at h1,Pj,b64 h2 h3])
 simp! [aac,ints_map,val]
mutual
def tv (B G:List (Key × T)):Rem->Bool
 | .most s=>decide (val B s<=0)
 | .rest s m=>val B s%m==0
 | .pl h p=>bk G h==p
 | .all l=>Zh B G l
 | .any l=>Yp B G l
 | .no r=>!tv B G r
def Zh (B G:List (Key × T)):List Rem->Bool
 | []=>true
 | r::l=>tv B G r&&Zh B G l
def Yp (B G:List (Key × T)):List Rem->Bool
 | []=>false
 | r::l=>tv B G r||Yp B G l
end
theorem R8:∀ l:List Rem,Zh B G l=!(l.any fun r=>tv B G r==false)
 | []=>rfl
 | r::l=>by rw [Zh,R8 l,List.any_cons]; cases tv B G r <;> simp
theorem Q7:∀ l:List Rem,Yp B G l=l.any fun r=>tv B G r==true
 | []=>rfl
 | r::l=>by rw [Yp,Q7 l,List.any_cons]; cases tv B G r <;> simp
theorem a2k {a b:Bool}:eqO (.bl a) (.bl b)=some (.bl (a==b)):=by simp [eqO,eqT,eqD,dat,PyData.depth,PyData.eqv]
theorem Px {k:Nat} {w:Bool} {ms:T}:∀ (l:List Rem) (o:Slot),(∀ r∈l,jd k [Aw r,.dic B,.dic G] sto=some (.bl (tv B G r),sto)) ->
  ∃ o',forL (hName 4) (sIf (gw (mOp eqO (gk (jd k) (aj (bf 4) (aj (bf 2) (aj (bf 3) dz)))) (bf 0))) (qd (aq (.bl true))) yx) (l.map Aw) ⟨[some (.bl w,false),some (ms,false),some (.dic B,false),some (.dic G,false),o],sto⟩
   = some (if (l.any fun r=>tv B G r==w) then .ret (.bl true) else .next,⟨[some (.bl w,false),some (ms,false),some (.dic B,false),some (.dic G,false),o'],sto⟩)
 | [],o,_=>⟨o,by simp [forL]⟩
 | r::l,o,h=>by
  have h1:=h r List.mem_cons_self;obtain ⟨o',e⟩:=Px (w:=w) (ms:=ms) l (some (Aw r,false)) fun q hq=>h q (List.mem_cons_of_mem _ hq);cases hw:(tv B G r==w) with
  | true =>
   refine ⟨some (Aw r,false),?_⟩;rw [List.map_cons,forL];simp! [h1,a2k,hw]
  | false =>
   refine ⟨o',?_⟩;rw [List.map_cons,forL];simp! [h1,a2k,hw];simpa using e
theorem a2z {k:Nat} {w:Bool} {l:List Rem} (hl:l.length<=5) (h:∀ r∈l,jd k [Aw r,.dic B,.dic G] sto=some (.bl (tv B G r),sto)) :
  uh (k+1) [.bl w,.tup (l.map Aw),.dic B,.dic G] sto=some (.bl (l.any fun r=>tv B G r==w),sto):=by
 have lm:l.length<lim:=by show _<1000000; omega
 obtain ⟨o',e⟩:=Px (w:=w) (ms:=.tup (l.map Aw)) l none h;unfold uh;cases hw:l.any fun r=>tv B G r==w
 all_goals
  rw [hw] at e;simp only [if_true,if_false,Bool.false_eq_true] at e;simp [uf,kj,Yj,J5,bf,lm,e,qd,aq]
theorem holds (hN:aa0 N) (hB:Bk N B) (hG:Bk (H.map (·.1)) G) {d:Nat} {r:Rem} (h:OkR N H d r):∀ k,2 * d<k->jd k [Aw r,.dic B,.dic G] sto=some (.bl (tv B G r),sto):=by
 induction h with
 | most h =>
  intro k hk;obtain ⟨k,rfl⟩:∃ j,k=j+1:=⟨k - 1,by omega⟩;unfold jd Aw tv;simp! [su,Ai,qp,qy,yc,uo,uz,qw,qu,yd,ux,v7,xr,yq,Ef,Bw,Bj,uw,uy,Bt,xg,zp,ur,uq,Bm,yr,yh,yt,yw,Ek,Bl,Bq,J7,Jh,Jb,Jj,Jc,Jl,a6w,a6y,a72,Ry,Tn,Rb,Ra,Rn,T8,a6s,a70,a6r,value hN h hB]
 | rest h a b =>
  rename_i m;intro k hk;obtain ⟨k,rfl⟩:∃ j,k=j+1:=⟨k - 1,by omega⟩;have hm:0<m:=by omega
  unfold jd Aw tv;simp! [su,Ai,Qw,qp,qy,yc,uo,uz,qw,qu,yd,ux,v7,xr,yq,Ef,Bw,Bj,uw,uy,Bt,xg,zp,ur,uq,Bm,yr,yh,yt,yw,Ek,Bl,Bq,J7,Jh,Jb,Jj,Jc,Jl,a6w,a6y,a72,Ry,Tn,Rb,Ra,Rn,T8,a6s,a70,a6r,value hN h hB,hm,Ba]
 | pl h _ _ =>
  intro k hk;obtain ⟨k,rfl⟩:∃ j,k=j+1:=⟨k - 1,by omega⟩;have hi:=hG.at (List.mem_map.mpr ⟨_,h,rfl⟩);unfold jd Aw tv;simp! [su,Ai,Qw,qp,qy,yc,uo,uz,qw,qu,yd,ux,v7,xr,yq,Ef,Bw,Bj,uw,uy,Bt,xg,zp,ur,uq,Bm,yr,yh,yt,yw,Ek,Bl,Bq,J7,Jh,Jb,Jj,Jc,Jl,a6w,a6y,a72,Ry,Tn,Rb,Ra,Rn,T8,a6s,a70,a6r,Ba,Ia hi]
 | all hl _ ih =>
  intro k hk;obtain ⟨k,rfl⟩:∃ j,k=j+2:=⟨k - 2,by omega⟩;have e:=a2z (w:=false) hl fun r hr=>ih r hr k (by omega);unfold jd Aw tv;simp! [su,Ai,qp,qy,yc,uo,uz,qw,qu,yd,ux,v7,xr,yq,Ef,Bw,Bj,uw,uy,Bt,xg,zp,ur,uq,Bm,yr,yh,yt,yw,Ek,Bl,Bq,J7,Jh,Jb,Jj,Jc,Jl,a6w,a6y,a72,Ry,Tn,Rb,Ra,Rn,T8,a6s,a70,a6r,Hl,e,R8]
 | any hl _ ih =>
  intro k hk;obtain ⟨k,rfl⟩:∃ j,k=j+2:=⟨k - 2,by omega⟩;have e:=a2z (w:=true) hl fun r hr=>ih r hr k (by omega);unfold jd Aw tv;simp! [su,Ai,qp,qy,yc,uo,uz,qw,qu,yd,ux,v7,xr,yq,Ef,Bw,Bj,uw,uy,Bt,xg,zp,ur,uq,Bm,yr,yh,yt,yw,Ek,Bl,Bq,J7,Jh,Jb,Jj,Jc,Jl,a6w,a6y,a72,Ry,Tn,Rb,Ra,Rn,T8,a6s,a70,a6r,Hl,e,Q7]
 | no _ ih =>
  intro k hk;obtain ⟨k,rfl⟩:∃ j,k=j+1:=⟨k - 1,by omega⟩;unfold jd Aw tv;simp! [su,Ai,qp,qy,yc,uo,uz,qw,qu,yd,ux,v7,xr,yq,Ef,Bw,Bj,uw,uy,Bt,xg,zp,ur,uq,Bm,yr,yh,yt,yw,Ek,Bl,Bq,J7,Jh,Jb,Jj,Jc,Jl,a6w,a6y,a72,Ry,Tn,Rb,Ra,Rn,T8,a6s,a70,a6r,ih k (by omega)]
theorem a1i {o:Sp} (ho:OkP N H o):o.sets.length<lim:=by have:=ho.len; show _<1000000; omega
end
end K
end
section
namespace C
open PySem
theorem Z8 {k:Key} {t:T} {D:List (Key × T)} (h:k∉D.map (·.1)):Nj k t D=D++[(k,t)]:=by
 unfold Nj;rw [if_neg];intro z;obtain ⟨p,hp,e⟩:=List.any_eq_true.mp z;exact h (List.mem_map.mpr ⟨p,hp,by simpa using e⟩)
theorem a5v {l:List (Key × T)} (h:(l.map (·.1)).Nodup):l.foldl (fun d p=>Nj p.1 p.2 d) []=l:=by
 have go:∀ (l D:List (Key × T)),((D++l).map (·.1)).Nodup->l.foldl (fun d p=>Nj p.1 p.2 d) D=D++l:=by
  intro l
  induction l with
  | nil=>intro D _; simp
  | cons p l ih =>
   intro D h
   have hp:p.1∉D.map (·.1):=by
    rw [List.map_append,List.map_cons] at h;intro z;exact (List.nodup_append.mp h).2.2 p.1 z p.1 List.mem_cons_self rfl
   rw [List.foldl_cons,Z8 hp,ih _ (by simpa using h)];simp
 simpa using go l [] (by simpa using h)
end C
namespace K
open C PySem
def dn (N:List Str) (f:Str->Int):List (Key × T):=N.map fun x=>(.inr x,.int (f x))
theorem Mq {f:Str->Int} {x:Str}:∀ {N:List Str},x∈N->Av (.inr x) (dn N f)=some (.int (f x))
 | [],h=>by cases h
 | y::N,h=>by
  unfold dn;rw [List.map_cons,Av]
  by_cases e:y=x
  ·subst e; simp
  ·rw [if_neg (by simpa using e)];exact Mq ((List.mem_cons.mp h).resolve_left fun z=>e z.symm)
theorem Xh (N:List Str) (f:Str->Int):(dn N f).map (fun p=>p.1)=N.map Sum.inr:=by
 unfold dn; rw [List.map_map]; rfl
theorem a2c {N:List Str} (h:N.Nodup):(N.map (Sum.inr:Str->Key)).Nodup:=List.Pairwise.map _ (fun a b fX e=>fX (Sum.inr.inj e)) h
theorem Us {N:List Str} {f:Str->Int} (h:N.Nodup):Bk N (dn N f) :=
 ⟨fun x hx=>⟨_,Mq hx⟩,fun p hp=>by obtain ⟨x,_,rfl⟩:=List.mem_map.mp hp; exact ⟨_,rfl⟩,by rw [Xh]; exact a2c h⟩
theorem aau {N:List Str} {f:Str->Int} {x:Str} (h:x∈N):bk (dn N f) x=f x:=by unfold bk; rw [Mq h]
theorem a1z {N:List Str} {f:Str->Int} (h:N.Nodup) (hl:N.length<lim) {ks:List T} (hk:ks=N.map T.str) {vs:List T} (hv:vs=N.map fun x=>T.int (f x)):G6 (.lst ks) (.tup vs)=some (.dic (dn N f)):=by
 subst hk hv
 have z:∀ N:List Str,a5j (N.map T.str) (N.map fun x=>T.int (f x))=N.map fun x=>.tup [.str x,.int (f x)]:=by
  intro N
  induction N with
  | nil=>rfl
  | cons x N ih=>unfold a5j at ih ⊢; rw [List.map_cons,List.map_cons,List.zip_cons_cons,List.map_cons,ih]; rfl
 have p:∀ N:List Str,qm (N.map fun x=>T.tup [.str x,.int (f x)])=some (dn N f):=by
  intro N
  induction N with
  | nil=>rfl
  | cons x N ih=>rw [List.map_cons,qm,ih]; rfl
 have l1:(N.map T.str).length<lim:=by rw [List.length_map]; exact hl
 have l2:(N.map fun x=>T.int (f x)).length<lim:=by rw [List.length_map]; exact hl
 unfold G6;simp only [K7];rw [if_pos ⟨l1,l2⟩,z,p,Option.map_some,a5v (by rw [Xh]; exact a2c h)]
noncomputable def stT (bs:List Bx) (H:List Hd) (g f:Str->Int):T:=.tup [.tup (H.map fun h=>.int (g h.1)),.tup (bs.map fun b=>.int (f b.nm))]
section
variable {bs:List Bx} {H:List Hd} {ss:List Sp} {sto:List SO} {g f:Str->Int} {s:Sp}
abbrev nB (bs:List Bx):List Str:=bs.map (·.nm)
abbrev nH (H:List Hd):List Str:=H.map (·.1)
theorem Yc.lB (ok:Yc bs H ss):bs.length<lim:=by have:=ok.ns.1; rw [List.length_map] at this; show _<1000000; omega
theorem Yc.lH (ok:Yc bs H ss):H.length<lim:=by have:=ok.hs.2.1; show _<1000000; omega
theorem W8 (ok:Yc bs H ss):mq [prT bs H ss,stT bs H g f] sto=some (.dic (dn (nB bs) f),sto):=by
 have i0:fj (prT bs H ss) (.int 0)=some (.lst (bs.map bxT)):=su;have j1:fj (stT bs H g f) (.int 1)=some (.tup (bs.map fun b=>.int (f b.nm))):=Ai;have lb:=ok.lB
 have c:=Dm bxT (fun b=>T.str b.nm) bs (g:=hName 0) (nv:=1) (ci:=[]) (c:=En) (it:=J5 (mOp fj (bf 0) (aq (.int 0)))) (e:=mOp fj (bf 0) (aq (.int 0))) (s:=⟨[some (prT bs H ss,false),some (stT bs H g f,false)],sto⟩) (s1:=⟨[some (prT bs H ss,false),some (stT bs H g f,false)],sto⟩) [some (prT bs H ss,false),some (stT bs H g f,false)] []
  (by simp! [i0,lb]) rfl rfl rfl (Nat.le_of_lt lb) (by
   intro b hb pre hp;obtain ⟨a,rfl⟩:=C.p1 pre hp;exact ⟨[some (bxT b,false)],rfl,rfl,rfl,by simp! [bxT,su]⟩)
 have z:=a1z (f:=f) ok.ndB (by rw [List.length_map]; exact lb) (ks:=bs.map fun b=>T.str b.nm) (by rw [List.map_map]; rfl) (vs:=bs.map fun b=>.int (f b.nm)) (by rw [List.map_map]; rfl);unfold mq;simp! [c,j1,z]
theorem Mt (ok:Yc bs H ss):jm [prT bs H ss,stT bs H g f] sto=some (.dic (dn (nH H) g),sto):=by
 have i1:fj (prT bs H ss) (.int 1)=some (.lst (H.map hT)):=Ai;have j0:fj (stT bs H g f) (.int 0)=some (.tup (H.map fun h=>.int (g h.1))):=su;have lb:=ok.lH
 have c:=Dm hT (fun b=>T.str b.1) H (g:=hName 0) (nv:=1) (ci:=[]) (c:=En) (it:=J5 (mOp fj (bf 0) (aq (.int 1)))) (e:=mOp fj (bf 0) (aq (.int 0))) (s:=⟨[some (prT bs H ss,false),some (stT bs H g f,false)],sto⟩) (s1:=⟨[some (prT bs H ss,false),some (stT bs H g f,false)],sto⟩) [some (prT bs H ss,false),some (stT bs H g f,false)] []
  (by simp! [i1,lb]) rfl rfl rfl (Nat.le_of_lt lb) (by
   intro b hb pre hp;obtain ⟨a,rfl⟩:=C.p1 pre hp;exact ⟨[some (hT b,false)],rfl,rfl,rfl,by simp! [hT,su]⟩)
 have z:=a1z (f:=g) ok.ndH (by rw [List.length_map]; exact lb) (ks:=H.map fun b=>T.str b.1) (by rw [List.map_map]; rfl) (vs:=H.map fun h=>.int (g h.1)) (by rw [List.map_map]; rfl);unfold jm;simp! [c,j0,z]
noncomputable def lkL (l:List (Str × Sm)) (x:Str):Option Sm:=l.foldl (fun acc p=>if p.1=x then some p.2 else acc) none
def a3j (l:List (Str × Sm)):List (Key × T):=l.foldl (fun d p=>Nj (.inr p.1) (smT p.2) d) []
theorem Yw (x:Str) (l:List (Str × Sm)):Av (.inr x) (a3j l)=(lkL l x).map smT:=by
 have go:∀ (l:List (Str × Sm)) (D:List (Key × T)) (o:Option Sm),Av (.inr x) D=o.map smT->Av (.inr x) (l.foldl (fun d p=>Nj (.inr p.1) (smT p.2) d) D)=(l.foldl (fun acc p=>if p.1=x then some p.2 else acc) o).map smT:=by
  intro l
  induction l with
  | nil=>intro D o h; exact h
  | cons p l ih =>
   intro D o h;rw [List.foldl_cons,List.foldl_cons];refine ih _ _ ?_;rw [Z1]
   by_cases e:p.1=x
   ·rw [if_pos (by rw [e]),if_pos e]; rfl
   ·rw [if_neg (by simpa using fun z=>e z.symm),if_neg e]; exact h
 exact go l [] none rfl
theorem a3n {x:Str} {l:List (Str × Sm)} {y:Sm} (h:lkL l x=some y):∃ p∈l,p.1=x/\p.2=y:=by
 have go:∀ (l:List (Str × Sm)) (o:Option Sm),l.foldl (fun acc p=>if p.1=x then some p.2 else acc) o=some y->o=some y\/∃ p∈l,p.1=x/\p.2=y:=by
  intro l
  induction l with
  | nil=>intro o h; exact .inl h
  | cons p l ih =>
   intro o h;rw [List.foldl_cons] at h;rcases ih _ h with z | ⟨q,hq,z⟩
   ·by_cases e:p.1=x
    ·rw [if_pos e] at z; exact .inr ⟨p,List.mem_cons_self,e,Option.some.inj z⟩
    ·rw [if_neg e] at z; exact .inl z
   ·exact .inr ⟨q,List.mem_cons_of_mem _ hq,z⟩
 rcases go l none h with z | z
 ·cases z
 ·exact z
theorem X3 {l:List (Str × Sm)} (hl:l.length<lim):O6 [.tup (l.map seT)]=some (.dic (a3j l)):=by
 have p:∀ l:List (Str × Sm),qm (l.map seT)=some (l.map fun p=>((.inr p.1:Key),smT p.2)):=by
  intro l
  induction l with
  | nil=>rfl
  | cons x l ih=>rw [List.map_cons,seT,qm,ih]; rfl
 have l1:(l.map seT).length<lim:=by rw [List.length_map]; exact hl
 simp only [O6,if_pos l1,p,Option.map_some,List.foldl_map,a3j]
def vl (f:Str->Int) (y:Sm):Int:=y.1+(y.2.map fun p=>p.2 * f p.1).sum
theorem a1y {N:List Str} {y:Sm} (h:∀ p∈y.2,p.1∈N):val (dn N f) y=vl f y:=by
 unfold val vl;congr 2;apply List.map_congr_left;intro p hp;rw [aau (h p hp)]
def nv (f:Str->Int) (s:Sp) (x:Str):Int:=match lkL s.sets x with | some y=>vl f y | none=>f x
noncomputable def Ni (f:Str->Int) (s:Sp) (b:Bx):Bool:=match lkL s.sets b.nm with | some y=>decide (b.lo<=vl f y)&&decide (vl f y<=b.hi) | none=>true
def ng (g:Str->Int) (s:Sp) (x:Str):Int:=if x=s.hand then s.there else g x
theorem a3q {a b c d e:T} {i j k l m:Nat} {s:Sta}:Em [i,j,k,l,m] (.tup [a,b,c,d,e]) s=some (gn m e false (gn l d false (gn k c false (gn j b false (gn i a false s))))):=by simp [Em]
theorem Gs (ok:Yc bs H ss) (hs:OkP (nB bs) H s):∀ (rest:List Bx) (acc:List Int) (o5 o6 o7 o8 o9 gA:Slot),(∀ b∈rest,b∈bs)->acc.length+rest.length<=2->∃ p5 p6 p7 p8 p9 p10:Slot,∃ vs:List Int,(rest.all (Ni f s)=true->vs=acc++rest.map fun b=>nv f s b.nm) /\
  forL (Em [5,6,7,8,9]) (kj (qb 10 (mIf (gw (mOp inT (bf 5) (bf 3))) (gk qx (aj (mOp fj (bf 3) (bf 5)) (aj (bf 1) dz))) (mOp fj (bf 1) (bf 5))))
   (kj (sIf (a3h (gw (mOp inT (bf 5) (bf 3))) (mOr (gw (mOp ltT (bf 10) (bf 7))) (gw (mOp gtT (bf 10) (bf 8)))))
   (qd (aq .non))
   yx)
   (m9 4 (bf 10)))) (rest.map bxT) ⟨[some (prT bs H ss,false),some (.dic (dn (nB bs) f),false),some (spT s,false),some (.dic (a3j s.sets),false),some (.lst (acc.map T.int),true),o5,o6,o7,o8,o9,gA],sto⟩
   = some (if rest.all (Ni f s)=true then .next else .ret .non,⟨[some (prT bs H ss,false),some (.dic (dn (nB bs) f),false),some (spT s,false),some (.dic (a3j s.sets),false),some (.lst (vs.map T.int),true),p5,p6,p7,p8,p9,p10],sto⟩)
 | [],acc,o5,o6,o7,o8,o9,gA,_,_=>⟨o5,o6,o7,o8,o9,gA,acc,fun _=>by simp,by simp [forL]⟩
 | b::rest,acc,o5,o6,o7,o8,o9,gA,hb,hl=>by
  have bm:=hb b List.mem_cons_self;have bn:b.nm∈nB bs:=List.mem_map.mpr ⟨b,bm,rfl⟩;simp only [List.length_cons] at hl;have al:acc.length<lim:=by show _<1000000; omega
  have g1:=Mq (f:=f) bn;have sg:=Yw b.nm s.sets;have i1:=Ia g1;cases hk:lkL s.sets b.nm with
  | none =>
   rw [hk] at sg;have it:inT (.str b.nm) (.dic (a3j s.sets))=some (.bl false):=by simp [inT,keyOf,sg]
   have fb:Ni f s b=true:=by unfold Ni; rw [hk]
   have en:nv f s b.nm=f b.nm:=by unfold nv; rw [hk]
   obtain ⟨p5,p6,p7,p8,p9,p10,vs,hv,e⟩:=Gs ok hs rest (acc++[f b.nm]) (some (.str b.nm,false)) (some (.str "",false)) (some (.int b.lo,false)) (some (.int b.hi,false)) (some (.int b.st,false)) (some (.int (f b.nm),false)) (fun c hc=>hb c (List.mem_cons_of_mem _ hc)) (by rw [List.length_append,List.length_singleton]; omega);refine ⟨p5,p6,p7,p8,p9,p10,vs,fun h=>?_,?_⟩
   ·rw [List.all_cons,fb,Bool.true_and] at h;rw [hv h,List.map_cons,en]; simp
   ·rw [List.map_cons,forL];dsimp only;rw [show Em [5,6,7,8,9] (bxT b) _=_ from a3q];rw [List.all_cons,fb,Bool.true_and,<- e];simp! [it,i1,al]
  | some y =>
   rw [hk] at sg;obtain ⟨p,hp,e1,e2⟩:=a3n hk;have iP:=(hs.set p hp).2;rw [e2] at iP;have it:inT (.str b.nm) (.dic (a3j s.sets))=some (.bl true):=by simp [inT,keyOf,sg]
   have i3:fj (.dic (a3j s.sets)) (.str b.nm)=some (smT y):=by simp [fj,keyOf,sg]
   have va:=value (sto:=sto) ok.ns iP (Us (f:=f) ok.ndB);rw [a1y fun p hp=>(iP.2 p hp).1] at va;have en:nv f s b.nm=vl f y:=by unfold nv; rw [hk]
   by_cases hf:Ni f s b=true
   ·have eN:=hf;unfold Ni at eN;rw [hk] at eN;simp only [Bool.and_eq_true,decide_eq_true_eq] at eN;have c1:decide (vl f y<b.lo)=false:=decide_eq_false (by omega);have c2:decide (b.hi<vl f y)=false:=decide_eq_false (by omega);have d1:¬ (vl f y<b.lo):=by omega
    have d2:¬ (b.hi<vl f y):=by omega
    obtain ⟨p5,p6,p7,p8,p9,p10,vs,hv,e⟩:=Gs ok hs rest (acc++[vl f y]) (some (.str b.nm,false)) (some (.str "",false)) (some (.int b.lo,false)) (some (.int b.hi,false)) (some (.int b.st,false)) (some (.int (vl f y),false)) (fun c hc=>hb c (List.mem_cons_of_mem _ hc)) (by rw [List.length_append,List.length_singleton]; omega);refine ⟨p5,p6,p7,p8,p9,p10,vs,fun h=>?_,?_⟩
    ·rw [List.all_cons,hf,Bool.true_and] at h;rw [hv h,List.map_cons,en]; simp
    ·rw [List.map_cons,forL];dsimp only;rw [show Em [5,6,7,8,9] (bxT b) _=_ from a3q];rw [List.all_cons,hf,Bool.true_and,<- e];simp! [it,i3,va,gtT,d1,d2,al]
   ·have iI:Ni f s b=false:=eq_false_of_ne_true hf;have eN:=iI;unfold Ni at eN;rw [hk] at eN
    have out:vl f y<b.lo\/b.hi<vl f y:=by
     by_cases h1:b.lo<=vl f y
     ·right
      simp only [decide_eq_true h1,Bool.true_and,decide_eq_false_iff_not] at eN;omega
     ·left; omega
    refine ⟨some (.str b.nm,false),some (.str "",false),some (.int b.lo,false),some (.int b.hi,false),some (.int b.st,false),some (.int (vl f y),false),acc,fun h=>?_,?_⟩
    ·rw [List.all_cons,iI] at h; cases h
    ·rw [List.map_cons,forL];dsimp only;rw [show Em [5,6,7,8,9] (bxT b) _=_ from a3q];rw [List.all_cons,iI,Bool.false_and]
     by_cases d1:vl f y<b.lo
     ·simp! [it,i3,va,gtT,d1]
     ·have d2:b.hi<vl f y:=out.resolve_left d1;simp! [it,i3,va,gtT,d1,d2]
theorem K3 (ok:Yc bs H ss) (hs:OkP (nB bs) H s):jf [prT bs H ss,.dic (dn (nB bs) f),spT s] sto=some (if bs.all (Ni f s)=true then .tup (bs.map fun b=>.int (nv f s b.nm)) else .non,sto):=by
 have i0:fj (prT bs H ss) (.int 0)=some (.lst (bs.map bxT)):=su;have i3:fj (spT s) (.int 3)=some (.tup (s.sets.map seT)):=a82;have lb:=ok.lB;have l2:=ok.ns.1;rw [List.length_map] at l2;have ds:=X3 (a1i hs);obtain ⟨p5,p6,p7,p8,p9,p10,vs,hv,e⟩:=Gs (sto:=sto) (f:=f) ok hs bs [] none none none none none none (fun b hb=>hb) (by simpa using l2);simp only [List.map_nil,List.nil_append] at e hv;unfold jf
 by_cases h:bs.all (Ni f s)=true
 ·rw [if_pos h] at e ⊢;have kB:=hv h;subst kB;simp! [i3,ds,i0,lb,e,Ag]
 ·rw [if_neg h] at e ⊢;simp! [i3,ds,i0,lb,e]
theorem Ke (hok:∀ h∈H,okN h.1) (hl:H.length<lim) (hs:okN s.hand):je [.dic (dn (nH H) g),spT s] sto=some (.tup (H.map fun h=>.int (ng g s h.1)),sto):=by
 have i0:fj (spT s) (.int 0)=some (.str s.hand):=su;have i4:fj (spT s) (.int 4)=some (.int s.there):=Hr (k:=4) rfl
 have it:J6 (bf 0) ⟨[some (.dic (dn (nH H) g),false),some (spT s,false)],sto⟩=some (H.map fun h=>.tup [.str h.1,.int (g h.1)],⟨[some (.dic (dn (nH H) g),false),some (spT s,false)],sto⟩):=by
  have e:bf 0 ⟨[some (.dic (dn (nH H) g),false),some (spT s,false)],sto⟩=some (.dic (dn (nH H) g),⟨[some (.dic (dn (nH H) g),false),some (spT s,false)],sto⟩):=rfl;unfold J6 a8n;rw [e];dsimp only;rw [if_pos (by unfold dn; rw [List.length_map,List.length_map]; exact hl)];unfold Ez dn;rw [List.map_map,List.map_map]; rfl
 have c:=Dm (fun h:Hd=>T.tup [.str h.1,.int (g h.1)]) (fun h=>T.int (ng g s h.1)) H (g:=Em [0,1]) (nv:=2) (ci:=[1]) (c:=En) (it:=J6 (bf 0)) (e:=mIf (gw (mOp eqO (bf 0) (mOp fj (bf 2) (aq (.int 0))))) (mOp fj (bf 2) (aq (.int 4))) (bf 1)) (s:=⟨[some (.dic (dn (nH H) g),false),some (spT s,false)],sto⟩) (s1:=⟨[some (.dic (dn (nH H) g),false),some (spT s,false)],sto⟩) [some (.dic (dn (nH H) g),false),some (spT s,false)] [some (spT s,false)]
  it rfl rfl rfl (Nat.le_of_lt hl) (by
   intro h hh pre hp;obtain ⟨a,b,rfl⟩:=C.p2 pre hp;have eq:=Uj (hok h hh).1 hs.1;refine ⟨[some (.str h.1,false),some (.int (g h.1),false)],rfl,by rw [Ls]; rfl,rfl,?_⟩
   by_cases e:h.1=s.hand
   ·have eb:(h.1==s.hand)=true:=by simpa using e
    rw [eb] at eq;have en:ng g s h.1=s.there:=if_pos e;rw [en];simp! [i0,eq,i4]
   ·have eb:(h.1==s.hand)=false:=beq_eq_false_iff_ne.mpr e;rw [eb] at eq;have en:ng g s h.1=g h.1:=if_neg e;rw [en];simp! [i0,eq])
 unfold je;simp! [c,Ag]
end
noncomputable def en (bs:List Bx) (H:List Hd) (g f:Str->Int) (s:Sp):Bool:=(g s.hand==s.here)&&tv (dn (nB bs) f) (dn (nH H) g) s.guard&&bs.all (Ni f s)
def eT (p:Sp × Nat):T:=.tup [.int (p.2:Int),spT p.1]
noncomputable def mvT (bs:List Bx) (H:List Hd) (g f:Str->Int) (p:Sp × Nat):T:=.tup [.int (p.2:Int),stT bs H (ng g p.1) (nv f p.1)]
theorem Hg {α β:Type} (f:α->β):∀ (l:List α) (n:Nat),(l.map f).zipIdx n=(l.zipIdx n).map fun p=>(f p.1,p.2)
 | [],n=>rfl
 | a::l,n=>by rw [List.map_cons,List.zipIdx_cons,List.zipIdx_cons,List.map_cons,Hg f l]
theorem a0u (ss:List Sp):Ky (ss.map spT)=ss.zipIdx.map eT:=by
 unfold Ky;rw [Hg,List.map_map]; rfl
theorem Nh {α:Type} {p:α × Nat}:∀ {l:List α} {n:Nat},p∈l.zipIdx n->n<=p.2/\l[p.2 - n]? = some p.1
 | [],n,h=>by cases h
 | a::l,n,h=>by
  rw [List.zipIdx_cons] at h;rcases List.mem_cons.mp h with rfl | h
  ·exact ⟨Nat.le_refl _,by simp⟩
  ·obtain ⟨h1,h2⟩:=Nh h;refine ⟨by omega,?_⟩;rw [show p.2 - n=(p.2 - (n+1))+1 by omega];simpa using h2
section
variable {bs:List Bx} {H:List Hd} {ss:List Sp} {sto:List SO} {g f:Str->Int} {s:Sp}
theorem ac8 (ok:Yc bs H ss):∀ h∈H,okN h.1:=fun h hh=>(ok.hs.2.2 h hh).1
theorem moves (ok:Yc bs H ss) (hl:ss.length<=63):qj [prT bs H ss,stT bs H g f] sto=some (.lst ((ss.zipIdx.filter fun p=>en bs H g f p.1).map (mvT bs H g f)),sto):=by
 have eb:=W8 (sto:=sto) (g:=g) (f:=f) ok;have ep:=Mt (sto:=sto) (g:=g) (f:=f) ok;have i2:fj (prT bs H ss) (.int 2)=some (.lst (ss.map spT)):=Qw;have sl:ss.length<lim:=by show _<1000000; omega
 unfold qj uf;rw [show ([prT bs H ss,stT bs H g f].map (fun t=>some (t,false))++List.replicate (8 - [prT bs H ss,stT bs H g f].length) none:List Slot)=[some (prT bs H ss,false),some (stT bs H g f,false),none,none,none,none,none,none] from rfl];rw [Fx (s':=⟨[some (prT bs H ss,false),some (stT bs H g f,false),some (.dic (dn (nB bs) f),false),none,none,none,none,none],sto⟩) (by simp! [eb])];rw [Fx (s':=⟨[some (prT bs H ss,false),some (stT bs H g f,false),some (.dic (dn (nB bs) f),false),some (.dic (dn (nH H) g),false),none,none,none,none],sto⟩) (by simp! [ep])];rw [Fx (s':=⟨[some (prT bs H ss,false),some (stT bs H g f,false),some (.dic (dn (nB bs) f),false),some (.dic (dn (nH H) g),false),some (.lst [],true),none,none,none],sto⟩) rfl]
 have it:Gv (mOp fj (bf 0) (aq (.int 2))) ⟨[some (prT bs H ss,false),some (stT bs H g f,false),some (.dic (dn (nB bs) f),false),some (.dic (dn (nH H) g),false),some (.lst [],true),none,none,none],sto⟩=some (ss.zipIdx.map eT,⟨[some (prT bs H ss,false),some (stT bs H g f,false),some (.dic (dn (nB bs) f),false),some (.dic (dn (nH H) g),false),some (.lst [],true),none,none,none],sto⟩):=by
  rw [<- a0u];simp! [Gv,i2,sl]
 obtain ⟨o5,o6,o7,eF⟩:∃ o5 o6 o7:Slot,Yj (Em [5,6]) (Gv (mOp fj (bf 0) (aq (.int 2))))
   (sIf (a3h (gw (mOp eqO (mOp fj (bf 3) (mOp fj (bf 6) (aq (.int 0)))) (mOp fj (bf 6) (aq (.int 1))))) (gw (gk (jd 40) (aj (mOp fj (bf 6) (aq (.int 2))) (aj (bf 2) (aj (bf 3) dz))))))
   (kj (qb 7 (gk jf (aj (bf 0) (aj (bf 2) (aj (bf 6) dz)))))
   (sIf (gw (mOp Cj (bf 7) (aq .non)))
   (m9 4 (iy (fun l=>some (.tup l)) (aj (bf 5) (aj (iy (fun l=>some (.tup l)) (aj (gk je (aj (bf 3) (aj (bf 6) dz))) (aj (bf 7) dz))) dz))))
   yx))
   yx) ⟨[some (prT bs H ss,false),some (stT bs H g f,false),some (.dic (dn (nB bs) f),false),some (.dic (dn (nH H) g),false),some (.lst [],true),none,none,none],sto⟩
   = some (.next,⟨[some (prT bs H ss,false),some (stT bs H g f,false),some (.dic (dn (nB bs) f),false),some (.dic (dn (nH H) g),false),some (.lst ((ss.zipIdx.filter fun p=>en bs H g f p.1).map (mvT bs H g f)),true),o5,o6,o7],sto⟩):=by
  unfold Yj;rw [it];dsimp only;generalize hF:forL _ _ _ _=qq
  obtain ⟨s',rfl,P⟩:=a66 hF (fun ts st=>∃ (m:List (Sp × Nat)) (acc:List T) (o5 o6 o7:Slot),ts=m.map eT/\(∀ p∈m,p.1∈ss)/\acc.length+m.length<=63/\st=⟨[some (prT bs H ss,false),some (stT bs H g f,false),some (.dic (dn (nB bs) f),false),some (.dic (dn (nH H) g),false),some (.lst acc,true),o5,o6,o7],sto⟩/\acc++(m.filter fun p=>en bs H g f p.1).map (mvT bs H g f)=(ss.zipIdx.filter fun p=>en bs H g f p.1).map (mvT bs H g f))
   ⟨ss.zipIdx,[],none,none,none,rfl,fun p hp=>List.mem_of_getElem? (Nh hp).2,by simpa using hl,rfl,rfl⟩ (by
    rintro t r st ⟨m,acc,o5,o6,o7,e1,e2,e3,rfl,e4⟩;cases m with
    | nil=>cases e1
    | cons p m =>
     cases e1;have ps:=e2 p List.mem_cons_self;have gG:=ok.ss p.1 ps;simp only [List.length_cons] at e3;have al:acc.length<lim:=by show _<1000000; omega
     have j0:fj (spT p.1) (.int 0)=some (.str p.1.hand):=su;have j1:fj (spT p.1) (.int 1)=some (.int p.1.here):=Ai;have j2:fj (spT p.1) (.int 2)=some (Aw p.1.guard):=Qw;have ig:=Ia (Mq (f:=g) (gG.mem));have hh:=holds (sto:=sto) ok.ns (Us (f:=f) ok.ndB) (Us (f:=g) ok.ndH) gG.gd 40 (by decide);have vb:=K3 (sto:=sto) (f:=f) ok gG;have pb:=Ke (sto:=sto) (g:=g) (ac8 ok) ok.lH gG.hd;rw [List.filter_cons] at e4
     by_cases h1:g p.1.hand=p.1.here
     ·have b1:(g p.1.hand==p.1.here)=true:=by simpa using h1
      cases h2:tv (dn (nB bs) f) (dn (nH H) g) p.1.guard with
      | false =>
       rw [h2] at hh;have ef:en bs H g f p.1=false:=by unfold en; rw [b1,h2]; rfl
       rw [if_neg (by rw [ef]; exact Bool.false_ne_true)] at e4;exact ⟨_,⟨[some (prT bs H ss,false),some (stT bs H g f,false),some (.dic (dn (nB bs) f),false),some (.dic (dn (nH H) g),false),some (.lst acc,true),some (.int (p.2:Int),false),some (spT p.1,false),o7],sto⟩,by unfold eT; exact Ls,by simp! [j0,ig,j1,Ba,b1,j2,hh],m,acc,_,_,_,rfl,fun v hv=>e2 v (List.mem_cons_of_mem _ hv),by omega,rfl,e4⟩
      | true =>
       rw [h2] at hh
       by_cases h3:bs.all (Ni f p.1)=true
       ·have ef:en bs H g f p.1=true:=by unfold en; rw [b1,h2,h3]; rfl
        rw [if_pos ef] at e4;rw [if_pos h3] at vb;have nn:Cj (.tup (bs.map fun b=>.int (nv f p.1 b.nm))) .non=some (.bl true):=rfl;refine ⟨_,⟨[some (prT bs H ss,false),some (stT bs H g f,false),some (.dic (dn (nB bs) f),false),some (.dic (dn (nH H) g),false),some (.lst (acc++[mvT bs H g f p]),true),some (.int (p.2:Int),false),some (spT p.1,false),some (.tup (bs.map fun b=>.int (nv f p.1 b.nm)),false)],sto⟩,by unfold eT; exact Ls,?_,m,acc++[mvT bs H g f p],_,_,_,rfl,fun v hv=>e2 v (List.mem_cons_of_mem _ hv),by rw [List.length_append,List.length_singleton]; omega,rfl,?_⟩
        ·simp! [j0,ig,j1,Ba,b1,j2,hh,vb,nn,pb,al,mvT,stT]
        ·rw [<- e4,List.map_cons,List.append_assoc]; rfl
       ·have ef:en bs H g f p.1=false:=by unfold en; rw [b1,h2,eq_false_of_ne_true h3]; rfl
        rw [if_neg (by rw [ef]; exact Bool.false_ne_true)] at e4;rw [if_neg h3] at vb;have nn:Cj .non .non=some (.bl false):=rfl;exact ⟨_,⟨[some (prT bs H ss,false),some (stT bs H g f,false),some (.dic (dn (nB bs) f),false),some (.dic (dn (nH H) g),false),some (.lst acc,true),some (.int (p.2:Int),false),some (spT p.1,false),some (.non,false)],sto⟩,by unfold eT; exact Ls,by simp! [j0,ig,j1,Ba,b1,j2,hh,vb,nn],m,acc,_,_,_,rfl,fun v hv=>e2 v (List.mem_cons_of_mem _ hv),by omega,rfl,e4⟩
     ·have b1:(g p.1.hand==p.1.here)=false:=beq_eq_false_iff_ne.mpr h1;have ef:en bs H g f p.1=false:=by unfold en; rw [b1]; rfl
      rw [if_neg (by rw [ef]; exact Bool.false_ne_true)] at e4;exact ⟨_,⟨[some (prT bs H ss,false),some (stT bs H g f,false),some (.dic (dn (nB bs) f),false),some (.dic (dn (nH H) g),false),some (.lst acc,true),some (.int (p.2:Int),false),some (spT p.1,false),o7],sto⟩,by unfold eT; exact Ls,by simp! [j0,ig,j1,Ba,b1],m,acc,_,_,_,rfl,fun v hv=>e2 v (List.mem_cons_of_mem _ hv),by omega,rfl,e4⟩)
  obtain ⟨m,acc,o5,o6,o7,e1,e2,e3,rfl,e4⟩:=P;cases m with
  | cons _ _=>cases e1
  | nil =>
   simp only [List.filter_nil,List.map_nil,List.append_nil] at e4;subst e4;exact ⟨o5,o6,o7,rfl⟩
 rw [Fx eF];simp! []
noncomputable def cn (bs:List Bx) (H:List Hd) (ss:List Sp) (g f:Str->Int):List Nat:=(ss.zipIdx.filter fun p=>en bs H g f p.1).map (·.2)
end
structure Pm where
 h:Str
 b:Str
 lo:Int
 n:Nat
 t:Nat
structure Pm.Ok (p:Pm):Prop where
 h:okN p.h
 b:okN p.b
 n:1<=p.n/\p.n<=1100
 t:p.t<3
section
variable {p:Pm} {sto:List SO}
def Pm.A (p:Pm):Sp:=⟨p.h,0,.all [],[(p.b,(1,[(p.b,1)]))],0⟩
def Pm.B (p:Pm):Sp:=⟨p.h,0,.all [],[(p.b,(p.lo,[]))],0⟩
def Pm.C (p:Pm):Sp:=⟨p.h,0,.any [],[],0⟩
noncomputable def Pm.ss (p:Pm):List Sp:=if p.t=0 then [p.A,p.B,p.C] else if p.t=1 then [p.B,p.C,p.A] else [p.C,p.A,p.B]
def Pm.bs (p:Pm):List Bx:=[⟨p.b,p.lo,p.lo+p.n,p.lo⟩]
def Pm.H (p:Pm):List Hd:=[(p.h,1)]
def Pm.tr (p:Pm):T:=prT p.bs p.H p.ss
theorem Pm.ok (o:p.Ok):Yc p.bs p.H p.ss where
 ndB:=by simp [Pm.bs]
 ndH:=by simp [Pm.H]
 ns:=⟨by simp [Pm.bs],fun x hx=>by simp [Pm.bs] at hx; subst hx; exact o.b⟩
 bx:=fun b hb=>by
  simp only [Pm.bs,List.mem_cons,List.not_mem_nil,or_false] at hb;subst hb;exact ⟨o.b,Int.le_refl _,by show p.lo<=p.lo+p.n; omega⟩
 hs:=⟨by simp [Pm.H],by simp [Pm.H],fun x hx=>by simp only [Pm.H,List.mem_cons,List.not_mem_nil,or_false] at hx; subst hx; exact ⟨o.h,by simp,by simp⟩⟩
 ss:=fun s hs=>by
  have hm:p.h∈p.H.map (·.1):=by simp [Pm.H]
  have hA:OkP (p.bs.map (·.nm)) p.H p.A:=⟨o.h,hm,.all (d:=2) (by decide) (fun r hr=>nomatch hr),by simp [Pm.A],fun q hq=>by
   simp only [Pm.A,List.mem_cons,List.not_mem_nil,or_false] at hq;subst hq;refine ⟨by simp [Pm.bs],by simp [Pm.bs],fun r hr=>?_⟩;simp only [List.mem_cons,List.not_mem_nil,or_false] at hr;subst hr;exact ⟨by simp [Pm.bs],by simp,by simp⟩⟩
  have hB:OkP (p.bs.map (·.nm)) p.H p.B:=⟨o.h,hm,.all (d:=2) (by decide) (fun r hr=>nomatch hr),by simp [Pm.B],fun q hq=>by
   simp only [Pm.B,List.mem_cons,List.not_mem_nil,or_false] at hq;subst hq;exact ⟨by simp [Pm.bs],by simp [Pm.bs],fun r hr=>nomatch hr⟩⟩
  have hC:OkP (p.bs.map (·.nm)) p.H p.C:=⟨o.h,hm,.any (d:=2) (by decide) (fun r hr=>nomatch hr),by simp [Pm.C],fun q hq=>nomatch hq⟩;unfold Pm.ss at hs;split at hs
  ·simp only [List.mem_cons,List.not_mem_nil,or_false] at hs;rcases hs with rfl | rfl | rfl
   ·exact hA
   ·exact hB
   ·exact hC
  ·split at hs <;> simp only [List.mem_cons,List.not_mem_nil,or_false] at hs <;> rcases hs with rfl | rfl | rfl <;> assumption
def Pm.st (p:Pm) (k:Nat):T:=.tup [.tup [.int 0],.tup [.int (p.lo+k)]]
def fk (p:Pm) (k:Nat):Str->Int:=fun _=>p.lo+k
theorem ab7 (k:Nat):stT p.bs p.H (fun _=>0) (fk p k)=p.st k:=rfl
theorem Pk {x:Str} {y:Sm}:lkL [(x,y)] x=some y:=by simp [lkL]
theorem a6u (k:Nat):en p.bs p.H (fun _=>0) (fk p k) p.A=decide (k<p.n):=by
 have h2:tv (dn (nB p.bs) (fk p k)) (dn (nH p.H) fun _=>0) p.A.guard=true:=rfl
 have h3:p.bs.all (Ni (fk p k) p.A)=decide (k<p.n):=by
  simp only [Pm.bs,List.all_cons,List.all_nil,Bool.and_true,Ni,Pm.A,Pk,vl,fk,List.map_cons,List.map_nil,List.sum_cons,List.sum_nil];rw [<- Bool.decide_and];congr 1;apply propext;constructor <;> intro h <;> omega
 unfold en;rw [h2,h3];simp [Pm.A]
theorem a73 (k:Nat):en p.bs p.H (fun _=>0) (fk p k) p.B=true:=by
 have h2:tv (dn (nB p.bs) (fk p k)) (dn (nH p.H) fun _=>0) p.B.guard=true:=rfl
 have h3:p.bs.all (Ni (fk p k) p.B)=true:=by
  simp only [Pm.bs,List.all_cons,List.all_nil,Bool.and_true,Ni,Pm.B,Pk,vl,List.map_nil,List.sum_nil];simp;omega
 unfold en;rw [h2,h3];simp [Pm.B]
theorem a6v (k:Nat):en p.bs p.H (fun _=>0) (fk p k) p.C=false:=by
 have h2:tv (dn (nB p.bs) (fk p k)) (dn (nH p.H) fun _=>0) p.C.guard=false:=rfl;unfold en;rw [h2];simp
theorem a6z (i k:Nat):mvT p.bs p.H (fun _=>0) (fk p k) (p.A,i)=.tup [.int (i:Int),p.st (k+1)]:=by
 have e:nv (fk p k) p.A p.b=p.lo+((k+1:Nat):Int):=by
  simp only [nv,Pm.A,Pk,vl,fk,List.map_cons,List.map_nil,List.sum_cons,List.sum_nil];omega
 simp only [mvT,stT,Pm.bs,Pm.H,List.map_cons,List.map_nil,Pm.st];have e2:ng (fun _=>0) p.A p.h=0:=by simp [ng,Pm.A]
 show T.tup [.int (i:Int),.tup [.tup [.int (ng (fun _=>0) p.A p.h)],.tup [.int (nv (fk p k) p.A p.b)]]]=_;rw [e,e2]
theorem a6t (i k:Nat):mvT p.bs p.H (fun _=>0) (fk p k) (p.B,i)=.tup [.int (i:Int),p.st 0]:=by
 have e:nv (fk p k) p.B p.b=p.lo+((0:Nat):Int):=by
  simp [nv,Pm.B,Pk,vl]
 simp only [mvT,stT,Pm.bs,Pm.H,List.map_cons,List.map_nil,Pm.st];have e2:ng (fun _=>0) p.B p.h=0:=by simp [ng,Pm.B]
 show T.tup [.int (i:Int),.tup [.tup [.int (ng (fun _=>0) p.B p.h)],.tup [.int (nv (fk p k) p.B p.b)]]]=_;rw [e,e2]
def Pm.up (p:Pm):Nat:=if p.t=0 then 0 else if p.t=1 then 2 else 1
def Pm.dw (p:Pm):Nat:=if p.t=0 then 1 else if p.t=1 then 0 else 2
def enT (p:Pm) (e:Nat × Nat):T:=.tup [.int (e.1:Int),p.st e.2]
noncomputable def Pm.mv (p:Pm) (k:Nat):List (Nat × Nat):=if p.t=1 then (p.dw,0)::(if k<p.n then [(p.up,k+1)] else []) else (if k<p.n then [(p.up,k+1)] else [])++[(p.dw,0)]
theorem Uq (o:p.Ok) (k:Nat):qj [p.tr,p.st k] sto=some (.lst ((p.mv k).map (enT p)),sto):=by
 have h:=moves (sto:=sto) (g:=fun _=>0) (f:=fk p k) (Pm.ok o) (by unfold Pm.ss; split; simp; split <;> simp);rw [ab7] at h
 have e:((p.ss.zipIdx.filter fun q=>en p.bs p.H (fun _=>0) (fk p k) q.1).map (mvT p.bs p.H (fun _=>0) (fk p k)))=(p.mv k).map (enT p):=by
  have ht:=o.t;have h3:p.t=0\/p.t=1\/p.t=2:=by omega
  rcases h3 with h3 | h3 | h3
  ·by_cases hk:k<p.n
   ·simp [Pm.ss,h3,List.zipIdx,List.filter,a6u,a73,a6v,hk,Pm.mv,Pm.up,Pm.dw,a6z,a6t,enT]
   ·simp [Pm.ss,h3,List.zipIdx,List.filter,a6u,a73,a6v,hk,Pm.mv,Pm.up,Pm.dw,a6z,a6t,enT]
  ·by_cases hk:k<p.n
   ·simp [Pm.ss,h3,List.zipIdx,List.filter,a6u,a73,a6v,hk,Pm.mv,Pm.up,Pm.dw,a6z,a6t,enT]
   ·simp [Pm.ss,h3,List.zipIdx,List.filter,a6u,a73,a6v,hk,Pm.mv,Pm.up,Pm.dw,a6z,a6t,enT]
  ·by_cases hk:k<p.n
   ·simp [Pm.ss,h3,List.zipIdx,List.filter,a6u,a73,a6v,hk,Pm.mv,Pm.up,Pm.dw,a6z,a6t,enT]
   ·simp [Pm.ss,h3,List.zipIdx,List.filter,a6u,a73,a6v,hk,Pm.mv,Pm.up,Pm.dw,a6z,a6t,enT]
 rw [e] at h;exact h
end
section
variable {a b:M T} {l r:M (List T)} {s s1 s2:Sta} {t u v:T} {ts:List T} {i:Nat} {F:Fn} {z:List SO} {x y:S}
theorem zo {f:T->T->Option T} (h1:a s=some (t,s1)) (h2:b s1=some (u,s2)) (h3:f t u=some v):mOp f a b s=some (v,s2):=by
 unfold mOp; rw [h1]; dsimp only; rw [h2]; dsimp only; rw [h3]
theorem zm {f:List T->Option T} (h:l s=some (ts,s1)) (h2:f ts=some u):iy f l s=some (u,s1):=by
 unfold iy; rw [h]; dsimp only; rw [h2]
theorem zc (h:a s=some (t,s1)) (h2:l s1=some (ts,s2)):aj a l s=some (t::ts,s2):=by
 unfold aj; rw [h]; dsimp only; rw [h2]
theorem zf (h:l s=some (ts,s1)) (h2:F ts s1.sto=some (t,z)):gk F l s=some (t,⟨s1.env,z⟩):=by
 unfold gk; rw [h]; dsimp only; rw [h2]
theorem zs (h:a s=some (t,s1)):qb i a s=some (.next,gn i t false s1):=by unfold qb; rw [h]
theorem zr (h:a s=some (t,s1)):qd a s=some (.ret t,s1):=by unfold qd; rw [h]
theorem zq {q:Option (C.Flow × Sta)} (h:x s=some (.next,s1)) (h2:y s1=q):kj x y s=q:=by unfold kj; rw [h]; exact h2
theorem zt {k:Bool} (h:a s=some (.bl k,s1)):gw a s=some (k,s1):=by unfold gw; rw [h]
theorem zk {c:M Bool} (h:c s=some (true,s1)) {q:Option (C.Flow × Sta)} (h2:x s1=q):sIf c x y s=q:=by unfold sIf; rw [h]; exact h2
theorem ze {c:M Bool} (h:c s=some (false,s1)) {q:Option (C.Flow × Sta)} (h2:y s1=q):sIf c x y s=q:=by unfold sIf; rw [h]; exact h2
theorem ys {s':Sta} (h:a s=some (t,s1)) (e:gn i t false s1=s'):qb i a s=some (.next,s'):=by unfold qb; rw [h,<- e]
theorem yn {s':Sta} (h:a s=some (t,s1)) (e:gn i t true s1=s'):sNew i a s=some (.next,s'):=by unfold sNew; rw [h,<- e]
theorem md {i j:Int} (h:0<j):Hs (.int i) (.int j)=some (.int (i%j)):=if_pos h
theorem ad2 {α:Type} {f:α->T} {l:List α}:Ob [.lst (l.map f)]=some (.int l.length):=by show some (T.int ((l.map f).length:Int))=_; rw [List.length_map]
theorem zun {f:T->Option T} (h:a s=some (t,s1)) (h2:f t=some u):mUn f a s=some (u,s1):=by unfold mUn; rw [h]; dsimp only; rw [h2]
theorem zis {α:Type} {f:α->T} {k:List α} (h:a s=some (.lst (k.map f),s1)) (hl:k.length<lim):J5 a s=some (k.map f,s1):=by
 unfold J5; rw [h]; dsimp only; rw [List.length_map,if_pos hl]
theorem zqr (h:x s=some (.ret t,s1)):kj x y s=some (.ret t,s1):=by unfold kj; rw [h]
theorem abr {c:M Bool} {k:Bool} (h:c s=some (k,s1)):U7 c s=some (!k,s1):=by unfold U7; rw [h]
theorem abm {c d:M Bool} {q:Option (Bool × Sta)} (h:c s=some (false,s1)) (h2:d s1=q):mOr c d s=q:=by unfold mOr; rw [h]; exact h2
theorem za {s':Sta} {xs:List T} (h:a s=some (t,s1)) (hx:s1.env[i]? = some (some (.lst xs,true))) (hl:xs.length<lim) (hs:El i s=true) (e:gn i (.lst (xs++[t])) true s1=s'):m9 i a s=some (.next,s'):=by
 unfold m9; rw [if_pos hs,h]; dsimp only; rw [hx]; dsimp only; rw [if_pos hl,e]
theorem acy {p q:Int} (h:p<q):ltT (.int p) (.int q)=some (.bl true):=by show some (T.bl (decide (p<q)))=_; rw [decide_eq_true h]
theorem acr {p q:Int} (h:¬ p<q):ltT (.int p) (.int q)=some (.bl false):=by show some (T.bl (decide (p<q)))=_; rw [decide_eq_false h]
theorem eq_i {p q:Int} {k:Bool} (h:(p==q)=k):eqO (.int p) (.int q)=some (.bl k):=by rw [Ba,h]
theorem zf0 (h:l s=some (ts,s1)) (h2:F ts s1.sto=some (t,s1.sto)):gk F l s=some (t,s1):=by
 unfold gk; rw [h]; dsimp only; rw [h2]
theorem zrun {n:Nat} {A:List T} {z0:List SO} (h:x ⟨A.map (fun t=>some (t,false))++List.replicate (n - A.length) none,z0⟩=some (.ret t,s1)) (h2:s1.sto=z):uf n x A z0=some (t,z):=by
 unfold uf; rw [h]; dsimp only; rw [h2]
end
end K
namespace K
open C PySem
end K
namespace K
open C PySem
theorem zrg {a:M T} {s s1:Sta} {m:Nat} (h:a s=some (.int (m:Int),s1)) (hl:m<lim):Dv a s=some ((List.range m).map (fun (k:Nat)=>T.int (k:Int)),s1):=by
 unfold Dv; rw [h]; dsimp only; unfold rangeT; simp [hl]
section
variable {a b:SX} {s s1 s2:Sta} {u:S} {fl:C.Flow} {r:C.Flow ⊕ T} {q:Option ((C.Flow ⊕ T) × Sta)} {c:M Bool} {g:G} {t v:T} {w:List T} {n:Nat}
theorem xl (h:u s=some (fl,s1)):lx u s=some (.inl fl,s1):=by unfold lx; rw [h]
theorem xq (h:a s=some (.inl .next,s1)) (h2:b s1=q):vd a b s=q:=by unfold vd; rw [h]; exact h2
theorem xlq (h:u s=some (.next,s1)) (h2:b s1=q):vd (lx u) b s=q:=xq (xl h) h2
theorem xqr (h:a s=some (r,s1)) (hr:r≠.inl .next):vd a b s=some (r,s1):=by
 unfold vd; rw [h];cases r with
 | inr t=>rfl
 | inl f=>cases f with
  | next=>exact absurd rfl hr
  | _=>rfl
theorem aaq (h:c s=some (true,s1)) (h2:a s1=q):xIf c a b s=q:=by unfold xIf; rw [h]; exact h2
theorem a9k (h:c s=some (false,s1)) (h2:b s1=q):xIf c a b s=q:=by unfold xIf; rw [h]; exact h2
theorem a5k (h:g t s=some s1) (hb:a s1=some (.inl .next,s2)) (h2:tu g a w s2=q):tu g a (t::w) s=q:=by
 rw [tu]; dsimp only; rw [h]; dsimp only; rw [hb]; exact h2
theorem Uv (h:g t s=some s1) (hb:a s1=some (.inl .cont,s2)) (h2:tu g a w s2=q):tu g a (t::w) s=q:=by
 rw [tu]; dsimp only; rw [h]; dsimp only; rw [hb]; exact h2
theorem a98 (h:g t s=some s1) (hb:a s1=some (.inl (.ret v),s2)):tu g a (t::w) s=some (.inl (.ret v),s2):=by
 rw [tu]; dsimp only; rw [h]; dsimp only; rw [hb]
theorem a8s (h:g t s=some s1) (hb:a s1=some (.inr v,s2)):tu g a (t::w) s=some (.inr v,s2):=by
 rw [tu]; dsimp only; rw [h]; dsimp only; rw [hb]
theorem a7f {m:M (List T)} (h:m s=some (w,s1)) (h2:tu g a w s1=q):a3d g m a s=q:=by unfold a3d; rw [h]; exact h2
theorem a7q (hc:c s=some (true,s1)) (hb:a s1=some (.inl .next,s2)) (h2:lu n c a s2=q):lu (n+1) c a s=q:=by
 rw [lu]; dsimp only; rw [hc]; dsimp only; rw [hb]; exact h2
theorem ab4 (hc:c s=some (false,s1)):lu (n+1) c a s=some (.inl .next,s1):=by
 rw [lu]; dsimp only; rw [hc]
theorem ab5 (hc:c s=some (true,s1)) (hb:a s1=some (.inl (.ret v),s2)):lu (n+1) c a s=some (.inl (.ret v),s2):=by
 rw [lu]; dsimp only; rw [hc]; dsimp only; rw [hb]
theorem ab3 (hc:c s=some (true,s1)) (hb:a s1=some (.inr v,s2)):lu (n+1) c a s=some (.inr v,s2):=by
 rw [lu]; dsimp only; rw [hc]; dsimp only; rw [hb]
end
section
variable {p:Pm} {sto:List SO} {fa j i k:Nat} {most ix:Int} {G:Fn} {w:Nat->Bool} {x y z:Slot}
def Pm.key (p:Pm) (k:Nat):List (List Key):=[[.inl 0],[.inl (p.lo+k)]]
noncomputable def Pm.L (p:Pm) (j:Nat):List (List (List Key) × T):=(p.key 0,.non)::(List.range j).map fun i=>(p.key (i+1),.tup [p.st i,.int (p.up:Int)])
theorem Fo (k:Nat):nestsOf [.tup [.int 0],.tup [.int (p.lo+k)]]=some (p.key k):=rfl
theorem Ov {a b:Nat}:p.key a=p.key b↔a=b:=by
 simp only [Pm.key,List.cons.injEq,and_true,true_and,Sum.inl.injEq];omega
theorem a2j:G5 (p.key 0) (p.L j)=some .non:=by simp [Pm.L,G5]
theorem Vd (u:Nat->T):∀ l:List Nat,G5 (p.key (k+1)) (l.map fun i=>(p.key (i+1),u i))=if k∈l then some (u k) else none
 | []=>by simp [G5]
 | a::l=>by
  rw [List.map_cons,G5,Vd u l]
  by_cases e:a=k
  ·subst e; simp
  ·rw [if_neg (fun z=>e (by have:=Ov.mp z; omega))];have:(k∈a::l)↔k∈l:=by simp [Ne.symm e]
   simp only [this]
theorem a86 (h:k<j):G5 (p.key (k+1)) (p.L j)=some (.tup [p.st k,.int (p.up:Int)]):=by
 unfold Pm.L;rw [G5,if_neg (fun z=>by have:=Ov.mp z; omega),Vd (fun i=>.tup [p.st i,.int (p.up:Int)]),if_pos (List.mem_range.mpr h)]
theorem a4a (h:j<k):G5 (p.key k) (p.L j)=none:=by
 obtain ⟨m,rfl⟩:∃ m,k=m+1:=⟨k - 1,by omega⟩;unfold Pm.L;rw [G5,if_neg (fun z=>by have:=Ov.mp z; omega),Vd (fun i=>.tup [p.st i,.int (p.up:Int)]),if_neg (fun q=>by have:=List.mem_range.mp q; omega)]
theorem a76 (h:k<=j):(G5 (p.key k) (p.L j)).isSome=true:=by
 cases k with
 | zero=>rw [a2j]; rfl
 | succ k=>rw [a86 (by omega)]; rfl
theorem a7s:p.L j++[(p.key (j+1),.tup [p.st j,.int (p.up:Int)])]=p.L (j+1):=by
 unfold Pm.L;rw [List.range_succ,List.map_append]; rfl
theorem aaz:(p.L j).length=j+1:=by simp [Pm.L]
theorem Mx {o:SO}:(sto++[o])[sto.length]? = some o:=by simp
theorem V8 {o o':SO}:(sto++[o]).set sto.length o'=sto++[o']:=by simp
noncomputable def sE (p:Pm) (most:Int) (fa N j:Nat) (ix:Int) (x y z:Slot):List Slot:=[some (p.tr,false),some (.int most,false),some (.adr fa,false),some (p.st 0,false),some (.obj N,false),some (.lst ((List.range (j+1)).map p.st),true),some (.int ix,false),x,y,z]
abbrev sS (p:Pm) (sto:List SO) (most:Int) (fa j:Nat) (ix:Int) (x y z:Slot):Sta:=⟨sE p most fa sto.length j ix x y z,sto++[.dnk (p.L j)]⟩
noncomputable def sB (fa:Nat) (G:Fn):SX :=
 (vd (lx (sIf (gw (Ii (bf 9) (bf 4)))
 a6p
 yx))
 (vd (xIf (gw (mOp eqO (Az 5) (bf 1)))
 (Hz (bf 1))
 (lx yx))
 (vd (lx (Ea (bf 4) (bf 9) (iy (fun l=>some (.tup l)) (aj (bf 7) (aj (bf 8) dz)))))
 (vd (lx (sIf (gw (Zn 2 fa G (aj (bf 9) dz)))
 (qd (iy (fun l=>some (.tup l)) (aj (bf 4) (aj (bf 9) dz))))
 yx))
 (lx (m9 5 (bf 9)))))))
def Gw (G:Fn) (p:Pm) (sto:List SO) (w:Nat->Bool):Prop:=∀ k d,k<=p.n->G [p.st k] (sto++[.dnk d])=some (.bl (w k),sto++[.dnk d])
theorem Xy (k:Nat):Ii (bf 9) (bf 4) (sS p sto most fa j ix x y (some (p.st k,false)))=some (.bl (G5 (p.key k) (p.L j)).isSome,sS p sto most fa j ix x y (some (p.st k,false))):=by
 unfold Ii;rw [show bf 9 (sS p sto most fa j ix x y (some (p.st k,false)))=some (.tup [.tup [.int 0],.tup [.int (p.lo+k)]],sS p sto most fa j ix x y (some (p.st k,false))) from rfl];dsimp only;rw [show bf 4 (sS p sto most fa j ix x y (some (p.st k,false)))=some (.obj sto.length,sS p sto most fa j ix x y (some (p.st k,false))) from rfl];dsimp only;rw [Mx,Fo]
theorem a9f:sB fa G (sS p sto most fa j ix x y (some (p.st 0,false)))=some (.inl .cont,sS p sto most fa j ix x y (some (p.st 0,false))):=by
 refine xqr (xl (zk (zt ?_) rfl)) (by simp);rw [Xy,a76 (Nat.zero_le _)]
theorem a9x (z:Slot):Az 5 (sS p sto most fa j ix x y z)=some (.int ((j+1:Nat):Int),sS p sto most fa j ix x y z):=by
 show some (T.int ((((List.range (j+1)).map p.st).length:Nat):Int),_)=_;simp
theorem V2 (hm:most=((j+1:Nat):Int)):sB fa G (sS p sto most fa j ix x y (some (p.st (j+1),false)))=some (.inr (.int most),sS p sto most fa j ix x y (some (p.st (j+1),false))):=by
 refine xlq (s1:=sS p sto most fa j ix x y (some (p.st (j+1),false))) (ze (zt (k:=false) (s1:=sS p sto most fa j ix x y (some (p.st (j+1),false))) ?_) rfl) ?_
 ·rw [Xy,a4a (Nat.lt_succ_self _)]; rfl
 ·refine xqr (aaq (zt (zo (a9x _) (show bf 1 _=some (.int most,_) from rfl) (eq_i ?_))) rfl) (by simp);rw [hm]; simp
theorem a5g:Ea (bf 4) (bf 9) (iy (fun l=>some (.tup l)) (aj (bf 7) (aj (bf 8) dz))) (sS p sto most fa j ix (some (p.st j,false)) (some (.int (p.up:Int),false)) (some (p.st (j+1),false)))=if j+1<lim then some (.next,⟨sE p most fa sto.length j ix (some (p.st j,false)) (some (.int (p.up:Int),false)) (some (p.st (j+1),false)),sto++[.dnk (p.L (j+1))]⟩) else none:=by
 unfold Ea;rw [show iy (fun l=>some (.tup l)) (aj (bf 7) (aj (bf 8) dz)) (sS p sto most fa j ix (some (p.st j,false)) (some (.int (p.up:Int),false)) (some (p.st (j+1),false)))=some (.tup [p.st j,.int (p.up:Int)],sS p sto most fa j ix (some (p.st j,false)) (some (.int (p.up:Int),false)) (some (p.st (j+1),false))) from rfl];dsimp only;rw [show bf 4 (sS p sto most fa j ix (some (p.st j,false)) (some (.int (p.up:Int),false)) (some (p.st (j+1),false)))=some (.obj sto.length,sS p sto most fa j ix (some (p.st j,false)) (some (.int (p.up:Int),false)) (some (p.st (j+1),false))) from rfl];dsimp only;rw [show bf 9 (sS p sto most fa j ix (some (p.st j,false)) (some (.int (p.up:Int),false)) (some (p.st (j+1),false)))=some (.tup [.tup [.int 0],.tup [.int (p.lo+(j+1:Nat))]],sS p sto most fa j ix (some (p.st j,false)) (some (.int (p.up:Int),false)) (some (p.st (j+1),false))) from rfl];dsimp only;rw [Mx,Fo];dsimp only;rw [aaz,a4a (Nat.lt_succ_self _),V8,a7s];simp
theorem aa4 (hG:Gw G p sto w) (hk:k<=p.n) {d:List (List (List Key) × T)}:Zn 2 fa G (aj (bf 9) dz) ⟨sE p most fa sto.length j ix x y (some (p.st k,false)),sto++[.dnk d]⟩=some (.bl (w k),⟨sE p most fa sto.length j ix x y (some (p.st k,false)),sto++[.dnk d]⟩):=by
 show (if fa=fa then gk G (aj (bf 9) dz) (⟨sE p most fa sto.length j ix x y (some (p.st k,false)),sto++[.dnk d]⟩:Sta) else none)=_;rw [if_pos rfl];exact zf0 (show aj (bf 9) dz _=some ([p.st k],_) from rfl) (hG k d hk)
theorem abw (hm:most≠((j+1:Nat):Int)) (hn:j+1<=p.n) (hl:j+1<lim) (hG:Gw G p sto w):sB fa G (sS p sto most fa j ix (some (p.st j,false)) (some (.int (p.up:Int),false)) (some (p.st (j+1),false))) =
  if w (j+1) then some (.inl (.ret (.tup [.obj sto.length,p.st (j+1)])),⟨sE p most fa sto.length j ix (some (p.st j,false)) (some (.int (p.up:Int),false)) (some (p.st (j+1),false)),sto++[.dnk (p.L (j+1))]⟩)
  else some (.inl .next,sS p sto most fa (j+1) ix (some (p.st j,false)) (some (.int (p.up:Int),false)) (some (p.st (j+1),false))):=by
 refine xlq (s1:=sS p sto most fa j ix (some (p.st j,false)) (some (.int (p.up:Int),false)) (some (p.st (j+1),false))) (ze (zt (k:=false) (s1:=sS p sto most fa j ix (some (p.st j,false)) (some (.int (p.up:Int),false)) (some (p.st (j+1),false))) ?_) rfl) ?_
 ·rw [Xy,a4a (Nat.lt_succ_self _)]; rfl
 ·refine xq (s1:=sS p sto most fa j ix (some (p.st j,false)) (some (.int (p.up:Int),false)) (some (p.st (j+1),false))) (a9k (zt (zo (a9x _) (show bf 1 _=some (.int most,_) from rfl) (eq_i ?_))) rfl) ?_
  ·simpa using fun e=>hm e.symm
  ·refine xlq (a5g.trans (if_pos hl)) ?_;have ha:=aa4 (fa:=fa) (most:=most) (ix:=ix) (j:=j) (x:=some (p.st j,false)) (y:=some (.int (p.up:Int),false)) hG hn (d:=p.L (j+1));cases hw:w (j+1) with
   | true =>
    rw [hw] at ha;refine (xqr (xl (zk (zt ha) ?_)) (by simp)).trans (if_pos rfl).symm;rfl
   | false =>
    rw [hw] at ha;refine (xlq (ze (zt ha) rfl) (xl (za (xs:=(List.range (j+1)).map p.st) (show bf 9 _=some (p.st (j+1),_) from rfl) rfl (by simpa using hl) rfl ?_))).trans (if_neg (by simp)).symm;rw [show (List.range (j+1)).map p.st++[p.st (j+1)]=(List.range (j+2)).map p.st by rw [List.range_succ (n:=j+1)]; simp];rfl
end
section
variable {p:Pm} {sto:List SO} {fa j i k:Nat} {most ix:Int} {G:Fn} {w:Nat->Bool} {x y z:Slot}
theorem a5a (h:¬ k<p.n):p.mv k=[(p.dw,0)]:=by unfold Pm.mv; simp [h]
theorem Xk (h:k<p.n):p.mv k=[(p.dw,0),(p.up,k+1)]\/p.mv k=[(p.up,k+1),(p.dw,0)]:=by
 unfold Pm.mv
 by_cases e:p.t=1
 ·left; simp [h,e]
 ·right; simp [h,e]
theorem Vq (a b:Nat):Em [8,9] (enT p (a,b)) (sS p sto most fa j ix x y z)=some (sS p sto most fa j ix x (some (.int (a:Int),false)) (some (p.st b,false))):=Ls
theorem a4g (h:¬ j<p.n):∃ y' z',tu (Em [8,9]) (sB fa G) ((p.mv j).map (enT p)) (sS p sto most fa j ix x y z)=some (.inl .next,sS p sto most fa j ix x y' z'):=by
 rw [a5a h];exact ⟨_,_,Uv (Vq _ _) a9f rfl⟩
theorem Zd (h:j<p.n) (hm:most=((j+1:Nat):Int)):∃ y' z',tu (Em [8,9]) (sB fa G) ((p.mv j).map (enT p)) (sS p sto most fa j ix x y z)=some (.inr (.int most),sS p sto most fa j ix x y' z'):=by
 rcases Xk h with e | e <;> rw [e]
 ·exact ⟨_,_,Uv (Vq _ _) a9f (a8s (Vq _ _) (V2 hm))⟩
 ·exact ⟨_,_,a8s (Vq _ _) (V2 hm)⟩
theorem a1f (h:j<p.n) (hm:most≠((j+1:Nat):Int)) (hl:j+1<lim) (hG:Gw G p sto w) (hw:w (j+1)=true):∃ e,tu (Em [8,9]) (sB fa G) ((p.mv j).map (enT p)) (sS p sto most fa j ix (some (p.st j,false)) y z)=some (.inl (.ret (.tup [.obj sto.length,p.st (j+1)])),⟨e,sto++[.dnk (p.L (j+1))]⟩):=by
 have hb:=fun (ix:Int)=>abw (fa:=fa) (ix:=ix) hm h hl hG;rw [hw] at hb;rcases Xk h with e | e <;> rw [e]
 ·exact ⟨_,Uv (Vq _ _) a9f (a98 (Vq _ _) (hb _))⟩
 ·exact ⟨_,a98 (Vq _ _) (hb _)⟩
theorem a69 (h:j<p.n) (hm:most≠((j+1:Nat):Int)) (hl:j+1<lim) (hG:Gw G p sto w) (hw:w (j+1)=false):∃ y' z',tu (Em [8,9]) (sB fa G) ((p.mv j).map (enT p)) (sS p sto most fa j ix (some (p.st j,false)) y z)=some (.inl .next,sS p sto most fa (j+1) ix (some (p.st j,false)) y' z'):=by
 have hb:=fun (ix:Int)=>abw (fa:=fa) (ix:=ix) hm h hl hG;rw [hw] at hb;rcases Xk h with e | e <;> rw [e]
 ·exact ⟨_,_,Uv (Vq _ _) a9f (a5k (Vq _ _) (hb _) rfl)⟩
 ·exact ⟨_,_,a5k (Vq _ _) (hb _) (Uv (Vq _ _) a9f rfl)⟩
noncomputable def sW (fa:Nat) (G:Fn):SX :=
 (vd (lx (qb 7 (Eu 5 (bf 6))))
 (vd (a3d (Em [8,9]) (J5 (gk qj (aj (bf 0) (aj (bf 7) dz))))
 (sB fa G))
 (lx (qb 6 (mOp Cm (bf 6) (aq (.int 1)))))))
def sC:M Bool:=gw (mOp ltT (bf 6) (Az 5))
theorem c_t (h:i<=j):sC (sS p sto most fa j (i:Int) x y z)=some (true,sS p sto most fa j (i:Int) x y z) :=
 zt (zo (show bf 6 _=some (.int (i:Int),_) from rfl) (a9x _) (acy (by omega)))
theorem c_f:sC (sS p sto most fa j ((j+1:Nat):Int) x y z)=some (false,sS p sto most fa j ((j+1:Nat):Int) x y z) :=
 zt (zo (show bf 6 _=some (.int ((j+1:Nat):Int),_) from rfl) (a9x _) (acr (by omega)))
theorem aa2 (h:i<=j):(ixI ((List.range (j+1)).map p.st).length (i:Int)).bind (((List.range (j+1)).map p.st)[·]?)=some (p.st i):=by
 have h1:(i:Int)<((j:Int)+1):=by omega
 have h2:i<j+1:=by omega
 simp [ixI,h1,h2]
theorem a9n (h:i<=j):qb 7 (Eu 5 (bf 6)) (sS p sto most fa j (i:Int) x y z)=some (.next,sS p sto most fa j (i:Int) (some (p.st i,false)) y z):=by
 refine zs (t:=p.st i) (s1:=sS p sto most fa j (i:Int) x y z) ?_
 show (match (ixI ((List.range (j+1)).map p.st).length (i:Int)).bind (((List.range (j+1)).map p.st)[·]?) with
   | some t=>some (t,sS p sto most fa j (i:Int) x y z)
   | none=>none)=_
 rw [aa2 h]
theorem Yk (k:Nat):(p.mv k).length<=2:=by unfold Pm.mv; split <;> split <;> simp
theorem a0t (o:p.Ok):J5 (gk qj (aj (bf 0) (aj (bf 7) dz))) (sS p sto most fa j ix (some (p.st i,false)) y z)=some ((p.mv i).map (enT p),sS p sto most fa j ix (some (p.st i,false)) y z):=by
 refine zis (zf0 (show aj (bf 0) (aj (bf 7) dz) _=some ([p.tr,p.st i],_) from rfl) (Uq o i)) ?_;have:=Yk (p:=p) i;exact Nat.lt_of_le_of_lt this (by decide)
theorem a7g (o:p.Ok) (h:¬ j<p.n):∃ x' y' z',sW fa G (sS p sto most fa j (j:Int) x y z)=some (.inl .next,sS p sto most fa j ((j+1:Nat):Int) x' y' z'):=by
 obtain ⟨y',z',e⟩:=a4g (p:=p) (sto:=sto) (most:=most) (fa:=fa) (G:=G) (ix:=(j:Int)) (x:=some (p.st j,false)) (y:=y) (z:=z) h;exact ⟨_,y',z',xlq (a9n (Nat.le_refl _)) (xq (a7f (a0t o) e) rfl)⟩
theorem a3u (o:p.Ok) (h:j<p.n) (hm:most=((j+1:Nat):Int)):∃ e,sW fa G (sS p sto most fa j (j:Int) x y z)=some (.inr (.int most),⟨e,sto++[.dnk (p.L j)]⟩):=by
 obtain ⟨y',z',e⟩:=Zd (p:=p) (sto:=sto) (fa:=fa) (G:=G) (ix:=(j:Int)) (x:=some (p.st j,false)) (y:=y) (z:=z) h hm;exact ⟨_,xlq (a9n (Nat.le_refl _)) (xqr (a7f (a0t o) e) (by simp))⟩
theorem a6a (o:p.Ok) (h:j<p.n) (hm:most≠((j+1:Nat):Int)) (hG:Gw G p sto w) (hw:w (j+1)=true):∃ e,sW fa G (sS p sto most fa j (j:Int) x y z)=some (.inl (.ret (.tup [.obj sto.length,p.st (j+1)])),⟨e,sto++[.dnk (p.L (j+1))]⟩):=by
 have hl:j+1<lim:=Nat.lt_of_le_of_lt (Nat.le_trans h o.n.2) (by decide);obtain ⟨e,q⟩:=a1f (p:=p) (sto:=sto) (fa:=fa) (ix:=(j:Int)) (y:=y) (z:=z) h hm hl hG hw;exact ⟨_,xlq (a9n (Nat.le_refl _)) (xqr (a7f (a0t o) q) (by simp))⟩
theorem w_next (o:p.Ok) (h:j<p.n) (hm:most≠((j+1:Nat):Int)) (hG:Gw G p sto w) (hw:w (j+1)=false):∃ x' y' z',sW fa G (sS p sto most fa j (j:Int) x y z)=some (.inl .next,sS p sto most fa (j+1) ((j+1:Nat):Int) x' y' z'):=by
 have hl:j+1<lim:=Nat.lt_of_le_of_lt (Nat.le_trans h o.n.2) (by decide);obtain ⟨y',z',q⟩:=a69 (p:=p) (sto:=sto) (fa:=fa) (ix:=(j:Int)) (y:=y) (z:=z) h hm hl hG hw;exact ⟨_,y',z',xlq (a9n (Nat.le_refl _)) (xq (a7f (a0t o) q) rfl)⟩
theorem Qt (o:p.Ok) (hG:Gw G p sto w) (f:Nat):∀ (d j:Nat) (x y z:Slot),j+d<=p.n->(∀ k,j<k->k<=j+d->w k=false/\most≠(k:Int))->∃ x' y' z',lu (f+d) sC (sW fa G) (sS p sto most fa j (j:Int) x y z)=lu f sC (sW fa G) (sS p sto most fa (j+d) ((j+d:Nat):Int) x' y' z')
 | 0,j,x,y,z,_,_=>⟨x,y,z,rfl⟩
 | d+1,j,x,y,z,hn,hk=>by
  have h1:=hk (j+1) (by omega) (by omega);obtain ⟨x1,y1,z1,e1⟩:=w_next (fa:=fa) (x:=x) (y:=y) (z:=z) o (show j<p.n by omega) h1.2 hG h1.1;obtain ⟨x',y',z',e⟩:=Qt o hG f d (j+1) x1 y1 z1 (by omega) fun k a b=>hk k (by omega) (by omega);refine ⟨x',y',z',?_⟩;rw [show j+(d+1)=j+1+d by omega,<- e];exact a7q (c_t (Nat.le_refl _)) e1 rfl
theorem Vj:j8 [p.tr] sto=some (p.st 0,sto):=by
 have:p.st 0=.tup [.tup [.int 0],.tup [.int p.lo]]:=by simp [Pm.st]
 rw [this];rfl
noncomputable def acw (N:Nat) (e:List Slot) (ae:List SO):(C.Flow ⊕ T)->Option ((C.Flow ⊕ T) × Sta)
 | .inl .next=>some (.inl (.ret (.tup [.obj N,.non])),⟨e,ae⟩)
 | r=>some (r,⟨e,ae⟩)
def acu (N:Nat) (e:List Slot) (ae:List SO) (q:Option ((T ⊕ T) × List SO)):(C.Flow ⊕ T)->Prop
 | .inl .next=>e[4]? = some (some (.obj N,false))/\q=some (.inl (.tup [.obj N,.non]),ae)
 | .inl (.ret t)=>q=some (.inl t,ae)
 | .inr t=>q=some (.inr t,ae)
 | _=>False
theorem X8 (hG:Gw G p sto w) (h0:w 0=false) {q:Option ((T ⊕ T) × List SO)} (h:∀ x y z,∃ r e ae,lu 2000 sC (sW fa G) (sS p sto most fa 0 ((0:Nat):Int) x y z)=some (r,⟨e,ae⟩)/\acu sto.length e ae q r):lq fa G [p.tr,.int most,.adr fa] sto=q:=by
 obtain ⟨r,e,ae,h1,h2⟩:=h none none none;unfold lq u6
 have hb:(vd (lx (qb 3 (gk j8 (aj (bf 0) dz))))
   (vd (lx (qb 4 (Yu (bf 3) (aq .non))))
   (vd (lx (sIf (gw (Zn 2 fa G (aj (bf 3) dz)))
   (qd (iy (fun l=>some (.tup l)) (aj (bf 4) (aj (bf 3) dz))))
   yx))
   (vd (lx (sNew 5 (iy (fun l=>some (.lst l)) (aj (bf 3) dz))))
   (vd (lx (qb 6 (aq (.int 0))))
   (vd (lu 2000 sC (sW fa G))
   (lx (qd (iy (fun l=>some (.tup l)) (aj (bf 4) (aj (aq .non) dz)))))))))))
   ⟨[p.tr,.int most,.adr fa].map (fun t=>some (t,false))++List.replicate (10 - [p.tr,.int most,.adr fa].length) none,sto⟩=(vd (lu 2000 sC (sW fa G))
   (lx (qd (iy (fun l=>some (.tup l)) (aj (bf 4) (aj (aq .non) dz)))))) (sS p sto most fa 0 ((0:Nat):Int) none none none):=by
  refine xlq (ys (zf0 (show aj (bf 0) dz _=some ([p.tr],_) from rfl) Vj) rfl) ?_;refine xlq (ys (t:=.obj sto.length) (s1:=⟨[some (p.tr,false),some (.int most,false),some (.adr fa,false),some (p.st 0,false),none,none,none,none,none,none],sto++[.dnk (p.L 0)]⟩) ?_ rfl) ?_
  ·show (match (sto++[SO.dnk []])[sto.length]?,nestsOf [.tup [.int 0],.tup [.int (p.lo+(0:Nat))]] with
    | some (.dnk []),some q=>some (T.obj sto.length,(⟨[some (p.tr,false),some (.int most,false),some (.adr fa,false),some (p.st 0,false),none,none,none,none,none,none],(sto++[SO.dnk []]).set sto.length (SO.dnk [(q,.non)])⟩:Sta))
    | _,_=>none)=_
   rw [Mx,Fo];dsimp only;rw [V8]; rfl
  have ha:Zn 2 fa G (aj (bf 3) dz) ⟨[some (p.tr,false),some (.int most,false),some (.adr fa,false),some (p.st 0,false),some (.obj sto.length,false),none,none,none,none,none],sto++[.dnk (p.L 0)]⟩=some (.bl false,⟨[some (p.tr,false),some (.int most,false),some (.adr fa,false),some (p.st 0,false),some (.obj sto.length,false),none,none,none,none,none],sto++[.dnk (p.L 0)]⟩):=by
   show (if fa=fa then gk G (aj (bf 3) dz) _ else none)=_;rw [if_pos rfl];have:=hG 0 (p.L 0) (Nat.zero_le _);rw [h0] at this;exact zf0 (show aj (bf 3) dz _=some ([p.st 0],_) from rfl) this
  refine xlq (ze (zt ha) rfl) ?_;rfl
 have hc:(vd (lu 2000 sC (sW fa G))
   (lx (qd (iy (fun l=>some (.tup l)) (aj (bf 4) (aj (aq .non) dz)))))) (sS p sto most fa 0 ((0:Nat):Int) none none none)=acw sto.length e ae r:=by
  unfold vd;rw [h1];clear hb h1;cases r with
  | inr t=>rfl
  | inl f=>cases f with
   | next =>
    dsimp only;refine xl (zr (zm (zc (t:=.obj sto.length) (s1:=⟨e,ae⟩) ?_ rfl) rfl));unfold bf;rw [h2.1]
   | _=>rfl
 have hd:=hb.trans hc;unfold sC sW sB at hd;rw [hd];cases r with
 | inr t=>exact h2.symm
 | inl f=>cases f with
  | next=>exact h2.2.symm
  | ret t=>exact h2.symm
  | brk=>exact h2.elim
  | cont=>exact h2.elim
theorem M4 (o:p.Ok) (hG:Gw G p sto w) (hj:j+1<=p.n) (hw:∀ k,k<=j->w k=false) (k8:w (j+1)=true) (hm:∀ k:Nat,0<k->k<=j+1->most≠(k:Int)):lq fa G [p.tr,.int most,.adr fa] sto=some (.inl (.tup [.obj sto.length,p.st (j+1)]),sto++[.dnk (p.L (j+1))]):=by
 refine X8 hG (hw 0 (Nat.zero_le _)) fun x y z=>?_;have hn:=o.n.2;obtain ⟨x',y',z',e⟩:=Qt (fa:=fa) (most:=most) o hG (2000 - j) j 0 x y z (by omega) fun k a b=>⟨hw k (by omega),hm k a (by omega)⟩;obtain ⟨e2,q⟩:=a6a (fa:=fa) (x:=x') (y:=y') (z:=z') o hj (hm (j+1) (by omega) (Nat.le_refl _)) hG k8;refine ⟨.inl (.ret (.tup [.obj sto.length,p.st (j+1)])),e2,sto++[SO.dnk (p.L (j+1))],?_,rfl⟩;rw [show (2000:Nat)=2000 - j+j by omega,e,Nat.zero_add,show 2000 - j=1999 - j+1 by omega];exact ab5 (c_t (Nat.le_refl _)) q
theorem M8 (o:p.Ok) (hG:Gw G p sto w) (hj:j+1<=p.n) (hw:∀ k,k<=j->w k=false):lq fa G [p.tr,.int ((j+1:Nat):Int),.adr fa] sto=some (.inr (.int ((j+1:Nat):Int)),sto++[.dnk (p.L j)]):=by
 refine X8 hG (hw 0 (Nat.zero_le _)) fun x y z=>?_;have hn:=o.n.2;obtain ⟨x',y',z',e⟩:=Qt (fa:=fa) (most:=((j+1:Nat):Int)) o hG (2000 - j) j 0 x y z (by omega) fun k a b=>⟨hw k (by omega),by omega⟩;obtain ⟨e2,q⟩:=a3u (sto:=sto) (fa:=fa) (G:=G) (x:=x') (y:=y') (z:=z') o hj rfl;refine ⟨.inr (.int ((j+1:Nat):Int)),e2,sto++[SO.dnk (p.L j)],?_,rfl⟩;rw [show (2000:Nat)=2000 - j+j by omega,e,Nat.zero_add,show 2000 - j=1999 - j+1 by omega];exact ab3 (c_t (Nat.le_refl _)) q
theorem Ji (o:p.Ok) (hG:Gw G p sto w) (hw:∀ k,k<=p.n->w k=false) (hm:∀ k:Nat,0<k->k<=p.n->most≠(k:Int)):lq fa G [p.tr,.int most,.adr fa] sto=some (.inl (.tup [.obj sto.length,.non]),sto++[.dnk (p.L p.n)]):=by
 refine X8 hG (hw 0 (Nat.zero_le _)) fun x y z=>?_;have hn:=o.n.2;obtain ⟨x',y',z',e⟩:=Qt (fa:=fa) (most:=most) o hG (2000 - p.n) p.n 0 x y z (by omega) fun k a b=>⟨hw k (by omega),hm k a (by omega)⟩;obtain ⟨x2,y2,z2,q⟩:=a7g (sto:=sto) (most:=most) (fa:=fa) (G:=G) (x:=x') (y:=y') (z:=z') o (Nat.lt_irrefl p.n);refine ⟨.inl .next,sE p most fa sto.length p.n ((p.n+1:Nat):Int) x2 y2 z2,sto++[SO.dnk (p.L p.n)],?_,rfl,rfl⟩
 ·rw [show (2000:Nat)=2000 - p.n+p.n by omega,e,Nat.zero_add,show 2000 - p.n=1998 - p.n+1+1 by omega];exact a7q (c_t (Nat.le_refl _)) q (ab4 c_f)
end
section
variable {p:Pm} {sto:List SO} {fa j i k N A far:Nat} {most ix:Int} {G:Fn} {w:Nat->Bool} {x y z:Slot}
def Pm.lk (p:Pm):Nat->T
 | 0=>.non
 | k+1=>.tup [p.st k,.int (p.up:Int)]
theorem ac4 (h:k<=j):G5 (p.key k) (p.L j)=some (p.lk k):=by
 cases k with
 | zero=>exact a2j
 | succ k=>exact a86 h
noncomputable def vS (p:Pm) (N:Nat) (u:T) (m k:Nat) (sto:List SO):Sta:=⟨[some (.obj N,false),some (u,false),some (.lst (List.replicate m (.int (p.up:Int))),true),some (p.lk k,false)],sto⟩
theorem Qf {o q:M T} {s:Sta} (ho:o s=some (.obj N,s)) (hq:q s=some (p.st k,s)) (hN:s.sto[N]? = some (.dnk (p.L j))) (h:k<=j):Ab o q s=some (p.lk k,s):=by
 unfold Ab;rw [ho]; dsimp only;rw [hq]
 show (match s.sto[N]?,nestsOf [.tup [.int 0],.tup [.int (p.lo+k)]] with
   | some (.dnk aa),some q=>(match G5 q aa with | some t=>some (t,s) | none=>none)
   | _,_=>none)=_
 rw [hN,Fo]; dsimp only;rw [ac4 h]
def vC:M Bool:=gw (mOp Cj (bf 3) (aq .non))
noncomputable def abh:S:=(kj (m9 2 (mOp fj (bf 3) (aq (.int 1))))
 (qb 3 (Ab (bf 0) (mOp fj (bf 3) (aq (.int 0))))))
theorem a3b {u:T} (hN:sto[N]? = some (.dnk (p.L j))) (f:Nat):∀ (k m:Nat),k<=j->m+k<lim->sy (f+1+k) vC abh (vS p N u m k sto)=some (.next,vS p N u (m+k) 0 sto)
 | 0,m,_,_=>Sv rfl
 | k+1,m,h,hm=>by
  have e:abh (vS p N u m (k+1) sto)=some (.next,vS p N u (m+1) k sto):=by
   refine zq (za (t:=.int (p.up:Int)) (s1:=vS p N u m (k+1) sto) (xs:=List.replicate m (.int (p.up:Int))) rfl rfl (by simp; omega) rfl rfl) ?_;rw [show List.replicate m (T.int (p.up:Int))++[T.int (p.up:Int)]=List.replicate (m+1) (.int (p.up:Int)) from List.replicate_succ'.symm];refine ys (t:=p.lk k) (Qf (k:=k) rfl ?_ hN (by omega)) rfl;exact zo (show bf 3 _=some (.tup [p.st k,.int (p.up:Int)],_) from rfl) rfl su
  have:=a3b (u:=u) hN f k (m+1) (by omega) (by omega);rw [show m+(k+1)=m+1+k by omega,<- this];exact Sy rfl e
theorem V3 (hN:sto[N]? = some (.dnk (p.L j))) (hj:j<=1100):m5 [.obj N,p.st j] sto=some (.lst (List.replicate j (.int (p.up:Int))),sto):=by
 refine zrun (n:=4) (s1:=⟨[some (.obj N,false),some (p.st j,false),some (.lst (List.replicate j (.int (p.up:Int))),false),some (.non,false)],sto⟩) (zq (yn (t:=.lst []) rfl rfl) (zq (ys (t:=p.lk j) (Qf (k:=j) rfl rfl hN (Nat.le_refl _)) rfl) ?_)) rfl;have h:=a3b (u:=p.st j) hN (1999 - j) j 0 (Nat.le_refl _) (by show _<1000000; omega);rw [show 1999 - j+1+j=2000 by omega] at h;rw [Nat.zero_add] at h;refine zq h ?_;refine zr (zun (t:=.lst (List.replicate j (.int (p.up:Int)))) rfl ?_);simp [a99]
def fV (p:Pm) (k:Nat) (r:Rem):Bool:=tv (dn (nB p.bs) (fk p k)) (dn (nH p.H) fun _=>0) r
theorem a2y (o:p.Ok) {d:Nat} {r:Rem} (hr:OkR (nB p.bs) p.H d r) (hd:2 * d<40) (hA:sto[A]? = some (.dit [([.inr p.h,.inl 0],Aw r)])):Ah [p.tr,.obj A,p.st k] sto=some (.lst (if fV p k r then [] else [.str p.h]),sto):=by
 have hb:mq [p.tr,p.st k] sto=some (.dic (dn (nB p.bs) (fk p k)),sto):=W8 (g:=fun _=>0) (f:=fk p k) (Pm.ok o);have hp:jm [p.tr,p.st k] sto=some (.dic (dn (nH p.H) fun _=>0),sto):=Mt (g:=fun _=>0) (f:=fk p k) (Pm.ok o)
 have hh:jd 40 [Aw r,.dic (dn (nB p.bs) (fk p k)),.dic (dn (nH p.H) fun _=>0)] sto=some (.bl (fV p k r),sto) :=
  holds (Pm.ok o).ns (Us (Pm.ok o).ndB) (Us (Pm.ok o).ndH) hr 40 hd
 refine zrun (n:=5) (s1:=⟨[some (p.tr,false),some (.obj A,false),some (p.st k,false),some (.dic (dn (nB p.bs) (fk p k)),false),some (.dic (dn (nH p.H) fun _=>0),false)],sto⟩) (zq (ys (zf0 (show aj (bf 0) (aj (bf 2) dz) _=some ([p.tr,p.st k],_) from rfl) hb) rfl) (zq (ys (zf0 (show aj (bf 0) (aj (bf 2) dz) _=some ([p.tr,p.st k],_) from rfl) hp) rfl) (zr ?_))) rfl;generalize hF:v9 2 [3,4,1] _ _ _ _ _=R
 have:=Vo hF (fun _:Unit=>.tup [.str p.h,.int 0]) (fun _=>.str p.h) (fun _=>!fV p k r) [()] _ _ [some (.dic (dn (nB p.bs) (fk p k)),false),some (.dic (dn (nH p.H) fun _=>0),false),some (.obj A,false)] rfl rfl rfl rfl (by decide) fun a _ pre bT=>by
  obtain ⟨u,v,rfl⟩:=p2 pre bT;refine ⟨[some (.str p.h,false),some (.int 0,false)],rfl,rfl,?_,fun _=>rfl⟩;refine abr (zt (zf0 (ts:=[Aw r,.dic (dn (nB p.bs) (fk p k)),.dic (dn (nH p.H) fun _=>0)]) (zc (s1:=⟨[some (.str p.h,false),some (.int 0,false)]++[some (.dic (dn (nB p.bs) (fk p k)),false),some (.dic (dn (nH p.H) fun _=>0),false),some (.obj A,false)],sto⟩) ?_ rfl) hh));unfold Dc;rw [show bf 4 _=some (.obj A,_) from rfl]; dsimp only
  show (match sto[A]?,keysOf [.str p.h,.int 0] with
   | some (.dit aa),some q=>(match a6i q aa with | some t=>some (t,_) | none=>none)
   | _,_=>none)=_
  rw [hA,show keysOf [.str p.h,.int 0]=some [.inr p.h,.inl 0] from rfl]; dsimp only;rw [a6i,if_pos rfl]; rfl
 rw [this];cases fV p k r <;> rfl
def Pm.rem (p:Pm) (far:Nat):Rem:=.most (1 - p.lo - far,[(p.b,1)])
theorem Xz:OkR (nB p.bs) p.H 1 (p.rem far):=.most ⟨by simp [Pm.bs],fun q hq=>by
 simp only [List.mem_cons,List.not_mem_nil,or_false] at hq;subst hq;exact ⟨by simp [Pm.bs],by simp,by simp⟩⟩
theorem a08:fV p k (p.rem far)=decide (k<far):=by
 unfold fV Pm.rem
 rw [tv,a1y (fun q hq=>by
  simp only [List.mem_cons,List.not_mem_nil,or_false] at hq;subst hq;simp [Pm.bs])]
 simp only [vl,fk,List.map_cons,List.map_nil,List.sum_cons,List.sum_nil];congr 1;apply propext;constructor <;> intro h <;> omega
theorem ab8 (o:p.Ok):p.t=0\/p.t=1\/p.t=2:=by have:=o.t; omega
theorem a7k (o:p.Ok) (h:k<p.n):∃ D,O6 [.lst ((p.mv k).map (enT p))]=some (.dic D)/\Av (.inl (p.up:Int)) D=some (p.st (k+1)):=by
 rcases ab8 o with e | e | e <;> unfold Pm.mv Pm.up Pm.dw <;> simp only [e,h,if_true] <;> exact ⟨_,rfl,rfl⟩
noncomputable def oE (p:Pm) (u:T) (i:Nat) (x y z:Slot):List Slot:=[some (p.tr,false),some (u,false),some (.lst ((List.range (i+1)).map p.st),true),x,y,z]
noncomputable def oB:SX :=
 (vd (lx (qb 5 (iy O6 (aj (gk qj (aj (bf 0) (aj (Eu 2 (mUn a4s (aq (.int 1)))) dz))) dz))))
 (vd (xIf (gw (mOp Kr (bf 4) (bf 5)))
 (Hz (bf 3))
 (lx yx))
 (lx (m9 2 (mOp fj (bf 5) (bf 4))))))
theorem a2e:(ixI ((List.range (i+1)).map p.st).length (-1)).bind (((List.range (i+1)).map p.st)[·]?)=some (p.st i):=by
 have h1:¬ (0:Int)<=-1:=by omega
 have h2:(-((i:Int)+1))<=-1:=by omega
 have h3:(-1+((i:Int)+1)).toNat=i:=by omega
 have h4:((i:Int)+1 + -1).toNat=i:=by omega
 have h5:(0:Int)<=(i:Int)+1 + -1:=by omega
 have h6:(0:Int)<=-1+((i:Int)+1):=by omega
 simp [ixI,h1,h2,h3,h4,h5,h6]
theorem a9i (o:p.Ok) (h:i<p.n) {u:T} {x z:Slot}:∃ z',oB ⟨oE p u i x (some (.int (p.up:Int),false)) z,sto⟩=some (.inl .next,⟨oE p u (i+1) x (some (.int (p.up:Int),false)) z',sto⟩):=by
 obtain ⟨D,hD,hg⟩:=a7k o h;have hl:i+1<lim:=Nat.lt_of_le_of_lt (Nat.le_trans h o.n.2) (by decide);refine ⟨some (.dic D,false),xlq (ys (t:=.dic D) (s1:=⟨oE p u i x (some (.int (p.up:Int),false)) z,sto⟩) (zm (zc (zf0 (ts:=[p.tr,p.st i]) (zc (t:=p.tr) rfl (zc (t:=p.st i) ?_ rfl)) (Uq o i)) rfl) hD) rfl) (xq (s1:=⟨oE p u i x (some (.int (p.up:Int),false)) (some (.dic D,false)),sto⟩) (a9k (zt (zo (t:=.int (p.up:Int)) (u:=.dic D) rfl rfl ?_)) rfl) (xl (za (t:=p.st (i+1)) (s1:=⟨oE p u i x (some (.int (p.up:Int),false)) (some (.dic D,false)),sto⟩) (xs:=(List.range (i+1)).map p.st) (zo (t:=.dic D) (u:=.int (p.up:Int)) rfl rfl ?_) rfl (by simpa using hl) rfl ?_)))⟩
 ·show (match (ixI ((List.range (i+1)).map p.st).length (-1)).bind (((List.range (i+1)).map p.st)[·]?) with
   | some t=>some (t,(⟨oE p u i x (some (.int (p.up:Int),false)) z,sto⟩:Sta))
   | none=>none)=_
  rw [a2e]
 ·simp [Kr,inT,keyOf,hg]
 ·simp [fj,keyOf,hg]
 ·rw [show (List.range (i+1)).map p.st++[p.st (i+1)]=(List.range (i+2)).map p.st by rw [List.range_succ (n:=i+1)]; simp];rfl
theorem a3i (o:p.Ok) {u:T}:∀ (d i:Nat) (x y z:Slot),i+d<=p.n->∃ x' y' z',tu (Em [3,4]) oB (((List.replicate d (T.int (p.up:Int))).zipIdx i).map fun q=>.tup [.int (q.2:Int),q.1]) ⟨oE p u i x y z,sto⟩=some (.inl .next,⟨oE p u (i+d) x' y' z',sto⟩)
 | 0,i,x,y,z,_=>⟨x,y,z,rfl⟩
 | d+1,i,x,y,z,h=>by
  obtain ⟨z1,e1⟩:=a9i (sto:=sto) (u:=u) (x:=some (.int (i:Int),false)) (z:=z) o (show i<p.n by omega);obtain ⟨x',y',z',e⟩:=a3i o d (i+1) (some (.int (i:Int),false)) (some (.int (p.up:Int),false)) z1 (by omega);refine ⟨x',y',z',?_⟩;rw [List.replicate_succ,List.zipIdx_cons,List.map_cons,show i+(d+1)=i+1+d by omega];exact a5k Ls e1 e
theorem a5b (o:p.Ok) (h:far<=p.n):Ep [p.tr,.lst (List.replicate far (.int (p.up:Int)))] sto=some (.lst ((List.range (far+1)).map p.st),sto):=by
 obtain ⟨x,y,z,e⟩:=a3i (sto:=sto) (u:=.lst (List.replicate far (.int (p.up:Int)))) o far 0 none none none (by omega);rw [Nat.zero_add] at e;have hl:far<lim:=Nat.lt_of_le_of_lt (Nat.le_trans h o.n.2) (by decide);unfold Ep norm Kf u6
 have hb:(vd (lx (sNew 2 (iy (fun l=>some (.lst l)) (aj (gk j8 (aj (bf 0) dz)) dz))))
   (vd (a3d (Em [3,4]) (Gv (bf 1)) oB) (lx (qd (bf 2))))) ⟨[p.tr,.lst (List.replicate far (.int (p.up:Int)))].map (fun t=>some (t,false))++List.replicate (6 - [p.tr,.lst (List.replicate far (.int (p.up:Int)))].length) none,sto⟩=some (.inl (.ret (.lst ((List.range (far+1)).map p.st))),⟨(oE p (.lst (List.replicate far (.int (p.up:Int)))) far x y z).set 2 (some (.lst ((List.range (far+1)).map p.st),false)),sto⟩):=by
  refine xlq (yn (zm (zc (zf0 (show aj (bf 0) dz _=some ([p.tr],_) from rfl) Vj) rfl) rfl) rfl) (xq (a7f ?_ e) (xl (zr rfl)));unfold Gv;rw [show bf 1 _=some (.lst (List.replicate far (.int (p.up:Int))),_) from rfl];dsimp only;rw [List.length_replicate,if_pos hl];rfl
 unfold oB at hb;rw [hb]
end
section
variable {p:Pm} {sto:List SO} {fa j i k N A far d:Nat} {most ix:Int} {G:Fn} {w:Nat->Bool} {x y z:Slot} {tb:Nat->Nat} {r:Rem}
theorem a8z {F:FnX} {a:M (List T)} {kk:T->Sta->Sta} {s s1:Sta} {ts:List T} {t:T} {st:List SO} (ha:a s=some (ts,s1)) (hF:F ts s1.sto=some (.inl t,st)):N8 F a kk s=some (.inl .next,kk t ⟨s1.env,st⟩):=by
 unfold N8; rw [ha]; dsimp only; rw [hF]
theorem a8i {F:FnX} {a:M (List T)} {kk:T->Sta->Sta} {s s1:Sta} {ts:List T} {t:T} {st:List SO} (ha:a s=some (ts,s1)) (hF:F ts s1.sto=some (.inr t,st)):N8 F a kk s=some (.inr t,⟨s1.env,st⟩):=by
 unfold N8; rw [ha]; dsimp only; rw [hF]
theorem Ww {n i P cn:Nat} {q:Str} {FL:Nat->Fn->FnX} {L:M T} {ts:List T} {v:(T ⊕ T) × List SO} (h:sto[i]? = some (.tab P q)) (h2:∀ fa,FL fa (fun us st=>Xp (1+cn) L (us++ts.drop n) st) (ts.take n++[.adr fa]) sto=some v):a0h n i P q FL cn L ts sto=some v:=by
 unfold a0h;rw [h]; dsimp only;rw [if_pos ⟨rfl,rfl⟩];exact V6 h2
def brL:M T:=mOp gtT (iy Ob (aj (gk Ah (aj (bf 1) (aj (bf 2) (aj (bf 0) dz)))) dz)) (aq (.int 0))
theorem Wm {o o':SO} (h:sto[A]? = some o):(sto++[o'])[A]? = some o:=by
 rw [List.getElem?_append_left (List.getElem?_eq_some_iff.mp h).1]; exact h
theorem aa9 (o:p.Ok) (hr:OkR (nB p.bs) p.H d r) (hd:2 * d<40) (hA:sto[A]? = some (.dit [([.inr p.h,.inl 0],Aw r)])):Gw (fun us st=>Xp (1+2) brL (us++[p.tr,.obj A]) st) p sto (fun k=>!fV p k r):=by
 intro k e hk
 have hs:brL ⟨[some (p.st k,false),some (p.tr,false),some (.obj A,false)],sto++[.dnk e]⟩=some (.bl (!fV p k r),⟨[some (p.st k,false),some (p.tr,false),some (.obj A,false)],sto++[.dnk e]⟩):=by
  refine zo (t:=.int (if fV p k r then 0 else 1)) (u:=.int 0) (zm (zc (zf0 (ts:=[p.tr,.obj A,p.st k]) rfl (a2y (k:=k) o hr hd (Wm hA))) rfl) ?_) rfl ?_
  ·cases fV p k r <;> rfl
  ·cases fV p k r <;> rfl
 show (match brL ⟨[some (p.st k,false),some (p.tr,false),some (.obj A,false)],sto++[.dnk e]⟩ with
  | some (t,s1)=>some (t,s1.sto)
  | none=>none)=_
 rw [hs]
abbrev qB:Str := "breach.<locals>.<lambda>"
abbrev qR:Str := "reached.<locals>.<lambda>"
theorem Xu {v:(T ⊕ T) × List SO} (hT:sto[1]? = some (.tab (tb 1) qB)) (h:∀ fa,lq fa (fun us st=>Xp (1+2) brL (us++[p.tr,.obj A]) st) [p.tr,.int most,.adr fa] sto=some v):a0h 2 1 (tb 1) qB lq 2 brL [p.tr,.int most,p.tr,.obj A] sto=some v:=Ww hT h
theorem a1t (o:p.Ok) (hf:far+1<=p.n) (hT:sto[1]? = some (.tab (tb 1) qB)) (hA:sto[A]? = some (.dit [([.inr p.h,.inl 0],Aw (p.rem (far+1)))])):qg tb [p.tr,.obj A,.int ((far+1:Nat):Int)] sto=some (.inr (.int ((far+1:Nat):Int)),sto++[.dnk (p.L far)]):=by
 have h:=Xu (tb:=tb) hT fun fa=>M8 (fa:=fa) o (aa9 o Xz (by decide) hA) hf fun k hk=>by
  show (!fV p k (p.rem (far+1)))=false;rw [a08]; simp; omega
 unfold qg u6;have hb:=fun (b:SX)=>xqr (b:=b) (a8i (kk:=a3e 3) (s:=⟨[p.tr,.obj A,.int ((far+1:Nat):Int)].map (fun t=>some (t,false))++List.replicate (4 - [p.tr,.obj A,.int ((far+1:Nat):Int)].length) none,sto⟩) (a:=Dw (aj (bf 0) (aj (bf 2) dz)) [0,1]) rfl h) (by simp);unfold brL at hb;rw [hb]
theorem a5l (o:p.Ok) (hT:sto[1]? = some (.tab (tb 1) qB)) (hA:sto[A]? = some (.dit [([.inr p.h,.inl 0],Aw (.all []))])):Bu tb [p.tr,.obj A,.int ((p.n+1:Nat):Int)] sto=some (.non,sto++[.dnk (p.L p.n)]):=by
 have hr:OkR (nB p.bs) p.H 1 (.all []):=.all (by decide) (fun r hr=>nomatch hr);have h:=Xu (tb:=tb) (most:=((p.n+1:Nat):Int)) hT fun fa=>Ji (fa:=fa) o (aa9 o hr (by decide) hA) (fun k hk=>rfl) fun k _ hk=>by omega
 unfold Bu norm qg u6
 have hb:=xq (b:=(vd (lx (sIf (gw (mOp a91 (mOp fj (bf 3) (aq (.int 1))) (aq .non)))
   (qd (aq .non))
   yx))
   (lx (qd (iy (fun l=>some (.tup l)) (aj (gk m5 (aj (mOp fj (bf 3) (aq (.int 0))) (aj (mOp fj (bf 3) (aq (.int 1))) dz))) (aj (mOp fj (gk Ah (aj (bf 0) (aj (bf 1) (aj (mOp fj (bf 3) (aq (.int 1))) dz)))) (aq (.int 0))) dz))))))) (a8z (kk:=a3e 3) (s:=⟨[p.tr,.obj A,.int ((p.n+1:Nat):Int)].map (fun t=>some (t,false))++List.replicate (4 - [p.tr,.obj A,.int ((p.n+1:Nat):Int)].length) none,sto⟩) (a:=Dw (aj (bf 0) (aj (bf 2) dz)) [0,1]) rfl h) (xqr (xl (zk (x:=qd (aq .non)) (zt (zo (t:=.non) (u:=.non) (zo (t:=.tup [.obj sto.length,.non]) (u:=.int 1) rfl rfl Ai) rfl rfl)) rfl)) (by simp))
 unfold brL at hb;rw [hb];rfl
theorem Z9 (o:p.Ok) (hf:far+1<=p.n) (hT:sto[1]? = some (.tab (tb 1) qB)) (hA:sto[A]? = some (.dit [([.inr p.h,.inl 0],Aw (p.rem (far+1)))])):qg tb [p.tr,.obj A,.int ((far+2:Nat):Int)] sto=some (.inl (.tup [.lst (List.replicate (far+1) (.int (p.up:Int))),.str p.h]),sto++[.dnk (p.L (far+1))]):=by
 have h:=Xu (tb:=tb) (most:=((far+2:Nat):Int)) hT fun fa=>M4 (j:=far) (fa:=fa) o (aa9 o Xz (by decide) hA) hf (fun k hk=>by
  show (!fV p k (p.rem (far+1)))=false;rw [a08]; simp; omega) (by
  show (!fV p (far+1) (p.rem (far+1)))=true;rw [a08]; simp) fun k _ hk=>by omega
 have hn:=o.n.2;have hw:=V3 (p:=p) (N:=sto.length) (j:=far+1) (sto:=sto++[.dnk (p.L (far+1))]) Mx (by omega);have dM:=a2y (k:=far+1) (r:=p.rem (far+1)) (sto:=sto++[.dnk (p.L (far+1))]) o Xz (by decide) (Wm hA);rw [a08,decide_eq_false (Nat.lt_irrefl _),if_neg (by simp)] at dM;unfold qg u6;have hi:∀ e:List Slot,e[3]? = some (some (.tup [.obj sto.length,p.st (far+1)],false))->mOp fj (bf 3) (aq (.int 1)) ⟨e,sto++[.dnk (p.L (far+1))]⟩=some (p.st (far+1),⟨e,sto++[.dnk (p.L (far+1))]⟩):=fun e he=>zo (t:=.tup [.obj sto.length,p.st (far+1)]) (u:=.int 1) (by unfold bf; rw [he]) rfl Ai
 have hb:=xq (b:=(vd (lx (sIf (gw (mOp a91 (mOp fj (bf 3) (aq (.int 1))) (aq .non)))
   (qd (aq .non))
   yx))
   (lx (qd (iy (fun l=>some (.tup l)) (aj (gk m5 (aj (mOp fj (bf 3) (aq (.int 0))) (aj (mOp fj (bf 3) (aq (.int 1))) dz))) (aj (mOp fj (gk Ah (aj (bf 0) (aj (bf 1) (aj (mOp fj (bf 3) (aq (.int 1))) dz)))) (aq (.int 0))) dz))))))) (a8z (kk:=a3e 3) (s:=⟨[p.tr,.obj A,.int ((far+2:Nat):Int)].map (fun t=>some (t,false))++List.replicate (4 - [p.tr,.obj A,.int ((far+2:Nat):Int)].length) none,sto⟩) (a:=Dw (aj (bf 0) (aj (bf 2) dz)) [0,1]) rfl h)
   (xlq (ze (zt (zo (t:=p.st (far+1)) (u:=.non) (hi _ rfl) rfl rfl)) rfl) (xl (zr (zm (zc (zf0 (ts:=[.obj sto.length,p.st (far+1)]) (zc (zo (t:=.tup [.obj sto.length,p.st (far+1)]) (u:=.int 0) rfl rfl su) (zc (hi _ rfl) rfl)) hw) (zc (zo (t:=.lst [.str p.h]) (u:=.int 0) (zf0 (ts:=[p.tr,.obj A,p.st (far+1)]) (zc (t:=p.tr) rfl (zc (t:=.obj A) rfl (zc (hi _ rfl) rfl))) dM) rfl (a5i (k:=0) rfl)) rfl)) rfl))))
 unfold brL at hb;rw [hb]
theorem aap {F:FnX} {a:M (List T)} {kk:T->Sta->Sta} {i j:Nat} {hv:T->Option T} {s s1 s':Sta} {ts:List T} {t:T} {st:List SO} (ha:a s=some (ts,s1)) (hF:F ts s1.sto=some (.inl t,st)) (e:kk t ⟨s1.env,st⟩=s'):Zi F a kk i j hv s=some (.next,s'):=by
 unfold Zi; rw [ha]; dsimp only; rw [hF]; dsimp only; rw [e]
theorem aal {F:FnX} {a:M (List T)} {kk:T->Sta->Sta} {i j:Nat} {hv:T->Option T} {s s1 s':Sta} {ts:List T} {t u:T} {st:List SO} (ha:a s=some (ts,s1)) (hF:F ts s1.sto=some (.inr t,st)) (hu:hv t=some u) (e:clr i (gn j u false (clr i ⟨s1.env,st⟩))=s'):Zi F a kk i j hv s=some (.next,s'):=by
 unfold Zi; rw [ha]; dsimp only; rw [hF]; dsimp only; rw [hu]; dsimp only; rw [e]
theorem Ue (o:p.Ok) (hf:far+1<=p.n) (hT:sto[1]? = some (.tab (tb 1) qB)) (hA:sto[A]? = some (.dit [([.inr p.h,.inl 0],Aw (p.rem (far+1)))])):jk tb [p.tr,.obj A,.int ((far+1:Nat):Int)] sto=some (.int ((far+1:Nat):Int),sto++[.dnk (p.L far)]):=by
 have h:=a1t o hf hT hA;refine zrun (n:=5) (s1:=⟨[some (p.tr,false),some (.obj A,false),some (.int ((far+1:Nat):Int),false),some (.int ((far+1:Nat):Int),false),none],sto++[.dnk (p.L far)]⟩) (zq (ys (t:=.non) rfl rfl) (zq (s1:=⟨[some (p.tr,false),some (.obj A,false),some (.int ((far+1:Nat):Int),false),some (.int ((far+1:Nat):Int),false),none],sto++[.dnk (p.L far)]⟩) ?_ (zr rfl))) rfl;exact aal (ts:=[p.tr,.obj A,.int ((far+1:Nat):Int)]) rfl h rfl rfl
theorem Uy (o:p.Ok) (hf:far+1<=p.n) (hT:sto[1]? = some (.tab (tb 1) qB)) (hA:sto[A]? = some (.dit [([.inr p.h,.inl 0],Aw (p.rem (far+1)))])):jk tb [p.tr,.obj A,.int ((far+2:Nat):Int)] sto=some (.tup [.lst (List.replicate (far+1) (.int (p.up:Int))),.str p.h],sto++[.dnk (p.L (far+1))]):=by
 have h:=Z9 o hf hT hA;refine zrun (n:=5) (s1:=⟨[some (p.tr,false),some (.obj A,false),some (.int ((far+2:Nat):Int),false),some (.tup [.lst (List.replicate (far+1) (.int (p.up:Int))),.str p.h],false),none],sto++[.dnk (p.L (far+1))]⟩) (zq (ys (t:=.non) rfl rfl) (zq (s1:=⟨[some (p.tr,false),some (.obj A,false),some (.int ((far+2:Nat):Int),false),some (.tup [.lst (List.replicate (far+1) (.int (p.up:Int))),.str p.h],false),none],sto++[.dnk (p.L (far+1))]⟩) ?_ (zr rfl))) rfl;exact aap (ts:=[p.tr,.obj A,.int ((far+2:Nat):Int)]) rfl h rfl
theorem a7y:X6 (p.L j)=(List.range (j+1)).map p.st:=by
 unfold X6 Pm.L;rw [List.map_cons,List.map_map,List.range_succ_eq_map,List.map_cons,List.map_map];rfl
theorem Xe (o:p.Ok) (hT:sto[0]? = some (.tab (tb 0) qR)):yj tb [p.tr,.int ((p.n+1:Nat):Int)] sto=some (.lst ((List.range (p.n+1)).map p.st),sto++[.dnk (p.L p.n)]):=by
 have h:a0h 2 0 (tb 0) qR lq 0 (aq (.bl false)) [p.tr,.int ((p.n+1:Nat):Int)] sto=some (.inl (.tup [.obj sto.length,.non]),sto++[.dnk (p.L p.n)]):=Ww hT fun fa=>Ji (w:=fun _=>false) (fa:=fa) o (fun k e _=>rfl) (fun _ _=>rfl) fun k _ hk=>by omega
 unfold yj norm Dr u6 G3;rw [show Dw (aj (bf 0) (aj (bf 1) dz)) [] _=some ([p.tr,.int ((p.n+1:Nat):Int)],_) from rfl];dsimp only;rw [h];dsimp only;rw [Mx];dsimp only;rw [a7y]
end
theorem a3k {c k:Int}:∃ x,(∀ sto,ni [.int c,.int k] sto=some (.str x,sto))/\okN x:=by
 obtain ⟨z,hz,ez⟩:∃ z:Nat,z<8/\c%8=(z:Int):=⟨(c%8).toNat,by omega,by omega⟩;have hs:(0:Int)<1+(z:Int):=by omega
 have p0:=Int.emod_nonneg (c / 8) (show (1+(z:Int))≠0 by omega);have p1:=Int.emod_lt_of_pos (c / 8) hs;obtain ⟨p,ep⟩:∃ p:Nat,c / 8%(1+(z:Int))=(p:Int):=⟨(c / 8%(1+(z:Int))).toNat,by omega⟩;have hp:p<=z:=by omega
 obtain ⟨i,hi,ei⟩:∃ i:Nat,i<10/\(3 * k+c / 64)%10=(i:Int):=⟨((3 * k+c / 64)%10).toNat,by omega,by omega⟩;obtain ⟨o1,o2,o3⟩:=aak p (by omega) i hi (z - p) (by omega);refine ⟨nm p i (z - p),fun sto=>?_,o1⟩;have m1:=a78 (j:=(p:Int)) (by omega) (by omega);have m2:=a78 (j:=(z:Int) - (p:Int)) (by omega) (by omega);rw [Int.toNat_natCast] at m1;rw [show ((z:Int) - (p:Int)).toNat=z - p by omega] at m2;have b3:Rq 3=true:=by decide
 have mi:Pj (.int 3) (.int k)=some (.int (3 * k)):=by simp [Pj,b3]
 have l1:(qs p).length+(lt1 i).length<lim:=by show _<1000000; omega
 have l2:(qs p++lt1 i).length+(qs (z - p)).length<lim:=by show _<1000000; omega
 simp! [ni,Ba,ez,hs,ep,m1,mi,ei,a74 hi,l1,show 1+(z:Int) - 1 - (p:Int)=(z:Int) - (p:Int) by omega,m2,l2,nm]
section
variable {x y:S} {s s1:Sta} {t u:T} {r:C.Flow}
theorem zqe (h:x s=some (.next,s1)) (h2:∃ s',y s1=some (r,s')):∃ s',kj x y s=some (r,s'):=by
 obtain ⟨s',e⟩:=h2;exact ⟨s',zq h e⟩
theorem a8y {n:Nat} {A:List T} {z0:List SO} (h:∃ s',x ⟨A.map (fun t=>some (t,false))++List.replicate (n - A.length) none,z0⟩=some (.ret t,s')):∃ st,uf n x A z0=some (t,st):=by
 obtain ⟨s',e⟩:=h;exact ⟨_,zrun e rfl⟩
theorem abz {i j:Nat} {a:M (List T)} (h:a s=some ([t,u],s1)):a71 i j a s=some (.next,gn j u false (gn i t false s1)):=by
 unfold a71; rw [h]
end
noncomputable def aai (tb:Nat->Nat):S :=
 (kj (sNew 7 (iy (fun l=>some (.lst l)) (aj (iy (fun l=>some (.tup l)) (aj (bf 2) (aj (aq (.int 0)) (aj (iy (fun l=>some (.tup l)) (aj (aq (.str "and")) (aj (iy (fun l=>some (.tup l)) dz) dz))) (aj (iy (fun l=>some (.tup l)) (aj (iy (fun l=>some (.tup l)) (aj (bf 3) (aj (iy (fun l=>some (.tup l)) (aj (aq (.int 1)) (aj (iy (fun l=>some (.tup l)) (aj (iy (fun l=>some (.tup l)) (aj (bf 3) (aj (aq (.int 1)) dz))) dz)) dz))) dz))) dz)) (aj (aq (.int 0)) dz)))))) (aj (iy (fun l=>some (.tup l)) (aj (bf 2) (aj (aq (.int 0)) (aj (iy (fun l=>some (.tup l)) (aj (aq (.str "and")) (aj (iy (fun l=>some (.tup l)) dz) dz))) (aj (iy (fun l=>some (.tup l)) (aj (iy (fun l=>some (.tup l)) (aj (bf 3) (aj (iy (fun l=>some (.tup l)) (aj (bf 4) (aj (iy (fun l=>some (.tup l)) dz) dz))) dz))) dz)) (aj (aq (.int 0)) dz)))))) dz))))
 (kj (m9 7 (iy (fun l=>some (.tup l)) (aj (bf 2) (aj (aq (.int 0)) (aj (iy (fun l=>some (.tup l)) (aj (aq (.str "or")) (aj (iy (fun l=>some (.tup l)) dz) dz))) (aj (iy (fun l=>some (.tup l)) dz) (aj (aq (.int 0)) dz)))))))
 (kj (qb 8 (mOp Hs (gk dg (aj (bf 0) (aj (aq (.int 4)) dz))) (aq (.int 3))))
 (kj (sNew 7 (mOp a04 (Ho 7 (Tz (bf 8)) Ul) (Ho 7 Ul (Tz (bf 8)))))
 (kj (qb 9 (mOp fj (iy (fun l=>some (.lst l)) (aj (aq (.int 0)) (aj (aq (.int 2)) (aj (aq (.int 1)) dz)))) (bf 8)))
 (kj (qb 10 (iy (fun l=>some (.tup l)) (aj (iy (fun l=>some (.lst l)) (aj (iy (fun l=>some (.tup l)) (aj (bf 3) (aj (aq (.str "")) (aj (bf 4) (aj (mOp Cm (bf 4) (bf 5)) (aj (bf 4) dz)))))) dz)) (aj (iy (fun l=>some (.lst l)) (aj (iy (fun l=>some (.tup l)) (aj (bf 2) (aj (aq (.int 1)) dz))) dz)) (aj (bf 7) (aj (iy (fun l=>some (.tup l)) dz) dz))))))
 (kj (qb 11 (Te (aj (bf 2) (aj (aq (.int 0)) dz)) (iy (fun l=>some (.tup l)) (aj (aq (.str "most")) (aj (iy (fun l=>some (.tup l)) (aj (mOp Ss (mOp Ss (aq (.int 1)) (bf 4)) (bf 6)) (aj (iy (fun l=>some (.tup l)) (aj (iy (fun l=>some (.tup l)) (aj (bf 3) (aj (aq (.int 1)) dz))) dz)) dz))) dz)))))
 (kj (qb 12 (gk (jk tb) (aj (bf 10) (aj (bf 11) (aj (mOp Cm (bf 6) (aq (.int 1))) dz)))))
 (kj (sIf (mOr (U7 (gw (iy isTup (aj (bf 12) dz)))) (gw (mOp neO (bf 12) (iy (fun l=>some (.tup l)) (aj (mOp W4 (iy (fun l=>some (.lst l)) (aj (bf 9) dz)) (bf 6)) (aj (bf 2) dz))))))
 (qd (aq (.bl false)))
 yx)
 (kj (qb 13 (gk Ep (aj (bf 10) (aj (mOp fj (bf 12) (aq (.int 0))) dz))))
 (kj (sIf (mOr (gw (mOp neO (iy Ob (aj (bf 13) dz)) (mOp Cm (bf 6) (aq (.int 1))))) (gw (mOp neO (mOp fj (bf 13) (mUn a4s (aq (.int 1)))) (iy (fun l=>some (.tup l)) (aj (iy (fun l=>some (.tup l)) (aj (aq (.int 0)) dz)) (aj (iy (fun l=>some (.tup l)) (aj (mOp Cm (bf 4) (bf 6)) dz)) dz))))))
 (qd (aq (.bl false)))
 yx)
 (kj (sIf (gw (mOp gtT (bf 5) (aq (.int 999))))
 (qd (aq (.bl true)))
 yx)
 (kj (sIf (gw (mOp neO (gk (jk tb) (aj (bf 10) (aj (bf 11) (aj (bf 6) dz)))) (bf 6)))
 (qd (aq (.bl false)))
 yx)
 (kj (sIf (gw (mOp Cj (gk (Bu tb) (aj (bf 10) (aj (Te (aj (bf 2) (aj (aq (.int 0)) dz)) (iy (fun l=>some (.tup l)) (aj (aq (.str "and")) (aj (iy (fun l=>some (.tup l)) dz) dz)))) (aj (mOp Cm (bf 5) (aq (.int 1))) dz)))) (aq .non)))
 (qd (aq (.bl false)))
 yx)
 (qd (mOp eqO (gk (yj tb) (aj (bf 10) (aj (mOp Cm (bf 5) (aq (.int 1))) dz))) (v9 1 [4] (hName 0) (Dv (mOp Cm (bf 5) (aq (.int 1)))) En (iy (fun l=>some (.tup l)) (aj (iy (fun l=>some (.tup l)) (aj (aq (.int 0)) dz)) (aj (iy (fun l=>some (.tup l)) (aj (mOp Cm (bf 1) (bf 0)) dz)) dz))))))))))))))))))))
theorem a8d (tb:Nat->Nat):Tq tb=uf 14
 (kj (qb 1 (gk dg (aj (bf 0) (aj (aq (.int 1)) dz))))
 (kj (a71 2 3 (aj (gk ni (aj (bf 1) (aj (aq (.int 5)) dz))) (aj (gk ni (aj (bf 1) (aj (aq (.int 0)) dz))) dz)))
 (kj (qb 4 (mOp Ss (mOp Hs (gk dg (aj (bf 0) (aj (aq (.int 2)) dz))) (mOp Pj (aq (.int 2)) (mOp a2p (aq (.int 10)) (aq (.int 8))))) (mOp a2p (aq (.int 10)) (aq (.int 8)))))
 (kj (qb 5 (mOp Cm (aq (.int 1)) (mOp Hs (gk dg (aj (bf 0) (aj (aq (.int 0)) dz))) (aq (.int 40)))))
 (kj (qb 6 (mOp Cm (aq (.int 1)) (mOp Hs (gk dg (aj (bf 0) (aj (aq (.int 3)) dz))) (bf 5))))
 (kj (sIf (gw (mOp eqO (mOp Hs (mOp Hi (gk dg (aj (bf 0) (aj (aq (.int 0)) dz))) (aq (.int 40))) (aq (.int 8))) (aq (.int 1))))
 (kj (qb 5 (mOp Cm (aq (.int 1010)) (mOp Hs (mOp Hi (gk dg (aj (bf 0) (aj (aq (.int 0)) dz))) (aq (.int 320))) (aq (.int 40)))))
 (qb 6 (mOp Ss (bf 5) (mOp Hs (gk dg (aj (bf 0) (aj (aq (.int 3)) dz))) (aq (.int 5))))))
 yx)
 (aai tb))))))):=rfl
section
variable {p:Pm} {f:Nat} {tb:Nat->Nat} {cs:List Int} {c1:Int}
theorem a8l (k:Nat):Pl 2 (p.st k):=Vp fun t ht=>by
 simp only [List.mem_cons,List.not_mem_nil,or_false] at ht
 rcases ht with rfl | rfl <;> exact Vp fun t ht=>by
  simp only [List.mem_cons,List.not_mem_nil,or_false] at ht;subst ht; exact Qx _ _
theorem a1q (o:p.Ok) (n:Nat):Pl 2 (.tup [.lst (List.replicate n (.int (p.up:Int))),.str p.h]):=Vp fun t ht=>by
 simp only [List.mem_cons,List.not_mem_nil,or_false] at ht;rcases ht with rfl | rfl
 ·exact a2q fun t ht=>by rw [(List.mem_replicate.mp ht).2]; exact Qx _ _
 ·exact a94 _ o.h.1
theorem a80 {n:Nat} (h:n<=1100) {u:T}:W4 (.lst [u]) (.int (n:Int))=some (.lst (List.replicate n u)):=by
 have h1:(0:Int)<=(n:Int)/\(n:Int)<1000000/\[u].length * (n:Int).toNat<lim:=⟨by omega,by omega,by show 1 * _<1000000; rw [Int.toNat_natCast]; omega⟩;show (if (0:Int)<=(n:Int)/\(n:Int)<1000000/\[u].length * (n:Int).toNat<lim then some (T.lst (List.replicate (n:Int).toNat [u]).flatten) else none)=_;rw [if_pos h1,Int.toNat_natCast]
 have:∀ n:Nat,(List.replicate n [u]).flatten=List.replicate n u:=fun n=>by
  induction n with
  | zero=>rfl
  | succ n ih=>rw [List.replicate_succ,List.flatten_cons,ih]; rfl
 rw [this]
abbrev T0 (tb:Nat->Nat):List SO:=[.tab (tb 0) qR,.tab (tb 1) qB]
theorem Qn (o:p.Ok) (hf:f+1<=p.n) (ht:cell cs 4%3=(p.t:Int)):∃ s',aai tb ⟨[some (scr cs,false),some (.int c1,false),some (.str p.h,false),some (.str p.b,false),some (.int p.lo,false),some (.int (p.n:Int),false),some (.int ((f+1:Nat):Int),false),none,none,none,none,none,none,none],T0 tb⟩=some (.ret (.bl true),s'):=by
 unfold aai;have hn:=o.n.2;refine zqe (yn (t:=.lst [spT p.A,spT p.B]) rfl rfl) ?_;refine zqe (za (t:=spT p.C) (xs:=[spT p.A,spT p.B]) rfl rfl (by show 2<1000000; decide) rfl rfl) ?_;refine zqe (ys (t:=.int (p.t:Int)) (zo (zf0 (ts:=[scr cs,.int 4]) rfl (M9 (k:=4) rfl)) rfl ((md (by decide)).trans (by rw [ht]))) rfl) ?_;refine zqe (s1:=⟨[some (scr cs,false),some (.int c1,false),some (.str p.h,false),some (.str p.b,false),some (.int p.lo,false),some (.int (p.n:Int),false),some (.int ((f+1:Nat):Int),false),some (.lst (p.ss.map spT),true),some (.int (p.t:Int),false),none,none,none,none,none],T0 tb⟩) ?_ ?_
 ·rcases ab8 o with e | e | e <;> unfold Pm.ss <;> rw [e] <;> rfl
 refine zqe (ys (t:=.int (p.up:Int)) (s1:=⟨[some (scr cs,false),some (.int c1,false),some (.str p.h,false),some (.str p.b,false),some (.int p.lo,false),some (.int (p.n:Int),false),some (.int ((f+1:Nat):Int),false),some (.lst (p.ss.map spT),true),some (.int (p.t:Int),false),none,none,none,none,none],T0 tb⟩) ?_ rfl) ?_
 ·rcases ab8 o with e | e | e <;> unfold Pm.up <;> rw [e] <;> rfl
 refine zqe (ys (t:=p.tr) rfl rfl) ?_;refine zqe (ys (t:=.obj 2) (s1:=⟨[some (scr cs,false),some (.int c1,false),some (.str p.h,false),some (.str p.b,false),some (.int p.lo,false),some (.int (p.n:Int),false),some (.int ((f+1:Nat):Int),false),some (.lst (p.ss.map spT),false),some (.int (p.t:Int),false),some (.int (p.up:Int),false),some (p.tr,false),none,none,none],T0 tb++[.dit [([.inr p.h,.inl 0],Aw (p.rem (f+1)))]]⟩) rfl rfl) ?_;refine zqe (ys (zf (ts:=[p.tr,.obj 2,.int ((f+2:Nat):Int)]) rfl (Uy (far:=f) (A:=2) (tb:=tb) o hf rfl rfl)) rfl) ?_;refine zqe (s1:=⟨[some (scr cs,false),some (.int c1,false),some (.str p.h,false),some (.str p.b,false),some (.int p.lo,false),some (.int (p.n:Int),false),some (.int ((f+1:Nat):Int),false),some (.lst (p.ss.map spT),false),some (.int (p.t:Int),false),some (.int (p.up:Int),false),some (p.tr,false),some (.obj 2,false),some (.tup [.lst (List.replicate (f+1) (.int (p.up:Int))),.str p.h],false),none],T0 tb++[.dit [([.inr p.h,.inl 0],Aw (p.rem (f+1)))]]++[.dnk (p.L (f+1))]⟩) (ze (abm (abr (zt (k:=true) (zm (ts:=[.tup [.lst (List.replicate (f+1) (.int (p.up:Int))),.str p.h]]) rfl rfl))) (zt (zo (t:=.tup [.lst (List.replicate (f+1) (.int (p.up:Int))),.str p.h]) (u:=.tup [.lst (List.replicate (f+1) (.int (p.up:Int))),.str p.h]) rfl (zm (zc (zo (t:=.lst [.int (p.up:Int)]) (u:=.int ((f+1:Nat):Int)) rfl rfl (a80 (by omega))) rfl) rfl) (G4 (a1q o _) (by decide))))) rfl) ?_;refine zqe (ys (zf0 (ts:=[p.tr,.lst (List.replicate (f+1) (.int (p.up:Int)))]) (zc (t:=p.tr) rfl (zc (zo (t:=.tup [.lst (List.replicate (f+1) (.int (p.up:Int))),.str p.h]) (u:=.int 0) rfl rfl su) rfl)) (a5b o hf)) rfl) ?_;refine zqe (s1:=⟨[some (scr cs,false),some (.int c1,false),some (.str p.h,false),some (.str p.b,false),some (.int p.lo,false),some (.int (p.n:Int),false),some (.int ((f+1:Nat):Int),false),some (.lst (p.ss.map spT),false),some (.int (p.t:Int),false),some (.int (p.up:Int),false),some (p.tr,false),some (.obj 2,false),some (.tup [.lst (List.replicate (f+1) (.int (p.up:Int))),.str p.h],false),some (.lst ((List.range (f+1+1)).map p.st),false)],T0 tb++[.dit [([.inr p.h,.inl 0],Aw (p.rem (f+1)))]]++[.dnk (p.L (f+1))]⟩) (ze (abm (zt (zo (t:=.int ((f+1+1:Nat):Int)) (u:=.int ((f+1+1:Nat):Int)) (zm (ts:=[.lst ((List.range (f+1+1)).map p.st)]) rfl ?_) rfl (G4 (Qx 0 _) (by decide)))) (zt (zo (t:=p.st (f+1)) (u:=p.st (f+1)) (zo (t:=.lst ((List.range (f+1+1)).map p.st)) (u:=.int (-1)) rfl rfl a2e) rfl (G4 (a8l _) (by decide))))) rfl) ?_
 ·rw [ad2]; simp
 by_cases hm:(999:Int)<(p.n:Int)
 ·exact ⟨_,zqr (zk (zt (k:=true) (zo (t:=.int (p.n:Int)) (u:=.int 999) rfl rfl (by show some (T.bl (decide ((999:Int)<(p.n:Int))))=_; rw [decide_eq_true hm]))) rfl)⟩
 refine zqe (ze (zt (k:=false) (zo (t:=.int (p.n:Int)) (u:=.int 999) rfl rfl (by show some (T.bl (decide ((999:Int)<(p.n:Int))))=_; rw [decide_eq_false hm]))) rfl) ?_;refine zqe (ze (zt (zo (zf (ts:=[p.tr,.obj 2,.int ((f+1:Nat):Int)]) rfl (Ue (far:=f) (A:=2) (tb:=tb) o hf rfl rfl)) (show bf 6 _=some (.int ((f+1:Nat):Int),_) from rfl) (G4 (Qx 0 _) (by decide)))) rfl) ?_;refine zqe (ze (zt (zo (zf (ts:=[p.tr,.obj 5,.int ((p.n+1:Nat):Int)]) (s1:=⟨[some (scr cs,false),some (.int c1,false),some (.str p.h,false),some (.str p.b,false),some (.int p.lo,false),some (.int (p.n:Int),false),some (.int ((f+1:Nat):Int),false),some (.lst (p.ss.map spT),false),some (.int (p.t:Int),false),some (.int (p.up:Int),false),some (p.tr,false),some (.obj 2,false),some (.tup [.lst (List.replicate (f+1) (.int (p.up:Int))),.str p.h],false),some (.lst ((List.range (f+1+1)).map p.st),false)],T0 tb++[.dit [([.inr p.h,.inl 0],Aw (p.rem (f+1)))]]++[.dnk (p.L (f+1))]++[.dnk (p.L f)]++[.dit [([.inr p.h,.inl 0],Aw (.all []))]]⟩) rfl (a5l (A:=5) (tb:=tb) o rfl rfl)) rfl rfl)) rfl) ?_
 refine ⟨⟨[some (scr cs,false),some (.int c1,false),some (.str p.h,false),some (.str p.b,false),some (.int p.lo,false),some (.int (p.n:Int),false),some (.int ((f+1:Nat):Int),false),some (.lst (p.ss.map spT),false),some (.int (p.t:Int),false),some (.int (p.up:Int),false),some (p.tr,false),some (.obj 2,false),some (.tup [.lst (List.replicate (f+1) (.int (p.up:Int))),.str p.h],false),some (.lst ((List.range (f+1+1)).map p.st),false)],T0 tb++[.dit [([.inr p.h,.inl 0],Aw (p.rem (f+1)))]]++[.dnk (p.L (f+1))]++[.dnk (p.L f)]++[.dit [([.inr p.h,.inl 0],Aw (.all []))]]++[.dnk (p.L p.n)]++[.dnk (p.L p.n)]⟩,zr (zo (t:=.lst ((List.range (p.n+1)).map p.st)) (u:=.lst ((List.range (p.n+1)).map p.st)) (zf (ts:=[p.tr,.int ((p.n+1:Nat):Int)]) rfl (Xe (tb:=tb) o rfl)) ?_ (Ze (n:=3) (a2q fun t ht=>by
  obtain ⟨k,_,rfl⟩:=List.mem_map.mp ht;exact a8l k) (by decide)))⟩
 ·generalize hF:v9 1 [4] _ _ _ _ _=R
  exact Pa hF (fun (k:Nat)=>.int (k:Int)) p.st (List.range (p.n+1)) _ _ [some (.int p.lo,false)] (zrg (m:=p.n+1) rfl (by show _<1000000; omega)) rfl rfl rfl (by rw [List.length_range]; show _<=1000000; omega) fun a _ pre bT=>by
   obtain ⟨u,rfl⟩:=p1 pre bT;exact ⟨[some (.int (a:Int),false)],rfl,rfl,rfl,rfl⟩
end
theorem abu:a2p (.int 10) (.int 8)=some (.int 100000000):=by simp [a2p]
theorem fd_ {i j:Int} (h:0<j) (h2:j<1073741824):Hi (.int i) (.int j)=some (.int (i / j)):=if_pos ⟨h,.inl h2⟩
theorem a1a {tb:Nat->Nat} {cs:List Int} (hc:cs.length<=63):∃ st,Tq tb [scr cs] [.tab (tb 0) "reached.<locals>.<lambda>",.tab (tb 1) "breach.<locals>.<lambda>"]=some (.bl true,st):=by
 obtain ⟨h,hh,oh⟩:=a3k (c:=cell cs 1) (k:=5);obtain ⟨b,hb,ob⟩:=a3k (c:=cell cs 1) (k:=0);obtain ⟨lo,jb⟩:∃ lo:Int,lo=cell cs 2%200000000 - 100000000:=⟨_,rfl⟩;obtain ⟨t,ht3,ht⟩:∃ t:Nat,t<3/\cell cs 4%3=(t:Int):=⟨(cell cs 4%3).toNat,by omega,by omega⟩;rw [a8d];refine a8y ?_;refine zqe (ys (zf0 (ts:=[scr cs,.int 1]) rfl (M9 (k:=1) rfl)) rfl) ?_;refine zqe (abz (zc (zf0 (ts:=[.int (cell cs 1),.int 5]) rfl (hh _)) (zc (zf0 (ts:=[.int (cell cs 1),.int 0]) rfl (hb _)) rfl))) ?_;refine zqe (ys (t:=.int lo) (zo (zo (zf0 (ts:=[scr cs,.int 2]) rfl (M9 (k:=2) rfl)) (zo (u:=.int 100000000) (v:=.int 200000000) rfl (zo rfl rfl abu) (by simp [Pj,Rq])) (md (by decide))) (zo rfl rfl abu) (by rw [jb]; rfl)) rfl) ?_;have a0:∀ s:Sta,s.env[0]? = some (some (scr cs,false))->gk dg (aj (bf 0) (aj (aq (.int 0)) dz)) s=some (.int (cell cs 0),s):=fun s hs=>zf0 (ts:=[scr cs,.int 0]) (zc (by unfold bf; rw [hs]) rfl) (M9 (k:=0) rfl);have a3:∀ s:Sta,s.env[0]? = some (some (scr cs,false))->gk dg (aj (bf 0) (aj (aq (.int 3)) dz)) s=some (.int (cell cs 3),s):=fun s hs=>zf0 (ts:=[scr cs,.int 3]) (zc (by unfold bf; rw [hs]) rfl) (M9 (k:=3) rfl);obtain ⟨n,hn1,i5,hn⟩:∃ n:Nat,1<=n/\n<=40/\1+cell cs 0%40=(n:Int):=⟨(1+cell cs 0%40).toNat,by omega,by omega,by omega⟩;have iT:(0:Int)<(n:Int):=by omega
 have q0:=Int.emod_nonneg (cell cs 3) (show (n:Int)≠0 by omega);have q1:=Int.emod_lt_of_pos (cell cs 3) iT;obtain ⟨f,hf1,hf⟩:∃ f:Nat,f+1<=n/\1+cell cs 3%(n:Int)=((f+1:Nat):Int):=⟨(cell cs 3%(n:Int)).toNat,by omega,by omega⟩;refine zqe (ys (t:=.int (n:Int)) (zo rfl (zo (a0 _ rfl) rfl (md (by decide))) (by rw [<- hn]; rfl)) rfl) ?_;refine zqe (ys (t:=.int ((f+1:Nat):Int)) (zo rfl (zo (a3 _ rfl) (show bf 5 _=some (.int (n:Int),_) from rfl) (md iT)) (by rw [<- hf]; rfl)) rfl) ?_;have dZ:∀ s:Sta,s.env[0]? = some (some (scr cs,false))->gw (mOp eqO (mOp Hs (mOp Hi (gk dg (aj (bf 0) (aj (aq (.int 0)) dz))) (aq (.int 40))) (aq (.int 8))) (aq (.int 1))) s=some (cell cs 0 / 40%8==1,s):=fun s hs=>zt (zo (zo (zo (a0 s hs) rfl (fd_ (by decide) (by decide))) rfl (md (by decide))) rfl (eq_i rfl))
 by_cases hk:(cell cs 0 / 40%8==1)=true
 ·obtain ⟨m,hm1,dE,hm⟩:∃ m:Nat,1010<=m/\m<=1049/\1010+cell cs 0 / 320%40=(m:Int):=⟨(1010+cell cs 0 / 320%40).toNat,by omega,by omega,by omega⟩;obtain ⟨g,hg1,hg⟩:∃ g:Nat,g+1<=m/\(m:Int) - cell cs 3%5=((g+1:Nat):Int):=⟨((m:Int) - cell cs 3%5).toNat - 1,by omega,by omega⟩;refine zqe (zk ((dZ _ rfl).trans (by rw [hk])) (zq (ys (t:=.int (m:Int)) (zo rfl (zo (zo (a0 _ rfl) rfl (fd_ (by decide) (by decide))) rfl (md (by decide))) (by rw [<- hm]; rfl)) rfl) (ys (t:=.int ((g+1:Nat):Int)) (zo (show bf 5 _=some (.int (m:Int),_) from rfl) (zo (a3 _ rfl) rfl (md (by decide))) (by rw [<- hg]; rfl)) rfl))) ?_;exact Qn (p:=⟨h,b,lo,m,t⟩) ⟨oh,ob,⟨by show 1<=m; omega,by show m<=1100; omega⟩,ht3⟩ hg1 ht
 ·refine zqe (ze ((dZ _ rfl).trans (by rw [eq_false_of_ne_true hk])) rfl) ?_;exact Qn (p:=⟨h,b,lo,n,t⟩) ⟨oh,ob,⟨hn1,by show n<=1100; omega⟩,ht3⟩ hf1 ht
end K
end
section
namespace D
open PySem L2 C
structure FA (K:PySem.W.Frag) (x:Str) (st:Stmt) (f:Addr) (fd:FuncData):Prop where
 a:PySem.W.nsIn K mainGlobals x=some (some (.ref f))
 F:Fun K x x st f fd
theorem aaw {K:PySem.W.Frag} {x:Str} {st:Stmt} {f:Addr} {oc:Value} {od an:Option Addr} {cM:Array (Option Value)} {kV doc pm aS ct:Value} (a:PySem.W.nsIn K mainGlobals x=some (some (.ref f)))
  (l:K.lookup f=some ⟨oc,od,.func (PySem.W.fnOf x x (wu st) (nu st) (dh st) .none kV doc pm an aS ct),cM⟩) (c:PySem.W.codeIn K aS x=true) (k:PySem.W.keepIn K (.ref f)=true):FA K x st f (PySem.W.fnOf x x (wu st) (nu st) (dh st) .none kV doc pm an aS ct):=⟨a,Mi l c k⟩
structure FC (K:PySem.W.Frag) (x:Str) (st:Stmt) (f:Addr) (fd:FuncData) (c P:Addr):Prop where
 a:PySem.W.nsIn K mainGlobals x=some (some (.ref f))
 F:Fun K x x st f fd
 cd:fd.code=.ref c
 hd:PySem.W.codeHdIn K c P=true
theorem aat {K:PySem.W.Frag} {x:Str} {st:Stmt} {f c P:Addr} {oc:Value} {od an:Option Addr} {cM:Array (Option Value)} {kV doc pm ct:Value} (a:PySem.W.nsIn K mainGlobals x=some (some (.ref f)))
  (l:K.lookup f=some ⟨oc,od,.func (PySem.W.fnOf x x (wu st) (nu st) (dh st) .none kV doc pm an (.ref c) ct),cM⟩) (cc:PySem.W.codeIn K (.ref c) x=true) (k:PySem.W.keepIn K (.ref f)=true) (h:PySem.W.codeHdIn K c P=true):FC K x st f (PySem.W.fnOf x x (wu st) (nu st) (dh st) .none kV doc pm an (.ref c) ct) c P:=⟨a,Mi l cc k,rfl,h⟩
theorem FA.m {K:PySem.W.Frag} {x:Str} {st:Stmt} {f:Addr} {fd:FuncData} {hp:Heap} {mg:Str->Option Value} (h:FA K x st f fd) (X:K.In hp) (G:hp.Ns mainGlobals mg):mg x=some (.ref f):=PySem.W.mg_of X G h.a
theorem FC.m {K:PySem.W.Frag} {x:Str} {st:Stmt} {f c P:Addr} {fd:FuncData} {hp:Heap} {mg:Str->Option Value} (h:FC K x st f fd c P) (X:K.In hp) (G:hp.Ns mainGlobals mg):mg x=some (.ref f):=PySem.W.mg_of X G h.a
theorem a7j {K:PySem.W.Frag} {Cl D fI:Addr} {f nm q:Str} {Na:Addr} {bs:List Value} {sn:List Str} {sub:List Value} {ab:Bool} {col:Option Bool} {dd:Option Addr} {k0 k1 k2 k3 k5:Option Value}
  (lk:K.lookup Cl=some (excClassObj nm q Cl Na bs (.ref D::My.vB) true sn sub ab col dd k0 k1 k2 k3 k5 "ValueError.__new__")) (b:PySem.W.excIn K D My.vB "ValueError.__new__" = true) (i:PySem.W.findIn K (.ref Cl) "__init__" = some (some (.ref fI))) (fn:PySem.W.isFn K (.ref fI)=true)
  (sa:PySem.W.findIn K (.ref Cl) "__setattr__" = some (some (.builtin "object.__setattr__"))) (ob:PySem.W.mroIn K Cl (.type "object")=some true) (na:PySem.W.findIn K (.ref Cl) f=some none) (kp:PySem.W.keepIn K (.ref Cl)=true):XC K Cl D fI f/\XCl K Cl (.ref D::My.vB) :=
 ⟨⟨⟨nm,q,Na,bs,sn,sub,ab,col,dd,k0,k1,k2,k3,k5,lk⟩,b,i,fn,sa,ob,na,kp⟩,by simp,nm,q,Na,bs,true,sn,sub,ab,col,dd,k0,k1,k2,k3,k5,lk⟩
theorem all_mk {aM bL cy:Addr} {cF:FuncData} {af aY bU:Addr} {cf:FuncData} {cc0 P0:Addr} {cc1 P1:Addr} {l:PySem.W.OpenLaw} {w:World} {K:PySem.W.Frag} {h:Heap} {mg:Str->Option Value} {fa f1 f2 f3 f4 f5 f6 f7 f8 f9 kD kY kJ ku kQ lp kM ke kS gL:Addr} {kW jO kZ k4 kA kn jN kF ko gX gZ gW g9 gR gO iK iA iO:FuncData} (X:K.In h) (G:h.Ns mainGlobals mg) (jY:mg "law" = some (.ref fa))
  {gM fF:Option Addr} {hV:Array (Option Value)} {iM fz gh fO eQ fY:Value}
  (h1:FA K "value" K8 f1 kW)
  (h2:FA K "holds" Gd f2 jO)
  (h3:FA K "any_is" Cy f3 kZ)
  (h4:FA K "first_stand" um f4 k4)
  (h5:FA K "book_of" Dp f5 kA)
  (h6:FA K "places_of" Ad f6 kn)
  (h7:FA K "values_behind" qe f7 jN)
  (h8:FA K "places_behind" ql f8 kF)
  (h9:FA K "moves" Jw f9 ko)
  (h10:FA K "woven" Kh kD gX)
  (h11:FA K "fits" Q5 kY gZ)
  (h12:FA K "search" Fq kJ gW)
  (h13:FC K "reached" Dj ku g9 cc0 P0)
  (h14:FA K "weaving_to" vp kQ gR)
  (h15:FC K "breach" Fl lp gO cc1 P1)
  (h16:FA K "_law_cell_at" uc kM iK)
  (h17:FA K "_law_name" Br ke iA)
  (h18:FA K "_law_refused" ud kS iO)
  (a19:PySem.W.nsIn K mainGlobals "law" = some (some (.ref gL))) (l19:K.lookup gL=some ⟨iM,gM,.func (PySem.W.fnOf "law" "law" (wu Js) (nu Js) (dh Js) .none fz gh fO fF eQ fY),hV⟩) (c19:PySem.W.codeIn K eQ "law" = true) (k19:PySem.W.keepIn K (.ref gL)=true)
  (z_dict:PySem.W.nsIn K mainGlobals "dict" = some none)
  (z_enumerate:PySem.W.nsIn K mainGlobals "enumerate" = some none)
  (z_isinstance:PySem.W.nsIn K mainGlobals "isinstance" = some none)
  (z_len:PySem.W.nsIn K mainGlobals "len" = some none)
  (z_list:PySem.W.nsIn K mainGlobals "list" = some none)
  (z_range:PySem.W.nsIn K mainGlobals "range" = some none)
  (z_sum:PySem.W.nsIn K mainGlobals "sum" = some none)
  (z_tuple:PySem.W.nsIn K mainGlobals "tuple" = some none)
  (z_zip:PySem.W.nsIn K mainGlobals "zip" = some none)
  (xa_NoStep:PySem.W.nsIn K mainGlobals "NoStep" = some (some (.ref aM))) (xx_NoStep:XC K aM bL cy "place" /\ XCl K aM (.ref bL::My.vB)) (xg_NoStep:XG K aM "place") (xF_NoStep:Fun K "__init__" "NoStep.__init__" Ig cy cF)
  (xa_TooMany:PySem.W.nsIn K mainGlobals "TooMany" = some (some (.ref af))) (xx_TooMany:XC K af aY bU "most" /\ XCl K af (.ref aY::My.vB)) (xg_TooMany:XG K af "most") (xF_TooMany:Fun K "__init__" "TooMany.__init__" Er bU cf)
  : ∃ fd:FuncData,(∀ (s:Shared) (v:Value),BindsTo s fd ⟨[v],[]⟩ [("_law_script",v)])/\∀ base:Heap,K.In base->base.Ns mainGlobals mg->BM base mg->qz l.prog w K mg base CX0 47 fa fd ["_law_script"] (spF K 1 (_root_.K.Tq (fun i=>[P0,P1].getD i 0))):=by
 have e:=jY.symm.trans (PySem.W.mg_of X G a19);cases e;have jQ:=Mi (st:=Js) l19 c19 k19;have aI:=PySem.W.mg_none_of X G z_dict;have aF:=PySem.W.mg_none_of X G z_enumerate;have br:=PySem.W.mg_none_of X G z_isinstance;have aU:=PySem.W.mg_none_of X G z_len;have bP:=PySem.W.mg_none_of X G z_list;have b8:=PySem.W.mg_none_of X G z_range;have cz:=PySem.W.mg_none_of X G z_sum;have aE:=PySem.W.mg_none_of X G z_tuple;have bC:=PySem.W.mg_none_of X G z_zip;have fG:a9t K mg "NoStep" aM (.ref bL::My.vB):=⟨xx_NoStep.2,PySem.W.mg_of X G xa_NoStep⟩;have gg:=xg_NoStep;have aX:a9t K mg "TooMany" af (.ref aY::My.vB):=⟨xx_TooMany.2,PySem.W.mg_of X G xa_TooMany⟩;have bg:=xg_TooMany;refine ⟨PySem.W.fnOf "law" "law" (wu Js) (nu Js) (dh Js) .none fz gh fO fF eQ fY,fun s v=>.of_eq rfl,fun base KB _ cB=>?_⟩
 let tb:Nat->Nat:=(fun i=>[P0,P1].getD i 0)
 have a7:=fun base':Heap=>Y9 (P:=l.prog) (w:=w) (base:=base') xx_NoStep.1 xF_NoStep (PySem.W.mg_of X G xa_NoStep);have aW:=fun base':Heap=>Rk (P:=l.prog) (w:=w) (base:=base') xx_TooMany.1 xF_TooMany (PySem.W.mg_of X G xa_TooMany);have aG:=fun base':Heap=>Yz (P:=l.prog) (w:=w) (base:=base') h1.F (h1.m X G) cz;have cS:=fun base':Heap=>Le (P:=l.prog) (w:=w) (base:=base') h2.F (h2.m X G) h3.F (h3.m X G) (aG base') 40;have av:=fun base':Heap=>(cS base').1;have aV:=fun base':Heap=>(cS base').2;have ah:=fun base':Heap=>Il (P:=l.prog) (w:=w) (base:=base') h4.F (h4.m X G) aE;have ay:=fun base':Heap=>Tr (P:=l.prog) (w:=w) (base:=base') h5.F (h5.m X G) aI bC;have aw:=fun base':Heap=>Ly (P:=l.prog) (w:=w) (base:=base') h6.F (h6.m X G) aI bC;have az:=fun base':Heap=>Fj (P:=l.prog) (w:=w) (base:=base') h7.F (h7.m X G) (aG base') aI aE;have aA:=fun base':Heap=>Fg (P:=l.prog) (w:=w) (base:=base') h8.F (h8.m X G) aE;have aK:=fun base':Heap=>a1o (P:=l.prog) (w:=w) (base:=base') h9.F (h9.m X G) (ay base') (av base') (aA base') (aw base') (az base') aF;have c9:=fun base':Heap=>a1n (P:=l.prog) (w:=w) (base:=base') h10.F (h10.m X G) (ah base') (aK base') (a7 base') aI aF;have a6:=fun base':Heap=>(c9 base').norm;have aZ:=fun base':Heap=>a4w (P:=l.prog) (w:=w) (base:=base') h11.F (h11.m X G) (ay base') (av base') (aw base');have c0:=fun base':Heap=>Wi (P:=l.prog) (w:=w) (base:=base') h12.F (h12.m X G) (ah base') (aK base') (aW base') aU;have aD:=fun base':Heap=>Jt (P:=l.prog) (w:=w) (base:=base') h14.F (h14.m X G);have ai:=fun base':Heap=>Iz (P:=l.prog) (w:=w) (base:=base') h16.F (h16.m X G) aU;have aN:=fun base':Heap=>Nq (P:=l.prog) (w:=w) (base:=base') h17.F (h17.m X G);have bN:=fun (base':Heap) (_:Mod K mg base')=>aZ base';have aH:=fun (base':Heap) (_:Mod K mg base')=>c0 base';have a7:=a7 base;have aW:=aW base;have a6:=a6 base;have a6:gq l.prog w K mg base "woven" 43 ["program","numbers"] _root_.K.Ep:=a6;have aZ:=aZ base;have aD:=aD base;have ai:=ai base;have aN:=aN base;have cL:=Rv (P:=l.prog) (w:=w) (base:=base) (tb:=tb) h13.F (h13.m X G) aH h13.cd (PySem.W.codeHd_of_K KB h13.hd) cB bP;have bc:gq l.prog w K mg base "reached" 45 ["program","most"] (_root_.K.yj tb):=cL.norm;have aT:=Ve (P:=l.prog) (w:=w) (base:=base) (tb:=tb) h15.F (h15.m X G) aZ aD aH bN h15.cd (PySem.W.codeHd_of_K KB h15.hd) cB aU;have bz:gq l.prog w K mg base "breach" 45 ["program","annotation","most"] (_root_.K.Bu tb):=aT.norm;have aJ:=J2 (P:=l.prog) (w:=w) (base:=base) (tb:=tb) h18.F (h18.m X G) aT aX bg;exact a84 (tb:=tb) jQ ai aN aJ bz bc a6 br aU b8 aE
theorem walk {l:PySem.W.OpenLaw} {q:Program} {loose:List Str} {XP:(Str->Option Value)->Heap->Prop} {YP:World->Heap->Prop} {d:DefRec} {K:Params->PySem.W.Frag} {ts:List Addr} {P0 P1 cc0 cc1:Addr} (hn:l.most=some 63) (fi:d.params.defaults=[])
  (hY:∀ (w:World) (h:Heap),YP w h->(K w.params).In h/\∀ P∈ts,h.get? P=some (PySem.W.tabObj #[])) (ie:([P0,P1]:List Addr).Nodup)
  (hT:∀ (w:World),∀ q∈([(cc0,P0),(cc1,P1)]:List (Addr × Addr)),q.2∈ts/\(K w.params).lookup q.2=none/\PySem.W.codeHdIn (K w.params) q.1 q.2=true)
  (F:∀ (w:World) (mg:Str->Option Value) (fa:Addr) (h:Heap),(K w.params).In h->h.Ns mainGlobals mg->mg d.name=some (.ref fa) ->
   ∃ fd:FuncData,(∀ (s:Shared) (u:Value),BindsTo s fd ⟨[u],[]⟩ [("_law_script",u)])/\∀ base:Heap,(K w.params).In base->base.Ns mainGlobals mg->BM base mg->qz l.prog w (K w.params) mg base CX0 47 fa fd ["_law_script"] (spF (K w.params) 1 (_root_.K.Tq (fun i=>[P0,P1].getD i 0)))) :
  PySem.W.WalkO q loose XP YP l.row.toRowW d [] (fun f vs=>PySem.call f vs) :=
 L2.a0w (n:=63) (k:=47) (x := "_law_script") (CX:=fun _=>CX0) (ts:=ts) (tabs:=fun _=>[(cc0,P0),(cc1,P1)]) (sp:=fun w=>spF (K w.params) 1 (_root_.K.Tq (fun i=>[P0,P1].getD i 0))) hn (by decide) fi ⟨rfl,by decide,by decide⟩ hY (fun w q hq=>let ⟨h1,h2,h3⟩:=hT w q hq; ⟨h1,h2,fun h kh=>PySem.W.codeHd_of_K kh h3⟩) F
  (fun w H a ns hl hO hS=>a5q (tabs:=[(P0,"reached.<locals>.<lambda>"),(P1,"breach.<locals>.<lambda>")]) hS (fun q hq=>by simp only [List.mem_cons,List.not_mem_nil,or_false] at hq; rcases hq with rfl | rfl; exact hO (cc0,P0) (by simp); exact hO (cc1,P1) (by simp)) ie (_root_.K.a1a (cs:=ns) hl)) fun _ _ _ _ _ z=>z
end D
theorem PySem.W.Fast.tw5267107812449637216:True:=⟨⟩
theorem PySem.W.Fast.tw7612508499537432356:True:=⟨⟩
theorem PySem.W.Fast.tw9684430518242107334:True:=⟨⟩
theorem PySem.W.Fast.tw3465799805834308489:True:=⟨⟩
theorem PySem.W.Fast.tw4176316432051665322:True:=⟨⟩
theorem PySem.W.Fast.tw17052698012571919149:True:=⟨⟩
theorem PySem.W.Fast.tw9232473911179236270:True:=⟨⟩
theorem PySem.W.Fast.tw6927494814708637743:True:=⟨⟩
theorem PySem.W.Fast.tw18316713275651397103:True:=⟨⟩
theorem PySem.W.Fast.tw13903935889491438255:True:=⟨⟩
theorem PySem.W.Fast.tw1536642146635731539:True:=⟨⟩
theorem PySem.W.Fast.tw16757620944103730101:True:=⟨⟩
theorem PySem.W.Fast.tw2983798412485060920:True:=⟨⟩
theorem PySem.W.Fast.tw10789227260467962297:True:=⟨⟩
theorem PySem.W.Fast.tw8794568103547670361:True:=⟨⟩
theorem PySem.W.Fast.tw13764944182620539902:True:=⟨⟩
theorem PySem.W.Fast.tw15515690562724322424:True:=⟨⟩
theorem PySem.W.Fast.tw5019493109297972170:True:=⟨⟩
open PySem PySem.W PyProof.Rows
set_option maxRecDepth 100000 in
set_option maxHeartbeats 0 in
theorem PySem.Challenge.cw_calm_k28_far_breaches_holds : PySem.Challenge.rw_calm_k28_far_breaches.Holds := by
 w_on; o_law; k_head; (case hw=>w_witness2)
 k_fill
 refine D.walk (cc0:=136) (P0:=132) (cc1:=143) (P1:=139) (l:=PySem.Challenge.rw_calm_k28_far_breaches) rfl rfl (fun w h Y=>⟨PySem.W.km_in_of Y,PySem.W.km_tabs_of Y⟩) (by decide) ?T ?F
 case T =>
  intro w q hq;simp only [List.mem_cons,List.not_mem_nil,or_false] at hq;rcases hq with rfl | rfl
  ·exact ⟨by decide,by kernel_rfl,by kernel_rfl⟩
  ·exact ⟨by decide,by kernel_rfl,by kernel_rfl⟩
 case F =>
  intro w mg fa h KX G bj;refine' D.all_mk (cc0:=136) (P0:=132) (cc1:=143) (P1:=139) KX G bj ?h1 ?h2 ?h3 ?h4 ?h5 ?h6 ?h7 ?h8 ?h9 ?h10 ?h11 ?h12 ?h13 ?h14 ?h15 ?h16 ?h17 ?h18 ?a19 ?l19 ?c19 ?k19 ?z_dict ?z_enumerate ?z_isinstance ?z_len ?z_list ?z_range ?z_sum ?z_tuple ?z_zip ?xa_NoStep ?xx_NoStep ?xg_NoStep ?xF_NoStep ?xa_TooMany ?xx_TooMany ?xg_TooMany ?xF_TooMany
  (case xa_NoStep=>k_is)
  (case xx_NoStep=>refine' D.a7j ?lk ?b ?i ?fn ?sa ?ob ?na ?kp; (case lk=>k_is); (case b=>k_exc); (case i=>k_is); (case fn=>k_is); (case sa=>k_is); (case ob=>k_is); (case na=>k_is); (case kp=>k_is))
  (case xg_NoStep=>refine' L2.XG.mk ?ga_NoStep ?gt_NoStep ?bx_NoStep ?dc_NoStep ?na_NoStep ?cl_NoStep ?cg_NoStep ?ct_NoStep ?ob_NoStep ?ve_NoStep; (case ve_NoStep=>kit_is); all_goals k_is)
  (case xF_NoStep=>refine' L2.Mi ?l ?c ?k; (case l=>k_is); (case c=>k_is); (case k=>k_is))
  (case xa_TooMany=>k_is)
  (case xx_TooMany=>refine' D.a7j ?lk ?b ?i ?fn ?sa ?ob ?na ?kp; (case lk=>k_is); (case b=>k_exc); (case i=>k_is); (case fn=>k_is); (case sa=>k_is); (case ob=>k_is); (case na=>k_is); (case kp=>k_is))
  (case xg_TooMany=>refine' L2.XG.mk ?ga_TooMany ?gt_TooMany ?bx_TooMany ?dc_TooMany ?na_TooMany ?cl_TooMany ?cg_TooMany ?ct_TooMany ?ob_TooMany ?ve_TooMany; (case ve_TooMany=>kit_is); all_goals k_is)
  (case xF_TooMany=>refine' L2.Mi ?l ?c ?k; (case l=>k_is); (case c=>k_is); (case k=>k_is))
  case h1 | h2 | h3 | h4 | h5 | h6 | h7 | h8 | h9 | h10 | h11 | h12 | h14 | h16 | h17 | h18=>refine' D.aaw ?a ?l ?c ?k; (case a=>k_is); (case l=>k_is); (case c=>k_is); (case k=>k_is)
  case h13 | h15=>refine' D.aat ?a ?l ?c ?k ?h; (case a=>k_is); (case l=>k_is); (case c=>k_is); (case k=>k_is); (case h=>kernel_rfl)
  case a19 | l19 | c19 | k19 | z_dict | z_enumerate | z_isinstance | z_len | z_list | z_range | z_sum | z_tuple | z_zip=>k_is
#print axioms PySem.Challenge.cw_calm_k28_far_breaches_holds
end
