import PyProof.Rows.All
import Wide.All
import OpenK.AllK
import Wide.FinOn
import PyProof.P3Statements
import PyProof.Lay0
import Lean
import PyProof.EqAt
import PyProof.EqKinds
import PyProof.TupleCall
import PyProof.P3Eq
import PyProof.NeData
import KE.KEqDict
import PyProof.ListRange
import KE.KDictSum
import PyProof.AttrMissHeap
import PyProof.WalksS
import KE.KDictOf
import KE.KRevSl
import PyProof.ZipIter
import PyProof.Rows.FactsT2
import PyProof.Rows.SetFrom
import PyProof.Rows.SortStr
import KE.KDictList
import PyProof.FactsAll.set
import PyProof.CollectWalk
import KE.KSortTup
import PyProof.DictWalks
import PyProof.DictItems
import KE.KDictLaws
import PyProof.WalkInts
import PyProof.SeqI3
import KE.KRevIter
import PyProof.TupleOfGen
import PyProof.CollectIter
import PyProof.EnumMake
import PyProof.Rows.EnumRows
import PyProof.FString
import PyProof.MeetsStr
import PyProof.StrLaws
import PyProof.StrLawsJoin
import PyProof.StrOps
import PyProof.SliceStr2
import PyProof.StrLoop
import KE.KIntText
import KE.KSortKey
import PyProof.StrLawsIn
import PySem.Challenge.RW_calm_k08_no_remark
set_option Elab.async false
set_option linter.all false
set_option maxRecDepth 100000
set_option maxHeartbeats 8000000
noncomputable section
section
namespace C
open PySem
theorem ig {α:Type} {w:α} {P:Prop} (h:none=some w):P:=nomatch h
theorem Ad {α:Type} {c:Prop} [Decidable c] {o:Option α} {w:α} (h:(if c then o else none)=some w):c/\o=some w:=by
 by_cases z:c
 ·rw [if_pos z] at h; exact ⟨z,h⟩
 ·rw [if_neg z] at h; exact ig h
abbrev Key:=Sum Int Str
inductive T where
 | non | bl (b:Bool) | int (i:Int) | str (x:Str)
 | tup (xs:List T) | lst (xs:List T) | dic (kvs:List (Key × T)) | obj (n:Nat)
 | adr (n:Nat)
instance:Inhabited T:=⟨.non⟩
inductive SO where
 | dic (kvs:List (Key × T)) | lst (xs:List T) | dit (kvs:List (List Key × T))
 | exc (C:Nat) (f:Str) (t:T)
 | ins (C:Nat) (fs:List (Str × T))
 | fdc (kvs:List (Key × T))
abbrev Slot:=Option (T × Bool)
structure Sta where
 env:List Slot
 sto:List SO
abbrev M (α:Type):=Sta->Option (α × Sta)
def Qd (k:Key):List (Key × T)->Option T
 | []=>none
 | (q,t)::r=>if q=k then some t else Qd k r
noncomputable def a5w (k:Key) (t:T) (kvs:List (Key × T)):List (Key × T) :=
 if kvs.any fun p=>decide (p.1=k) then kvs.map fun p=>if p.1=k then (p.1,t) else p else kvs++[(k,t)]
def keyOf:T->Option Key
 | .int i=>some (.inl i)
 | .str x=>some (.inr x)
 | _=>none
def Vw:Key->T
 | .inl i=>.int i
 | .inr x=>.str x
mutual
def dat:T->Option PyData
 | .non=>some .none
 | .bl b=>some (.bool b)
 | .int i=>some (.int i)
 | .str x=>if PyData.canLay0 (.str x) then some (.str x) else none
 | .tup xs=>(Ms xs).map .tuple
 | .lst xs=>(Ms xs).map .list
 | .dic _=>none
 | .obj _=>none
 | .adr _=>none
def Ms:List T->Option (List PyData)
 | []=>some []
 | x::r=>match dat x with
  | some a=>(Ms r).map (a :: ·)
  | none=>none
end
noncomputable def eqD (a b:T):Option Bool:=match dat a with
 | some x=>match dat b with
  | some y=>if x.depth<=40 then some (PyData.eqv x y) else none
  | none=>none
 | none=>none
noncomputable def a7p:List (Key × T)->List (Key × T)->Option Bool
 | [],_=>some true
 | (k,x)::r,ys=>match Qd k ys with
  | none=>some false
  | some y=>match eqD x y with
   | some e=>(a7p r ys).map (e && ·)
   | none=>none
noncomputable def eqT:T->T->Option Bool
 | .dic a,.dic b=>if a.length=b.length then a7p a b else some false
 | x,y=>eqD x y
def ao (t:T):M T:=fun s=>some (t,s)
noncomputable def bf (i:Nat):M T:=fun s=>match s.env[i]? with
 | some (some (t,false))=>some (t,s)
 | some (some (t,true))=>some (t,{ s with env:=s.env.set i (some (t,false)) })
 | _=>none
def c7:M (List T):=fun s=>some ([],s)
noncomputable def aj (a:M T) (r:M (List T)):M (List T):=fun s=>match a s with
 | some (t,s1)=>match r s1 with
  | some (ts,s2)=>some (t::ts,s2)
  | none=>none
 | none=>none
def yg:List Str->M (List T)
 | []=>c7
 | x::r=>aj (ao (.str x)) (yg r)
noncomputable def dg (f:List T->Option T) (a:M (List T)):M T:=fun s=>match a s with
 | some (ts,s1)=>match f ts with
  | some t=>some (t,s1)
  | none=>none
 | none=>none
noncomputable def mUn (f:T->Option T) (a:M T):M T:=fun s=>match a s with
 | some (t,s1)=>match f t with
  | some u=>some (u,s1)
  | none=>none
 | none=>none
noncomputable def mOp (f:T->T->Option T) (a b:M T):M T:=fun s=>match a s with
 | some (t,s1)=>match b s1 with
  | some (u,s2)=>match f t u with
   | some v=>some (v,s2)
   | none=>none
  | none=>none
 | none=>none
abbrev Fn:=List T->List SO->Option (T × List SO)
noncomputable def j8 (F:Fn) (a:M (List T)):M T:=fun s=>match a s with
 | some (ts,s1)=>match F ts s1.sto with
  | some (t,sto)=>some (t,{ s1 with sto:=sto })
  | none=>none
 | none=>none
def d9 (a:M T):M Bool:=fun s=>match a s with
 | some (.bl b,s1)=>some (b,s1)
 | _=>none
def Fx (a:M Bool):M Bool:=fun s=>match a s with
 | some (b,s1)=>some (!b,s1)
 | none=>none
noncomputable def Ld (a b:M Bool):M Bool:=fun s=>match a s with
 | some (true,s1)=>b s1
 | some (false,s1)=>some (false,s1)
 | none=>none
noncomputable def mOr (a b:M Bool):M Bool:=fun s=>match a s with
 | some (true,s1)=>some (true,s1)
 | some (false,s1)=>b s1
 | none=>none
def Ak (a:M Bool):M T:=fun s=>match a s with
 | some (b,s1)=>some (.bl b,s1)
 | none=>none
noncomputable def mIf (c:M Bool) (a b:M T):M T:=fun s=>match c s with
 | some (true,s1)=>a s1
 | some (false,s1)=>b s1
 | none=>none
abbrev lim:Nat:=1000000
def Dz (i:Int):Bool:=decide (-(2 ^ 64)<i/\i<2 ^ 64)
noncomputable def j4:T->T->Option T
 | .int i,.int j=>some (.int (i+j))
 | .str x,.str y=>if x.length+y.length<lim then some (.str (x++y)) else none
 | .tup x,.tup y=>if x.length+y.length<lim then some (.tup (x++y)) else none
 | .lst x,.lst y=>if x.length+y.length<lim then some (.lst (x++y)) else none
 | _,_=>none
def aec:T->T->Option T
 | .int i,.int j=>some (.int (i - j))
 | _,_=>none
noncomputable def Ie:T->T->Option T
 | .int i,.int j=>if Dz i||Dz j then some (.int (i * j)) else none
 | .str x,.int j=>if 0<=j/\j<=1000/\x.length<=100 then some (.str ⟨((List.replicate j.toNat x.cps.toList).flatten).toArray⟩) else none
 | _,_=>none
def Qh:T->T->Option T
 | .int i,.int j=>if 0<j then some (.int (i%j)) else none
 | _,_=>none
def fdl:Nat:=2 ^ 200
noncomputable def Al:T->T->Option T
 | .int i,.int j=>if 0<j/\(j<1073741824\/j.natAbs<fdl) then some (.int (i / j)) else none
 | _,_=>none
def Qf:T->Option T
 | .int i=>some (.int (-i))
 | _=>none
def ltT:T->T->Option T
 | .int i,.int j=>some (.bl (decide (i<j)))
 | _,_=>none
def leT:T->T->Option T
 | .int i,.int j=>some (.bl (decide (i<=j)))
 | _,_=>none
def gtT:T->T->Option T
 | .int i,.int j=>some (.bl (decide (j<i)))
 | _,_=>none
def geT:T->T->Option T
 | .int i,.int j=>some (.bl (decide (j<=i)))
 | _,_=>none
def eqO (x y:T):Option T:=match eqT x y with
 | some b=>some (.bl b)
 | none=>none
def neO (x y:T):Option T:=match eqT x y with
 | some b=>some (.bl (!b))
 | none=>none
noncomputable def ixI (n:Nat) (i:Int):Option Nat:=if 0<=i then (if i<n then some i.toNat else none) else if -(n:Int)<=i then some (i+n).toNat else none
noncomputable def iz:T->T->Option T
 | .tup xs,.int i=>(ixI xs.length i).bind (xs[·]?)
 | .lst xs,.int i=>(ixI xs.length i).bind (xs[·]?)
 | .str x,.int i=>if x.length<lim then (ixI x.cps.toList.length i).bind fun j=>(x.cps.toList[j]?).map fun c=>.str ⟨#[c]⟩ else none
 | .dic kvs,k=>(keyOf k).bind (Qd · kvs)
 | _,_=>none
noncomputable def xg:List T->Option T
 | [.tup xs]=>some (.int xs.length)
 | [.lst xs]=>some (.int xs.length)
 | [.str x]=>if x.length<lim then some (.int x.length) else none
 | [.dic kvs]=>some (.int kvs.length)
 | _=>none
noncomputable def inL (x:T):List T->Option Bool
 | []=>some false
 | y::r=>match eqD y x with
  | some e=>(inL x r).map (e || ·)
  | none=>none
noncomputable def inT (x y:T):Option T:=match y with
 | .dic kvs=>(keyOf x).map fun q=>.bl (Qd q kvs).isSome
 | _=>if (dat x).isSome then (match y with
  | .tup ys=>(inL x ys).map .bl
  | .lst ys=>(inL x ys).map .bl
  | _=>none) else none
def Hy (x y:T):Option T:=match inT x y with
 | some (.bl b)=>some (.bl (!b))
 | _=>none
def Eu:List T->Option T
 | [.lst xs]=>some (.tup xs)
 | [.tup xs]=>some (.tup xs)
 | _=>none
def Ox:List T->Option (List Int)
 | []=>some []
 | .int i::r=>(Ox r).map (i :: ·)
 | _=>none
def aaj:List T->Option T
 | [.lst xs]=>(Ox xs).map fun l=>.int l.sum
 | _=>none
def Gn:List T->Option (List Bool)
 | []=>some []
 | .bl b::r=>(Gn r).map (b :: ·)
 | _=>none
def a6c:List T->Option T
 | [.lst xs]=>(Gn xs).map fun l=>.bl (l.all id)
 | _=>none
def ach:List T->Option T
 | [.lst xs]=>(Gn xs).map fun l=>.bl (l.any id)
 | _=>none
def Eh:List T->Option (List Str)
 | []=>some []
 | .str x::r=>(Eh r).map (x :: ·)
 | _=>none
noncomputable def Mw (x:Str):List Str->List Str
 | []=>[x]
 | y::r=>if decide (x.cps.toList<y.cps.toList) then x::y::r else y::Mw x r
def Af (l:List Str):List Str:=l.foldl (fun acc x=>Mw x acc) []
noncomputable def M6:List T->Option T
 | [.lst xs]=>if xs.length<64 then (Eh xs).map fun l=>.lst ((Af l).map .str) else none
 | [.dic kvs]=>if kvs.length<64 then (Eh (kvs.map fun p=>Vw p.1)).map fun l=>.lst ((Af l).map .str) else none
 | _=>none
noncomputable def isTup:List T->Option T
 | [.tup _]=>some (.bl true)
 | [.obj _]=>none
 | [.adr _]=>none
 | [_]=>some (.bl false)
 | _=>none
noncomputable def isInt:List T->Option T
 | [.int _]=>some (.bl true)
 | [.bl _]=>some (.bl true)
 | [.obj _]=>none
 | [.adr _]=>none
 | [_]=>some (.bl false)
 | _=>none
noncomputable def aa1:List T->Option T
 | [.bl _]=>some (.bl true)
 | [.obj _]=>none
 | [.adr _]=>none
 | [_]=>some (.bl false)
 | _=>none
noncomputable def isStr:List T->Option T
 | [.str _]=>some (.bl true)
 | [.obj _]=>none
 | [.adr _]=>none
 | [_]=>some (.bl false)
 | _=>none
noncomputable def a7r:T->Option T
 | .lst xs=>some (.lst xs.reverse)
 | .tup xs=>some (.tup xs.reverse)
 | _=>none
def a97:List T->Option T
 | [.int i]=>some (.int (if i<0 then -i else i))
 | _=>none
noncomputable def Iz (i:Nat):M T:=fun s=>match s.env[i]? with
 | some (some (.lst xs,_))=>some (.int xs.length,s)
 | some (some (.dic xs,_))=>some (.int xs.length,s)
 | _=>none
def Qz (i:Nat) (s:Sta):Bool:=match s.env[i]? with
 | some (some (.dic _,_))=>true
 | _=>false
def Ac (i:Nat) (s:Sta):Bool:=match s.env[i]? with
 | some (some (.lst _,_))=>true
 | _=>false
noncomputable def G3 (i:Nat) (k d:M T):M T:=fun s=>if Qz i s then (match k s with
 | some (kt,s1)=>match d s1 with
  | some (dt,s2)=>match s2.env[i]? with
   | some (some (.dic kvs,_))=>match keyOf kt with
    | some q=>some ((Qd q kvs).getD dt,s2)
    | none=>none
   | _=>none
  | none=>none
 | none=>none) else none
inductive Flow where
 | next | ret (t:T) | brk | cont
abbrev S:=Sta->Option (Flow × Sta)
def xr:S:=fun s=>some (.next,s)
def nq (a b:S):S:=fun s=>match a s with
 | some (.next,s1)=>b s1
 | r=>r
def um (e:M T):S:=fun s=>match e s with
 | some (t,s1)=>some (.ret t,s1)
 | none=>none
noncomputable def sIf (c:M Bool) (a b:S):S:=fun s=>match c s with
 | some (true,s1)=>a s1
 | some (false,s1)=>b s1
 | none=>none
def iu (i:Nat) (t:T) (own:Bool) (s:Sta):Sta:={ s with env:=s.env.set i (some (t,own)) }
noncomputable def jm (i:Nat) (e:M T):S:=fun s=>match e s with
 | some (t,s1)=>some (.next,iu i t false s1)
 | none=>none
noncomputable def sNew (i:Nat) (e:M T):S:=fun s=>match e s with
 | some (t,s1)=>some (.next,iu i t true s1)
 | none=>none
noncomputable def ud (i:Nat) (e:M T):S:=fun s=>if Ac i s then (match e s with
 | some (t,s1)=>match s1.env[i]? with
  | some (some (.lst xs,true))=>if xs.length<lim then some (.next,iu i (.lst (xs++[t])) true s1) else none
  | _=>none
 | none=>none) else none
def a1m:T->Option (List T)
 | .lst xs=>some xs
 | .tup xs=>some xs
 | _=>none
noncomputable def Bp (i:Nat) (e:M T):S:=fun s=>if Ac i s then (match e s with
 | some (t,s1)=>match a1m t,s1.env[i]? with
  | some ys,some (some (.lst xs,true))=>if xs.length+ys.length<lim then some (.next,iu i (.lst (xs++ys)) true s1) else none
  | _,_=>none
 | none=>none) else none
noncomputable def Gb (i:Nat) (k v:M T):S:=fun s=>match v s with
 | some (t,s1)=>if Qz i s1 then (match k s1 with
  | some (kt,s2)=>match s2.env[i]?,keyOf kt with
   | some (some (.dic kvs,true)),some q=>if kvs.length<lim then some (.next,iu i (.dic (a5w q t kvs)) true s2) else none
   | _,_=>none
  | none=>none) else none
 | none=>none
abbrev G:=T->Sta->Option Sta
def hName (i:Nat):G:=fun t s=>some (iu i t false s)
noncomputable def Ub (is:List Nat):G:=fun t s=>match t with
 | .tup xs=>if xs.length=is.length then some ((is.zip xs).foldl (fun s p=>iu p.1 p.2 false s) s) else none
 | _=>none
noncomputable def sGo (g:G) (m:M T):S:=fun s=>match m s with
 | some (t,s1)=>match g t s1 with
  | some s2=>some (.next,s2)
  | none=>none
 | none=>none
noncomputable def forL (g:G) (b:S):List T->S
 | []=>fun s=>some (.next,s)
 | t::r=>fun s=>match g t s with
  | some s1=>match b s1 with
   | some (.next,s2)=>forL g b r s2
   | some (.cont,s2)=>forL g b r s2
   | some (.brk,s2)=>some (.next,s2)
   | some (.ret v,s2)=>some (.ret v,s2)
   | none=>none
  | none=>none
noncomputable def S7 (g:G) (it:M (List T)) (b:S):S:=fun s=>match it s with
 | some (ts,s1)=>forL g b ts s1
 | none=>none
def rangeT (n:Nat):List T:=(List.range n).map fun (k:Nat)=>.int (k:Int)
noncomputable def Bv (a:M T):M (List T):=fun s=>match a s with
 | some (.int n,s1)=>if n.natAbs<lim then some (rangeT n.toNat,s1) else none
 | _=>none
noncomputable def Dj (a:M T):M (List T):=fun s=>match a s with
 | some (.lst xs,s1)=>if xs.length<lim then some (xs,s1) else none
 | some (.tup xs,s1)=>if xs.length<lim then some (xs,s1) else none
 | _=>none
def Vc (s:Slot):Slot:=match s with
 | some (t,_)=>some (t,false)
 | none=>none
def jo (s:Sta):Sta:={ s with env:=s.env.map Vc }
noncomputable def Dp (g:G) (c:M Bool) (e:M T):List T->Sta->List T->Option (List T × Sta)
 | [],s,acc=>some (acc,s)
 | t::r,s,acc=>match g t s with
  | some s1=>match c s1 with
   | some (true,s2)=>match e s2 with
    | some (u,s3)=>if acc.length<lim then Dp g c e r (jo s3) (acc++[u]) else none
    | none=>none
   | some (false,s2)=>Dp g c e r (jo s2) acc
   | none=>none
  | none=>none
def Bx:M Bool:=fun s=>some (true,s)
noncomputable def lu (is:List Nat) (env:List Slot):List Slot:=is.foldl (fun e i=>match e[i]? with
 | some (some (t,_))=>e.set i (some (t,false))
 | _=>e) env
noncomputable def uw (nv:Nat) (ai:List Nat) (g:G) (it:M (List T)) (c:M Bool) (e:M T):M T:=fun s=>match it s with
 | some (ts,s1) =>
  let env:=lu ai s1.env
  match Dp g c e ts ⟨List.replicate nv none++ai.map (fun i=>(env[i]?).getD none),s1.sto⟩ [] with
  | some (us,s2)=>some (.lst us,⟨env,s2.sto⟩)
  | none=>none
 | none=>none
noncomputable def uc (n:Nat) (b:S):Fn:=fun ts sto=>match b ⟨ts.map (fun t=>some (t,false))++List.replicate (n - ts.length) none,sto⟩ with
 | some (.ret t,s)=>some (t,s.sto)
 | some (.next,s)=>some (.non,s.sto)
 | _=>none
section
variable {s s':Sta} {t v:T} {a b:M T}
theorem Gg {f:T->T->Option T} (h:mOp f a b s=some (v,s')):∃ t s1 u,a s=some (t,s1)/\b s1=some (u,s')/\f t u=some v:=by
 unfold mOp at h;cases ha:a s with
 | none=>rw [ha] at h; cases h
 | some p =>
  obtain ⟨t,s1⟩:=p; rw [ha] at h; dsimp only at h;cases hb:b s1 with
  | none=>rw [hb] at h; cases h
  | some p =>
   obtain ⟨u,s2⟩:=p; rw [hb] at h; dsimp only at h;cases hf:f t u with
   | none=>rw [hf] at h; cases h
   | some w=>rw [hf] at h; cases h; exact ⟨t,s1,u,rfl,hb,hf⟩
theorem Xr {f:T->Option T} (h:mUn f a s=some (v,s')):∃ t,a s=some (t,s')/\f t=some v:=by
 unfold mUn at h;cases ha:a s with
 | none=>rw [ha] at h; cases h
 | some p =>
  obtain ⟨t,s1⟩:=p; rw [ha] at h; dsimp only at h;cases hf:f t with
  | none=>rw [hf] at h; cases h
  | some w=>rw [hf] at h; cases h; exact ⟨t,rfl,hf⟩
theorem Bb {f:List T->Option T} {a:M (List T)} (h:dg f a s=some (v,s')):∃ ts,a s=some (ts,s')/\f ts=some v:=by
 unfold dg at h;cases ha:a s with
 | none=>rw [ha] at h; cases h
 | some p =>
  obtain ⟨t,s1⟩:=p; rw [ha] at h; dsimp only at h;cases hf:f t with
  | none=>rw [hf] at h; cases h
  | some w=>rw [hf] at h; cases h; exact ⟨t,rfl,hf⟩
theorem Cr {r:M (List T)} {ts:List T} (h:aj a r s=some (ts,s')):∃ t s1 us,a s=some (t,s1)/\r s1=some (us,s')/\ts=t::us:=by
 unfold aj at h;cases ha:a s with
 | none=>rw [ha] at h; cases h
 | some p =>
  obtain ⟨t,s1⟩:=p; rw [ha] at h; dsimp only at h;cases hb:r s1 with
  | none=>rw [hb] at h; cases h
  | some p=>obtain ⟨u,s2⟩:=p; rw [hb] at h; cases h; exact ⟨t,s1,u,rfl,hb,rfl⟩
theorem Zb {F:Fn} {a:M (List T)} (h:j8 F a s=some (v,s')):∃ ts s1 sto,a s=some (ts,s1)/\F ts s1.sto=some (v,sto)/\s' = { s1 with sto:=sto }:=by
 unfold j8 at h;cases ha:a s with
 | none=>rw [ha] at h; cases h
 | some p =>
  obtain ⟨t,s1⟩:=p; rw [ha] at h; dsimp only at h;cases hf:F t s1.sto with
  | none=>rw [hf] at h; cases h
  | some w=>obtain ⟨w,sto⟩:=w; rw [hf] at h; cases h; exact ⟨t,s1,sto,rfl,hf,rfl⟩
theorem wg {b:Bool} (h:d9 a s=some (b,s')):a s=some (.bl b,s'):=by
 unfold d9 at h;cases ha:a s with
 | none=>rw [ha] at h; cases h
 | some p =>
  obtain ⟨t,s1⟩:=p; rw [ha] at h;cases t <;> first | (cases h; rfl) | (cases h)
theorem Hz {c:M Bool} (h:Ak c s=some (v,s')):∃ b,c s=some (b,s')/\v=.bl b:=by
 unfold Ak at h;cases ha:c s with
 | none=>rw [ha] at h; cases h
 | some p=>obtain ⟨t,s1⟩:=p; rw [ha] at h; cases h; exact ⟨t,rfl,rfl⟩
theorem T6 {c:M Bool} {b:Bool} (h:Fx c s=some (b,s')):∃ k,c s=some (k,s')/\b=!k:=by
 unfold Fx at h;cases ha:c s with
 | none=>rw [ha] at h; cases h
 | some p=>obtain ⟨t,s1⟩:=p; rw [ha] at h; cases h; exact ⟨t,rfl,rfl⟩
theorem Uh {c d:M Bool} {b:Bool} (h:Ld c d s=some (b,s')):(∃ s1,c s=some (true,s1)/\d s1=some (b,s'))\/(c s=some (false,s')/\b=false):=by
 unfold Ld at h;cases ha:c s with
 | none=>rw [ha] at h; cases h
 | some p =>
  obtain ⟨k,s1⟩:=p; rw [ha] at h;cases k with
  | true=>exact .inl ⟨s1,rfl,h⟩
  | false=>cases h; exact .inr ⟨rfl,rfl⟩
theorem Xw {c d:M Bool} {b:Bool} (h:mOr c d s=some (b,s')):(∃ s1,c s=some (false,s1)/\d s1=some (b,s'))\/(c s=some (true,s')/\b=true):=by
 unfold mOr at h;cases ha:c s with
 | none=>rw [ha] at h; cases h
 | some p =>
  obtain ⟨k,s1⟩:=p; rw [ha] at h;cases k with
  | false=>exact .inl ⟨s1,rfl,h⟩
  | true=>cases h; exact .inr ⟨rfl,rfl⟩
theorem a70 {c:M Bool} (h:mIf c a b s=some (v,s')):(∃ s1,c s=some (true,s1)/\a s1=some (v,s'))\/(∃ s1,c s=some (false,s1)/\b s1=some (v,s')):=by
 unfold mIf at h;cases ha:c s with
 | none=>rw [ha] at h; cases h
 | some p =>
  obtain ⟨k,s1⟩:=p; rw [ha] at h;cases k with
  | true=>exact .inl ⟨s1,rfl,h⟩
  | false=>exact .inr ⟨s1,rfl,h⟩
theorem a0k {i:Nat} (h:bf i s=some (v,s')):(s.env[i]? = some (some (v,false))/\s'=s)\/(s.env[i]? = some (some (v,true))/\s' = { s with env:=s.env.set i (some (v,false)) }):=by
 unfold bf at h;split at h
 ·rename_i t e; cases h; exact .inl ⟨e,rfl⟩
 ·rename_i t e; cases h; exact .inr ⟨e,rfl⟩
 ·cases h
end
mutual
theorem Cv:∀ (t:T) {d:PyData},dat t=some d->d.canLay0=true
 | .non,_,h=>by simp only [dat] at h; cases h; simp only [PyData.canLay0]
 | .bl b,_,h=>by simp only [dat] at h; cases h; simp only [PyData.canLay0]
 | .int i,_,h=>by simp only [dat] at h; cases h; simp only [PyData.canLay0]
 | .str x,_,h=>by
  simp only [dat] at h;split at h
  ·rename_i hx; cases h; exact hx
  ·cases h
 | .tup xs,_,h=>by
  simp only [dat] at h;obtain ⟨l,e1,e2⟩:=Option.map_eq_some_iff.mp h;subst e2;simp only [PyData.canLay0];exact Lk xs e1
 | .lst xs,_,h=>by
  simp only [dat] at h;obtain ⟨l,e1,e2⟩:=Option.map_eq_some_iff.mp h;subst e2;simp only [PyData.canLay0];exact Lk xs e1
 | .dic _,_,h=>by simp only [dat] at h; cases h
 | .obj _,_,h=>by simp only [dat] at h; cases h
theorem Lk:∀ (ts:List T) {l:List PyData},Ms ts=some l->PyData.canLayAll0 l=true
 | [],_,h=>by simp only [Ms] at h; cases h; simp only [PyData.canLayAll0]
 | x::r,_,h=>by
  simp only [Ms] at h;split at h
  ·rename_i a ea;obtain ⟨l,e1,e2⟩:=Option.map_eq_some_iff.mp h;subst e2;simp only [PyData.canLayAll0];rw [Cv x ea,Lk r e1]; rfl
  ·cases h
end
theorem a03 {x:T} {r:List T} {l:List PyData} (h:Ms (x::r)=some l):∃ a l',dat x=some a/\Ms r=some l'/\l=a::l':=by
 simp only [Ms] at h;split at h
 ·rename_i a ea;obtain ⟨l,e1,e2⟩:=Option.map_eq_some_iff.mp h;exact ⟨a,l,ea,e1,e2.symm⟩
 ·cases h
theorem Qn {t u:T} {b:Bool} (h:eqD t u=some b):∃ x y,dat t=some x/\dat u=some y/\x.depth<=40/\b=PyData.eqv x y:=by
 unfold eqD at h;split at h
 ·rename_i x ex;split at h
  ·rename_i y ey;split at h
   ·rename_i hd; cases h; exact ⟨x,y,ex,ey,hd,rfl⟩
   ·cases h
  ·cases h
 ·cases h
theorem a6o {t u:T} {b:Bool} (h:eqT t u=some b):(∃ x y,t=.dic x/\u=.dic y/\((x.length=y.length/\a7p x y=some b)\/(x.length≠y.length/\b=false)))\/eqD t u=some b:=by
 unfold eqT at h;split at h
 ·split at h
  ·rename_i hl; exact .inl ⟨_,_,rfl,rfl,.inl ⟨hl,h⟩⟩
  ·rename_i hl; cases h; exact .inl ⟨_,_,rfl,rfl,.inr ⟨hl,rfl⟩⟩
 ·exact .inr h
end C
end
section
namespace L2
open PySem PySem.Spec PyProof.Rows
abbrev Key:=Sum Int Str
def Ru:Key->Value->Bool
 | .inl k,v=>Value.isInt k v
 | .inr x,v=>Value.isStrOf x v
def af5 (w:World):Key->Int
 | .inl k=>hashInt k
 | .inr x=>hashStr w x
theorem n8:∀ {k:Key} {v:Value},Ru k v=true->(∃ i t,k=Sum.inl i/\v=Value.int i t)\/(∃ x t,k=Sum.inr x/\v=Value.str x t)
 | .inl i,v,h=>by
  obtain ⟨t,e⟩:=Value.isInt_shape (k:=i) (v:=v) h;exact .inl ⟨i,t,rfl,e⟩
 | .inr x,v,h=>by
  obtain ⟨t,e⟩:=Value.isStrOf_shape (x:=x) (v:=v) h;exact .inr ⟨x,t,rfl,e⟩
theorem Wt (i:Int) (t:Tok):Ru (.inl i) (.int i t)=true:=by simp [Ru,Value.isInt]
theorem Z5 (x:Str) (t:Tok):Ru (.inr x) (.str x t)=true:=by simp [Ru,Value.isStrOf]
theorem aa6 (a b:Int):decide ((Sum.inl a:Key)=Sum.inl b)=(a==b):=by
 by_cases e:a=b
 ·subst e; simp
 ·have h:¬ (Sum.inl a:Key)=Sum.inl b:=fun q=>e (Sum.inl.inj q);rw [decide_eq_false h];exact (beq_eq_false_iff_ne.mpr e).symm
theorem aac (a b:Str):decide ((Sum.inr a:Key)=Sum.inr b)=decide (a=b):=by
 by_cases e:a=b
 ·subst e; simp
 ·have h:¬ (Sum.inr a:Key)=Sum.inr b:=fun q=>e (Sum.inr.inj q);rw [decide_eq_false h,decide_eq_false e]
theorem a8d (a:Int) (b:Str):decide ((Sum.inl a:Key)=Sum.inr b)=false:=decide_eq_false (fun q=>nomatch q)
theorem a8i (a:Str) (b:Int):decide ((Sum.inr a:Key)=Sum.inl b)=false:=decide_eq_false (fun q=>nomatch q)
noncomputable def qj (prog:Program) (w:World):PySem.KeyKind prog w Key where
 is:=Ru
 hash:=af5 w
 inj:=fun v a b ha hb=>by
  rcases n8 ha with ⟨i,t,rfl,rfl⟩ | ⟨x,t,rfl,rfl⟩
  ·rcases n8 hb with ⟨j,u,rfl,e⟩ | ⟨y,u,rfl,e⟩
   ·injection e with e1 _; rw [e1]
   ·exact nomatch e
  ·rcases n8 hb with ⟨j,u,rfl,e⟩ | ⟨y,u,rfl,e⟩
   ·exact nomatch e
   ·injection e with e1 _; rw [e1]
 byValue:=fun k v h=>by
  rcases n8 h with ⟨i,t,rfl,rfl⟩ | ⟨x,t,rfl,rfl⟩ <;> rfl
 pyHash:=fun hv h=>by
  rcases n8 hv with ⟨i,t,rfl,rfl⟩ | ⟨x,t,rfl,rfl⟩
  ·exact wpAny_pyHash_int h
  ·exact wpAny_pyHash_str h
 eqBool:=fun hu hv h=>by
  rcases n8 hu with ⟨i,t,rfl,rfl⟩ | ⟨x,t,rfl,rfl⟩
  ·rcases n8 hv with ⟨j,u,rfl,rfl⟩ | ⟨y,u,rfl,rfl⟩
   ·rw [aa6] at h; exact wpAny_eqBool_int h
   ·rw [a8d] at h; exact SeqAt.EqAt.int_str i t y u _ _ _ _ h
  ·rcases n8 hv with ⟨j,u,rfl,rfl⟩ | ⟨y,u,rfl,rfl⟩
   ·rw [a8i] at h; exact SeqAt.EqAt.str_int x t j u _ _ _ _ h
   ·rw [aac] at h; exact wpAny_eqBool_str h
 «strs»:=fun k x t v h=>by
  rcases n8 h with ⟨i,u,rfl,e⟩ | ⟨y,u,rfl,e⟩
  ·exact nomatch e
  ·injection e with e1 _;subst e1;cases v <;> rfl
theorem V4 (prog:Program) (w:World) (k:Key) (v:Value):(qj prog w).is k v=Ru k v:=rfl
theorem Qk (prog:Program) (w:World) (i:Int) (t:Tok):(qj prog w).is (.inl i) (.int i t)=true:=Wt i t
theorem Qx (prog:Program) (w:World) (x:Str) (t:Tok):(qj prog w).is (.inr x) (.str x t)=true:=Z5 x t
end L2
namespace L2
open PySem PySem.Spec PyProof.Rows
inductive V where
 | non | bl (b:Bool) | int (i:Int) | str (x:Str) | byt (b:Array UInt8) | flt (b:UInt64) | ref (a:Addr) | ty (n:String)
 deriving DecidableEq
def RelV:V->Value->Prop
 | .non,u=>u=Value.none
 | .bl b,u=>u=Value.bool b
 | .int i,u=>∃ t,u=Value.int i t
 | .str x,u=>∃ t,u=Value.str x t
 | .byt b,u=>∃ t,u=Value.bytes b t
 | .flt b,u=>∃ t,u=Value.float b t
 | .ref a,u=>u=Value.ref a
 | .ty n,u=>u=Value.type n
abbrev Vals:List V->List Value->Prop:=Paired RelV
theorem Vals.length {xs:List V} {us:List Value} (r:Vals xs us):xs.length=us.length:=Paired.length r
theorem Vals.get:∀ {xs:List V} {us:List Value} {i:Nat} {x:V},Vals xs us->xs[i]? = some x->∃ u,us[i]? = some u/\RelV x u
 | _,_,_,_,.nil,e=>by simp at e
 | _,_,0,_,.cons r _,e=>by simp at e; subst e; exact ⟨_,rfl,r⟩
 | _,_,i+1,x,.cons _ t,e=>by
  obtain ⟨u,h1,h2⟩:=Vals.get (i:=i) (x:=x) t (by simpa using e);exact ⟨u,by simpa using h1,h2⟩
theorem Vals.set {x:V} {u:Value} (r:RelV x u):∀ {xs:List V} {us:List Value} (i:Nat),Vals xs us->Vals (xs.set i x) (us.set i u)
 | _,_,_,.nil=>.nil
 | _,_,0,.cons _ t=>.cons r t
 | _,_,i+1,.cons q t=>.cons q (Vals.set r i t)
theorem Vals.append {xs ys:List V} {us ws:List Value} (r:Vals xs us) (s:Vals ys ws):Vals (xs++ys) (us++ws):=by
 induction r with
 | nil=>exact s
 | cons r _ ih=>exact .cons r ih
theorem Vals.take:∀ {xs:List V} {us:List Value} (n:Nat),Vals xs us->Vals (xs.take n) (us.take n)
 | _,_,0,_=>.nil
 | _,_,_+1,.nil=>.nil
 | _,_,n+1,.cons r t=>.cons r (Vals.take n t)
theorem Vals.drop:∀ {xs:List V} {us:List Value} (n:Nat),Vals xs us->Vals (xs.drop n) (us.drop n)
 | _,_,0,r=>r
 | _,_,_+1,.nil=>.nil
 | _,_,n+1,.cons _ t=>Vals.drop n t
def Le:Option V->Option Value->Prop
 | some v,some u=>RelV v u
 | none,none=>True
 | _,_=>False
def KV {κ:Type}:List (κ × V)->List (κ × Value)->Prop:=Paired fun (p:κ × V) (q:κ × Value)=>p.1=q.1/\RelV p.2 q.2
def kV:Key->V
 | .inl i=>.int i
 | .inr x=>.str x
inductive HO where
 | lst (xs:List V)
 | tup (xs:List V)
 | dK (kvs:List (Key × V)) | dT (kvs:List (List Key × V))
 | set (S:Int->Bool) (n:Nat)
 | ins (C dx:Addr) (fs:List (Str × V))
 | own (x:Addr)
 | xd (fs:List (Str × V))
 | met (f x:Addr)
 | rng (lo hi:Int)
 | frz (o:Obj) (u:HO)
 | tbl (ps:Array Value)
 | ext (φ:Heap->Prop)
abbrev Hp:=Addr->Option HO
def upd (H:Hp) (a:Addr) (o:HO):Hp:=fun b=>if b=a then some o else H b
theorem dz {H:Hp} {a:Addr} {o:HO}:upd H a o a=some o:=by unfold upd; rw [if_pos rfl]
theorem gb {H:Hp} {a b:Addr} {o:HO} (h:b≠a):upd H a o b=H b:=by unfold upd; rw [if_neg h]
theorem aax {H:Hp} {a b:Addr} {o u:HO} (h:H a=some o) (h':H b=some u) (d:o≠u):a≠b:=by
 intro e; subst e; rw [h] at h'; exact d (Option.some.inj h')
theorem uo {H:Hp} {a b:Addr} {o:HO} (h:H a=some o) (h':H b=none):a≠b:=by
 intro e; subst e; rw [h] at h'; cases h'
def a0d (h:Heap) (a:Addr) (items:Array Value):Prop:=∃ o,h.get? a=some o/\o.cls=.type "tuple" /\ o.dict=none/\∃ n,o.data=.seq items n
theorem a0d.is {h:Heap} {a:Addr} {items:Array Value} (x:a0d h a items):IsTup h a items:=let ⟨o,e,c,_,d⟩:=x; ⟨o,e,c,d⟩
theorem a0d.new (h:Heap) (items:Array Value):a0d (h.push { cls:=.type "tuple",data:=.seq items }) h.objs.size items:=⟨_,Heap.get?_push_size _ rfl,rfl,rfl,0,rfl⟩
section
variable (P:Program) (w:World)
def ur (H:Hp) (h:Heap) (a:Addr):HO->Prop
 | .lst xs=>xs.length<=sizeLine/\∃ (ae:List Value) (n:Nat),Vals xs ae/\h.get? a=some { cls:=.type "list",data:=.seq ae.toArray n }
 | .tup xs=>xs.length<=sizeLine/\∃ ae:List Value,Vals xs ae/\a0d h a ae.toArray
 | .dK kvs=>kvs.length<=sizeLine/\(a==sysModules)=false/\∃ vs,KV kvs vs/\h.DictOf (qj P w) a vs
 | .dT kvs=>kvs.length<=sizeLine/\(a==sysModules)=false/\∃ xs:List (List Key × Addr × Value),
   Paired (fun (p:List Key × V) (q:List Key × Addr × Value)=>p.1=q.1/\H q.2.1=some (.tup (p.1.map kV))/\RelV p.2 q.2.2) kvs xs /\
   ∃ o es ep,h.get? a=some o/\o.ExactDict/\o.data=.dict es ep/\es.toList=xs.map (entryOfKey (tupleKind (qj P w)))/\(xs.map (·.1)).Nodup
 | .set S n=>h.SetOf (intKind P w) a S n
 | .ins C dx fs=>H dx=some (.own a)/\fs.length<=1000/\dx≠a/\h.get? a=some (PySem.W.instObj C dx) /\
   ∃ mA,h.Ns1 dx mA/\(∀ f,Le (fs.lookup f) (mA f))/\PySem.Within mA (fs.map (·.1))
 | .own _=>∃ o,h.get? a=some o
 | .xd fs=>∃ mA,h.Ns1 a mA/\∀ f,Le (fs.lookup f) (mA f)
 | .rng lo hi=>∃ t u v,h.get? a=some { cls:=.type "range",data:=.fields #[.int lo t,.int hi u,.int 1 v] }
 | .frz o u=>h.get? a=some o/\ur H h a u
 | .tbl ps=>h.get? a=some { cls:=.none,data:=.fields ps }
 | .met f x=>h.get? a=some (PySem.W.methodObj (.ref f) (.ref x))
 | .ext φ=>φ h/\(∃ o,h.get? a=some o)/\∀ h1 h2:Heap,φ h1->(∀ o,h1.get? a=some o->h2.get? a=some o)->φ h2
def HOk (H:Hp) (h:Heap):Prop:=∀ a o,H a=some o->ur P w H h a o
end
section
variable {P:Program} {w:World} {H H':Hp} {h h':Heap} {a:Addr} {o:HO}
theorem ur.lt (x:ur P w H h a o):a<h.objs.size:=by
 cases o with
 | lst xs=>obtain ⟨_,_,_,_,e⟩:=x; exact Heap.lt_size e
 | tup xs=>obtain ⟨_,_,_,p⟩:=x; exact p.is.lt
 | dK kvs=>obtain ⟨_,_,_,_,o,_,_,e,_⟩:=x; exact Heap.lt_size e
 | dT kvs=>obtain ⟨_,_,_,_,o,_,_,e,_⟩:=x; exact Heap.lt_size e
 | set S n=>obtain ⟨o,_,_,_,e,_⟩:=x; exact Heap.lt_size e
 | ins C dx fs=>obtain ⟨_,_,_,e,_⟩:=x; exact Heap.lt_size e
 | own y=>obtain ⟨_,e⟩:=x; exact Heap.lt_size e
 | xd fs=>obtain ⟨_,⟨_,_,_,e,_⟩,_⟩:=x; exact Heap.lt_size e
 | rng lo hi=>obtain ⟨_,_,_,e⟩:=x; exact Heap.lt_size e
 | frz ob u=>obtain ⟨e,_⟩:=x; exact Heap.lt_size e
 | tbl ps=>exact Heap.lt_size (show h.get? a=some _ from x)
 | met f y=>exact Heap.lt_size (show h.get? a=some _ from x)
 | ext φ=>obtain ⟨_,⟨_,e⟩,_⟩:=x; exact Heap.lt_size e
theorem Paired.ad1 {α β:Type} {F G:α->β->Prop} {cZ:List α} {cP:List β} (r:Paired F cZ cP) (f:∀ a b,F a b->G a b):Paired G cZ cP:=by
 induction r with
 | nil=>exact .nil
 | cons r _ ih=>exact .cons (f _ _ r) ih
theorem ur.stay (x:ur P w H h a o) (k:∀ b u,(b=a\/H b=some (.own a))->h.get? b=some u->h'.get? b=some u)
  (ho:∀ b,H b=some (.own a)->H' b=some (.own a)) (ht:∀ b xs,H b=some (.tup xs)->H' b=some (.tup xs)):ur P w H' h' a o:=by
 induction o with
 | lst xs=>obtain ⟨z,ae,n,r,e⟩:=x; exact ⟨z,ae,n,r,k _ _ (.inl rfl) e⟩
 | tup xs=>obtain ⟨z,ae,r,ob,e,c⟩:=x; exact ⟨z,ae,r,ob,k _ _ (.inl rfl) e,c⟩
 | dK kvs=>obtain ⟨z,y,vs,r,ob,es,ep,e,c⟩:=x; exact ⟨z,y,vs,r,ob,es,ep,k _ _ (.inl rfl) e,c⟩
 | dT kvs =>
  obtain ⟨z,y,xs,r,ob,es,ep,e,c⟩:=x;exact ⟨z,y,xs,Paired.ad1 r fun p q z=>⟨z.1,ht _ _ z.2.1,z.2.2⟩,ob,es,ep,k _ _ (.inl rfl) e,c⟩
 | set S n=>obtain ⟨ob,es,ep,t,e,c⟩:=x; exact ⟨ob,es,ep,t,k _ _ (.inl rfl) e,c⟩
 | ins C dx fs =>
  obtain ⟨d,z,ne,e,mA,⟨od,es,ep,e2,c⟩,r⟩:=x;exact ⟨ho _ d,z,ne,k _ _ (.inl rfl) e,mA,⟨od,es,ep,k _ _ (.inr d) e2,c⟩,r⟩
 | own y=>obtain ⟨ob,e⟩:=x; exact ⟨ob,k _ _ (.inl rfl) e⟩
 | xd fs=>obtain ⟨mA,⟨od,es,ep,e,c⟩,r⟩:=x; exact ⟨mA,⟨od,es,ep,k _ _ (.inl rfl) e,c⟩,r⟩
 | rng lo hi=>obtain ⟨t,u,v,e⟩:=x; exact ⟨t,u,v,k _ _ (.inl rfl) e⟩
 | frz ob u ih=>obtain ⟨e,q⟩:=x; exact ⟨k _ _ (.inl rfl) e,ih q⟩
 | tbl ps =>
  have e:h.get? a=some { cls:=.none,data:=.fields ps }:=x;show h'.get? a=some { cls:=.none,data:=.fields ps };exact k a _ (.inl rfl) e
 | met f y =>
  have e:h.get? a=some (PySem.W.methodObj (.ref f) (.ref y)):=x;show h'.get? a=some (PySem.W.methodObj (.ref f) (.ref y));exact k a _ (.inl rfl) e
 | ext φ=>obtain ⟨p,⟨o,e⟩,st⟩:=x; exact ⟨st _ _ p fun o q=>k _ _ (.inl rfl) q,⟨o,k _ _ (.inl rfl) e⟩,st⟩
theorem HOk.lt (x:HOk P w H h) (e:H a=some o):a<h.objs.size:=(x a o e).lt
theorem HOk.fresh (x:HOk P w H h) (e:h.objs.size<=a):H a=none:=by
 cases q:H a with
 | none=>rfl
 | some u=>exact absurd (Nat.lt_of_lt_of_le (x.lt q) e) (Nat.lt_irrefl _)
theorem HOk.kept (x:HOk P w H h) (k:∀ b u,h.get? b=some u->h'.get? b=some u):HOk P w H h':=fun a o e =>
 (x a o e).stay (fun b u _ q=>k b u q) (fun _ q=>q) fun _ _ q=>q
theorem HOk.laid (x:HOk P w H h) (k:∀ b u,h.get? b=some u->h'.get? b=some u) (hp:h.objs.size<=a) (new:ur P w (upd H a o) h' a o):HOk P w (upd H a o) h':=fun b u e=>by
 have hn:=x.fresh hp
 by_cases hb:b=a
 ·subst hb; rw [dz] at e; cases e; exact new
 ·rw [gb hb] at e;exact (x b u e).stay (fun c v _ q=>k c v q) (fun c q=>by rw [gb (uo q hn)]; exact q) fun c xs q=>by rw [gb (uo q hn)]; exact q
end
def Rd (H:Hp) (a:Addr) (u:HO):Prop:=H a=some u\/∃ o,H a=some (.frz o u)
theorem Rd.ok {P:Program} {w:World} {H:Hp} {h:Heap} {a:Addr} {u:HO} (r:Rd H a u) (x:HOk P w H h):ur P w H h a u:=by
 rcases r with r | ⟨o,r⟩
 ·exact x a u r
 ·obtain ⟨_,q⟩:=x a _ r;exact q
def Mut:Option HO->Prop
 | some (.lst _)=>True
 | some (.dK _)=>True
 | some (.dT _)=>True
 | some (.set _ _)=>True
 | some (.ins _ _ _)=>True
 | some (.ext _)=>True
 | _=>False
section
variable {P:Program} {w:World} {H:Hp} {h h':Heap} {x e:Addr} {o':HO}
theorem HOk.write (ok:HOk P w H h) (mu:Mut (H x)) (he:e=x\/H e=some (.own x)) (k:∀ b u,b≠e->h.get? b=some u->h'.get? b=some u) (cJ:∃ u,h'.get? e=some u)
  (new:ur P w (upd H x o') h' x o'):HOk P w (upd H x o') h':=fun b u q=>by
 have da:∀ c y,H c=some (.own y)->c≠x:=fun c y r z=>by subst z; rw [r] at mu; exact mu
 have et:∀ c xs,H c=some (.tup xs)->c≠x:=fun c xs r z=>by subst z; rw [r] at mu; exact mu
 by_cases hb:b=x
 ·subst hb; rw [dz] at q; cases q; exact new
 ·rw [gb hb] at q
  by_cases hbe:b=e
  ·have q':H b=some (.own x):=by
    rcases he with z | z
    ·exact absurd (hbe.trans z) hb
    ·rw [hbe]; exact z
   rw [q] at q'; cases q';obtain ⟨v,hv⟩:=cJ;exact ⟨v,by rw [hbe]; exact hv⟩
  ·refine (ok b u q).stay (fun c v hc r=>k c v ?_ r) (fun c r=>by rw [gb (da c b r)]; exact r) fun c xs r=>by rw [gb (et c xs r)]; exact r
   rcases hc with rfl | hc
   ·exact hbe
   ·rintro rfl;rcases he with z | z
    ·exact da c b hc z
    ·rw [hc] at z; cases z; exact hb rfl
end
structure Un (fs ex:List Addr) (H H':Hp) (h h':Heap):Prop where
 keep:∀ b o,h.get? b=some o->H b=none->b∉fs->b∉ex->h'.get? b=some o
 slot:∀ b o,h.get? b=some o->H b=none->b∈fs->b∉ex->∃ sl,h'.get? b=some { o with slots:=sl }
 free:∀ b o,h.get? b=some o->H b=none->b∉ex->H' b=none
 there:∀ b o,h.get? b=some o->b∉ex->∃ o',h'.get? b=some o'
 tups:∀ b xs,H b=some (.tup xs)->H' b=some (.tup xs)
 frzs:∀ b o u,H b=some (.frz o u)->H' b=some (.frz o u)
 tbls:∀ b ps,H b=some (.tbl ps)->∃ more,H' b=some (.tbl (ps++more))
section
variable {fs c8 ex gW:List Addr} {H H1 H2:Hp} {h h1 h2 h':Heap} {a x e:Addr} {o:HO}
theorem Un.any (u:Un fs ex H H1 h h1) {b:Addr} {ob:Obj} (q:h.get? b=some ob) (n:H b=none) (hx:b∉ex):∃ sl,h1.get? b=some { ob with slots:=sl }:=by
 by_cases hb:b∈fs
 ·exact u.slot b ob q n hb hx
 ·exact ⟨ob.slots,u.keep b ob q n hb hx⟩
theorem Un.kept (k:∀ b u,h.get? b=some u->h'.get? b=some u):Un fs ex H H h h' :=
 ⟨fun b ob q _ _ _=>k b ob q,fun b ob q _ _ _=>⟨ob.slots,k b ob q⟩,fun _ _ _ n _=>n,fun b ob q _=>⟨ob,k b ob q⟩,fun _ _ q=>q,fun _ _ _ q=>q,fun _ ps q=>⟨#[],by rw [q]; simp⟩⟩
theorem Un.refl:Un fs ex H H h h:=Un.kept fun _ _ q=>q
theorem Un.laid (k:∀ b u,h.get? b=some u->h'.get? b=some u) (hp:h.objs.size<=a) (hn:H a=none):Un fs ex H (upd H a o) h h' where
 keep:=fun b u q _ _ _=>k b u q
 slot:=fun b u q _ _ _=>⟨u.slots,k b u q⟩
 free:=fun b u q n _=>by rw [gb (Nat.ne_of_lt (Nat.lt_of_lt_of_le (Heap.lt_size q) hp))]; exact n
 there:=fun b u q _=>⟨u,k b u q⟩
 tups:=fun b xs q=>by rw [gb (uo q hn)]; exact q
 frzs:=fun b u xs q=>by rw [gb (uo q hn)]; exact q
 tbls:=fun b ps q=>⟨#[],by rw [gb (uo q hn),q]; simp⟩
theorem Un.write (mu:Mut (H x)) (he:e=x\/H e=some (.own x)) (k:∀ b u,b≠e->h.get? b=some u->h'.get? b=some u) (cJ:∃ u,h'.get? e=some u):Un fs ex H (upd H x o) h h':=by
 have hx:∀ b,H b=none->b≠x:=fun b n z=>by subst z; rw [n] at mu; exact mu
 have hb:∀ b,H b=none->b≠e:=fun b n z=>by
  subst z;rcases he with r | r
  ·exact hx b n r
  ·rw [n] at r; cases r
 have hm:∀ b u,H b=some u->¬ Mut (some u)->b≠x:=fun b u q nm z=>by subst z; rw [q] at mu; exact nm mu
 refine ⟨fun b u q n _ _=>k b u (hb b n) q,fun b u q n _ _=>⟨u.slots,k b u (hb b n) q⟩,fun b u q n _=>by rw [gb (hx b n)]; exact n,fun b u q _=>?_,
  fun b xs q=>by rw [gb (hm b _ q fun z=>z)]; exact q,fun b u xs q=>by rw [gb (hm b _ q fun z=>z)]; exact q,fun b ps q=>⟨#[],by rw [gb (hm b _ q fun z=>z),q]; simp⟩⟩
 by_cases hbe:b=e
 ·subst hbe; exact cJ
 ·exact ⟨u,k b u hbe q⟩
end
def trk (h:Heap) (H:Hp):List Addr:=(List.range h.objs.size).filter fun a=>(H a).isSome
def a1t (h:Heap) (H:Hp):Heap:=PySem.W.hideAll h (trk h H)
theorem Wg (h:Heap) (H:Hp):(a1t h H).objs.size=h.objs.size:=PySem.W.hideAll_size _ _
theorem a1s {h:Heap} {H:Hp} {b:Addr} {o:Obj} (e:h.get? b=some o) (n:H b=none):(a1t h H).get? b=some o :=
 PySem.W.hideAll_get _ e fun hm=>by
  have q:(H b).isSome=true:=(List.mem_filter.mp hm).2;rw [n] at q; simp at q
theorem a7f {h:Heap} {H:Hp} {b:Addr} {o:Obj} (e:(a1t h H).get? b=some o):h.get? b=some o/\H b=none:=by
 have e':h.get? b=some o:=PySem.W.of_hideAll (trk h H) e;refine ⟨e',?_⟩;cases q:H b with
 | none=>rfl
 | some x =>
  have hm:b∈trk h H:=List.mem_filter.mpr ⟨List.mem_range.mpr (Heap.lt_size e'),by simp [q]⟩;have z:(a1t h H).get? b=none:=PySem.W.hideAll_none (trk h H) hm;rw [z] at e; cases e
end L2
namespace L2
open PySem PySem.Spec PyProof.Rows
structure Mod (K:PySem.W.Frag) (mg:Str->Option Value) (base:Heap):Prop where
 kin:K.In base
 glob:base.Ns mainGlobals mg
 blt:∃ mb,base.Ns builtinsNs mb/\∀ x:Str,x ≠ "__name__" -> mb x=bootBuiltins x
 nolimit:base.NoLimit
structure Cx where
 prog:Program
 w:World
 K:PySem.W.Frag
 mg:Str->Option Value
 base:Heap
 A:Around
 N:List Str
 s₀:Shared
 H₀:Hp
 env:Env
 outer:List Env
 stack:List Env
 ex:List Addr
 fn:Str->Bool
 calm:Bool
 pn:List (Addr × Obj)
 xe:Value->Shared->Prop
def frs (l:List Env):List Addr:=l.filterMap (·.frame)
abbrev Cx.fs (X:Cx):List Addr:=frs X.outer
def Vis (sc:Scope) (x:Str):Prop:=sc.names.lookup x=some .local\/sc.names.lookup x=some .cell\/sc.names.lookup x=some .free
def Loc (sc:Scope) (x:Str):Prop:=sc.names.lookup x=some .local\/sc.names.lookup x=some .cell
def Look (env:Env) (h:Heap) (m:Str->Option Value) (x:Str) (u:Value):Prop :=
 (env.kindOf x=some .local/\m x=some u)\/((env.kindOf x=some .cell\/env.kindOf x=some .free)/\∃ c,env.cells.lookup x=some c/\h.IsCell c (some u))
structure Cx.Ok (X:Cx):Prop where
 mod:Mod X.K X.mg X.base
 kind:X.env.scope.kind=.function
 glob:X.env.globals=mainGlobals
 blt:X.env.builtins=builtinsNs
 above:X.s₀.heap.objs.size<=X.env.locals
 inj:∀ x y c,X.env.cells.lookup x=some c->X.env.cells.lookup y=some c->x=y
 has:∀ x,(X.env.kindOf x=some .cell\/X.env.kindOf x=some .free)->∃ c,X.env.cells.lookup x=some c
 cab:∀ x c,X.fn x=true->X.env.cells.lookup x=some c->X.s₀.heap.objs.size<=c
 hd:X.calm=true->X.A.handled=none
 frames:X.A.frames=some X.stack
 stk:X.stack=X.outer\/(X.stack=X.env::X.outer/\X.env.frame=some X.env.locals)
 exf:∀ b∈X.ex,b≠X.env.locals/\∀ x c,X.env.cells.lookup x=some c->c≠b
 bs:∀ b o,X.base.get? b=some o->X.s₀.heap.get? b=some o/\X.H₀ b=none
 bsz:X.base.objs.size<=X.s₀.heap.objs.size
 noex:∀ b o,X.base.get? b=some o->b∉X.ex
 exfs:∀ b∈X.ex,b∉X.fs
 T4:X.s₀.heap.FunFrames X.base X.outer
 frf:∀ b∈X.fs,X.H₀ b=none
structure Inv (X:Cx) (pins:List (Addr × Obj)) (σ:List (Option V)) (H:Hp) (s:Shared):Prop where
 ok:X.Ok
 os:s.os=X.s₀.os
 bare:AllBare s.gens
 base:Un X.fs X.ex X.H₀ H X.s₀.heap s.heap
 loc:∃ m,s.heap.Ns X.env.locals m/\∀ (i:Nat) (x:Str) (v:V),X.N[i]? = some x->σ[i]? = some (some v)->Vis X.env.scope x->∃ u,RelV v u/\Look X.env s.heap m x u
 cell:∀ x c,X.env.cells.lookup x=some c->∃ v,s.heap.IsCell c v
 free:H X.env.locals=none
 freeC:∀ x c,X.env.cells.lookup x=some c->H c=none
 pin:∀ p∈X.pn++pins,s.heap.get? p.1=some p.2/\H p.1=none/\p.1≠X.env.locals/\p.1∉X.fs/\∀ v,p.2.data≠.cell v
 hok:HOk X.prog X.w H s.heap
 len:σ.length=X.N.length
section
variable {X:Cx} {pins:List (Addr × Obj)} {σ:List (Option V)} {H H':Hp} {s:Shared} {h':Heap}
theorem Cx.Ok.aeo (ok:X.Ok) {b:Addr} {o:Obj} (e:X.base.get? b=some o):b∉X.fs:=fun hb=>by
 have:=(ok.T4.mem hb).1;rw [e] at this; cases this
theorem Inv.bs (I:Inv X pins σ H s):∀ b o,X.base.get? b=some o->s.heap.get? b=some o/\H b=none:=fun b o e =>
 ⟨I.base.keep b o (I.ok.bs b o e).1 (I.ok.bs b o e).2 (I.ok.aeo e) (I.ok.noex b o e),I.base.free b o (I.ok.bs b o e).1 (I.ok.bs b o e).2 (I.ok.noex b o e)⟩
theorem Inv.bk (I:Inv X pins σ H s):∀ b o,X.base.get? b=some o->s.heap.get? b=some o:=fun b o e=>(I.bs b o e).1
theorem Inv.mod (I:Inv X pins σ H s):Mod X.K X.mg X.base:=I.ok.mod
theorem Inv.kIn (I:Inv X pins σ H s):X.K.In s.heap:=I.ok.mod.kin.keeps I.bk
theorem Inv.lt (I:Inv X pins σ H s):X.env.locals<s.heap.objs.size:=let ⟨_,hn,_⟩:=I.loc; hn.lt
theorem Inv.sz (I:Inv X pins σ H s):X.s₀.heap.objs.size<=s.heap.objs.size:=Nat.le_trans I.ok.above (Nat.le_of_lt I.lt)
theorem Inv.aex (I:Inv X pins σ H s) {a:Addr} (h:s.heap.objs.size<=a):a∉X.fs:=fun hb=>by
 obtain ⟨_,o,ho,_⟩:=I.ok.T4.mem hb;exact absurd (Nat.lt_of_lt_of_le (Heap.lt_size ho) (Nat.le_trans I.sz h)) (Nat.lt_irrefl _)
theorem Inv.cne (I:Inv X pins σ H s):∀ x c,X.env.cells.lookup x=some c->c≠X.env.locals:=fun x c e z=>by
 obtain ⟨v,o,ho,hd⟩:=I.cell x c e;obtain ⟨m,⟨o',es,ep,aT,hd',_⟩,_⟩:=I.loc;rw [z,aT] at ho; cases ho; rw [hd'] at hd; cases hd
theorem Inv.T4 (I:Inv X pins σ H s):s.heap.FunFrames X.base X.outer:=by
 have all:∀ (l:List Env),(∀ b∈frs l,b∈X.fs)->X.s₀.heap.FunFrames X.base l->s.heap.FunFrames X.base l:=by
  intro l
  induction l with
  | nil=>intro _ _; trivial
  | cons env r ih =>
   intro hs hl;obtain ⟨hk,⟨L,o,hf,hn,ho,hd⟩,hr⟩:=hl;have hL:L∈X.fs:=hs L (by unfold frs; rw [List.filterMap_cons,hf]; exact List.mem_cons_self);obtain ⟨sl,e⟩:=I.base.slot L o ho (I.ok.frf L hL) hL fun z=>I.ok.exfs L z hL;exact ⟨hk,⟨L,_,hf,hn,e,hd⟩,ih (fun b hb=>hs b (by unfold frs; rw [List.filterMap_cons,hf]; exact List.mem_cons_of_mem _ hb)) hr⟩
 exact all X.outer (fun _ hb=>hb) I.ok.T4
theorem Inv.stack (I:Inv X pins σ H s):s.heap.FunFrames X.base X.stack:=by
 rcases I.ok.stk with e | ⟨e,hf⟩
 ·rw [e]; exact I.T4
 ·rw [e];obtain ⟨m,hn,_⟩:=I.loc;refine .cons (by rw [I.ok.kind]; decide) hf hn ?_ I.T4;exact Heap.get?_none_of_le (Nat.le_trans I.ok.bsz I.ok.above)
theorem Inv.Pz (I:Inv X pins σ H s):∀ b∈frs X.stack,b∈X.env.locals::X.fs:=fun b hb=>by
 rcases I.ok.stk with e | ⟨e,hf⟩
 ·rw [e] at hb; exact List.mem_cons_of_mem _ hb
 ·rw [e] at hb;unfold frs at hb;rw [List.filterMap_cons,hf] at hb;exact hb
theorem Inv.Qj (I:Inv X pins σ H s):∀ b∈frs X.stack,H b=none:=fun b hb=>by
 rcases List.mem_cons.mp (I.Pz b hb) with e | hb
 ·rw [e]; exact I.free
 ·obtain ⟨_,o,ho,_⟩:=I.ok.T4.mem hb;exact I.base.free b o ho (I.ok.frf b hb) fun z=>I.ok.exfs b z hb
theorem Inv.step {g':Array GenState} {t':Nat} {d':Drawn} {ch:List Addr} (I:Inv X pins σ H s)
  (bJ:∀ b∈ch,(b∈X.ex\/X.s₀.heap.objs.size<=b)/\b≠X.env.locals/\(∀ x c,X.env.cells.lookup x=some c->c≠b)/\∀ p∈X.pn++pins,p.1≠b)
  (keep:∀ b o,b≠X.env.locals->b∉X.fs->b∉ch->s.heap.get? b=some o->H b=none->h'.get? b=some o)
  (slot:∀ b o,b≠X.env.locals->b∈X.fs->b∉ch->s.heap.get? b=some o->H b=none->∃ sl,h'.get? b=some { o with slots:=sl }) (free:∀ b o,b∉ch->s.heap.get? b=some o->H b=none->H' b=none)
  (there:∀ b o,b∉ch->s.heap.get? b=some o->∃ o',h'.get? b=some o')
  (tups:∀ b xs,H b=some (.tup xs)->H' b=some (.tup xs)) (frzs:∀ b o u,H b=some (.frz o u)->H' b=some (.frz o u)) (tbls:∀ b ps,H b=some (.tbl ps)->∃ more,H' b=some (.tbl (ps++more)))
  (ns:∀ m,s.heap.Ns X.env.locals m->h'.Ns X.env.locals m) (hok:HOk X.prog X.w H' h') (hg:AllBare g') :
  Inv X pins σ H' { s with heap:=h',gens:=g',drawn:=d',toks:=t' }:=by
 have fc:∀ b o,X.s₀.heap.get? b=some o->b≠X.env.locals:=fun b o e=>Nat.ne_of_lt (Nat.lt_of_lt_of_le (Heap.lt_size e) I.ok.above)
 have dE:∀ b o,X.s₀.heap.get? b=some o->b∉X.ex->b∉ch:=fun b o e hx hb=>by
  rcases (bJ b hb).1 with z | z
  ·exact hx z
  ·exact absurd (Nat.lt_of_lt_of_le (Heap.lt_size e) z) (Nat.lt_irrefl _)
 have cellK:∀ x c,X.env.cells.lookup x=some c->∀ v,s.heap.IsCell c v->h'.IsCell c v:=fun x c e v z9=>by
  obtain ⟨o,ho,hd⟩:=z9;have dk:c∉ch:=fun z=>(bJ c z).2.2.1 x c e rfl
  by_cases hc:c∈X.fs
  ·obtain ⟨sl,q⟩:=slot c o (I.cne x c e) hc dk ho (I.freeC x c e);exact ⟨_,q,hd⟩
  ·exact ⟨o,keep c o (I.cne x c e) hc dk ho (I.freeC x c e),hd⟩
 refine ⟨I.ok,I.os,hg,⟨fun b o e n hb hx=>?_,fun b o e n hb hx=>?_,fun b o e n hx=>?_,fun b o e hx=>?_,fun b xs e=>tups b xs (I.base.tups b xs e),fun b o xs e=>frzs b o xs (I.base.frzs b o xs e),fun b ps e=>?_⟩,?_,fun x c e=>?_,?_,fun x c e=>?_,fun p hp=>?_,hok,I.len⟩
 ·exact keep b o (fc b o e) hb (dE b o e hx) (I.base.keep b o e n hb hx) (I.base.free b o e n hx)
 ·obtain ⟨sl,e1⟩:=I.base.slot b o e n hb hx;obtain ⟨de,e2⟩:=slot b _ (fc b o e) hb (dE b o e hx) e1 (I.base.free b o e n hx);exact ⟨de,e2⟩
 ·obtain ⟨o',e1⟩:=I.base.there b o e hx;exact free b o' (dE b o e hx) e1 (I.base.free b o e n hx)
 ·obtain ⟨o',e1⟩:=I.base.there b o e hx;exact there b o' (dE b o e hx) e1
 ·obtain ⟨m1,e1⟩:=I.base.tbls b ps e;obtain ⟨m2,e2⟩:=tbls b _ e1;exact ⟨m1++m2,by rw [e2,Array.append_assoc]⟩
 ·obtain ⟨m,hn,hl⟩:=I.loc;refine ⟨m,ns m hn,fun i x v e1 e2 e3=>?_⟩;obtain ⟨u,r,l⟩:=hl i x v e1 e2 e3;refine ⟨u,r,?_⟩;rcases l with l | ⟨k,c,e,z⟩
  ·exact .inl l
  ·exact .inr ⟨k,c,e,cellK x c e _ z⟩
 ·obtain ⟨v,z⟩:=I.cell x c e;exact ⟨v,cellK x c e v z⟩
 ·obtain ⟨m,⟨o,_,_,ho,_⟩,_⟩:=I.loc;exact free _ o (fun z=>(bJ _ z).2.1 rfl) ho I.free
 ·obtain ⟨v,o,ho,hd⟩:=I.cell x c e;exact free c o (fun z=>(bJ c z).2.2.1 x c e rfl) ho (I.freeC x c e)
 ·obtain ⟨e,n,ne,nf,d⟩:=I.pin p hp;have dk:p.1∉ch:=fun z=>(bJ p.1 z).2.2.2 p hp rfl;exact ⟨keep p.1 p.2 ne nf dk e n,free p.1 p.2 dk e n,ne,nf,d⟩
theorem Inv.un {t':Nat} (I:Inv X pins σ H s) (u:Un X.fs [] H H' s.heap h') (hok:HOk X.prog X.w H' h'):Inv X pins σ H' { s with heap:=h',toks:=t' }:=by
 obtain ⟨m,⟨o,es,ep,ho,r⟩,_⟩:=id I.loc;obtain ⟨sl,hL⟩:=u.any ho I.free (by simp)
 exact I.step (g':=s.gens) (d':=s.drawn) (ch:=[]) (fun _ z=>nomatch z) (fun b o _ hb _ e n=>u.keep b o e n hb (by simp)) (fun b o _ hb _ e n=>u.slot b o e n hb (by simp)) (fun b o _ e n=>u.free b o e n (by simp)) (fun b o _ e=>u.there b o e (by simp)) u.tups u.frzs u.tbls (fun m' hm=>by
  obtain ⟨o',es',ep',aT,r'⟩:=hm;rw [ho] at aT; cases aT;exact ⟨_,es',ep',hL,r'⟩) hok I.bare
theorem Inv.call {g':Array GenState} {t':Nat} {d':Drawn} {ch:List Addr} (I:Inv X pins σ H s) (u:Un (frs X.stack) ch H H' s.heap h') (hok:HOk X.prog X.w H' h') (hg:AllBare g')
  (bJ:∀ b∈ch,(b∈X.ex\/X.s₀.heap.objs.size<=b)/\b≠X.env.locals/\(∀ x c,X.env.cells.lookup x=some c->c≠b)/\∀ p∈X.pn++pins,p.1≠b) :
  Inv X pins σ H' { s with heap:=h',gens:=g',drawn:=d',toks:=t' }:=by
 obtain ⟨m,⟨o,es,ep,ho,r⟩,_⟩:=id I.loc;obtain ⟨sl,hL⟩:=u.any ho I.free fun z=>(bJ _ z).2.1 rfl
 exact I.step (ch:=ch) bJ (fun b o hL hb hc e n=>u.keep b o e n (fun z=>(List.mem_cons.mp (I.Pz b z)).elim hL hb) hc) (fun b o _ _ hc e n=>u.any e n hc) (fun b o hc e n=>u.free b o e n hc) (fun b o hc e=>u.there b o e hc) u.tups u.frzs u.tbls (fun m' hm=>by
  obtain ⟨o',es',ep',aT,r'⟩:=hm;rw [ho] at aT; cases aT;exact ⟨_,es',ep',hL,r'⟩) hok hg
theorem Inv.turned {t':Nat} {it:Addr} (I:Inv X pins σ H s) (k:∀ b o,b≠it->s.heap.get? b=some o->h'.get? b=some o) (hn:H it=none) (hL:it≠X.env.locals)
  (h1:it∈X.ex\/X.s₀.heap.objs.size<=it) (h2:∀ x c,X.env.cells.lookup x=some c->c≠it) (h3:∀ p∈X.pn++pins,p.1≠it):Inv X pins σ H { s with heap:=h',toks:=t' }:=by
 have eV:∀ b u,H b=some u->b≠it:=fun b u e z=>by rw [z,hn] at e; cases e
 refine I.step (g':=s.gens) (d':=s.drawn) (ch:=[it]) (fun b hb=>?_) (fun b o _ _ hc e _=>k b o (fun z=>hc (by simp [z])) e) (fun b o _ _ hc e _=>⟨o.slots,k b o (fun z=>hc (by simp [z])) e⟩) (fun _ _ _ _ n=>n)
  (fun b o hc e=>⟨o,k b o (fun z=>hc (by simp [z])) e⟩) (fun _ _ e=>e) (fun _ _ _ e=>e) (fun b ps e=>⟨#[],by rw [e]; simp⟩) (fun m hm=>?_) (fun b u e=>?_) I.bare
 ·have e:b=it:=by simpa using hb
  subst e;exact ⟨h1,hL,h2,h3⟩
 ·obtain ⟨o,es,ep,ho,r⟩:=hm;exact ⟨o,es,ep,k _ o (Ne.symm hL) ho,r⟩
 ·refine (I.hok b u e).stay (fun c v hc q=>k c v ?_ q) (fun _ q=>q) fun _ _ q=>q;rcases hc with z | z
  ·rw [z]; exact eV b u e
  ·exact eV c _ z
theorem Inv.tok (I:Inv X pins σ H s) (t:Nat):Inv X pins σ H { s with toks:=t }:=I.un (h':=s.heap) (t':=t) Un.refl I.hok
theorem Inv.kept {t':Nat} (I:Inv X pins σ H s) (k:∀ b u,s.heap.get? b=some u->h'.get? b=some u):Inv X pins σ H { s with heap:=h',toks:=t' }:=I.un (Un.kept k) (I.hok.kept k)
theorem Inv.laid {a:Addr} {o:HO} {t':Nat} (I:Inv X pins σ H s) (k:∀ b u,s.heap.get? b=some u->h'.get? b=some u) (hp:s.heap.objs.size<=a) (new:ur X.prog X.w (upd H a o) h' a o) :
  Inv X pins σ (upd H a o) { s with heap:=h',toks:=t' }:=I.un (Un.laid k hp (I.hok.fresh hp)) (I.hok.laid k hp new)
theorem Inv.write {x e:Addr} {o:HO} {t':Nat} (I:Inv X pins σ H s) (mu:Mut (H x)) (he:e=x\/H e=some (.own x)) (k:∀ b u,b≠e->s.heap.get? b=some u->h'.get? b=some u) (cJ:∃ u,h'.get? e=some u)
  (new:ur X.prog X.w (upd H x o) h' x o):Inv X pins σ (upd H x o) { s with heap:=h',toks:=t' }:=I.un (Un.write mu he k cJ) (I.hok.write mu he k cJ new)
theorem Inv.G8 {pins':List (Addr × Obj)} (I:Inv X pins σ H s) (h:∀ p∈pins',s.heap.get? p.1=some p.2/\H p.1=none/\p.1≠X.env.locals/\p.1∉X.fs/\∀ v,p.2.data≠.cell v):Inv X pins' σ H s :=
 ⟨I.ok,I.os,I.bare,I.base,I.loc,I.cell,I.free,I.freeC,fun p hp=>(List.mem_append.mp hp).elim (fun z=>I.pin p (List.mem_append_left _ z)) (h p),I.hok,I.len⟩
theorem Lj {N:List Str} (hN:N.Nodup) {i j:Nat} {x:Str} (a:N[i]? = some x) (b:N[j]? = some x):i=j:=by
 obtain ⟨h1,e1⟩:=List.getElem?_eq_some_iff.mp a;obtain ⟨h2,e2⟩:=List.getElem?_eq_some_iff.mp b;exact (List.getElem_inj hN).mp (e1.trans e2.symm)
theorem Zd {M:Model} {A:Around} {E:Value->Shared->Prop} {i:Nat} {x:Str} {v:V} {u:Value} {Q:Unit->Shared->Prop} (I:Inv X pins σ H s) (hN:X.N.Nodup) (hi:X.N[i]? = some x) (hx:Loc X.env.scope x) (r:RelV v u)
  (h:∀ s',Inv X pins (σ.set i (some v)) H s'->(∃ a,Heap.SameBut a s.heap s'.heap/\(a=X.env.locals\/X.env.cells.lookup x=some a))->Q () s') (hf:X.fn x=true\/X.env.scope.names.lookup x=some .local:=by first | exact .inl rfl | exact .inr rfl | assumption):wpAny M A (storeName X.env x u) Q E s:=by
 obtain ⟨m,hn,hl⟩:=id I.loc;have bI:(X.env.scope.kind == .class||(X.env.scope.kind == .module&&X.env.locals != X.env.globals))=false:=by rw [I.ok.kind]; rfl
 have bZ:i<σ.length:=by rw [I.len]; exact (List.getElem?_eq_some_iff.mp hi).1
 have cne:=I.cne
 have tracked:∀ {a:Addr} {h':Heap},(∃ o,s.heap.get? a=some o/\H a=none)->Heap.SameBut a s.heap h'->HOk X.prog X.w H h':=fun {a h'} ha hs b ob e=>by
  obtain ⟨_,_,hfree⟩:=ha;refine (I.hok b ob e).stay (fun c w' hc q=>(hs.2 c ?_).trans q) (fun _ q=>q) fun _ _ q=>q;rintro rfl;rcases hc with rfl | hc
  ·rw [hfree] at e; cases e
  ·rw [hfree] at hc; cases hc
 rcases hx with hk | hk
 ·refine wpAny_storeName_local hk hn (fun h' eB hs=>?_) bI;obtain ⟨oL,_,_,cL,_⟩:=id hn;refine h _ ⟨I.ok,I.os,I.bare,⟨fun b o e n hb hx=>?_,fun b o e n hb hx=>?_,I.base.free,fun b o e hx=>?_,I.base.tups,I.base.frzs,I.base.tbls⟩,⟨_,eB,fun j y v' e1 e2 e3=>?_⟩,fun y c e=>?_,I.free,I.freeC,fun p hp=>?_,tracked ⟨oL,cL,I.free⟩ hs,by simpa using I.len⟩ ⟨_,hs,.inl rfl⟩
  ·exact (hs.2 b (Nat.ne_of_lt (Nat.lt_of_lt_of_le (Heap.lt_size e) I.ok.above))).trans (I.base.keep b o e n hb hx)
  ·obtain ⟨sl,e1⟩:=I.base.slot b o e n hb hx;exact ⟨sl,(hs.2 b (Nat.ne_of_lt (Nat.lt_of_lt_of_le (Heap.lt_size e) I.ok.above))).trans e1⟩
  ·obtain ⟨o',e1⟩:=I.base.there b o e hx;exact ⟨o',(hs.2 b (Nat.ne_of_lt (Nat.lt_of_lt_of_le (Heap.lt_size e) I.ok.above))).trans e1⟩
  ·by_cases hj:j=i
   ·subst hj;rw [hi] at e1; cases e1;rw [List.getElem?_set_self bZ] at e2;cases e2;exact ⟨u,r,.inl ⟨hk,by simp⟩⟩
   ·rw [List.getElem?_set_ne (Ne.symm hj)] at e2;obtain ⟨u',r',q⟩:=hl j y v' e1 e2 e3;refine ⟨u',r',?_⟩;rcases q with ⟨k,e⟩ | ⟨k,c,e,z⟩
    ·refine .inl ⟨k,?_⟩;have:y≠x:=fun e=>hj (Lj hN e1 (e ▸ hi));simp [this,e]
    ·exact .inr ⟨k,c,e,z.sameBut hs (cne y c e)⟩
  ·obtain ⟨w',z⟩:=I.cell y c e;exact ⟨w',z.sameBut hs (cne y c e)⟩
  ·obtain ⟨e,n,ne,nf,d⟩:=I.pin p hp;exact ⟨(hs.2 p.1 ne).trans e,n,ne,nf,d⟩
 ·have d0:X.fn x=true:=by
   rcases hf with z | z
   ·exact z
   ·rw [z] at hk; cases hk
  obtain ⟨c,hc⟩:=I.ok.has x (.inl hk);obtain ⟨w',z⟩:=I.cell x c hc;refine wpAny_storeName_cell I.ok.kind hk hc z (fun h' bV hs=>?_);obtain ⟨oc,hoc,hocd⟩:=id z;refine h { s with heap:=h' } ⟨I.ok,I.os,I.bare,⟨fun b o e n hb hx=>?_,fun b o e n hb hx=>?_,I.base.free,fun b o e hx=>?_,I.base.tups,I.base.frzs,I.base.tbls⟩,⟨m,hn.sameBut hs (Ne.symm (cne x c hc)),fun j y v' e1 e2 e3=>?_⟩,fun y c' e=>?_,I.free,I.freeC,fun p hp=>?_,tracked ⟨oc,hoc,I.freeC x c hc⟩ hs,by simpa using I.len⟩ ⟨c,hs,.inr hc⟩
  ·exact (hs.2 b (Nat.ne_of_lt (Nat.lt_of_lt_of_le (Heap.lt_size e) (I.ok.cab x c d0 hc)))).trans (I.base.keep b o e n hb hx)
  ·obtain ⟨sl,e1⟩:=I.base.slot b o e n hb hx;exact ⟨sl,(hs.2 b (Nat.ne_of_lt (Nat.lt_of_lt_of_le (Heap.lt_size e) (I.ok.cab x c d0 hc)))).trans e1⟩
  ·obtain ⟨o',e1⟩:=I.base.there b o e hx;exact ⟨o',(hs.2 b (Nat.ne_of_lt (Nat.lt_of_lt_of_le (Heap.lt_size e) (I.ok.cab x c d0 hc)))).trans e1⟩
  ·by_cases hj:j=i
   ·subst hj;rw [hi] at e1; cases e1;rw [List.getElem?_set_self bZ] at e2;cases e2;exact ⟨u,r,.inr ⟨.inl hk,c,hc,bV⟩⟩
   ·rw [List.getElem?_set_ne (Ne.symm hj)] at e2;obtain ⟨u',r',q⟩:=hl j y v' e1 e2 e3;refine ⟨u',r',?_⟩;rcases q with q | ⟨k,c',e,z'⟩
    ·exact .inl q
    ·refine .inr ⟨k,c',e,z'.sameBut hs ?_⟩;rintro rfl;exact hj (Lj hN e1 (I.ok.inj _ _ _ e hc ▸ hi))
  ·by_cases hcc:c'=c
   ·subst hcc; exact ⟨_,bV⟩
   ·obtain ⟨w2,z2⟩:=I.cell y c' e;exact ⟨w2,z2.sameBut hs hcc⟩
  ·obtain ⟨e,n,ne,nf,d⟩:=I.pin p hp;refine ⟨(hs.2 p.1 ?_).trans e,n,ne,nf,d⟩;intro q;rw [q,hoc] at e;have q':oc=p.2:=Option.some.inj e;exact d w' (by rw [<- q']; exact hocd)
theorem M9 {M:Model} {A:Around} {E:Value->Shared->Prop} {i:Nat} {x:Str} {v:V} {u:Value} {Q:Unit->Shared->Prop} (I:Inv X pins σ H s) (hN:X.N.Nodup) (hi:X.N[i]? = some x) (hx:Loc X.env.scope x) (r:RelV v u)
  (h:∀ s',Inv X pins (σ.set i (some v)) H s'->Q () s') (hf:X.fn x=true\/X.env.scope.names.lookup x=some .local:=by first | exact .inl rfl | exact .inr rfl | assumption):wpAny M A (storeName X.env x u) Q E s :=
 Zd I hN hi hx r (fun s' I' _=>h s' I') hf
theorem Inv.call' {s':Shared} {ch:List Addr} (I:Inv X pins σ H s) (ho:s'.os=s.os) (u:Un (frs X.stack) ch H H' s.heap s'.heap) (hok:HOk X.prog X.w H' s'.heap) (hg:AllBare s'.gens)
  (bJ:∀ b∈ch,(b∈X.ex\/X.s₀.heap.objs.size<=b)/\b≠X.env.locals/\(∀ x c,X.env.cells.lookup x=some c->c≠b)/\∀ p∈X.pn++pins,p.1≠b):Inv X pins σ H' s':=by
 obtain ⟨h',g',d',t',o'⟩:=s';have e:o'=s.os:=ho;subst e;exact I.call (g':=g') (t':=t') (d':=d') u hok hg bJ
end
abbrev XK:=Value->Option Addr->Hp->Prop
abbrev St:=List (Option V)
abbrev VK:=V->Hp->Prop
abbrev TE:=St->Hp->VK->Prop
abbrev TT:=St->Hp->(Bool->Hp->Prop)->Prop
abbrev TA:=St->Hp->(List V->Hp->Prop)->Prop
structure Ends where
 nx:St->Hp->Prop
 rt:VK
 bk:St->Hp->Prop:=fun _ _=>False
 ct:St->Hp->Prop:=fun _ _=>False
abbrev TS:=Ends->St->Hp->Prop
inductive EP (X:Cx) (pins:List (Addr × Obj)) (σ:St) (Q:VK) (u:Value) (s':Shared):Prop
 | mk (v:V) (H':Hp) (I:Inv X pins σ H' s') (r:RelV v u) (q:Q v H')
def TP (X:Cx) (pins:List (Addr × Obj)) (σ:St) (Q:Bool->Hp->Prop) (b:Bool) (s':Shared):Prop:=∃ H',Inv X pins σ H' s'/\Q b H'
inductive AP (X:Cx) (pins:List (Addr × Obj)) (σ:St) (Q:List V->Hp->Prop) (us:List Value) (s':Shared):Prop
 | mk (vs:List V) (H':Hp) (I:Inv X pins σ H' s') (r:Vals vs us) (q:Q vs H')
def SP (X:Cx) (pins:List (Addr × Obj)) (D:Ends) (f:Flow) (s':Shared):Prop :=
 match f with
 | .next=>∃ σ' H',Inv X pins σ' H' s'/\D.nx σ' H'
 | .brk=>∃ σ' H',Inv X pins σ' H' s'/\D.bk σ' H'
 | .cont=>∃ σ' H',Inv X pins σ' H' s'/\D.ct σ' H'
 | .ret u=>∃ v σ' H',Inv X pins σ' H' s'/\RelV v u/\D.rt v H'
def PE (X:Cx) (e:Expr) (t:TE):Prop :=
 ∀ (pins:List (Addr × Obj)) (s:Shared) (σ:St) (H:Hp) (Q:VK),Inv X pins σ H s->t σ H Q->wpAny (model X.prog X.w) X.A (eval e X.env) (EP X pins σ Q) X.xe s
def PT (X:Cx) (e:Expr) (t:TT):Prop :=
 ∀ (pins:List (Addr × Obj)) (s:Shared) (σ:St) (H:Hp) (Q:Bool->Hp->Prop),Inv X pins σ H s->t σ H Q->wpAny (model X.prog X.w) X.A (isTrue e X.env (eval e X.env)) (TP X pins σ Q) X.xe s
def PW (X:Cx) (e:Expr) (t:TT):Prop :=
 ∀ (whole:Sem Value) (pins:List (Addr × Obj)) (s:Shared) (σ:St) (H:Hp) (Q:Bool->Hp->Prop),Inv X pins σ H s->t σ H Q->wpAny (model X.prog X.w) X.A (isTrue e X.env whole) (TP X pins σ Q) X.xe s
theorem PW.pt {X:Cx} {e:Expr} {t:TT} (h:PW X e t):PT X e t:=h _
def PA (X:Cx) (es:List Expr) (t:TA):Prop :=
 ∀ (pos:Pos) (pins:List (Addr × Obj)) (s:Shared) (σ:St) (H:Hp) (Q:List V->Hp->Prop),Inv X pins σ H s->t σ H Q->wpAny (model X.prog X.w) X.A (spliced (backTo pos (starEach es X.env))) (AP X pins σ Q) X.xe s
def PS (X:Cx) (st:Stmt) (t:TS):Prop :=
 ∀ (pins:List (Addr × Obj)) (s:Shared) (σ:St) (H:Hp) (D:Ends),Inv X pins σ H s->t D σ H->wpAny (model X.prog X.w) X.A (exec st X.env) (SP X pins D) X.xe s
def PSs (X:Cx) (st:List Stmt) (t:TS):Prop :=
 ∀ (pins:List (Addr × Obj)) (s:Shared) (σ:St) (H:Hp) (D:Ends),Inv X pins σ H s->t D σ H->wpAny (model X.prog X.w) X.A (execs st X.env) (SP X pins D) X.xe s
theorem thn {α:Type} {t:Sem α} {Q Q':α->Shared->Prop} {M:Model} {A:Around} {E:Value->Shared->Prop} {s:Shared} (h:wpAny M A t Q E s) (hQ:∀ a s,Q a s->Q' a s):wpAny M A t Q' E s:=wpAny_mono h hQ fun _ _ x=>x
end L2
namespace L2
open PySem PySem.Spec PyProof.Rows
section
variable {X:Cx}
def W2 (i:Nat):TE:=fun σ H Q=>∃ v,σ[i]? = some (some v)/\Q v H
def tC (v:V):TE:=fun _ H Q=>Q v H
theorem Xp {i:Nat} {x:Str} {pos:Pos} (hN:X.N[i]? = some x) (hv:Vis X.env.scope x) (hd:(x==("__debug__" : Str))=false:=by decide) (a7:(x==("__classdict__" : Str))=false:=by decide):PE X (.Name x pos) (W2 i):=by
 intro pins s σ H Q I h;obtain ⟨v,e,h⟩:=h;obtain ⟨m,hn,hl⟩:=I.loc;obtain ⟨u,r,l⟩:=hl i x v hN e hv;have fin:EP X pins σ Q u s:=⟨v,H,I,r,h⟩;rcases l with ⟨hk,hm⟩ | ⟨hk,c,hc,hcell⟩
 ·exact wpAny_Name (wpAny_loadName_local I.ok.kind hk hn hm fin) hd
 ·rcases hk with hk | hk
  ·exact wpAny_Name (wpAny_loadName_cell I.ok.kind hk hc hcell fin) hd
  ·exact wpAny_Name (wpAny_loadName_free I.ok.kind hk hc hcell fin a7) hd
theorem a4j {i j pos}:PE X (.Constant (.int i) j pos) (tC (.int i)):=fun _ _ _ H _ I h=>wpAny_Constant_int ⟨.int i,H,I.tok _,⟨_,rfl⟩,h⟩
theorem abz {b j pos}:PE X (.Constant (.bool b) j pos) (tC (.bl b)):=fun _ _ _ H _ I h=>Constant_bool ⟨.bl b,H,I,rfl,h⟩
theorem a9f {j pos}:PE X (.Constant .none j pos) (tC .non):=fun _ _ _ H _ I h=>Constant_none ⟨.non,H,I,rfl,h⟩
theorem a90 {x j pos}:PE X (.Constant (.str x) j pos) (tC (.str x)):=fun _ _ _ H _ I h=>Calls.Constant_str ⟨.str x,H,I.tok _,⟨_,rfl⟩,h⟩
def Gl (X:Cx) (x:Str):Prop:=X.env.kindOf x=some .globalImplicit
theorem Jp {E:Value->Shared->Prop} {pins:List (Addr × Obj)} {s:Shared} {σ:St} {H:Hp} {x:Str} {u:Value} {pos:Pos} {Q:Value->Shared->Prop} (I:Inv X pins σ H s) (hg:Gl X x) (hm:X.mg x=some u) (h:Q u s)
  (hd:(x==("__debug__" : Str))=false:=by decide):wpAny (model X.prog X.w) X.A (eval (.Name x pos) X.env) Q E s :=
 Calls.Name_function_global I.ok.kind hg (Calls.loadGlobal_global (by rw [I.ok.glob]; exact I.mod.glob.keeps I.bk) hm h) hd
theorem Ut {E:Value->Shared->Prop} {pins:List (Addr × Obj)} {s:Shared} {σ:St} {H:Hp} {x:Str} {u:Value} {pos:Pos} {Q:Value->Shared->Prop} (I:Inv X pins σ H s) (hg:Gl X x) (hm:X.mg x=none) (hv:bootBuiltins x=some u) (h:Q u s)
  (hn:x ≠ "__name__" := by decide) (hd:(x==("__debug__" : Str))=false:=by decide):wpAny (model X.prog X.w) X.A (eval (.Name x pos) X.env) Q E s:=by
 obtain ⟨mb,h1,h2⟩:=I.mod.blt;exact Calls.Name_function_global I.ok.kind hg (Calls.loadGlobal_builtin (by rw [I.ok.glob]; exact I.mod.glob.keeps I.bk) hm (by rw [I.ok.blt]; exact h1.keeps I.bk) ((h2 x hn).trans hv) h) hd
theorem Bq {x:Str} {v:V} {u:Value} {pos:Pos} (hg:Gl X x) (hm:X.mg x=some u) (r:RelV v u) (hd:(x==("__debug__" : Str))=false:=by decide):PE X (.Name x pos) (tC v) :=
 fun _ _ _ H _ I h=>Jp I hg hm ⟨v,H,I,r,h⟩ hd
theorem Xx {x:Str} {v:V} {u:Value} {pos:Pos} (hg:Gl X x) (hm:X.mg x=none) (hv:bootBuiltins x=some u) (r:RelV v u) (hn:x ≠ "__name__" := by decide) (hd:(x==("__debug__" : Str))=false:=by decide):PE X (.Name x pos) (tC v) :=
 fun _ _ _ H _ I h=>Ut I hg hm hv ⟨v,H,I,r,h⟩ hn hd
variable {a b:Expr} {ta tb:TE} {pos:Pos}
def tB (t:TE):TT:=fun σ H Q=>t σ H fun x H1=>∃ c,x=.bl c/\Q c H1
theorem a9p {e:Expr} {t:TE} (h:PE X e t) (he:∀ whole,isTrue e X.env whole=(do let v <- whole; standAt e.pos; holding [v] (truthy v)):=by intro _; rfl):PT X e (tB t):=by
 intro pins s σ H Q I hw;refine isTrue_plain (thn (h pins s σ H _ I hw) fun v s1 z0=>?_) (he _);obtain ⟨x,H1,I1,r1,q1⟩:=z0;obtain ⟨d,rfl,q⟩:=q1;cases r1;exact wpAny_truthy_bool ⟨H1,I1,q⟩
variable {tA dv:TT} {rest:List Expr}
def adi (t u:TT):TT:=fun σ H Q=>t σ H fun c H1=>if c=true then u σ H1 Q else Q false H1
def tOr (t u:TT):TT:=fun σ H Q=>t σ H fun c H1=>if c=true then Q true H1 else u σ H1 Q
def aeu (t:TT):TT:=fun σ H Q=>t σ H fun c H1=>Q (!c) H1
theorem pw_and1 (ha:PT X a tA):PW X (.BoolOp .And [a] pos) tA:=by
 intro wh pins s σ H Q I h;refine isTrue_and (thn (ha pins s σ H Q I h) fun c s1 e=>?_);cases c with
 | true=>exact isTrue_and_nil e
 | false=>exact e
theorem pw_or1 (ha:PT X a tA):PW X (.BoolOp .Or [a] pos) tA:=by
 intro wh pins s σ H Q I h;refine isTrue_or (thn (ha pins s σ H Q I h) fun c s1 e=>?_);cases c with
 | false=>exact isTrue_or_nil e
 | true=>exact e
theorem pw_and (ha:PT X a tA) (hb:PW X (.BoolOp .And (b::rest) pos) dv):PW X (.BoolOp .And (a::b::rest) pos) (adi tA dv):=by
 intro wh pins s σ H Q I h;refine isTrue_and (thn (ha pins s σ H _ I h) fun c s1 z0=>?_);obtain ⟨H1,I1,q1⟩:=z0;cases c with
 | true=>exact hb wh pins s1 σ H1 Q I1 q1
 | false=>exact ⟨H1,I1,q1⟩
theorem pw_or (ha:PT X a tA) (hb:PW X (.BoolOp .Or (b::rest) pos) dv):PW X (.BoolOp .Or (a::b::rest) pos) (tOr tA dv):=by
 intro wh pins s σ H Q I h;refine isTrue_or (thn (ha pins s σ H _ I h) fun c s1 z0=>?_);obtain ⟨H1,I1,q1⟩:=z0;cases c with
 | true=>exact ⟨H1,I1,q1⟩
 | false=>exact hb wh pins s1 σ H1 Q I1 q1
theorem a86 (ha:PT X a tA):PT X (.UnaryOp .Not a pos) (aeu tA):=by
 intro pins s σ H Q I h;exact isTrue_not (ha pins s σ H (fun c H1=>Q (!c) H1) I h)
noncomputable def ab5 (ta tb:TE):TE:=fun σ H Q=>ta σ H fun x H1=>∃ c,x=.bl c/\if c=true then tb σ H1 Q else Q (.bl false) H1
noncomputable def ael (ta tb:TE):TE:=fun σ H Q=>ta σ H fun x H1=>∃ c,x=.bl c/\if c=true then Q (.bl true) H1 else tb σ H1 Q
def abt (ta:TE):TE:=fun σ H Q=>ta σ H fun x H1=>∃ c,x=.bl c/\Q (.bl (!c)) H1
theorem a8p {op} {t:TE} (h:PE X a t):PE X (.BoolOp op [a] pos) t:=fun pins s σ H Q I hw=>BoolOp_one (h pins s σ H Q I hw)
theorem a7v (ha:PE X a ta) (hb:PE X (.BoolOp .And (b::rest) pos) tb):PE X (.BoolOp .And (a::b::rest) pos) (ab5 ta tb):=by
 intro pins s σ H Q I h;refine BoolOp_and (thn (ha pins s σ H _ I h) fun v s1 z0=>?_);obtain ⟨x,H1,I1,r1,q1⟩:=z0;obtain ⟨c,rfl,q1⟩:=q1;cases r1;refine wpAny_truthy_bool ?_;cases c with
 | true=>exact hb pins s1 σ H1 Q I1 q1
 | false=>exact ⟨.bl false,H1,I1,rfl,q1⟩
theorem ac4 (ha:PE X a ta) (hb:PE X (.BoolOp .Or (b::rest) pos) tb):PE X (.BoolOp .Or (a::b::rest) pos) (ael ta tb):=by
 intro pins s σ H Q I h;refine BoolOp_or (thn (ha pins s σ H _ I h) fun v s1 z0=>?_);obtain ⟨x,H1,I1,r1,q1⟩:=z0;obtain ⟨c,rfl,q1⟩:=q1;cases r1;refine wpAny_truthy_bool ?_;cases c with
 | false=>exact hb pins s1 σ H1 Q I1 q1
 | true=>exact ⟨.bl true,H1,I1,rfl,q1⟩
theorem a9w (ha:PE X a ta):PE X (.UnaryOp .Not a pos) (abt ta):=by
 intro pins s σ H Q I h;refine UnaryOp_ (thn (ha pins s σ H _ I h) fun v s1 z0=>?_);obtain ⟨x,H1,I1,r1,q1⟩:=z0;obtain ⟨c,rfl,q1⟩:=q1;cases r1;exact not_of (wpAny_truthy_bool ⟨.bl (!c),H1,I1,rfl,q1⟩)
noncomputable def tIf (t:TT) (ta tb:TE):TE:=fun σ H Q=>t σ H fun c H1=>if c=true then ta σ H1 Q else tb σ H1 Q
theorem a1q {c:Expr} (hc:PT X c tA) (ha:PE X a ta) (hb:PE X b tb):PE X (.IfExp c a b pos) (tIf tA ta tb):=by
 intro pins s σ H Q I h;refine wpAny_IfExp (thn (hc pins s σ H _ I h) fun d s1 z0=>?_);obtain ⟨H1,I1,q1⟩:=z0;cases d with
 | true=>exact ha pins s1 σ H1 Q I1 q1
 | false=>exact hb pins s1 σ H1 Q I1 q1
end
end L2
namespace L2
open PySem PySem.Spec PyProof.Rows
def SqL (K:PySem.W.Frag) (H:Hp) (a:Addr) (xs:List V):Prop :=
 Rd H a (.lst xs) \/
  ∃ (o:Obj) (ae:Array Value) (n:Nat),K.lookup a=some o/\o.cls=.type "list" /\ o.dict=none/\o.data=.seq ae n/\ae.size<=sizeLine/\Vals xs ae.toList
def SqT (K:PySem.W.Frag) (H:Hp) (a:Addr) (xs:List V):Prop :=
 Rd H a (.tup xs) \/
  ∃ (o:Obj) (ae:Array Value) (n:Nat),K.lookup a=some o/\o.cls=.type "tuple" /\ o.dict=none/\o.data=.seq ae n/\ae.size<=sizeLine/\Vals xs ae.toList
noncomputable def af7:Value->Option V
 | .none=>some .non
 | .bool b=>some (.bl b)
 | .int i _=>some (.int i)
 | .str x _=>some (.str x)
 | .bytes b _=>some (.byt b)
 | .float b _=>some (.flt b)
 | .ref a=>some (.ref a)
 | .type n=>some (.ty n)
 | _=>none
theorem RelV.abs {x:V} {u:Value} (r:RelV x u):af7 u=some x:=by
 cases x with
 | non=>cases r; rfl
 | bl _=>cases r; rfl
 | int _=>obtain ⟨t,rfl⟩:=r; rfl
 | str _=>obtain ⟨t,rfl⟩:=r; rfl
 | byt _=>obtain ⟨t,rfl⟩:=r; rfl
 | flt _=>obtain ⟨t,rfl⟩:=r; rfl
 | ref _=>cases r; rfl
 | ty _=>cases r; rfl
theorem RelV.inj {x y:V} {u:Value} (r:RelV x u) (q:RelV y u):x=y:=Option.some.inj (r.abs.symm.trans q.abs)
theorem Vals.inj {xs ys:List V} {us:List Value} (h:Vals xs us):Vals ys us->xs=ys:=by
 induction h generalizing ys with
 | nil=>intro k; cases k; rfl
 | cons r t ih=>intro k; cases k with | cons r' t'=>rw [r.inj r',ih t']
section
variable {X:Cx} {pins:List (Addr × Obj)} {σ:St} {H:Hp} {s:Shared} {a:Addr} {xs ys:List V}
theorem SqL.of {K:PySem.W.Frag} (h:H a=some (.lst xs)):SqL K H a xs:=.inl (.inl h)
theorem SqT.of {K:PySem.W.Frag} (h:H a=some (.tup xs)):SqT K H a xs:=.inl (.inl h)
theorem Inv.list (I:Inv X pins σ H s) (h:SqL X.K H a xs):∃ ae:List Value,Vals xs ae/\PlainL s.heap a ae.toArray/\xs.length<=sizeLine:=by
 rcases h with h | ⟨o,ae,n,hk,hc,hd,hs,hz,r⟩
 ·obtain ⟨z,ae,n,r,e⟩:=h.ok I.hok;exact ⟨ae,r,⟨_,n,e,rfl,rfl,rfl⟩,z⟩
 ·refine ⟨ae.toList,r,⟨o,n,I.kIn a o hk,hc,hd,by simpa using hs⟩,?_⟩;have e:=r.length;simp only [Array.length_toList] at e;omega
theorem Inv.tuple (I:Inv X pins σ H s) (h:SqT X.K H a xs):∃ ae:List Value,Vals xs ae/\IsTup s.heap a ae.toArray/\xs.length<=sizeLine:=by
 rcases h with h | ⟨o,ae,n,hk,hc,hdn,hs,hz,r⟩
 ·obtain ⟨z,ae,r,p⟩:=h.ok I.hok;exact ⟨ae,r,p.is,z⟩
 ·refine ⟨ae.toList,r,⟨o,I.kIn a o hk,hc,n,by simpa using hs⟩,?_⟩;have e:=r.length;simp only [Array.length_toList] at e;omega
theorem Inv.a3e (I:Inv X pins σ H s) (h:SqL X.K H a xs) (h':SqL X.K H a ys):xs=ys:=by
 obtain ⟨ae,r,⟨o,n,e,_,_,d⟩,_⟩:=I.list h;obtain ⟨its',r',⟨o',n',e',_,_,d'⟩,_⟩:=I.list h';rw [e] at e'; cases e';rw [d] at d';injection d' with d1 _;have:ae=its':=by simpa using congrArg Array.toList d1
 subst this;exact r.inj r'
theorem Inv.Wr (I:Inv X pins σ H s) (h:SqT X.K H a xs) (h':SqT X.K H a ys):xs=ys:=by
 obtain ⟨ae,r,⟨o,e,_,n,d⟩,_⟩:=I.tuple h;obtain ⟨its',r',⟨o',e',_,n',d'⟩,_⟩:=I.tuple h';rw [e] at e'; cases e';rw [d] at d';injection d' with d1 _;have:ae=its':=by simpa using congrArg Array.toList d1
 subst this;exact r.inj r'
end
abbrev Cx.wish (X:Cx) (E:Value->Shared->Prop):Cx:={ X with xe:=E }
abbrev Cx.nox (X:Cx):Cx:=X.wish fun _ _=>False
theorem Cx.Ok.wish {X:Cx} (ok:X.Ok) (E:Value->Shared->Prop):(X.wish E).Ok :=
 ⟨ok.mod,ok.kind,ok.glob,ok.blt,ok.above,ok.inj,ok.has,ok.cab,ok.hd,ok.frames,ok.stk,ok.exf,ok.bs,ok.bsz,ok.noex,ok.exfs,ok.T4,ok.frf⟩
theorem Cx.Ok.Dq {X:Cx} {E:Value->Shared->Prop} (ok:(X.wish E).Ok):X.Ok :=
 ⟨ok.mod,ok.kind,ok.glob,ok.blt,ok.above,ok.inj,ok.has,ok.cab,ok.hd,ok.frames,ok.stk,ok.exf,ok.bs,ok.bsz,ok.noex,ok.exfs,ok.T4,ok.frf⟩
section
variable {X:Cx} {pins:List (Addr × Obj)} {σ:St} {H:Hp} {s:Shared} {E:Value->Shared->Prop}
theorem Inv.wish (I:Inv X pins σ H s) (E:Value->Shared->Prop):Inv (X.wish E) pins σ H s:=⟨I.ok.wish E,I.os,I.bare,I.base,I.loc,I.cell,I.free,I.freeC,I.pin,I.hok,I.len⟩
theorem Inv.Dq (I:Inv (X.wish E) pins σ H s):Inv X pins σ H s:=⟨I.ok.Dq,I.os,I.bare,I.base,I.loc,I.cell,I.free,I.freeC,I.pin,I.hok,I.len⟩
theorem SP.Dq {D:Ends} {f:Flow} {s':Shared} (h:SP (X.wish E) pins D f s'):SP X pins D f s':=by
 cases f with
 | next=>obtain ⟨σ',H',I,q⟩:=h; exact ⟨σ',H',I.Dq,q⟩
 | brk=>obtain ⟨σ',H',I,q⟩:=h; exact ⟨σ',H',I.Dq,q⟩
 | cont=>obtain ⟨σ',H',I,q⟩:=h; exact ⟨σ',H',I.Dq,q⟩
 | ret u=>obtain ⟨v,σ',H',I,r,q⟩:=h; exact ⟨v,σ',H',I.Dq,r,q⟩
theorem PSs.nox {st:List Stmt} {t:TS} (h:PSs X.nox st t):PSs X st t:=fun pins s σ H D I hw =>
 wpAny_mono (h pins s σ H D (I.wish _) hw) (fun _ _ q=>q.Dq) fun _ _ z=>False.elim z
end
section
variable {X:Cx} {st:Stmt} {rest:List Stmt} {t u:TS} {e:Expr} {te:TE} {pos:Pos}
def abk:TS:=fun D σ H=>D.nx σ H
def adz (t u:TS):TS:=fun D σ H=>t { D with nx:=u D } σ H
theorem a5g:PSs X [] abk:=fun _ _ σ H _ I h=>wpAny_execs_nil ⟨σ,H,I,h⟩
theorem T8 (h1:PS X st t) (h2:PSs X rest u):PSs X (st::rest) (adz t u):=by
 intro pins s σ H D I h;refine wpAny_execs_cons (thn (h1 pins s σ H { D with nx:=u D } I h) fun f s1 q=>?_);cases f with
 | next =>
  obtain ⟨σ',H',I',q⟩:=q;exact h2 pins s1 σ' H' D I' q
 | ret v=>exact q
 | brk=>exact q
 | cont=>exact q
theorem Ln (h1:PS X st t):PSs X [st] t:=by
 intro pins s σ H D I h;refine wpAny_execs_cons (thn (h1 pins s σ H D I h) fun f s1 q=>?_);cases f with
 | next=>exact wpAny_execs_nil q
 | ret v=>exact q
 | brk=>exact q
 | cont=>exact q
theorem Inv.quiet {pins:List (Addr × Obj)} {σ:St} {H:Hp} {s:Shared} (I:Inv X pins σ H s):interactive X.env=false:=by simp [interactive,I.ok.kind]
def a1y (te:TE):TS:=fun D σ H=>te σ H fun _ H1=>D.nx σ H1
theorem Bo (he:PE X e te) (hs:swapsWith e none pos.line X.env=pure false:=by rfl):PS X (.Expr e pos) (a1y te):=by
 intro pins s σ H D I h;exact wpAny_Expr_any (thn (he pins s σ H _ I h) fun v s1 z7=>by obtain ⟨x,H1,I1,r1,q1⟩:=z7; exact ⟨σ,H1,I1,q1⟩) I.quiet hs
def ae9 (te:TE):TS:=fun D σ H=>te σ H D.rt
theorem a3s (he:PE X e te):PS X (.Return (some e) pos) (ae9 te):=by
 intro pins s σ H D I h;exact wpAny_Return_some (thn (he pins s σ H _ I h) fun v s1 z7=>by obtain ⟨x,H1,I1,r1,q1⟩:=z7; exact ⟨x,σ,H1,I1,r1,q1⟩)
def aew (c:TT) (t u:TS):TS:=fun D σ H=>c σ H fun b H1=>if b=true then t D σ H1 else u D σ H1
theorem aa7 {c:Expr} {a b:List Stmt} {tc:TT} (hc:PT X c tc) (ha:PSs X a t) (hb:PSs X b u):PS X (.If c a b pos) (aew tc t u):=by
 intro pins s σ H D I h;refine wpAny_If (thn (hc pins s σ H _ I h) fun d s1 z0=>?_);obtain ⟨H1,I1,q1⟩:=z0;cases d with
 | true=>exact ha pins s1 σ H1 D I1 q1
 | false=>exact hb pins s1 σ H1 D I1 q1
end
abbrev TG:=V->St->Hp->(St->Hp->Prop)->Prop
abbrev TGs:=List V->St->Hp->(St->Hp->Prop)->Prop
def PG (X:Cx) (target:Expr) (t:TG):Prop :=
 ∀ (pins:List (Addr × Obj)) (s:Shared) (σ:St) (H:Hp) (v:V) (u:Value) (Q:St->Hp->Prop),Inv X pins σ H s->RelV v u->t v σ H Q ->
  wpAny (model X.prog X.w) X.A (assign target X.env u) (fun _ s'=>∃ σ' H',Inv X pins σ' H' s'/\Q σ' H') X.xe s
def PGs (X:Cx) (ts:List Expr) (t:TGs):Prop :=
 ∀ (pins:List (Addr × Obj)) (s:Shared) (σ:St) (H:Hp) (vs:List V) (us:List Value) (Q:St->Hp->Prop),Inv X pins σ H s->Vals vs us->t vs σ H Q ->
  wpAny (model X.prog X.w) X.A (assignInOrder ((assignEach ts X.env).map (·.2)) us) (fun _ s'=>∃ σ' H',Inv X pins σ' H' s'/\Q σ' H') X.xe s
section
variable {X:Cx} {pos:Pos}
def Js (i:Nat):TG:=fun v σ H Q=>Q (σ.set i (some v)) H
theorem p7 {i:Nat} {x:Str} (hN:X.N.Nodup) (hi:X.N[i]? = some x) (hx:Loc X.env.scope x) (hf:X.fn x=true\/X.env.scope.names.lookup x=some .local:=by first | exact .inl rfl | exact .inr rfl | assumption):PG X (.Name x pos) (Js i):=by
 intro pins s σ H v u Q I r h;exact wpAny_assign_Name (M9 I hN hi hx r (fun s' I'=>⟨_,H,I',h⟩) hf)
def ad5:TGs:=fun vs σ H Q=>vs=[]/\Q σ H
def a95 (t:TG) (u:TGs):TGs:=fun vs σ H Q=>∃ v r,vs=v::r/\t v σ H fun σ' H'=>u r σ' H' Q
theorem Ma:PGs X [] ad5:=by
 intro pins s σ H vs us Q I r h;obtain ⟨e,h⟩:=h;subst e;cases r;exact assignInOrder_nil ⟨σ,H,I,h⟩
theorem zx {e:Expr} {es:List Expr} {t:TG} {u:TGs} (h1:PG X e t) (h2:PGs X es u)
  (hs:(assignEach (e::es) X.env).map (·.2)=assign e X.env::(assignEach es X.env).map (·.2):=by rfl):PGs X (e::es) (a95 t u):=by
 intro pins s σ H vs us Q I r h;obtain ⟨v,vr,e1,h⟩:=h;subst e1;cases r with
 | cons r rr =>
  rw [hs];refine assignInOrder_cons (thn (h1 pins s σ H _ _ _ I r h) fun _ s1 z0=>?_);obtain ⟨σ1,H1,I1,q1⟩:=z0;exact h2 pins s1 σ1 H1 _ _ Q I1 rr q1
noncomputable def ad8 (K:PySem.W.Frag) (n:Nat) (t:TGs):TG:=fun v σ H Q=>∃ a xs,v=.ref a/\SqT K H a xs/\xs.length=n/\t xs σ H Q
theorem Uk {es:List Expr} {k:Nat} {t:TGs} {n:Nat} (hc:X.calm=true) (h:PGs X es t)
  (hn:(assignEach es X.env).length=n:=by rfl) (hst:(assignEach es X.env).findIdx? (·.1)=none:=by rfl):PG X (.Tuple es k pos) (ad8 X.K n t):=by
 intro pins s σ H v u Q I r hw;obtain ⟨a,xs,e1,hq,hl,hw⟩:=hw;subst e1;cases r;obtain ⟨ae,rv,ht,hz⟩:=I.tuple hq;refine assign_Tuple_tuple (I.ok.hd hc) ht (by simp [hn,<- hl,rv.length]) hst fun h' hx=>?_;have I1:Inv X pins σ H { s with heap:=h' }:=I.kept (t':=s.toks) fun b o e=>hx b o (Nat.ne_of_lt (Heap.lt_size e)) e;exact h pins _ σ H xs _ Q I1 (by simpa using rv) hw
def a5h (te:TE) (g:TG):TS:=fun D σ H=>te σ H fun x H1=>g x σ H1 D.nx
theorem a8x {tg e:Expr} {te:TE} {g:TG} (he:PE X e te) (hg:PG X tg g) (hs:swapsWithSole [tg] e pos.line X.env=pure false:=by rfl) (hw:swappedStores [tg] e X.env=pure none:=by rfl)
  (h1:(assignEach [tg] X.env).map (·.2)=[assign tg X.env]:=by rfl):PS X (.Assign [tg] e pos) (a5h te g):=by
 intro pins s σ H D I h;refine wpAny_Assign_stores (thn (he pins s σ H _ I h) fun v s1 z0=>?_) hs hw;obtain ⟨x,H1,I1,r1,q1⟩:=z0;rw [h1];exact thn (hg pins s1 σ H1 x v _ I1 r1 q1) fun _ s2 q=>q
theorem wz {i:Nat} {x:Str} {e:Expr} {te:TE} {pos':Pos} (hN:X.N.Nodup) (hi:X.N[i]? = some x) (hx:Loc X.env.scope x) (he:PE X e te) (hs:swapsWith e (some (.Name x pos')) pos.line X.env=pure false:=by rfl) (hf:X.fn x=true\/X.env.scope.names.lookup x=some .local:=by first | exact .inl rfl | exact .inr rfl | assumption) :
  PS X (.Assign [.Name x pos'] e pos) (a5h te (Js i)):=by
 intro pins s σ H D I h;refine wpAny_Assign_Name (thn (he pins s σ H _ I h) fun v s1 z0=>?_) hs;obtain ⟨y,H1,I1,r1,q1⟩:=z0;exact M9 I1 hN hi hx r1 (fun s2 I2=>⟨_,H1,I2,q1⟩) hf
end
section
variable {X:Cx} {pos:Pos}
noncomputable def a8g (c:TT) (tb:TS):TS:=fun D σ H=>∃ W:Nat->St->Hp->Prop,(∃ m,W m σ H)/\∀ m σ H,W m σ H ->
 c σ H fun b H1=>if b=true then ∃ N:St->Hp->Prop,(∀ σ' H',N σ' H'->∃ m',m'<m/\W m' σ' H')/\tb { D with nx:=N,ct:=N,bk:=D.nx } σ H1 else D.nx σ H1
theorem Uu {c:Expr} {body:List Stmt} {tc:TT} {tb:TS} (hp:PassesOwn (model X.prog X.w) X.A X.env X.xe) (hc:PT X c tc) (hb:PSs X body tb):PS X (.While c body [] pos) (a8g tc tb):=by
 intro pins s σ H D I h;obtain ⟨W,⟨m0,w0⟩,turn⟩:=h;refine wpAny_While (codeAny_whileLoop (fun n s'=>∃ σ' H',Inv X pins σ' H' s'/\W n σ' H') ?_ m0 ⟨σ,H,I,w0⟩);rintro n s1 ⟨σ1,H1,I1,w1⟩;refine wpAny_passesOwn hp (thn (hc pins s1 σ1 H1 _ I1 (turn n σ1 H1 w1)) fun b s2 z0=>?_);obtain ⟨H2,I2,q2⟩:=z0;cases b with
 | true =>
  obtain ⟨N,hN,q2⟩:=q2;rw [if_pos rfl];refine wpAny_passesOwn hp (thn (hb pins s2 σ1 H2 _ I2 q2) fun f s3 q3=>?_);cases f with
  | next =>
   obtain ⟨bK,H3,I3,n3⟩:=q3;obtain ⟨m',hm,w3⟩:=hN bK H3 n3;exact ⟨m',hm,bK,H3,I3,w3⟩
  | cont =>
   obtain ⟨bK,H3,I3,n3⟩:=q3;obtain ⟨m',hm,w3⟩:=hN bK H3 n3;exact ⟨m',hm,bK,H3,I3,w3⟩
  | brk=>exact q3
  | ret v=>exact q3
 | false =>
  rw [if_neg Bool.false_ne_true];exact wpAny_execs_nil ⟨σ1,H2,I2,q2⟩
end
structure It where
 go:Nat->Hp->Prop
 yld:Nat->Hp->V->Hp->Prop
 stop:Nat->Hp->Prop
def Q6 (X:Cx) (pins:List (Addr × Obj)) (H:Hp) (b:Addr):Prop :=
 H b=none/\b≠X.env.locals/\b∉X.fs/\(b∈X.ex\/X.s₀.heap.objs.size<=b)/\(∀ x c,X.env.cells.lookup x=some c->c≠b)/\∀ p∈X.pn++pins,p.1≠b
theorem Inv.a8r {X:Cx} {pins:List (Addr × Obj)} {σ:St} {H H':Hp} {s:Shared} {b:Addr} (I:Inv X pins σ H s) (hb:s.heap.objs.size<=b) (hn:H' b=none):Q6 X pins H' b:=by
 refine ⟨hn,Nat.ne_of_gt (Nat.lt_of_lt_of_le I.lt hb),I.aex hb,.inr (Nat.le_trans I.sz hb),fun x c e z=>?_,fun p hp z=>?_⟩
 ·obtain ⟨v,q⟩:=I.cell x c e;exact absurd (Nat.lt_of_lt_of_le q.lt (by rw [z]; exact hb)) (Nat.lt_irrefl _)
 ·exact absurd (Nat.lt_of_lt_of_le (Heap.lt_size (I.pin p hp).1) (by rw [z]; exact hb)) (Nat.lt_irrefl _)
structure Turn (P:Program) (w:World) (K:PySem.W.Frag) (tg:Expr) (J:It) (fp:List Addr) (it:Addr) (tn:Nat->Heap->Prop):Prop where
 mem:it∈fp
 obj:∀ i h,tn i h->∀ b∈fp,∃ o,h.get? b=some o/\∀ v,o.data≠.cell v
 keep:∀ i h h',tn i h->(∀ b∈fp,∀ o,h.get? b=some o->h'.get? b=some o)->tn i h'
 item:∀ (X:Cx),X.prog=P->X.w=w->X.K=K->X.calm=true->∀ (i:Nat) (pins:List (Addr × Obj)) (s:Shared) (σ:St) (H:Hp) (E:Value->Shared->Prop),Inv X pins σ H s->(∀ b∈fp,Q6 X pins H b)->tn i s.heap->J.go i H ->
  wpAny (model P w) X.A (pyNext (.ref it)) (fun r s1=>∃ u,r=some u /\
   wpAny (model P w) X.A (letOwnedTupleGo tg (.ref it) u) (fun _ s2=>∃ x H',Inv X pins σ H' s2/\RelV x u/\J.yld i H x H'/\tn (i+1) s2.heap/\∀ b∈fp,H' b=none) E s1) E s
 done:∀ (X:Cx),X.prog=P->X.w=w->X.K=K->X.calm=true->∀ (i:Nat) (pins:List (Addr × Obj)) (s:Shared) (σ:St) (H:Hp) (E:Value->Shared->Prop),Inv X pins σ H s->(∀ b∈fp,Q6 X pins H b)->tn i s.heap->J.stop i H ->
  wpAny (model P w) X.A (pyNext (.ref it)) (fun r s1=>r=none/\Inv X pins σ H s1) E s
 self:∀ (A:Around) (i:Nat) (s:Shared) (Q:Value->Shared->Prop) (E:Value->Shared->Prop),tn i s.heap->Q (.ref it) s->wpAny (model P w) A (pyIter (.ref it)) Q E s
abbrev TI:=St->Hp->(It->Hp->Prop)->Prop
def PIE (X:Cx) (pins:List (Addr × Obj)) (σ:St) (tg:Expr) (R:It->Hp->Prop) (bY:Value) (s2:Shared):Prop :=
 ∃ (it:Addr) (fp:List Addr) (tn:Nat->Heap->Prop) (J:It) (H':Hp),bY=.ref it/\Inv X pins σ H' s2/\Turn X.prog X.w X.K tg J fp it tn/\tn 0 s2.heap/\(∀ b∈fp,Q6 X pins H' b)/\R J H'
def PI (X:Cx) (tg iter:Expr) (wi:TI):Prop :=
 ∀ (pins:List (Addr × Obj)) (s:Shared) (σ:St) (H:Hp) (R:It->Hp->Prop),Inv X pins σ H s->wi σ H R ->
  wpAny (model X.prog X.w) X.A (eval iter X.env) (fun v s1=>wpAny (model X.prog X.w) X.A (pyIter v) (PIE X pins σ tg R) X.xe s1) X.xe s
theorem a0g {M:Model} {A:Around} {E:Value->Shared->Prop} {s:Shared} {tg:Expr} {it:Addr} {u:Value} {o:Obj} {n:String} {vs:Array Value} {Q:Unit->Shared->Prop} (ho:s.heap.get? it=some o) (hc:o.cls=.type n) (hd:o.data=.fields vs)
  (hn:["enumerate","zip","dict_itemiterator","dict_reverseitemiterator","odict_iterator","itertools.zip_longest","itertools.pairwise"].contains n=false) (hQ:Q () s):wpAny M A (letOwnedTupleGo tg (.ref it) u) Q E s:=by
 unfold letOwnedTupleGo
 cases tg <;> first
  | exact wpAny_pure hQ
  | (cases u <;> first
    | exact wpAny_pure hQ
    | (refine wpAny_bind (wpAny_load ho ?_)
       rw [hc,hd];show wpAny M A (if (["enumerate","zip","dict_itemiterator","dict_reverseitemiterator","odict_iterator","itertools.zip_longest","itertools.pairwise"].contains n&&vs[0]? == some (rawInt _))=true then _ else _) Q E s;rw [if_neg (by intro h; rw [hn,Bool.false_and] at h; cases h)];exact wpAny_pure hQ))
noncomputable def Itl (K:PySem.W.Frag) (a:Addr):It :=
 ⟨fun i H=>∃ xs x,SqL K H a xs/\xs[i]? = some x,fun i H x H'=>H'=H/\∀ xs,SqL K H a xs->xs[i]? = some x,fun i H=>∃ xs,SqL K H a xs/\xs.length<=i⟩
noncomputable def Itt (K:PySem.W.Frag) (a:Addr):It :=
 ⟨fun i H=>∃ xs x,SqT K H a xs/\xs[i]? = some x,fun i H x H'=>H'=H/\∀ xs,SqT K H a xs->xs[i]? = some x,fun i H=>∃ xs,SqT K H a xs/\xs.length<=i⟩
def Itr (lo:Int) (n:Nat):It:=⟨fun i _=>i<n,fun i H x H'=>H'=H/\x=.int (lo+i),fun i _=>n<=i⟩
theorem Yh {P:Program} {w:World} {K:PySem.W.Frag} {tg:Expr} (a it:Addr):Turn P w K tg (Itl K a) [it] it (fun i h=>h.IsListIter it a i) where
 mem:=by simp
 obj:=fun i h st b hb=>by
  have e:b=it:=by simpa using hb
  subst e;obtain ⟨o,e,c,d⟩:=st;exact ⟨o,e,fun v z=>by rw [d] at z; cases z⟩
 keep:=fun i h h' st k=>st.at fun o e=>k it (by simp) o e
 item:=by
  intro X hP hw hK hc i pins s σ H E I hf st hg;subst hP hw hK;obtain ⟨xs,x,hq,hx⟩:=hg;obtain ⟨ae,rv,p,hz⟩:=I.list hq;obtain ⟨u,hu,ru⟩:=rv.get hx;obtain ⟨f0,f1,f2,f3,f4,f5⟩:=hf it (by simp);refine wpAny_pyNext_list_item st p.isList (x:=u) (by simpa using hu) fun h' aa sb=>?_;have I1:Inv X pins σ H { s with heap:=h' }:=I.turned (t':=s.toks) (fun b o hb e=>(sb.2 b hb).trans e) f0 f1 f3 f4 f5;obtain ⟨o,e,c,d⟩:=id aa;exact ⟨u,rfl,a0g (s:={ s with heap:=h' }) e c d (by decide) ⟨x,H,I1,ru,⟨rfl,fun ys hy=>by rw [I.a3e hy hq]; exact hx⟩,aa,fun b hb=>(hf b hb).1⟩⟩
 done:=by
  intro X hP hw hK hc i pins s σ H E I hf st hg;subst hP hw hK;obtain ⟨xs,hq,hx⟩:=hg;obtain ⟨ae,rv,p,hz⟩:=I.list hq;obtain ⟨f0,f1,f2,f3,f4,f5⟩:=hf it (by simp);have hl:=rv.length;exact wpAny_pyNext_list_end (I.ok.hd hc) st p.isList (by simp; omega) fun h' eb=>⟨rfl,I.turned (t':=s.toks) (fun b o hb e=>eb b o hb e) f0 f1 f3 f4 f5⟩
 self:=fun _ _ _ _ _ st h=>wpAny_pyIter_listiter st h
theorem Vz {P:Program} {w:World} {K:PySem.W.Frag} {tg:Expr} (a it:Addr):Turn P w K tg (Itt K a) [it] it (fun i h=>h.IsTupleIter it a i) where
 mem:=by simp
 obj:=fun i h st b hb=>by
  have e:b=it:=by simpa using hb
  subst e;obtain ⟨o,e,c,d⟩:=st;exact ⟨o,e,fun v z=>by rw [d] at z; cases z⟩
 keep:=fun i h h' st k=>st.at fun o e=>k it (by simp) o e
 item:=by
  intro X hP hw hK hc i pins s σ H E I hf st hg;subst hP hw hK;obtain ⟨xs,x,hq,hx⟩:=hg;obtain ⟨ae,rv,p,hz⟩:=I.tuple hq;obtain ⟨u,hu,ru⟩:=rv.get hx;obtain ⟨f0,f1,f2,f3,f4,f5⟩:=hf it (by simp);refine wpAny_pyNext_tuple_item st (show s.heap.IsTuple a ae.toArray from p) (x:=u) (by simpa using hu) fun h' aa sb=>?_;have I1:Inv X pins σ H { s with heap:=h' }:=I.turned (t':=s.toks) (fun b o hb e=>(sb.2 b hb).trans e) f0 f1 f3 f4 f5;obtain ⟨o,e,c,d⟩:=id aa;exact ⟨u,rfl,a0g (s:={ s with heap:=h' }) e c d (by decide) ⟨x,H,I1,ru,⟨rfl,fun ys hy=>by rw [I.Wr hy hq]; exact hx⟩,aa,fun b hb=>(hf b hb).1⟩⟩
 done:=by
  intro X hP hw hK hc i pins s σ H E I hf st hg;subst hP hw hK;obtain ⟨xs,hq,hx⟩:=hg;obtain ⟨ae,rv,p,hz⟩:=I.tuple hq;obtain ⟨f0,f1,f2,f3,f4,f5⟩:=hf it (by simp);have hl:=rv.length;exact wpAny_pyNext_tuple_end (I.ok.hd hc) st (show s.heap.IsTuple a ae.toArray from p) (by simp; omega) fun h' eb=>⟨rfl,I.turned (t':=s.toks) (fun b o hb e=>eb b o hb e) f0 f1 f3 f4 f5⟩
 self:=fun _ _ _ _ _ st h=>wpAny_pyIter_tupleiter st h
theorem Vj {P:Program} {w:World} {K:PySem.W.Frag} {tg:Expr} (it:Addr) (lo:Int) (n:Nat):Turn P w K tg (Itr lo n) [it] it (fun i h=>IsRangeIter h it (lo+(i:Nat) * 1) ((n:Int) - (i:Nat)) 1) where
 mem:=by simp
 obj:=fun i h st b hb=>by
  have e:b=it:=by simpa using hb
  subst e
  exact ⟨_,st,fun v z=>by
   have z':Data.fields _=Data.cell v:=z;cases z'⟩
 keep:=fun i h h' st k=>k it (by simp) _ st
 item:=by
  intro X hP hw hK hc i pins s σ H E I hf st hg;subst hP hw hK;obtain ⟨f0,f1,f2,f3,f4,f5⟩:=hf it (by simp);have W:=Walks.range (prog:=X.prog) (w:=X.w) (I.ok.hd hc) it lo 1 n;refine W.item i s _ _ hg st fun v h' tk hv aa kk=>?_;obtain ⟨t,rfl⟩:=hv;have I1:Inv X pins σ H { s with heap:=h',toks:=tk }:=I.turned (fun b o hb e=>kk b o (by simpa using hb) e) f0 f1 f3 f4 f5;refine ⟨_,rfl,a0g (s:={ s with heap:=h',toks:=tk }) (n := "range_iterator") aa rfl rfl (by decide) ⟨.int (lo+i),H,I1,⟨t,?_⟩,⟨rfl,rfl⟩,aa,fun b hb=>(hf b hb).1⟩⟩;rw [Int.mul_one]
 done:=by
  intro X hP hw hK hc i pins s σ H E I hf st hg;subst hP hw hK;obtain ⟨f0,f1,f2,f3,f4,f5⟩:=hf it (by simp);exact wpAny_pyNext_range_end (I.ok.hd hc) st (by have:n<=i:=hg; omega) fun h' eb=>⟨rfl,I.turned (t':=s.toks) (fun b o hb e=>eb b o hb e) f0 f1 f3 f4 f5⟩
 self:=fun _ _ _ _ _ st h=>wpAny_pyIter_rangeiter st h
end L2
namespace L2
open PySem PySem.Spec PyProof.Rows
section
variable {X:Cx} {tg:Expr}
theorem a0a {pins:List (Addr × Obj)} {σ:St} {H:Hp} {s:Shared} {R:It->Hp->Prop} {E:Value->Shared->Prop} {lo hi:Int} {t u v:Tok} {tk:Nat} (I:Inv X pins σ H s) (h1:-(2 ^ 62)<=lo) (h2:lo<2 ^ 62) (h3:-(2 ^ 62)<=hi) (h4:hi<2 ^ 62)
  (q:R (Itr lo (hi - lo).toNat) H):wpAny (model X.prog X.w) X.A (pyIter (.ref s.heap.objs.size)) (PIE X pins σ tg R) E { s with heap:=s.heap.push { cls:=.type "range",data:=.fields #[.int lo t,.int hi u,.int 1 v] },toks:=tk }:=by
 refine wpAny_pyIter_range (IsRange.new ..) (small_one h1 h2 h3 h4) ?_;have I1:Inv X pins σ H { s with heap:=s.heap.push { cls:=.type "range",data:=.fields #[.int lo t,.int hi u,.int 1 v] },toks:=tk }:=I.kept fun b o e=>Heap.get?_push_of_some _ e
 refine ⟨(s.heap.push { cls:=.type "range",data:=.fields #[.int lo t,.int hi u,.int 1 v] }).objs.size,[(s.heap.push { cls:=.type "range",data:=.fields #[.int lo t,.int hi u,.int 1 v] }).objs.size],_,_,H,rfl,
  I1.kept (t':=tk) fun b o e=>Heap.get?_push_of_some _ e,Vj _ lo (hi - lo).toNat,?_,fun b hb=>?_,q⟩
 ·have e1:lo+((0:Nat):Int) * 1=lo:=by simp
  have e2:(((hi - lo).toNat:Nat):Int) - ((0:Nat):Int)=Builtin.Range.rangeSize lo hi 1:=by rw [rangeSize_one]; split <;> omega
  show IsRangeIter _ _ (lo+((0:Nat):Int) * 1) ((((hi - lo).toNat:Nat):Int) - ((0:Nat):Int)) 1;rw [e1,e2];exact Heap.get?_push_size _ rfl
 ·have e:b=(s.heap.push { cls:=.type "range",data:=.fields #[.int lo t,.int hi u,.int 1 v] }).objs.size:=by simpa using hb
  subst e;exact I1.a8r (Nat.le_refl _) (I1.hok.fresh (Nat.le_refl _))
noncomputable def aay (ta:TA):TI:=fun σ H R=>ta σ H fun vs H1=>∃ j:Int,vs=[.int j]/\-(2 ^ 62)<=j/\j<2 ^ 62/\R (Itr 0 j.toNat) H1
theorem Zz {a:Expr} {ta:TA} {p pos:Pos} (hg:Gl X "range") (hm:X.mg "range" = none) (ha:PA X [a] ta) (hs:starEach [a] X.env=[(false,eval a X.env)]:=by rfl):PI X tg (.Call (.Name "range" p) [a] [] pos) (aay ta):=by
 intro pins s σ H R I h;refine Call_ (Ut I hg hm boot_range (PyProof.Rows.callWith_type1 (thn (ha pos pins s σ H _ I h) fun us s1 z0=>?_) hs rfl));obtain ⟨vs,H1,I1,r1,q1⟩:=z0;obtain ⟨j,e,q1,q2,q⟩:=q1;subst e;cases r1 with
 | cons r rr =>
  cases rr;obtain ⟨t,rfl⟩:=r;exact call_range_1 (a0a I1 (by omega) (by omega) q1 q2 (by simpa using q))
noncomputable def aer (wi:TI) (g:TG) (tb:TS):TS:=fun D σ H=>wi σ H fun J H1=>∃ W:Nat->Nat->St->Hp->Prop,(∃ m,W 0 m σ H1)/\∀ i m σ H,W i m σ H ->
 (J.stop i H/\D.nx σ H)\/(J.go i H/\∃ N:St->Hp->Prop,(∀ σ' H',N σ' H'->∃ m',m'<m/\W (i+1) m' σ' H')/\∀ x H',J.yld i H x H'->g x σ H' fun bL H2=>tb { D with nx:=N,ct:=N,bk:=D.nx } bL H2)
def Pg (fp:List Addr) (h:Heap):List (Addr × Obj):=fp.filterMap fun b=>(h.get? b).map fun o=>(b,o)
theorem Av {fp:List Addr} {h:Heap} {b:Addr} {o:Obj} (hb:b∈fp) (e:h.get? b=some o):(b,o)∈Pg fp h:=List.mem_filterMap.mpr ⟨b,hb,by rw [e]; rfl⟩
theorem Xz {fp:List Addr} {h:Heap} {p:Addr × Obj} (hp:p∈Pg fp h):p.1∈fp/\h.get? p.1=some p.2:=by
 obtain ⟨b,hb,e⟩:=List.mem_filterMap.mp hp;cases q:h.get? b with
 | none=>rw [q] at e; cases e
 | some o =>
  rw [q] at e;have e':(b,o)=p:=Option.some.inj e;subst e';exact ⟨hb,q⟩
theorem Inv.pinned {pins:List (Addr × Obj)} {σ:St} {H:Hp} {s:Shared} {fp:List Addr} (I:Inv X pins σ H s) (hf:∀ b∈fp,Q6 X pins H b) (ho:∀ b∈fp,∃ o,s.heap.get? b=some o/\∀ v,o.data≠.cell v):Inv X (pins++Pg fp s.heap) σ H s :=
 I.G8 fun p hp=>(List.mem_append.mp hp).elim (fun z=>I.pin p (List.mem_append_right _ z)) fun z=>by
  obtain ⟨hb,e⟩:=Xz z;obtain ⟨f0,f1,f2,_⟩:=hf p.1 hb;obtain ⟨o,e',d⟩:=ho p.1 hb;rw [e] at e'; cases e';exact ⟨e,f0,f1,f2,d⟩
theorem Inv.Fe {pins pl:List (Addr × Obj)} {σ:St} {H:Hp} {s:Shared} (I:Inv X (pins++pl) σ H s):Inv X pins σ H s:=I.G8 fun p hp=>I.pin p (List.mem_append_right _ (List.mem_append_left _ hp))
theorem a94 {iter:Expr} {body:List Stmt} {wi:TI} {g:TG} {tb:TS} {pos:Pos} (hp:PassesOwn (model X.prog X.w) X.A X.env X.xe) (hc:X.calm=true) (hi:PI X tg iter wi) (hg:PG X tg g) (hb:PSs X body tb)
  (hs:∀ x,foldedSetIterable iter X.env x=pure x:=by intro _; rfl):PS X (.For tg iter body [] pos) (aer wi g tb):=by
 intro pins s σ H D I h;refine wpAny_For (thn (hi pins s σ H _ I h) fun v s1 h1=>thn h1 fun bY s2 h2=>?_) hs;obtain ⟨it,fp,tn,J,H2,e,I2,T,bU,f2,W,⟨m0,w0⟩,turn⟩:=h2;subst e;have bg:∀ {H':Hp},(∀ b∈fp,H' b=none)->∀ b∈fp,Q6 X pins H' b:=fun hn b hb=>⟨hn b hb,(f2 b hb).2⟩;refine codeAny_forLoop_any (fun n s'=>∃ i σ' H',Inv X pins σ' H' s'/\tn i s'.heap/\(∀ b∈fp,H' b=none)/\W i n σ' H') ?_ m0 ⟨0,σ,H2,I2,bU,fun b hb=>(f2 b hb).1,w0⟩;rintro n s3 ⟨i,bK,H3,I3,st3,fr3,w3⟩;rcases turn i n bK H3 w3 with ⟨stop,qn⟩ | ⟨go,N,hN,step⟩
 ·refine wpAny_passesOwn hp (thn (T.done X rfl rfl rfl hc i pins s3 bK H3 X.xe I3 (bg fr3) st3 stop) fun r s4 z0=>?_);obtain ⟨hr,I4⟩:=z0;subst hr;exact wpAny_execs_nil ⟨bK,H3,I4,qn⟩
 ·refine wpAny_passesOwn hp (thn (T.item X rfl rfl rfl hc i pins s3 bK H3 X.xe I3 (bg fr3) st3 go) fun r s4 z0=>?_);obtain ⟨u,hr,h4⟩:=z0;subst hr;refine wpAny_passesOwn hp (thn h4 fun _ s5 z0=>?_);obtain ⟨x,H5,I5,r5,y5,st5,fr5⟩:=z0;have gS:=I5.pinned (bg fr5) (T.obj _ _ st5);refine wpAny_passesOwn hp (thn (hg _ s5 bK H5 x u _ gS r5 (step x H5 y5)) fun _ s6 z0=>?_);obtain ⟨σ6,H6,I6,q6⟩:=z0;refine wpAny_passesOwn hp (thn (hb _ s6 σ6 H6 _ I6 q6) fun f s7 q7=>?_)
  have again:∀ {a8:St} {H7:Hp},Inv X (pins++Pg fp s5.heap) a8 H7 s7->N a8 H7->∃ m,m<n/\∃ i σ' H',Inv X pins σ' H' s7/\tn i s7.heap/\(∀ b∈fp,H' b=none)/\W i m σ' H':=fun {a8 H7} I7 n7=>by
   obtain ⟨m',hm,w7⟩:=hN a8 H7 n7;refine ⟨m',hm,i+1,a8,H7,I7.Fe,T.keep _ _ _ st5 fun b hb o e=>(I7.pin (b,o) (List.mem_append_right _ (List.mem_append_right _ (Av hb e)))).1,fun b hb=>?_,w7⟩;obtain ⟨o,e,d⟩:=T.obj _ _ st5 b hb;exact (I7.pin (b,o) (List.mem_append_right _ (List.mem_append_right _ (Av hb e)))).2.1
  cases f with
  | next=>obtain ⟨a8,H7,I7,n7⟩:=q7; exact again I7 n7
  | cont=>obtain ⟨a8,H7,I7,n7⟩:=q7; exact again I7 n7
  | brk=>obtain ⟨a8,H7,I7,q7⟩:=q7; exact ⟨a8,H7,I7.Fe,q7⟩
  | ret v=>obtain ⟨x7,a8,H7,I7,r7,q7⟩:=q7; exact ⟨x7,a8,H7,I7.Fe,r7,q7⟩
end
end L2
namespace L2
open PySem PySem.Spec PyProof.Rows
abbrev R2:=V->V->Hp->VK->Prop
def OpR (X:Cx) (f:Value->Value->Sem Value) (r:R2):Prop :=
 ∀ (pins:List (Addr × Obj)) (s:Shared) (σ:St) (H:Hp) (x y:V) (v u:Value) (Q:VK),Inv X pins σ H s->RelV x v->RelV y u->r x y H Q ->
  wpAny (model X.prog X.w) X.A (f v u) (EP X pins σ Q) X.xe s
def UnR (X:Cx) (f:Value->Sem Value) (r:V->Hp->VK->Prop):Prop :=
 ∀ (pins:List (Addr × Obj)) (s:Shared) (σ:St) (H:Hp) (x:V) (v:Value) (Q:VK),Inv X pins σ H s->RelV x v->r x H Q ->
  wpAny (model X.prog X.w) X.A (f v) (EP X pins σ Q) X.xe s
def Gq (X:Cx) (f:Value) (r:List V->Hp->VK->Prop):Prop :=
 ∀ (pins:List (Addr × Obj)) (s:Shared) (σ:St) (H:Hp) (xs:List V) (us:List Value) (Q:VK),Inv X pins σ H s->Vals xs us->r xs H Q ->
  wpAny (model X.prog X.w) X.A (call f us) (EP X pins σ Q) X.xe s
def tOp (r:R2) (ta tb:TE):TE:=fun σ H Q=>ta σ H fun x H1=>tb σ H1 fun y H2=>r x y H2 Q
def tUn (r:V->Hp->VK->Prop) (ta:TE):TE:=fun σ H Q=>ta σ H fun x H1=>r x H1 Q
def rI (C:Int->Int->Prop) (g:Int->Int->V):R2:=fun x y H Q=>∃ i j,x=.int i/\y=.int j/\C i j/\Q (g i j) H
def rI0 (g:Int->Int->V):R2:=fun x y H Q=>∃ i j,x=.int i/\y=.int j/\Q (g i j) H
def rU (g:Int->V):V->Hp->VK->Prop:=fun x H Q=>∃ i,x=.int i/\Q (g i) H
section
variable {X:Cx} {a b c:Expr} {ta tb tc:TE} {pos:Pos}
theorem acn (ha:PE X a ta) (hb:PE X b tb) {pins:List (Addr × Obj)} {s:Shared} {σ:St} {H:Hp} {R:V->V->Hp->Prop} (I:Inv X pins σ H s)
  (h:ta σ H fun x H1=>tb σ H1 fun y H2=>R x y H2) {Q:Value->Shared->Prop} {f:Value->Value->Sem Value}
  (hf:∀ v u s2 x y H2,Inv X pins σ H2 s2->RelV x v->RelV y u->R x y H2->wpAny (model X.prog X.w) X.A (f v u) Q X.xe s2) :
  wpAny (model X.prog X.w) X.A (eval a X.env) (fun v ah=>wpAny (model X.prog X.w) X.A (eval b X.env) (fun u ax=>wpAny (model X.prog X.w) X.A (f v u) Q X.xe ax) X.xe ah) X.xe s:=by
 refine thn (ha pins s σ H _ I h) fun v s1 z0=>?_;obtain ⟨x,H1,I1,r1,q1⟩:=z0;refine thn (hb pins s1 σ H1 _ I1 q1) fun u s2 z0=>?_;obtain ⟨y,H2,I2,r2,q2⟩:=z0;exact hf v u s2 x y H2 I2 r1 r2 q2
theorem Wf {op:Operator} {r:R2} (ho:OpR X (binaryOp op) r) (ha:PE X a ta) (hb:PE X b tb):PE X (.BinOp a op b pos) (tOp r ta tb):=by
 intro pins s σ H Q I h;exact wpAny_BinOp (acn ha hb I h fun v u s2 x y H2 I2 rx ry q=>ho pins s2 σ H2 x y v u Q I2 rx ry q)
theorem a9r {op:UnaryOp} {r:V->Hp->VK->Prop} (ho:UnR X (unaryOp op) r) (ha:PE X a ta):PE X (.UnaryOp op a pos) (tUn r ta):=by
 intro pins s σ H Q I h;exact UnaryOp_ (thn (ha pins s σ H _ I h) fun v s1 z7=>by obtain ⟨x,H1,I1,r1,q1⟩:=z7; exact ho pins s1 σ H1 x v Q I1 r1 q1)
theorem opI {f:Value->Value->Sem Value} {C:Int->Int->Prop} {g:Int->Int->Int}
  (rule:∀ (i j:Int) (t u:Tok) (s:Shared) (Q:Value->Shared->Prop) (E:Value->Shared->Prop),C i j->Q (.int (g i j) s.toks) { s with toks:=s.toks+1 }->wpAny (model X.prog X.w) X.A (f (.int i t) (.int j u)) Q E s) :
  OpR X f (rI C fun i j=>.int (g i j)):=by
 intro pins s σ H x y v u Q I rx ry h;obtain ⟨i,j,rfl,rfl,hc,q⟩:=h;obtain ⟨t,rfl⟩:=rx;obtain ⟨t',rfl⟩:=ry;exact rule i j t t' s _ _ hc ⟨.int (g i j),H,I.tok _,⟨_,rfl⟩,q⟩
theorem aeb {f:Value->Value->Sem Value} {g:Int->Int->Int}
  (rule:∀ (i j:Int) (t u:Tok) (s:Shared) (Q:Value->Shared->Prop) (E:Value->Shared->Prop),Q (.int (g i j) s.toks) { s with toks:=s.toks+1 }->wpAny (model X.prog X.w) X.A (f (.int i t) (.int j u)) Q E s) :
  OpR X f (rI0 fun i j=>.int (g i j)):=by
 intro pins s σ H x y v u Q I rx ry h;obtain ⟨i,j,rfl,rfl,q⟩:=h;obtain ⟨t,rfl⟩:=rx;obtain ⟨t',rfl⟩:=ry;exact rule i j t t' s _ _ ⟨.int (g i j),H,I.tok _,⟨_,rfl⟩,q⟩
theorem aat {f:Value->Value->Sem Value} {g:Int->Int->Bool}
  (rule:∀ (i j:Int) (t u:Tok) (s:Shared) (Q:Value->Shared->Prop) (E:Value->Shared->Prop),Q (.bool (g i j)) s->wpAny (model X.prog X.w) X.A (f (.int i t) (.int j u)) Q E s) :
  OpR X f (rI0 fun i j=>.bl (g i j)):=by
 intro pins s σ H x y v u Q I rx ry h;obtain ⟨i,j,rfl,rfl,q⟩:=h;obtain ⟨t,rfl⟩:=rx;obtain ⟨t',rfl⟩:=ry;exact rule i j t t' s _ _ ⟨.bl (g i j),H,I,rfl,q⟩
def ac8 (i j:Int):Prop:=(-(2 ^ 64)<i/\i<2 ^ 64)\/(-(2 ^ 64)<j/\j<2 ^ 64)
theorem ac8.ok {i j:Int} (h:ac8 i j):IntMulOk i j:=by
 rcases h with ⟨h1,h2⟩ | ⟨h1,h2⟩
 ·exact .of_left (intBits_le_64 h1 h2)
 ·exact .of_right (intBits_le_64 h1 h2)
theorem a92:OpR X (binaryOp .Add) (rI0 fun i j=>.int (i+j)):=aeb fun _ _ _ _ _ _ _ q=>add_int q
theorem a7y:OpR X (binaryOp .Mult) (rI ac8 fun i j=>.int (i * j)):=opI fun _ _ _ _ _ _ _ hc q=>mul_int q hc.ok
theorem a82:OpR X (binaryOp .Mod) (rI (fun _ j=>0<j) fun i j=>.int (i%j)):=opI fun i j _ _ _ _ _ hc q=>by
 have h1:(0:Int)<j:=hc;exact mod_int' (by omega) (by rw [Int.fmod_eq_emod_of_nonneg i (by omega)]; exact q)
theorem unI {f:Value->Sem Value} {g:Int->Int}
  (rule:∀ (i:Int) (t:Tok) (s:Shared) (Q:Value->Shared->Prop) (E:Value->Shared->Prop),Q (.int (g i) s.toks) { s with toks:=s.toks+1 }->wpAny (model X.prog X.w) X.A (f (.int i t)) Q E s) :
  UnR X f (rU fun i=>.int (g i)):=by
 intro pins s σ H x v Q I rx h;obtain ⟨i,rfl,q⟩:=h;obtain ⟨t,rfl⟩:=rx;exact rule i t s _ _ ⟨.int (g i),H,I.tok _,⟨_,rfl⟩,q⟩
theorem a3w:UnR X (unaryOp .USub) (rU fun i=>.int (-i)):=unI fun _ _ _ _ _ q=>neg_int q
end
section
variable {X:Cx} {a b c:Expr} {ta tb tc:TE} {pos:Pos}
theorem aci:OpR X (compareOp .Lt) (rI0 fun i j=>.bl (decide (i<j))):=aat fun _ _ _ _ _ _ _ q=>lt_int q
theorem aau:OpR X (compareOp .LtE) (rI0 fun i j=>.bl (decide (i<=j))):=aat fun _ _ _ _ _ _ _ q=>le_int q
theorem abm:OpR X (compareOp .Gt) (rI0 fun i j=>.bl (decide (j<i))):=aat fun _ _ _ _ _ _ _ q=>gt_int q
theorem abq:OpR X (compareOp .GtE) (rI0 fun i j=>.bl (decide (j<=i))):=aat fun _ _ _ _ _ _ _ q=>ge_int q
theorem m8 (b:Expr) {op:CmpOp} (h:op≠.In:=by decide) (h2:op≠.NotIn:=by decide):behindInMarks op b=false:=by
 have e1:(op==CmpOp.In)=false:=by cases op <;> first | rfl | exact absurd rfl h
 have e2:(op==CmpOp.NotIn)=false:=by cases op <;> first | rfl | exact absurd rfl h2
 cases b <;> simp [behindInMarks,e1,e2]
theorem a6t {op:CmpOp} {r:R2} (ho:OpR X (compareOp op) r) (ha:PE X a ta) (hb:PE X b tb) (hm:behindInMarks op b=false):PE X (.Compare a [op] [b] pos) (tOp r ta tb):=by
 intro pins s σ H Q I h;exact wpAny_Compare1 (acn ha hb I h fun v u s2 x y H2 I2 rx ry q=>ho pins s2 σ H2 x y v u Q I2 rx ry q) hm
def a8y (t:TE):TT:=fun σ H Q=>t σ H fun x H'=>∃ k,x=.bl k/\Q k H'
theorem a5r {op:CmpOp} {r:R2} (ho:OpR X (compareOp op) r) (ha:PE X a ta) (hb:PE X b tb) (hm:behindInMarks op b=false):PT X (.Compare a [op] [b] pos) (a8y (tOp r ta tb)):=by
 intro pins s σ H Q I h
 refine wpAny_isTrue_Compare1 (thn (ha pins s σ H _ I h) fun v s1 ⟨x,H1,I1,r1,q1⟩=>thn (hb pins s1 σ H1 _ I1 q1) fun u s2 ⟨y,H2,I2,r2,q2⟩ =>
  thn (ho pins s2 σ H2 x y v u _ I2 r1 r2 q2) fun c s3 ⟨z,H3,I3,r3,k,e,q3⟩=>?_) hm
 subst e;cases r3;exact wpAny_truthy_bool ⟨H3,I3,q3⟩
noncomputable def a3r (r r':R2) (ta tb tc:TE):TE:=fun σ H Q=>ta σ H fun x H1=>tb σ H1 fun y H2=>r x y H2 fun z H3=>∃ k,z=.bl k /\
 (if k=true then tc σ H3 fun w' H4=>r' y w' H4 Q else Q (.bl false) H3)
theorem a2e {op cH:CmpOp} {r r':R2} (ho:OpR X (compareOp op) r) (aT:OpR X (compareOp cH) r') (ha:PE X a ta) (hb:PE X b tb) (hc:PE X c tc)
  (hm:lastMarks [op,cH] [b,c]=false:=by with_unfolding_all rfl):PE X (.Compare a [op,cH] [b,c] pos) (a3r r r' ta tb tc):=by
 intro pins s σ H Q I h
 refine Compare_chain (thn (ha pins s σ H _ I h) fun v s1 ⟨x,H1,I1,r1,q1⟩=>chain_link (thn (hb pins s1 σ H1 _ I1 q1) fun u s2 ⟨y,H2,I2,r2,q2⟩ =>
  thn (ho pins s2 σ H2 x y v u _ I2 r1 r2 q2) fun d s3 ⟨z,H3,I3,r3,k,e,q3⟩=>?_)) hm
 subst e;cases r3;refine wpAny_truthy_bool ?_;cases k with
 | false=>exact ite_ff ⟨.bl false,H3,I3,rfl,q3⟩
 | true=>exact ite_tt (chain_last (thn (hc pins s3 σ H3 _ I3 q3) fun w' s4 z7=>by obtain ⟨z',H4,I4,r4,q4⟩:=z7; exact aT pins s4 σ H4 y z' u w' Q I4 r2 r4 q4))
theorem Oa:(sizeLine:Nat)<2 ^ 63:=by rw [sizeLine_eq]; decide
theorem Vf:OpR X (binaryOp .Add) (fun x y H Q=>∃ i j,x=.str i/\y=.str j/\i.length+j.length<=sizeLine/\Q (.str (i++j)) H):=by
 intro pins s σ H x y v u Q I rx ry h;obtain ⟨i,j,rfl,rfl,hz,q⟩:=h;obtain ⟨t,rfl⟩:=rx;obtain ⟨t',rfl⟩:=ry;exact add_str (fun t' tk=>⟨.str (i++j),H,I.tok _,⟨_,rfl⟩,q⟩) hz
theorem vals1 {x:V} {us:List Value} (r:Vals [x] us):∃ u,us=[u]/\RelV x u:=by
 cases r with
 | cons r1 r2=>cases r2; exact ⟨_,rfl,r1⟩
theorem a1d:Gq X (.builtin "abs") (fun xs H Q=>∃ i,xs=[.int i]/\Q (.int (if i<0 then -i else i)) H):=by
 intro pins s σ H xs us Q I r h;obtain ⟨i,rfl,q⟩:=h;obtain ⟨u,rfl,t,rfl⟩:=vals1 r;exact call_abs_int fun u tk=>⟨.int (if i<0 then -i else i),H,I.tok _,⟨_,rfl⟩,q⟩
theorem Pb:Gq X (.type "str") (fun xs H Q=>∃ i,xs=[.int i]/\i.natAbs.log2<1920/\Q (.str (toString i)) H):=by
 intro pins s σ H xs us Q I r h;obtain ⟨i,rfl,hz,q⟩:=h;obtain ⟨u,rfl,t,rfl⟩:=vals1 r;exact PySem.P.str_of_int hz ⟨.str _,H,I.tok _,⟨_,rfl⟩,q⟩
end
end L2
namespace L2
open PySem PySem.Spec PyProof.Rows
structure a78 (h:Heap) (x dx C:Addr) (mA:Str->Option Value):Prop where
 obj:h.get? x=some (PySem.W.instObj C dx)
 ns:h.Ns1 dx mA
 ne:dx≠x
theorem Z8 {h:Heap} {dx:Addr} {mA:Str->Option Value} (n:h.Ns1 dx mA):∃ od,h.get? dx=some od/\∀ name,PySem.W.lookIn name od=some (mA name):=by
 obtain ⟨o,es,ep,ho,hd,hk,_,hm⟩:=n;refine ⟨o,ho,fun name=>?_⟩;have e:=hm name;unfold nsFind findBy at e;rw [<- Array.find?_toList] at e;unfold PySem.W.lookIn;rw [hd];dsimp only;split
 ·rename_i y q;rw [q] at e;exact congrArg some e
 ·rename_i q;rw [q] at e
  have a:es.toList.any (·.refKey)=false:=by
   rw [List.any_eq_false];intro y hy;obtain ⟨z,t,hkey⟩:=hk y (Array.mem_toList_iff.mp hy);simp [DictEntry.refKey,hkey]
  have a':¬ es.toList.any (·.refKey)=true:=by rw [a]; exact Bool.false_ne_true
  rw [if_neg a'];exact congrArg some e
theorem a78.look {h:Heap} {x dx C:Addr} {mA:Str->Option Value} (I:a78 h x dx C mA):∃ od,PySem.W.InstAt h x (PySem.W.instObj C dx) C (some od)/\∀ name,PySem.W.lookIn name od=some (mA name) :=
 let ⟨od,ho,hl⟩:=Z8 I.ns
 ⟨od,⟨I.obj,rfl,rfl,ho⟩,hl⟩
section
variable {prog:Program} {w:World} {A:Around} {E:Value->Shared->Prop} {s:Shared} {K:PySem.W.Frag} {x dx C f:Addr} {mA:Str->Option Value} {name:Str} {v:Value}
theorem get_map {expr:Bool} {Q:Value->Shared->Prop} (X:K.In s.heap) (I:a78 s.heap x dx C mA) (hg:PySem.W.plainGet K C name=true) (hh:PySem.W.hasDictIn K C=true)
  (ha:PySem.W.findIn K (.ref C) name=some none) (hv:mA name=some v) (fq:PySem.W.handedIn v=true) (h:Q v { s with toks:=s.toks+1 }) :
  wpAny (model prog w) A (getAttr (.ref x) name expr) Q E s:=by
 obtain ⟨od,J,hl⟩:=I.look;exact PySem.W.get_value X J (PySem.W.plainGet_of hg).1 (PySem.W.findObj_own hh ha rfl (by rw [hl,hv])) fq h
theorem a1l {pl:Sem Bool} {Q:Value × List Value->Shared->Prop} (X:K.In s.heap) (I:a78 s.heap x dx C mA) (hg:PySem.W.plainGet K C name=true)
  (hf:PySem.W.findIn K (.ref C) name=some (some (.ref f))) (ht:PySem.W.isFn K (.ref f)=true) (hv:mA name=none) (h:Q (.ref f,[.ref x]) s) :
  wpAny (model prog w) A (getMethod (.ref x) name pl) Q E s:=by
 obtain ⟨od,J,hl⟩:=I.look;exact PySem.W.method_fn X J (PySem.W.plainGet_of hg).1 (PySem.W.plainGet_of hg).2 hf (beq_iff_eq.mp ht) (by show (PySem.W.lookIn name od).map (·.isSome)=some false; rw [hl,hv]; rfl) h
theorem a6k {ns:List Str} {Q:Unit->Shared->Prop} (X:K.In s.heap) (I:a78 s.heap x dx C mA)
  (hs:PySem.W.findIn K (.ref C) "__setattr__" = some (some (.builtin "object.__setattr__"))) (hp:PySem.W.plainOver K C=true) (ht:PySem.W.takerIn K C name=some none) (hh:PySem.W.hasDictIn K C=true)
  (hw:PySem.Within mA ns) (hsz:ns.length<=sizeLine)
  (h:∀ h',a78 h' x dx C (fun y=>if y=name then some v else mA y)->Heap.SameBut dx s.heap h'->Q () { s with heap:=h',toks:=s.toks+2 }) :
  wpAny (model prog w) A (setAttr (.ref x) name v) Q E s:=by
 obtain ⟨od,J,hl⟩:=I.look;refine PySem.W.set_plain X J hs (PySem.W.osa_open (s:={ s with toks:=s.toks+1 }) (r:=none) X J hp ht fun b=>?_);obtain ⟨cd,hc,hd'⟩:=PySem.W.any_some hh;have hx:s.heap.get? x=some ⟨.ref C,some dx,.plain,#[]⟩:=I.obj;refine wpAny_bind (wpAny_pure (wpAny_bind (wpAny_bind (wpAny_loadPart hx (wpAny_bind (PySem.W.Looks.here (s:={ s with toks:=s.toks+1 }) (PySem.W.looks_clsIn X hc) ?_))))));rw [hd'];refine wpAny_pure (a:=some dx) (wpAny_bind (wpAny_pure (wpAny_bind ?_)));refine wpAny_nsSet1 (s:={ s with toks:=s.toks+1 }) I.ns fun h' dH aU=>?_;obtain ⟨oD,esD,epD,hoD,hdD,hcD⟩:=dH.count (PySem.Within.cons name v hw);refine wpAny_bind (wpAny_lookBehind hoD (by rw [hdD]; exact pastItsLine_dict (Nat.le_trans hcD (by rw [List.length_cons]; omega))) ?_);exact wpAny_pure (h _ ⟨(aU.2 _ (Ne.symm I.ne)).trans I.obj,dH,I.ne⟩ aU)
theorem a3a {R:Result->Shared->Prop} {vs:List Value} {kw:List (Str × Value)} (X:K.In s.heap) (hm:PySem.W.makesIn K C=true)
  (hi:PySem.W.findIn K (.ref C) "__init__" = some (some (.ref f))) (hf:PySem.W.typeIn K (.ref f)=some (.type "function"))
  (h:codeAny (model prog w) (A.under (.builtin "type.__call__" ⟨.ref C::vs,kw⟩)) (.call (.ref f) ⟨.ref (s.heap.objs.size+1)::vs,kw⟩) (PySem.W.InitBack (s.heap.objs.size+1) R)
   { s with heap:=(s.heap.push PySem.W.emptyDict).push (PySem.W.instObj C s.heap.objs.size) }) :
  codeAny (model prog w) A (.call (.ref C) ⟨vs,kw⟩) R s:=by
 obtain ⟨hh,g,d,t,os⟩:=s;exact PySem.W.make_core (PySem.W.makes_of X hm) (PySem.W.looks_findIn X hi) (fun self=>PySem.W.bind_fn X self hf) (.inl rfl) h
end
noncomputable def M4 (f:Str) (v:V):List (Str × V)->List (Str × V)
 | []=>[(f,v)]
 | (g,x)::r=>if g=f then (g,v)::r else (g,x)::M4 f v r
theorem Ib (f g:Str) (v:V):∀ fs:List (Str × V),(M4 f v fs).lookup g=if g=f then some v else fs.lookup g
 | []=>by
  show List.lookup g [(f,v)]=_
  by_cases h:g=f
  ·have hb:(g==f)=true:=beq_iff_eq.mpr h;simp only [List.lookup,hb,if_pos h]
  ·have hb:(g==f)=false:=beq_eq_false_iff_ne.mpr h;simp only [List.lookup,hb,if_neg h]
 | (k,x)::r=>by
  have ih:=Ib f g v r;rw [show M4 f v ((k,x)::r)=(if k=f then (k,v)::r else (k,x)::M4 f v r) from rfl]
  by_cases hk:k=f
  ·rw [if_pos hk]
   by_cases h:g=k
   ·have hb:(g==k)=true:=beq_iff_eq.mpr h;simp only [List.lookup,hb,if_pos (h.trans hk)]
   ·have hb:(g==k)=false:=beq_eq_false_iff_ne.mpr h;simp only [List.lookup,hb,if_neg (fun e:g=f=>h (e.trans hk.symm))]
  ·rw [if_neg hk]
   by_cases h:g=k
   ·have hb:(g==k)=true:=beq_iff_eq.mpr h;simp only [List.lookup,hb,if_neg (fun e:g=f=>hk (h.symm.trans e))]
   ·have hb:(g==k)=false:=beq_eq_false_iff_ne.mpr h;simp only [List.lookup,hb];exact ih
theorem Il (f:Str) (v:V):∀ fs:List (Str × V),f∈(M4 f v fs).map (·.1)/\∀ g,g∈fs.map (·.1)->g∈(M4 f v fs).map (·.1)
 | []=>⟨by simp [M4],fun g h=>by simp at h⟩
 | (k,x)::r=>by
  obtain ⟨i1,i2⟩:=Il f v r;rw [show M4 f v ((k,x)::r)=(if k=f then (k,v)::r else (k,x)::M4 f v r) from rfl]
  by_cases hk:k=f
  ·rw [if_pos hk];subst hk;exact ⟨by simp,fun g h=>by simpa using h⟩
  ·rw [if_neg hk];refine ⟨?_,fun g h=>?_⟩
   ·rw [List.map_cons];exact List.mem_cons_of_mem _ i1
   ·rw [List.map_cons] at h ⊢;rcases List.mem_cons.mp h with e | e
    ·exact List.mem_cons.mpr (.inl e)
    ·exact List.mem_cons_of_mem _ (i2 g e)
theorem J8 (f:Str) (v:V):∀ fs:List (Str × V),(M4 f v fs).length<=fs.length+1
 | []=>by simp [M4]
 | (k,x)::r=>by
  have ih:=J8 f v r;rw [show M4 f v ((k,x)::r)=(if k=f then (k,v)::r else (k,x)::M4 f v r) from rfl]
  by_cases hk:k=f
  ·rw [if_pos hk,List.length_cons,List.length_cons]; omega
  ·rw [if_neg hk,List.length_cons,List.length_cons]; omega
theorem Le.some_of {v:V} {o:Option Value} (r:Le (some v) o):∃ u,o=some u/\RelV v u:=by
 cases o with
 | none=>exact (show False from r).elim
 | some u=>exact ⟨u,rfl,r⟩
theorem Le.none_of {o:Option Value} (r:Le none o):o=none:=by
 cases o with
 | none=>rfl
 | some u=>exact (show False from r).elim
theorem Zx {v:V} {u:Value} (r:RelV v u):PySem.W.handedIn u=true:=by
 cases v with
 | non=>cases (show u=Value.none from r); rfl
 | bl b=>cases (show u=Value.bool b from r); rfl
 | int i=>obtain ⟨t,e⟩:=(show ∃ t,u=Value.int i t from r); cases e; rfl
 | str x=>obtain ⟨t,e⟩:=(show ∃ t,u=Value.str x t from r); cases e; rfl
 | byt b=>obtain ⟨t,e⟩:=(show ∃ t,u=Value.bytes b t from r); cases e; rfl
 | flt b=>obtain ⟨t,e⟩:=(show ∃ t,u=Value.float b t from r); cases e; rfl
 | ref a=>cases (show u=Value.ref a from r); rfl
 | ty n=>cases (show u=Value.type n from r); rfl
section
variable {P:Program} {w:World} {H H':Hp} {h h':Heap} {a C dx:Addr} {fs c8:List (Str × V)}
theorem Lz (hok:HOk P w H h) (e:H a=some (.ins C dx fs)):∃ mA,a78 h a dx C mA/\(∀ f,Le (fs.lookup f) (mA f))/\PySem.Within mA (fs.map (·.1))/\fs.length<=1000/\H dx=some (.own a):=by
 obtain ⟨d,z,ne,ob,mA,n,r,q⟩:=(show ur P w H h a (.ins C dx fs) from hok a _ e);exact ⟨mA,⟨ob,n,ne⟩,r,q,z,d⟩
end
structure Cls (K:PySem.W.Frag) (C:Addr):Prop where
 pg:PySem.W.plainGet K C Str.empty=true
 hd:PySem.W.hasDictIn K C=true
 po:PySem.W.plainOver K C=true
 sa:PySem.W.findIn K (.ref C) "__setattr__" = some (some (.builtin "object.__setattr__"))
theorem Cls.get {K:PySem.W.Frag} {C:Addr} (c:Cls K C) (f:Str):PySem.W.plainGet K C f=true:=c.pg
def Bu (K:PySem.W.Frag) (C:Addr) (f:Str):Prop:=PySem.W.findIn K (.ref C) f=some none
theorem Bu.taker {K:PySem.W.Frag} {C:Addr} {f:Str} (n:Bu K C f):PySem.W.takerIn K C f=some none:=by
 unfold PySem.W.takerIn;rw [show PySem.W.findIn K (.ref C) f=some none from n];rfl
structure Con (K:PySem.W.Frag) (C:Addr) (f:Str) (v:V) (u:Value):Prop where
 at_:PySem.W.findIn K (.ref C) f=some (some u)
 rel:RelV v u
 get:PySem.W.specialIn K u "__get__" = some none
 cp:PySem.W.copiedNames.contains f=false
structure Meth (K:PySem.W.Frag) (C:Addr) (m:Str) (f:Addr):Prop where
 at_:PySem.W.findIn K (.ref C) m=some (some (.ref f))
 fn:PySem.W.isFn K (.ref f)=true
 kp:PySem.W.keepIn K (.ref f)=true
section
variable {X:Cx} {pins:List (Addr × Obj)} {σ:St} {H:Hp} {s:Shared} {a C dx:Addr} {fs:List (Str × V)} {f:Str} {v:V} {A:Around} {E:Value->Shared->Prop}
theorem Vx {b:Bool} {Q:Value->Shared->Prop} (I:Inv X pins σ H s) (e:H a=some (.ins C dx fs)) (c:Cls X.K C) (n:Bu X.K C f) (l:fs.lookup f=some v)
  (h:∀ u s',Inv X pins σ H s'->RelV v u->Q u s'):wpAny (model X.prog X.w) A (getAttr (.ref a) f b) Q E s:=by
 obtain ⟨mA,O,r,_,_,_⟩:=Lz I.hok e;obtain ⟨u,hu,ru⟩:=Le.some_of (v:=v) (o:=mA f) (by rw [<- l]; exact r f);exact get_map I.kIn O (c.get f) c.hd n hu (Zx ru) (h u _ (I.tok _) ru)
theorem K4 {m:Str} {g:Addr} {pl:Sem Bool} {Q:Value × List Value->Shared->Prop} (I:Inv X pins σ H s) (e:H a=some (.ins C dx fs)) (c:Cls X.K C) (k:Meth X.K C m g) (l:fs.lookup m=none)
  (h:Q (.ref g,[.ref a]) s):wpAny (model X.prog X.w) A (getMethod (.ref a) m pl) Q E s:=by
 obtain ⟨mA,O,r,_,_,_⟩:=Lz I.hok e;have hn:mA m=none:=Le.none_of (by rw [<- l]; exact r m);exact a1l I.kIn O (c.get m) k.at_ k.fn hn h
theorem Vr {y:V} {u:Value} {Q:Unit->Shared->Prop} (I:Inv X pins σ H s) (e:H a=some (.ins C dx fs)) (c:Cls X.K C) (n:Bu X.K C f) (hl:fs.length<1000) (ry:RelV y u)
  (h:∀ s',Inv X pins σ (upd H a (.ins C dx (M4 f y fs))) s'->Q () s'):wpAny (model X.prog X.w) A (setAttr (.ref a) f u) Q E s:=by
 obtain ⟨mA,O,r,wi,_,ho⟩:=Lz I.hok e;have hz:(fs.map (·.1)).length<=sizeLine:=by rw [List.length_map,sizeLine_eq]; omega
 refine a6k I.kIn O c.sa c.po n.taker c.hd wi hz fun h' O' sb=>h _ ?_;have hd:∃ o,h'.get? dx=some o:=let ⟨o,_,_,e',_⟩:=O'.ns; ⟨o,e'⟩;refine I.write (x:=a) (e:=dx) (by rw [e]; exact True.intro) (.inr ho) (fun b q hb z=>(sb.2 b hb).trans z) hd ?_;refine ⟨by rw [gb O.ne]; exact ho,?_,O.ne,O'.obj,_,O'.ns,fun g=>?_,fun g hg=>?_⟩
 ·have:=J8 f y fs; omega
 ·show Le ((M4 f y fs).lookup g) (if g=f then some u else mA g);rw [Ib]
  by_cases q:g=f
  ·rw [if_pos q,if_pos q]; exact ry
  ·rw [if_neg q,if_neg q]; exact r g
 ·by_cases q:g=f
  ·rw [q]; exact (Il f y fs).1
  ·refine (Il f y fs).2 g (wi g fun z=>hg ?_);show (if g=f then some u else mA g)=none;rw [if_neg q]; exact z
theorem Inv.made (I:Inv X pins σ H s):Inv X pins σ (upd (upd H s.heap.objs.size (.own (s.heap.objs.size+1))) (s.heap.objs.size+1) (.ins C s.heap.objs.size []))
  { s with heap:=(s.heap.push PySem.W.emptyDict).push (PySem.W.instObj C s.heap.objs.size) }:=by
 have e1:(s.heap.push PySem.W.emptyDict).get? s.heap.objs.size=some PySem.W.emptyDict:=Heap.get?_push_size s.heap rfl
 have e2:((s.heap.push PySem.W.emptyDict).push (PySem.W.instObj C s.heap.objs.size)).get? (s.heap.objs.size+1)=some (PySem.W.instObj C s.heap.objs.size):=by
  have:=Heap.get?_push_size (s.heap.push PySem.W.emptyDict) (o:=PySem.W.instObj C s.heap.objs.size) rfl
  rwa [Heap.size_push] at this
 have e3:(s.heap.push PySem.W.emptyDict).Ns s.heap.objs.size (fun _=>none):=⟨PySem.W.emptyDict,#[],_,e1,rfl,(fun e he=>absurd he (by simp)),fun _=>rfl⟩;have I1:=I.laid (a:=s.heap.objs.size) (o:=.own (s.heap.objs.size+1)) (h':=s.heap.push PySem.W.emptyDict) (t':=s.toks) (fun b u q=>Heap.get?_push_of_some _ q) (Nat.le_refl _) ⟨_,e1⟩;refine I1.laid (a:=s.heap.objs.size+1) (o:=.ins C s.heap.objs.size []) (t':=s.toks) (fun b u q=>Heap.get?_push_of_some _ q) (Nat.le_of_eq (Heap.size_push _ _)) ?_;have ne:s.heap.objs.size≠s.heap.objs.size+1:=Nat.ne_of_lt (Nat.lt_succ_self _);refine ⟨by rw [gb ne,dz],Nat.zero_le _,ne,e2,fun _=>none,(Heap.Ns1.of_empty e3).at fun o q=>Heap.get?_push_of_some _ q,fun _=>True.intro,fun y hy=>absurd rfl hy⟩
theorem Zn {prog:Program} {w:World} {env:Env} {e:Expr} {f:Str} {pos:Pos} {s:Shared} {Q:Value->Shared->Prop} (hb:attributeBase e f env (eval e env)=eval e env)
  (h:wpAny (model prog w) A (eval e env) (fun o ah=>wpAny (model prog w) A (getAttr o f true) Q E ah) E s):wpAny (model prog w) A (eval (.Attribute e f pos) env) Q E s :=
 Attribute_any_ h (by rw [arm_eval_Attribute,hb])
end
noncomputable def ado (K:PySem.W.Frag) (ta:TE) (f:Str):TE:=fun σ H Q=>ta σ H fun x H1=>∃ a C dx fs v,x=.ref a/\H1 a=some (.ins C dx fs)/\Cls K C/\Bu K C f/\fs.lookup f=some v/\Q v H1
noncomputable def adv (K:PySem.W.Frag) (ta tv:TE) (f:Str):TS:=fun D σ H=>tv σ H fun y H1=>ta σ H1 fun x H2=>∃ a C dx fs,x=.ref a/\H2 a=some (.ins C dx fs)/\Cls K C/\Bu K C f/\fs.length<1000 /\
 D.nx σ (upd H2 a (.ins C dx (M4 f y fs)))
section
variable {X:Cx} {o e value:Expr} {f:Str} {pos pos' aK:Pos} {ta tv:TE}
theorem a9e (he:PE X e ta) (hb:attributeBase e f X.env (eval e X.env)=eval e X.env):PE X (.Attribute e f pos) (ado X.K ta f):=by
 intro pins s σ H Q I h;refine Zn hb (thn (he pins s σ H _ I h) fun u s1 z0=>?_);obtain ⟨x,H1,I1,rx,a,C,dx,fs,v,ex,ea,c,n,l,q⟩:=z0;subst ex;obtain rfl:u=Value.ref a:=rx;exact Vx I1 ea c n l fun u' s2 I2 ru=>⟨v,H1,I2,ru,q⟩
theorem a3n (ha:PE X o ta) (hv:PE X value tv) (hs:swapsWith value (some (.Attribute o f pos')) pos.line X.env=pure false):PS X (.Assign [.Attribute o f pos'] value pos) (adv X.K ta tv f):=by
 intro pins s σ H D I h;refine plainObj_wpAny_Assign_Attribute (thn (hv pins s σ H _ I h) fun u s1 ⟨y,H1,I1,ry,q⟩=>thn (ha pins s1 σ H1 _ I1 q) fun ov s2 ⟨x,H2,I2,rx,a,C,dx,fs,ex,ea,c,n,l,q2⟩=>?_) hs;subst ex;obtain rfl:ov=Value.ref a:=rx;exact Vr I2 ea c n l ry fun s3 I3=>⟨σ,_,I3,q2⟩
end
section
variable {X:Cx} {pins:List (Addr × Obj)} {σ:St} {H:Hp} {s:Shared} {A:Around} {E:Value->Shared->Prop} {Q:Value->Shared->Prop} {c:Value} {b:Bool}
inductive Wc (K:PySem.W.Frag) (H:Hp):V->Value->Prop where
 | non:Wc K H .non (.type "NoneType")
 | bl (x:Bool):Wc K H (.bl x) (.type "bool")
 | int (i:Int):Wc K H (.int i) (.type "int")
 | str (x:Str):Wc K H (.str x) (.type "str")
 | flt (x:UInt64):Wc K H (.flt x) (.type "float")
 | lst {a:Addr} {xs:List V} (e:H a=some (.lst xs)):Wc K H (.ref a) (.type "list")
 | frz {a:Addr} {o:Obj} {xs:List V} (e:H a=some (.frz o (.lst xs))):Wc K H (.ref a) (.type "list")
 | tup {a:Addr} {xs:List V} (e:H a=some (.tup xs)):Wc K H (.ref a) (.type "tuple")
 | dK {a:Addr} {kvs:List (Key × V)} (e:H a=some (.dK kvs)):Wc K H (.ref a) (.type "dict")
 | dT {a:Addr} {kvs:List (List Key × V)} (e:H a=some (.dT kvs)):Wc K H (.ref a) (.type "dict")
 | ins {a C dx:Addr} {fs:List (Str × V)} (e:H a=some (.ins C dx fs)) (cl:Cls K C) (ha:PySem.W.findIn K (.ref C) "__class__" = some (some (.builtin "object.__class__")))
   (hn:PySem.W.specialIn K (.builtin "object.__class__") "__get__" = some (some (.builtin "getset_descriptor.__get__"))) (eZ:PySem.W.takesIn K (.builtin "object.__class__")=some true)
   (hm:PySem.W.mroIn K C (.type "object")=some true):Wc K H (.ref a) (.ref C)
theorem Ew {x:V} {u t:Value} (I:Inv X pins σ H s) (rx:RelV x u) (ty:Wc X.K H x t) (e:PySem.W.kitOne X.K t c=some b) (h:∀ tk,Q (.bool b) { s with toks:=tk }) :
  wpAny (model X.prog X.w) A (call (.builtin "isinstance") [u,c]) Q E s:=by
 cases ty with
 | non=>cases (show u=Value.none from rx); exact PySem.W.kia_one PySem.W.kitx_none I.kIn True.intro e (fun z=>nomatch z) h
 | bl y=>cases (show u=Value.bool y from rx); exact PySem.W.kia_one PySem.W.kitx_bool I.kIn True.intro e (fun z=>nomatch z) h
 | int i=>obtain ⟨t,q⟩:=(show ∃ t,u=Value.int i t from rx); cases q; exact PySem.W.kia_one PySem.W.kitx_int I.kIn True.intro e (fun z=>nomatch z) h
 | str y=>obtain ⟨t,q⟩:=(show ∃ t,u=Value.str y t from rx); cases q; exact PySem.W.kia_one PySem.W.kitx_str I.kIn True.intro e (fun z=>nomatch z) h
 | flt y=>obtain ⟨t,q⟩:=(show ∃ t,u=Value.float y t from rx); cases q; exact PySem.W.kia_one PySem.W.kitx_float I.kIn True.intro e (fun z=>nomatch z) h
 | @lst a xs ea =>
  cases (show u=Value.ref a from rx);obtain ⟨_,_,n,_,h1⟩:=(show ur X.prog X.w H s.heap a (.lst xs) from I.hok a _ ea);exact PySem.W.kia_one PySem.W.kitx_list I.kIn ⟨_,h1,rfl⟩ e (fun z=>nomatch z) h
 | @frz a ob xs ea =>
  cases (show u=Value.ref a from rx);obtain ⟨_,_,_,n,_,h1⟩:=(show ur X.prog X.w H s.heap a (.frz ob (.lst xs)) from I.hok a _ ea);exact PySem.W.kia_one PySem.W.kitx_list I.kIn ⟨_,h1,rfl⟩ e (fun z=>nomatch z) h
 | @tup a xs ea =>
  cases (show u=Value.ref a from rx);obtain ⟨_,_,_,p⟩:=(show ur X.prog X.w H s.heap a (.tup xs) from I.hok a _ ea);obtain ⟨o,h1,h2,_⟩:=p;exact PySem.W.kia_one PySem.W.kitx_tuple I.kIn ⟨o,h1,h2⟩ e (fun z=>nomatch z) h
 | @dK a kvs ea =>
  cases (show u=Value.ref a from rx);obtain ⟨_,_,vs,_,p⟩:=(show ur X.prog X.w H s.heap a (.dK kvs) from I.hok a _ ea);obtain ⟨o,es,ep,h1,h2,_⟩:=p;exact PySem.W.kia_one PySem.W.kitx_dict I.kIn ⟨o,h1,h2.1⟩ e (fun z=>nomatch z) h
 | @dT a kvs ea =>
  cases (show u=Value.ref a from rx);obtain ⟨_,_,xs,_,o,es,ep,h1,h2,_⟩:=(show ur X.prog X.w H s.heap a (.dT kvs) from I.hok a _ ea);exact PySem.W.kia_one PySem.W.kitx_dict I.kIn ⟨o,h1,h2.1⟩ e (fun z=>nomatch z) h
 | @ins a C dx fs ea cl ha hn eZ hm =>
  cases (show u=Value.ref a from rx);obtain ⟨mA,O,_⟩:=Lz I.hok ea;obtain ⟨od,J,_⟩:=O.look;exact PySem.W.kia_one (PySem.W.kitx_own (cl.get _) cl.hd ha hn eZ hm) I.kIn J e (fun z=>nomatch z) h
end
end L2
namespace L2
open PySem PySem.Spec PyProof.Rows
structure yw (k:Nat) (A:Around):Prop where
 hd:A.handled=none
 dp:A.depth+3 * k+5<recursionLimit
 un:A.units+16 * k+200<cLine
theorem yw.mono {j k:Nat} {A:Around} (r:yw k A) (h:j<=k):yw j A:=⟨r.hd,by have:=r.dp; omega,by have:=r.un; omega⟩
theorem yw.deeper {k:Nat} {A:Around} (r:yw (k+1) A) (env:Env):yw k (A.deeper env) :=
 ⟨r.hd,by have:=r.dp; show A.depth+1+3 * k+5<_; omega,by have:=r.un; show A.units+3+16 * k+200<_; omega⟩
theorem W9 {A:Around} {C:Addr} {us:List Value} {kw:List (Str × Value)}:(A.under (.builtin "type.__call__" ⟨.ref C::us,kw⟩)).depth=A.depth+1:=by
 first | rfl | simp [Around.under,Code.weight,Code.isCreation,Code.isGuard,Code.isCaller,Code.frames,Code.isFrame,guardIds]
theorem W5 {A:Around} {C:Addr} {us:List Value} {kw:List (Str × Value)}:(A.under (.builtin "type.__call__" ⟨.ref C::us,kw⟩)).units=A.units+1:=by
 first | rfl | simp [Around.under,Code.cUnits,Code.frames,Code.isFrame]
theorem yw.make {k:Nat} {A:Around} (r:yw (k+1) A) (C:Addr) (us:List Value) (kw:List (Str × Value)):yw k (A.under (.builtin "type.__call__" ⟨.ref C::us,kw⟩)) :=
 ⟨r.hd,by have:=r.dp; rw [W9]; omega,by have:=r.un; rw [W5]; omega⟩
theorem yw.depth {k:Nat} {A:Around} (r:yw k A):A.depth<recursionLimit:=by have:=r.dp; omega
theorem yw.units {k:Nat} {A:Around} (r:yw k A):A.units+64<cLine:=by have:=r.un; omega
def a7j:TA:=fun _ H Q=>Q [] H
def Xg (ta:TE) (tr:TA):TA:=fun σ H Q=>ta σ H fun x H1=>tr σ H1 fun xs H2=>Q (x::xs) H2
section
variable {X:Cx} {e:Expr} {es:List Expr} {te:TE} {t:TA} {pos:Pos}
theorem w6:PA X [] a7j:=fun _ _ _ _ H Q I h=>Calls.spliced_nil ⟨[],H,I,.nil,h⟩
theorem ql (ha:PE X e te) (hr:PA X es t) (hs:starEach (e::es) X.env=(false,eval e X.env)::starEach es X.env:=by rfl):PA X (e::es) (Xg te t):=by
 intro pos pins s σ H Q I h;rw [hs];show wpAny _ _ (spliced ((false,eval e X.env)::backTo pos (starEach es X.env))) _ _ s;refine Calls.spliced_cons (thn (ha pins s σ H _ I h) fun u s1 z0=>?_);obtain ⟨x,H1,I1,r1,q1⟩:=z0;exact thn (hr pos pins s1 σ H1 _ I1 q1) fun us s2 ⟨xs,H2,I2,r2,q2⟩=>⟨x::xs,H2,I2,.cons r1 r2,q2⟩
noncomputable def aea (t:TA):TE:=fun σ H Q=>t σ H fun xs H1=>xs.length<=sizeLine/\∀ p,H1 p=none->Q (.ref p) (upd H1 p (.tup xs))
noncomputable def adq (t:TA):TE:=fun σ H Q=>t σ H fun xs H1=>xs.length<=sizeLine/\∀ p,H1 p=none->Q (.ref p) (upd H1 p (.lst xs))
theorem a3q {x1} (h:PA X es t):PE X (.Tuple es x1 pos) (aea t):=by
 intro pins s σ H Q I hq;refine wpAny_Tuple_spliced (thn (h pos pins s σ H _ I hq) fun us s1 ⟨xs,H1,I1,r,z,q⟩=>⟨by rw [<- r.length]; exact z,?_⟩);have hf:H1 s1.heap.objs.size=none:=I1.hok.fresh (Nat.le_refl _);refine ⟨.ref s1.heap.objs.size,upd H1 s1.heap.objs.size (.tup xs),I1.laid (t':=s1.toks) (fun b u e=>Heap.get?_push_of_some _ e) (Nat.le_refl _) ?_,rfl,q _ hf⟩;exact ⟨z,us,r,⟨_,Heap.get?_push_size _ rfl,rfl,rfl,_,rfl⟩⟩
theorem Uw (h:PA X es t):PE X (.List es pos) (adq t):=by
 intro pins s σ H Q I hq;refine wpAny_List_spliced (thn (h pos pins s σ H _ I hq) fun us s1 ⟨xs,H1,I1,r,z,q⟩=>⟨by rw [<- r.length]; exact z,?_⟩);have hf:H1 s1.heap.objs.size=none:=I1.hok.fresh (Nat.le_refl _);refine ⟨.ref s1.heap.objs.size,upd H1 s1.heap.objs.size (.lst xs),I1.laid (t':=s1.toks) (fun b u e=>Heap.get?_push_of_some _ e) (Nat.le_refl _) ?_,rfl,q _ hf⟩;exact ⟨z,us,0,r,Heap.get?_push_size _ rfl⟩
end
abbrev Sp:=List V->Hp->VK->XK->Prop
abbrev CXT:=List Env->Hp->Shared->XK->Value->Shared->Prop
structure a5q (P:Program) (w:World) (K:PySem.W.Frag) (mg:Str->Option Value) (base:Heap) (A:Around) (outer:List Env) (s:Shared) (H:Hp):Prop where
 frames:A.frames=some outer
 mod:Mod K mg base
 bs:∀ b o,base.get? b=some o->s.heap.get? b=some o/\H b=none
 bsz:base.objs.size<=s.heap.objs.size
 T4:s.heap.FunFrames base outer
 frf:∀ b∈frs outer,H b=none
 hok:HOk P w H s.heap
 bare:AllBare s.gens
def CE (outer:List Env) (P:Program) (w:World) (H:Hp) (s:Shared) (Q:VK) (u:Value) (s':Shared):Prop :=
 ∃ v H',s'.os=s.os/\AllBare s'.gens/\Un (frs outer) [] H H' s.heap s'.heap/\HOk P w H' s'.heap/\RelV v u/\Q v H'
def CR (CX:CXT) (outer:List Env) (P:Program) (w:World) (H:Hp) (s:Shared) (Q:VK) (E:XK) (r:Result) (s':Shared):Prop :=
 match r with
 | .ok (.ret u)=>CE outer P w H s Q u s'
 | .ok _=>False
 | .error e=>CX outer H s E e s'
structure Bh (P:Program) (w:World) (K:PySem.W.Frag) (mg:Str->Option Value) (base:Heap) (CX:CXT) (k:Nat) (f:Addr) (fd:FuncData) (ps:List Str) (sp:Sp):Prop where
 len:∀ vs H Q E,sp vs H Q E->vs.length=ps.length
 run:∀ (A:Around) (outer:List Env) (s:Shared) (H:Hp) (args:Args) (us:List Value) (vs:List V) (Q:VK) (E:XK),yw k A->a5q P w K mg base A outer s H->BindsTo s fd args (ps.zip us)->Vals vs us->sp vs H Q E ->
  codeAny (model P w) A (.call (.ref f) args) (CR CX outer P w H s Q E) s
theorem Bh.mono {P:Program} {w:World} {K:PySem.W.Frag} {mg:Str->Option Value} {base:Heap} {CX:CXT} {j k:Nat} {f:Addr} {fd:FuncData} {ps:List Str} {sp:Sp} (F:Bh P w K mg base CX j f fd ps sp) (h:j<=k) :
  Bh P w K mg base CX k f fd ps sp:=⟨F.len,fun A outer s H args us vs Q E hr=>F.run A outer s H args us vs Q E (hr.mono h)⟩
theorem Bh.imp {P:Program} {w:World} {K:PySem.W.Frag} {mg:Str->Option Value} {base:Heap} {CX:CXT} {k:Nat} {f:Addr} {fd:FuncData} {ps:List Str} {sp eK:Sp} (F:Bh P w K mg base CX k f fd ps sp)
  (h:∀ vs H Q E,eK vs H Q E->sp vs H Q E):Bh P w K mg base CX k f fd ps eK :=
 ⟨fun vs H Q E q=>F.len vs H Q E (h _ _ _ _ q),fun A outer s H args us vs Q E hr he hb hv hs=>F.run A outer s H args us vs Q E hr he hb hv (h _ _ _ _ hs)⟩
theorem a5q.make {P:Program} {w:World} {K:PySem.W.Frag} {mg:Str->Option Value} {base:Heap} {A:Around} {outer:List Env} {s:Shared} {H:Hp} (e:a5q P w K mg base A outer s H) (C:Addr) (us:List Value) (kw:List (Str × Value)) :
  a5q P w K mg base (A.under (.builtin "type.__call__" ⟨.ref C::us,kw⟩)) outer s H:=⟨by first | exact e.frames | (simpa [Around.under,Code.envs,Code.isFrame,pushEnvs] using e.frames),e.mod,e.bs,e.bsz,e.T4,e.frf,e.hok,e.bare⟩
section
variable {X:Cx} {pins:List (Addr × Obj)} {σ:St} {H:Hp} {s s':Shared}
theorem Inv.env0 (I:Inv X pins σ H s):a5q X.prog X.w X.K X.mg X.base X.A X.stack s H :=
 ⟨I.ok.frames,I.ok.mod,I.bs,Nat.le_trans I.ok.bsz I.sz,I.stack,I.Qj,I.hok,I.bare⟩
theorem Inv.after {Q:VK} {u:Value} (I:Inv X pins σ H s) (h:CE X.stack X.prog X.w H s Q u s'):EP X pins σ Q u s':=by
 obtain ⟨v,H',os,bare,un,hok,r,q⟩:=h;obtain ⟨hh,g,d,t,os'⟩:=s';obtain rfl:os'=s.os:=os;exact ⟨v,H',I.call (h':=hh) (g':=g) (d':=d) (t':=t) (ch:=[]) un hok bare (fun b z=>absurd z (by simp)),r,q⟩
end
def ab7 (sp:Sp) (aR:List V) (E:XK) (t:TA):TE:=fun σ H Q=>t σ H fun vs H1=>sp (vs++aR) H1 Q E
noncomputable def a8q (C:Addr) (m:Str) (sp:Sp) (aR:List V) (E:XK) (ta:TE) (t:TA):TE:=fun σ H Q=>ta σ H fun x H1=>∃ a dx fs,x=.ref a/\H1 a=some (.ins C dx fs)/\fs.lookup m=none /\
 t σ H1 fun vs H2=>sp (x::(vs++aR)) H2 Q E
noncomputable def acd (C:Addr) (sp:Sp) (aR:List V) (E:XK) (t:TA):TE:=fun σ H Q=>t σ H fun vs H1=>∀ x dx,H1 x=none->H1 dx=none->dx≠x ->
 sp (.ref x::(vs++aR)) (upd (upd H1 dx (.own x)) x (.ins C dx [])) (fun v H2=>v=.non/\Q (.ref x) H2) E
def Binds (K:PySem.W.Frag) (fd:FuncData) (ps:List Str) (ds:List Value):Prop :=
 ∀ (s:Shared) (us:List Value),K.In s.heap->(us++ds).length=ps.length->BindsTo s fd ⟨us,[]⟩ (ps.zip (us++ds))
theorem Binds.all {K:PySem.W.Frag} {fd:FuncData} {ps:List Str} (h:∀ us:List Value,us.length=ps.length->bindArgs fd ⟨us,[]⟩=pure (ps.zip us)):Binds K fd ps []:=fun s us _ hl=>by
 rw [List.append_nil] at hl ⊢;exact .of_eq (h us hl)
def Passes (CX:CXT) (X:Cx) (E:XK):Prop:=∀ (pins:List (Addr × Obj)) (σ:St) (H:Hp) (s:Shared) (e:Value) (s':Shared),Inv X pins σ H s->CX X.stack H s E e s'->X.xe e s'
section
variable {X:Cx} {CX:CXT} {k:Nat} {f C:Addr} {fd:FuncData} {ps:List Str} {sp:Sp} {aR:List V} {ds:List Value} {E:XK} {x m:Str} {p pos apos:Pos} {e o:Expr} {es:List Expr} {ta:TE} {t:TA}
theorem a04 {pins:List (Addr × Obj)} {σ:St} {H:Hp} {s:Shared} {Q:VK} {us:List Value} {vs:List V} (F:Bh X.prog X.w X.K X.mg X.base CX k f fd ps sp) (hr:yw k X.A) (hb:Binds X.K fd ps ds) (hd:Vals aR ds) (hx:Passes CX X E)
  (I:Inv X pins σ H s) (r:Vals vs us) (h:sp (vs++aR) H Q E):wpAny (model X.prog X.w) X.A (call (.ref f) us) (EP X pins σ Q) X.xe s:=by
 have r2:Vals (vs++aR) (us++ds):=r.append hd;have hl:(us++ds).length=ps.length:=by rw [<- r2.length]; exact F.len _ _ _ _ h
 refine wpAny_call (codeAny_mono (F.run X.A X.stack s H ⟨us,[]⟩ (us++ds) (vs++aR) Q E hr I.env0 (hb s us I.kIn hl) r2 h) fun r s' hq=>?_);cases r with
 | error e=>exact hx pins σ H s e s' I hq
 | ok fl =>
  cases fl with
  | ret u=>exact I.after hq
  | next=>exact False.elim hq
  | brk=>exact False.elim hq
  | cont=>exact False.elim hq
theorem Xd (F:Bh X.prog X.w X.K X.mg X.base CX k f fd ps sp) (hr:yw k X.A) (hg:Gl X x) (hm:X.mg x=some (.ref f)) (hk:PySem.W.keepIn X.K (.ref f)=true) (hb:Binds X.K fd ps ds) (hd:Vals aR ds) (hx:Passes CX X E)
  (ha:PA X (e::es) t) (aL:(x==("__debug__" : Str))=false:=by decide) (he:starEach (e::es) X.env=(false,eval e X.env)::starEach es X.env:=by rfl) (aE:(backTo pos (starEach es X.env)).any (·.1)=false:=by rfl) :
  PE X (.Call (.Name x p) (e::es) [] pos) (ab7 sp aR E t):=by
 intro pins s σ H Q I h;refine wpAny_Call_Name_kw (Jp I hg hm ?_ aL);refine PySem.W.callWith_K (h₀:=X.base) I.ok.mod.kin hk (thn (ha pos pins s σ H _ I h) fun us s1 ⟨vs,H1,I1,r,q⟩=>⟨I1.kIn,?_⟩) he aE;exact a04 F hr hb hd hx I1 r q
theorem Xb {pl:Sem Bool} (he:PE X o ta) (c:Cls X.K C) (hm:Meth X.K C m f) (F:Bh X.prog X.w X.K X.mg X.base CX k f fd ps sp) (hr:yw k X.A) (hb:Binds X.K fd ps ds) (hd:Vals aR ds) (hx:Passes CX X E) (ha:PA X (e::es) t)
  (hst:starEach (e::es) X.env=(false,eval e X.env)::starEach es X.env:=by rfl) (aE:(backTo pos (starEach es X.env)).any (·.1)=false:=by rfl)
  (ht:eval (.Call (.Attribute o m apos) (e::es) [] pos) X.env=(do
   let ov <- eval o X.env
   standAt apos.atName
   let (f,first) <- holding [ov] (getMethod ov m pl)
   callWith pos f first (backTo pos (starEach (e::es) X.env)) (backToKw pos (keywordEach [] X.env))):=by rfl) :
  PE X (.Call (.Attribute o m apos) (e::es) [] pos) (a8q C m sp aR E ta t):=by
 intro pins s σ H Q I h;refine PySem.W.methodCall_KW (pl:=pl) (thn (he pins s σ H _ I h) fun u s1 z0=>?_) ht;obtain ⟨x,H1,I1,rx,a,dx,fs,ex,ea,l,q⟩:=z0;subst ex;obtain rfl:u=Value.ref a:=rx;refine K4 I1 ea c hm l ?_;refine PySem.W.callWith_K (first:=[.ref a]) (h₀:=X.base) I.ok.mod.kin hm.kp (thn (ha pos pins s1 σ H1 _ I1 q) fun us s2 ⟨vs,H2,I2,r,q2⟩=>⟨I2.kIn,?_⟩) hst aE;exact a04 (us:=.ref a::us) (vs:=.ref a::vs) F hr hb hd hx I2 (.cons rfl r) q2
theorem Ti {pl:Sem Bool} (he:PE X o ta) (c:Cls X.K C) (hm:Meth X.K C m f) (F:Bh X.prog X.w X.K X.mg X.base CX k f fd ps sp) (hr:yw k X.A) (hb:Binds X.K fd ps ds) (hd:Vals aR ds) (hx:Passes CX X E)
  (ht:eval (.Call (.Attribute o m apos) [] [] pos) X.env=(do
   let ov <- eval o X.env
   standAt apos.atName
   let (f,first) <- holding [ov] (getMethod ov m pl)
   callWith pos f first (backTo pos (starEach [] X.env)) (backToKw pos (keywordEach [] X.env))):=by rfl) :
  PE X (.Call (.Attribute o m apos) [] [] pos) (a8q C m sp aR E ta a7j):=by
 intro pins s σ H Q I h;refine PySem.W.methodCall_KW (pl:=pl) (thn (he pins s σ H _ I h) fun u s1 z0=>?_) ht;obtain ⟨x,H1,I1,rx,a,dx,fs,ex,ea,l,q⟩:=z0;subst ex;obtain rfl:u=Value.ref a:=rx;refine K4 I1 ea c hm l ?_;exact PySem.W.callWith_K0 (first:=[.ref a]) I1.kIn hm.kp (a04 (us:=[.ref a]) (vs:=[.ref a]) F hr hb hd hx I1 (.cons rfl .nil) q)
structure Mk (K:PySem.W.Frag) (C f:Addr):Prop where
 makes:PySem.W.makesIn K C=true
 init:PySem.W.findIn K (.ref C) "__init__" = some (some (.ref f))
 fn:PySem.W.isFn K (.ref f)=true
 kp:PySem.W.keepIn K (.ref C)=true
theorem a0e {pins:List (Addr × Obj)} {σ:St} {H:Hp} {s:Shared} {Q:VK} {us:List Value} {vs:List V} (M:Mk X.K C f) (F:Bh X.prog X.w X.K X.mg X.base CX k f fd ps sp) (hr:yw (k+1) X.A) (hb:Binds X.K fd ps ds) (hd:Vals aR ds)
  (hx:Passes CX X E) (I:Inv X pins σ H s) (r:Vals vs us)
  (h:∀ x dx,H x=none->H dx=none->dx≠x->sp (.ref x::(vs++aR)) (upd (upd H dx (.own x)) x (.ins C dx [])) (fun v H2=>v=.non/\Q (.ref x) H2) E) :
  wpAny (model X.prog X.w) X.A (call (.ref C) us) (EP X pins σ Q) X.xe s:=by
 have hq:=h (s.heap.objs.size+1) s.heap.objs.size (I.hok.fresh (Nat.le_succ _)) (I.hok.fresh (Nat.le_refl _)) (Nat.ne_of_lt (Nat.lt_succ_self _));have I2:=Inv.made (C:=C) I;have r2:Vals (V.ref (s.heap.objs.size+1)::(vs++aR)) (Value.ref (s.heap.objs.size+1)::(us++ds)):=.cons rfl (r.append hd)
 have hl:(Value.ref (s.heap.objs.size+1)::us++ds).length=ps.length:=by
  have e:=r2.length;rw [F.len _ _ _ _ hq] at e;exact e.symm
 refine wpAny_call (a3a (f:=f) I.kIn M.makes M.init (beq_iff_eq.mp M.fn) (codeAny_mono (F.run _ X.stack _ _ ⟨Value.ref (s.heap.objs.size+1)::us,[]⟩ (Value.ref (s.heap.objs.size+1)::(us++ds)) _ _ E (hr.make C us [])
  (I2.env0.make C us []) (hb _ (Value.ref (s.heap.objs.size+1)::us) I2.kIn hl) r2 hq) fun r s' cV=>?_))
 cases r with
 | error e=>exact hx pins σ _ _ e s' I2 cV
 | ok fl =>
  cases fl with
  | ret u =>
   obtain ⟨v,H',I3,rv,ev,q3⟩:=I2.after cV;subst ev;exact ⟨rv,⟨V.ref (s.heap.objs.size+1),H',I3,rfl,q3⟩⟩
  | next=>exact False.elim cV
  | brk=>exact False.elim cV
  | cont=>exact False.elim cV
theorem a6b (M:Mk X.K C f) (F:Bh X.prog X.w X.K X.mg X.base CX k f fd ps sp) (hr:yw (k+1) X.A) (hg:Gl X x) (hm:X.mg x=some (.ref C)) (hb:Binds X.K fd ps ds) (hd:Vals aR ds) (hx:Passes CX X E)
  (ha:PA X (e::es) t) (aL:(x==("__debug__" : Str))=false:=by decide) (he:starEach (e::es) X.env=(false,eval e X.env)::starEach es X.env:=by rfl) (aE:(backTo pos (starEach es X.env)).any (·.1)=false:=by rfl) :
  PE X (.Call (.Name x p) (e::es) [] pos) (acd C sp aR E t):=by
 intro pins s σ H Q I h;refine wpAny_Call_Name_kw (Jp I hg hm ?_ aL);refine PySem.W.callWith_K (h₀:=X.base) I.ok.mod.kin M.kp (thn (ha pos pins s σ H _ I h) fun us s1 ⟨vs,H1,I1,r,q⟩=>⟨I1.kIn,?_⟩) he aE;exact a0e M F hr hb hd hx I1 r q
end
section
variable {X:Cx} {CX:CXT} {k:Nat} {f C:Addr} {fd:FuncData} {ps ks:List Str} {sp:Sp} {E:XK} {x m:Str} {p pos apos d5:Pos} {e o:Expr} {es:List Expr} {gU:List Keyword} {te ta:TE} {t tk:TA} {nm:Option Str}
structure ade (K:PySem.W.Frag) (fd:FuncData) (ps ks:List Str) (g:List Value->List Value->List Value) (gV:List V->List V->List V):Prop where
 to:∀ (s:Shared) (us ws:List Value),K.In s.heap->(g us ws).length=ps.length->BindsTo s fd ⟨us,ks.zip ws⟩ (ps.zip (g us ws))
 rel:∀ {vs:List V} {us:List Value} {zs:List V} {ws:List Value},Vals vs us->Vals zs ws->Vals (gV vs zs) (g us ws)
variable {g:List Value->List Value->List Value} {gV:List V->List V->List V}
end
structure Ag (N P:List Str) (sc:Scope):Prop where
 kind:sc.kind=.function
 co:sc.isCoroutine=false
 gen:sc.isGenerator=false
 nd:N.Nodup
 pre:N.take P.length=P
 par:∀ x∈P,sc.names.lookup x=some .local\/sc.names.lookup x=some .cell
 nofree:∀ y∈sc.names,y.2≠.free
theorem Og {kindOf:Str->Option NameKind} {x:Str}:∀ {binds:List (Str × Value)} {m:Str->Option Value},(∀ v,(x,v)∉binds)->bindL kindOf binds m x=m x
 | [],_,_=>rfl
 | (n,v)::r,m,h=>by
  unfold bindL;rw [Og fun w hw=>h w (List.mem_cons_of_mem _ hw)];split
  ·have:x≠n:=by rintro rfl; exact h v List.mem_cons_self
   simp [this]
  ·rfl
theorem Q9 {kindOf:Str->Option NameKind} {x:Str}:∀ {binds:List (Str × Value)} {m:Str->Option Value},(∀ v,(x,v)∉binds)->bindC kindOf binds m x=m x
 | [],_,_=>rfl
 | (n,v)::r,m,h=>by
  unfold bindC;rw [Q9 fun w hw=>h w (List.mem_cons_of_mem _ hw)];split
  ·rfl
  ·have:x≠n:=by rintro rfl; exact h v List.mem_cons_self
   simp [this]
theorem Nq {kindOf:Str->Option NameKind} {x:Str} {v:Value}:∀ {P:List Str} {vs:List Value} {i:Nat} {m:Str->Option Value},P.Nodup->P[i]? = some x->vs[i]? = some v->kindOf x=some .local ->
  bindL kindOf (P.zip vs) m x=some v
 | [],_,_,_,_,h,_,_=>by simp at h
 | _::_,[],_,_,_,_,h,_=>by simp at h
 | p::P,w::vs,0,m,nd,h1,h2,hk=>by
  simp at h1 h2; subst h1; subst h2;show bindL kindOf ((p,w)::P.zip vs) m p=_;unfold bindL;rw [Og fun v hv=>(List.nodup_cons.mp nd).1 (List.of_mem_zip hv).1,if_pos hk];simp
 | p::P,w::vs,i+1,m,nd,h1,h2,hk=>by
  show bindL kindOf ((p,w)::P.zip vs) m x=_;unfold bindL;exact Nq (i:=i) (List.nodup_cons.mp nd).2 (by simpa using h1) (by simpa using h2) hk
theorem Q5 {kindOf:Str->Option NameKind} {x:Str} {v:Value}:∀ {P:List Str} {vs:List Value} {i:Nat} {m:Str->Option Value},P.Nodup->P[i]? = some x->vs[i]? = some v->kindOf x≠some .local ->
  bindC kindOf (P.zip vs) m x=some v
 | [],_,_,_,_,h,_,_=>by simp at h
 | _::_,[],_,_,_,_,h,_=>by simp at h
 | p::P,w::vs,0,m,nd,h1,h2,hk=>by
  simp at h1 h2; subst h1; subst h2;show bindC kindOf ((p,w)::P.zip vs) m p=_;unfold bindC;rw [Q9 fun v hv=>(List.nodup_cons.mp nd).1 (List.of_mem_zip hv).1,if_neg hk];simp
 | p::P,w::vs,i+1,m,nd,h1,h2,hk=>by
  show bindC kindOf ((p,w)::P.zip vs) m x=_;unfold bindC;exact Q5 (i:=i) (List.nodup_cons.mp nd).2 (by simpa using h1) (by simpa using h2) hk
def start (N:List Str) (vs:List V):St:=vs.map some++List.replicate (N.length - vs.length) none
noncomputable def Qg (CX:CXT) (P:Program) (w:World) (K:PySem.W.Frag) (mg:Str->Option Value) (base:Heap) (N:List Str) (qual:Str) (scope:Scope) (f:Addr) (cd:Value) (A:Around) (outer:List Env) (s:Shared) (H:Hp) (E:XK):Cx where
 prog:=P
 w:=w
 K:=K
 mg:=mg
 base:=base
 A:=A.deeper (envOfC qual scope s.heap.objs.size f cd)
 N:=N
 s₀:=s
 H₀:=H
 env:=envOfC qual scope s.heap.objs.size f cd
 outer:=outer
 stack:=envOfC qual scope s.heap.objs.size f cd::outer
 ex:=[]
 calm:=true
 fn:=fun _=>true
 pn:=[]
 xe:=fun e s'=>wpAny (model P w) (A.deeper (envOfC qual scope s.heap.objs.size f cd)) (leaving (envOfC qual scope s.heap.objs.size f cd) e) (fun _ cM=>CX outer H s E e cM) (fun e' cM=>CX outer H s E e' cM) s'
theorem Tp {sc:Scope} {n:Nat} {x:Str} (h:sc.names.lookup x=some .cell):∃ c,(cellsFrom n sc.names []).lookup x=some c:=by
 have q:=PySem.W.cellsFrom_some sc.names n [] (.inl h);exact Option.isSome_iff_exists.mp q
theorem Y6 {CX:CXT} {P:Program} {w:World} {K:PySem.W.Frag} {mg:Str->Option Value} {base:Heap} {N ps:List Str} {qual:Str} {scope:Scope} {f:Addr} {cd:Value} {A:Around} {outer:List Env} {s s1:Shared} {H:Hp} {E:XK} {us:List Value} {vs:List V}
  (S:Ag N ps scope) (hd:A.handled=none) (e0:a5q P w K mg base A outer s H) (hl:vs.length=ps.length) (r:Vals vs us)
  (x:InCallC s s.heap.objs.size (bindL (envOfC qual scope s.heap.objs.size f cd).kindOf (ps.zip us) fun _=>none) (cellsFrom (s.heap.objs.size+1) scope.names []) (bindC (envOfC qual scope s.heap.objs.size f cd).kindOf (ps.zip us) fun _=>none) s1) :
  Inv (Qg CX P w K mg base N qual scope f cd A outer s H E) [] (start N vs) H s1:=by
 have aE:ps.length<=N.length:=by have:=congrArg List.length S.pre; rw [List.length_take] at this; omega
 obtain ⟨h1,tk,rfl,hk⟩:=x.done;have c9:∀ b:Addr,b∉(Qg CX P w K mg base N qual scope f cd A outer s H E).ex:=fun b z=>absurd (show b∈([]:List Addr) from z) (by simp)
 refine ⟨⟨e0.mod,S.kind,rfl,rfl,Nat.le_refl _,fun y z c h1 h2=>?_,fun y hy=>?_,fun y c _ h=>?_,fun _=>hd,Around.frames_deeper e0.frames,.inr ⟨rfl,rfl⟩,fun b z=>absurd z (c9 b),e0.bs,e0.bsz,fun b _ _=>c9 b,fun b z=>absurd z (c9 b),e0.T4,e0.frf⟩,
  rfl,e0.bare,Un.kept hk,⟨_,x.toInCall.ns,fun i y v h1 h2 h3=>?_⟩,fun y c h=>⟨_,x.cell y c h⟩,e0.hok.fresh (Nat.le_refl _),fun y c h=>?_,fun p hp=>absurd (show p∈([]:List (Addr × Obj)) from hp) (by simp),e0.hok.kept hk,?_⟩
 ·exact name_of_addr x.apart (PySem.mem_of_lookup h1) (PySem.mem_of_lookup h2)
 ·have hy:scope.names.lookup y=some .cell\/scope.names.lookup y=some .free:=hy;rcases hy with hy | hy
  ·exact Tp hy
  ·exact absurd rfl (S.nofree _ (PySem.mem_of_lookup hy))
 ·exact Nat.le_of_lt (x.above y c (PySem.mem_of_lookup h))
 ·have hi:i<vs.length:=by
   unfold start at h2
   by_cases hi:i<vs.length
   ·exact hi
   ·rw [List.getElem?_append_right (by simpa using hi)] at h2;rw [List.getElem?_replicate] at h2;split at h2 <;> cases h2
  have ha:vs[i]? = some v:=by
   unfold start at h2;rw [List.getElem?_append_left (by simpa using hi),List.getElem?_map] at h2;cases e:vs[i]? with
   | none=>rw [e] at h2; cases h2
   | some a=>rw [e] at h2; cases h2; rfl
  obtain ⟨u,hu,rv⟩:=r.get ha
  have hp:ps[i]? = some y:=by
   rw [<- S.pre,List.getElem?_take_of_lt (by omega)]; exact h1
  have eN:ps.Nodup:=by rw [<- S.pre]; exact S.nd.sublist (List.take_sublist _ _)
  refine ⟨u,rv,?_⟩;rcases S.par y (List.mem_of_getElem? hp) with k | k
  ·exact .inl ⟨k,Nq eN hp hu k⟩
  ·obtain ⟨c,e⟩:=Tp (n:=s.heap.objs.size+1) k;refine .inr ⟨.inl k,c,e,?_⟩;have q:=x.cell y c e;rw [Q5 eN hp hu (by show scope.names.lookup y≠_; rw [k]; decide)] at q;exact q
 ·exact e0.hok.fresh (Nat.le_of_lt (x.above y c (PySem.mem_of_lookup h)))
 ·unfold start;show _=N.length;rw [List.length_append,List.length_map,List.length_replicate];omega
theorem a7w {CX:CXT} {P:Program} {w:World} {K:PySem.W.Frag} {mg:Str->Option Value} {base:Heap} {k:Nat} {f:Addr} {name qual:Str} {params:Arguments} {body:List Stmt} {scope:Scope} {dV kV doc pm ay ct oc:Value} {an od:Option Addr}
  {bA:Array (Option Value)} {N ps:List Str} {sp:Sp} (lk:K.lookup f=some ⟨oc,od,.func (PySem.W.fnOf name qual params body scope dV kV doc pm an ay ct),bA⟩) (a7:PySem.W.codeIn K ay qual=true) (S:Ag N ps scope)
  (len:∀ vs H Q E,sp vs H Q E->vs.length=ps.length)
  (bN:∀ (A:Around) (outer:List Env) (s:Shared) (H:Hp) (vs:List V) (Q:VK) (E:XK),yw k (A.deeper (envOfC qual scope s.heap.objs.size f ay))->sp vs H Q E ->
   ∃ t,PSs (Qg CX P w K mg base N qual scope f ay A outer s H E) body t/\t { nx:=fun _ H'=>Q .non H',rt:=Q } (start N vs) H) :
  Bh P w K mg base CX (k+1) f (PySem.W.fnOf name qual params body scope dV kV doc pm an ay ct) ps sp:=by
 refine ⟨len,fun A outer s H args us vs Q E hr e0 hb r cf=>?_⟩;have hl:=len _ _ _ _ cf;have KX:K.In s.heap:=e0.mod.kin.keeps fun b o e=>(e0.bs b o e).1;have lim:s.heap.NoLimit:=e0.mod.nolimit.keeps fun b o e=>(e0.bs b o e).1
 have c0:∀ y∈ps.zip us,scope.names.lookup y.1=some .local\/(scope.names.lookup y.1=some .cell/\((cellsFrom (s.heap.objs.size+1) scope.names []).lookup y.1).isSome=true):=fun ⟨n,v⟩ hy=>by
  rcases S.par n (List.of_mem_zip hy).1 with q | q
  ·exact .inl q
  ·exact .inr ⟨q,PySem.W.cellsFrom_some _ _ _ (.inl q)⟩
 refine codeAny_call_function hr.depth (KX _ _ lk) rfl S.co S.gen rfl (PySem.W.codeRec_of KX a7) (hb _ _ _ _ ?_);refine wpAny_newFunctionEnv_cells S.kind c0 fun env he s1 x=>?_;subst he;refine ⟨lim.keeps x.toInCall.keep,codeAny_func ?_⟩;obtain ⟨t,ht,hq⟩:=bN A outer s H vs Q E (hr.deeper _) cf;have I:Inv (Qg CX P w K mg base N qual scope f ay A outer s H E) [] (start N vs) H s1:=Y6 S hr.hd e0 hl r x;refine wpAny_mono (ht [] s1 (start N vs) H _ I hq) (fun fl s' hs=>?_) fun e s' hs=>hs
 have fin:∀ {σ':St} {H':Hp} {v:V} {u:Value},Inv (Qg CX P w K mg base N qual scope f ay A outer s H E) [] σ' H' s'->RelV v u->Q v H'->CE outer P w H s Q u s' :=
  fun {σ' H' v u} J rv q=>⟨v,H',J.os,J.bare,J.base,J.hok,rv,q⟩
 cases fl with
 | ret u =>
  obtain ⟨v,σ',H',J,rv,q⟩:=hs;exact fin J rv q
 | next =>
  obtain ⟨σ',H',J,q⟩:=hs;exact fin (v:=V.non) (u:=Value.none) J rfl q
 | brk =>
  obtain ⟨_,_,_,q⟩:=hs;exact False.elim q
 | cont =>
  obtain ⟨_,_,_,q⟩:=hs;exact False.elim q
end L2
namespace L2
open PySem PySem.Spec PyProof.Rows
section
variable {X:Cx} {x:Str} {p pos:Pos} {e:Expr} {es:List Expr} {t:TA} {id T:String} {r:List V->Hp->VK->Prop}
def tCB (r:List V->Hp->VK->Prop) (t:TA):TE:=fun σ H Q=>t σ H fun vs H1=>r vs H1 Q
theorem jg (hc:Gq X (.builtin id) r) (hg:Gl X x) (hm:X.mg x=none) (hv:bootBuiltins x=some (.builtin id)) (ha:PA X (e::es) t) (hn:x ≠ "__name__" := by decide) (aL:(x==("__debug__" : Str))=false:=by decide)
  (he:starEach (e::es) X.env=(false,eval e X.env)::starEach es X.env:=by rfl) (aE:(backTo pos (starEach es X.env)).any (·.1)=false:=by rfl):PE X (.Call (.Name x p) (e::es) [] pos) (tCB r t):=by
 intro pins s σ H Q I h;refine wpAny_Call_Name_kw (Ut I hg hm hv ?_ hn aL);exact PyProof.Rows.callWith_builtin1 (thn (ha pos pins s σ H _ I h) fun us s1 z7=>by obtain ⟨vs,H1,I1,r1,q1⟩:=z7; exact hc pins s1 σ H1 vs us Q I1 r1 q1) he aE
theorem Fj (hc:Gq X (.type T) r) (hg:Gl X x) (hm:X.mg x=none) (hv:bootBuiltins x=some (.type T)) (ha:PA X (e::es) t) (hn:x ≠ "__name__" := by decide) (aL:(x==("__debug__" : Str))=false:=by decide)
  (he:starEach (e::es) X.env=(false,eval e X.env)::starEach es X.env:=by rfl) (aE:(backTo pos (starEach es X.env)).any (·.1)=false:=by rfl):PE X (.Call (.Name x p) (e::es) [] pos) (tCB r t):=by
 intro pins s σ H Q I h;refine wpAny_Call_Name_kw (Ut I hg hm hv ?_ hn aL);exact PyProof.Rows.callWith_type1 (thn (ha pos pins s σ H _ I h) fun us s1 z7=>by obtain ⟨vs,H1,I1,r1,q1⟩:=z7; exact hc pins s1 σ H1 vs us Q I1 r1 q1) he aE
end
end L2
end
section
namespace HT
open PySem PyProof.Rows
section
open PySem.SeqAt
open PySem.AutoSeq1 (wpAny_loadPart')
open PySem.MeetsSeq PySem.MeetsSeq2 PySem.MeetsSeq3
end
section
variable {prog:Program} {w:World} {A:Around} {E:Value->Shared->Prop} {s:Shared}
theorem a6l {t b:Addr} {vs ws:List Value} {Q:Value->Shared->Prop} (ht:IsTup s.heap t vs.toArray) (hb:IsTup s.heap b ws.toArray) (hv:vs≠[])
  (h1:ws=[]->Q (.ref t) s) (h2:ws≠[]->Q (.ref s.heap.objs.size) { s with heap:=s.heap.push { cls:=.type "tuple",data:=.seq (vs++ws).toArray } })
  (hsz:vs.length+ws.length<=sizeLine):wpAny (model prog w) A (binaryOp .Add (.ref t) (.ref b)) Q E s:=by
 obtain ⟨⟨cls,dd,data,sl⟩,ho,hc,n,hd⟩:=id ht;obtain ⟨⟨cls2,bz,data2,bC⟩,ho2,hc2,n2,hd2⟩:=id hb;simp only at hc hd hc2 hd2;subst hc hd hc2 hd2;have e:vs.toArray++ws.toArray=(vs++ws).toArray:=by simp
 by_cases hw:ws=[]
 ·exact concat_meets ⟨_,ho,rfl⟩ ⟨_,ho2,rfl⟩ noFill_tuple_add seq_tuple_add PySem.F.slot_tuple_add PySem.F.entry_tuple_add (PySem.F.args_tuple_add_2 _ _)
   (tuple_addW1 t b vs.toArray ws.toArray n n2 dd bz sl bC (by simpa using hv) (by simp [hw])) ⟨ho,ho2,h1 hw⟩
 ·refine concat_meets ⟨_,ho,rfl⟩ ⟨_,ho2,rfl⟩ noFill_tuple_add seq_tuple_add PySem.F.slot_tuple_add PySem.F.entry_tuple_add (PySem.F.args_tuple_add_2 _ _)
   (tuple_addW2 t b vs.toArray ws.toArray n n2 dd bz sl bC (by simpa using hv) (by simpa using hw) (by rw [List.size_toArray,List.size_toArray]; exact hsz)) ⟨ho,ho2,?_⟩
  rw [e];exact h2 hw
noncomputable def sIx (n d:Nat):Option Int->Nat
 | none=>d
 | some v=>if v<0 then (v+(n:Int)).toNat else min v.toNat n
theorem Y0 (n d k:Nat):sIx n d (some (k:Int))=min k n:=by
 show (if (k:Int)<0 then ((k:Int)+(n:Int)).toNat else min (k:Int).toNat n)=min k n;rw [if_neg (by omega),Int.toNat_natCast]
theorem Gf {v:Value} {o:Option Int} {Q:Option Int->Shared->Prop} (p:IsPart v o) (h:Q o s):wpAny (model prog w) A (Builtin.Slice.slicePartIndex v) Q E s:=by
 cases p with
 | none=>exact slicePart_none h
 | int i t=>exact slicePart_int h
end
end HT
namespace L2
open PySem PySem.Spec PyProof.Rows
abbrev TO:=St->Hp->(Option Int->Hp->Prop)->Prop
def PO (X:Cx) (e:Option Expr) (t:TO):Prop :=
 ∀ (pins:List (Addr × Obj)) (s:Shared) (σ:St) (H:Hp) (Q:Option Int->Hp->Prop),Inv X pins σ H s->t σ H Q ->
  wpAny (model X.prog X.w) X.A (evalPart e X.env) (fun u s'=>∃ o H',Inv X pins σ H' s'/\IsPart u o/\Q o H') X.xe s
def ab8 (t:TE):TO:=fun σ H Q=>t σ H fun x H1=>∃ i,x=.int i/\Q (some i) H1
section
variable {X:Cx} {e:Expr} {te:TE} {lo hi:Option Expr} {tl th:TO} {pos p2:Pos}
theorem a6j (h:PE X e te):PO X (some e) (ab8 te):=by
 intro pins s σ H Q I hw;rw [evalPart_some];refine thn (h pins s σ H _ I hw) fun u s1 z0=>?_;obtain ⟨x,H1,I1,r1,q1⟩:=z0;obtain ⟨i,rfl,q⟩:=q1;obtain ⟨t,rfl⟩:=r1;exact ⟨some i,H1,I1,.int i t,q⟩
def SlR (X:Cx) (r:V->Option Int->Option Int->Hp->VK->Prop):Prop :=
 ∀ (pins:List (Addr × Obj)) (s:Shared) (σ:St) (H:Hp) (x:V) (v vl vu:Value) (lo hi:Option Int) (sl:Addr) (Q:VK),Inv X pins σ H s->RelV x v->s.heap.IsSliceOf sl vl vu .none->IsPart vl lo->IsPart vu hi->r x lo hi H Q ->
  ∃ T id,typeLookup (.type T) "__getitem__" = pure (some (.builtin id))/\s.TypeIs v T/\wpAny (model X.prog X.w) X.A (getItem v (.ref sl)) (EP X pins σ Q) X.xe s
theorem SlR.or {r r':V->Option Int->Option Int->Hp->VK->Prop} (h:SlR X r) (h':SlR X r'):SlR X (fun x lo hi H Q=>r x lo hi H Q\/r' x lo hi H Q):=by
 intro pins s σ H x v vl vu lo hi sl Q I rx hs pl pu q;rcases q with q | q
 ·exact h pins s σ H x v vl vu lo hi sl Q I rx hs pl pu q
 ·exact h' pins s σ H x v vl vu lo hi sl Q I rx hs pl pu q
def tSl (r:V->Option Int->Option Int->Hp->VK->Prop) (te:TE) (tl th:TO):TE:=fun σ H Q=>te σ H fun x H1=>tl σ H1 fun l H2=>th σ H2 fun u H3=>r x l u H3 Q
theorem U8 {r:V->Option Int->Option Int->Hp->VK->Prop} (hr:SlR X r) (he:PE X e te) (hl:PO X lo tl) (hu:PO X hi th):PE X (.Subscript e (.Slice lo hi none p2) pos) (tSl r te tl th):=by
 intro pins s σ H Q I h;refine Subscript_ (thn (he pins s σ H _ I h) fun v s1 z0=>?_);obtain ⟨x,H1,I1,r1,q1⟩:=z0;refine wpAny_Slice (thn (hl pins s1 σ H1 _ I1 q1) fun vl s2 ⟨l,H2,I2,pl,q2⟩=>thn (hu pins s2 σ H2 _ I2 q2) fun vu s3 ⟨u,H3,I3,pu,q3⟩=>?_);rw [evalPart_none];refine wpAny_pure ?_;have I4:Inv X pins σ H3 { s3 with heap:=s3.heap.push { cls:=.type "slice",data:=.fields #[vl,vu,.none] } }:=I3.kept (t':=s3.toks) fun b ob q=>Heap.get?_push_of_some _ q;obtain ⟨T,id,hT,ht,hg⟩:=hr pins { s3 with heap:=s3.heap.push { cls:=.type "slice",data:=.fields #[vl,vu,.none] } } σ H3 x v vl vu l u s3.heap.objs.size Q I4 r1 (Heap.IsSliceOf.new ..) pl pu q3;show wpAny (model X.prog X.w) X.A (subscriptTail e (.Slice lo hi none p2) v (.ref s3.heap.objs.size)) (EP X pins σ Q) X.xe { s3 with heap:=s3.heap.push { cls:=.type "slice",data:=.fields #[vl,vu,.none] } };exact tail_any (ops:=[.ref s3.heap.objs.size,v]) ht hT hg (by with_unfolding_all rfl)
noncomputable def a0t (xs:List V) (lo hi:Option Int):List V:=(xs.drop (HT.sIx xs.length 0 lo)).take (HT.sIx xs.length xs.length hi - HT.sIx xs.length 0 lo)
theorem Qp (xs:List V) (lo hi:Option Int):(a0t xs lo hi).length<=xs.length:=by
 unfold a0t;rw [List.length_take,List.length_drop];omega
noncomputable def ab9 (K:PySem.W.Frag):R2:=fun x y H Q=>∃ a b xs ys,x=.ref a/\y=.ref b/\SqT K H a xs/\SqT K H b ys/\xs≠[]/\xs.length+ys.length<=sizeLine /\
 (ys=[]->Q (.ref a) H)/\(ys≠[]->∀ p,H p=none->Q (.ref p) (upd H p (.tup (xs++ys))))
theorem Vals.Mq {xs:List V} {us:List Value} (r:Vals xs us):us=[]↔xs=[]:=by
 cases r with
 | nil=>simp
 | cons _ _=>simp
theorem a5p:OpR X (binaryOp .Add) (ab9 X.K):=by
 intro pins s σ H x y v u Q I rx ry h;obtain ⟨a,b,xs,ys,rfl,rfl,ha,hb,hx,hz,q1,q2⟩:=h;cases rx;cases ry;obtain ⟨ae,r1,p1,_⟩:=I.tuple ha;obtain ⟨aA,r2,p2,_⟩:=I.tuple hb;refine HT.a6l p1 p2 (fun z=>hx (r1.Mq.mp z)) (fun z=>⟨.ref a,H,I,rfl,q1 (r2.Mq.mp z)⟩) (fun z=>?_) (by rw [<- r1.length,<- r2.length]; exact hz);refine ⟨.ref s.heap.objs.size,_,I.laid (t':=s.toks) (o:=.tup (xs++ys)) (fun b ob q=>Heap.get?_push_of_some _ q) (Nat.le_refl _) ?_,rfl,q2 (fun w=>z (r2.Mq.mpr w)) _ (I.hok.fresh (Nat.le_refl _))⟩;exact ⟨by rw [List.length_append]; exact hz,_,r1.append r2,a0d.new _ _⟩
end
end L2
namespace L2
open PySem PySem.Spec PyProof.Rows
noncomputable def ixN (n:Nat) (i:Int):Option Nat:=if 0<=i then (if i<n then some i.toNat else none) else if -(n:Int)<=i then some (i+n).toNat else none
def atI {α:Type} (xs:List α) (i:Int):Option α:=(ixN xs.length i).bind fun j=>xs[j]?
theorem a5o {n:Nat} {i:Int} {j:Nat} (h:ixN n i=some j):seqIndex? i n=some j/\j<n/\-(n:Int)<=i/\i<n:=by
 unfold ixN at h
 by_cases h0:0<=i
 ·rw [if_pos h0] at h
  by_cases h1:i<n
  ·rw [if_pos h1] at h;have e:i.toNat=j:=Option.some.inj h;exact ⟨by rw [seqIndex_of h0 h1,e],by omega,by omega,h1⟩
  ·rw [if_neg h1] at h; cases h
 ·rw [if_neg h0] at h
  by_cases h1:-(n:Int)<=i
  ·rw [if_pos h1] at h;have e:(i+n).toNat=j:=Option.some.inj h;exact ⟨by rw [seqIndex_neg (by omega) h1,e],by omega,h1,by omega⟩
  ·rw [if_neg h1] at h; cases h
theorem Qq {α:Type} {xs:List α} {i:Int} {v:α} (h:atI xs i=some v):∃ j,seqIndex? i xs.length=some j/\xs[j]? = some v/\j<xs.length/\-(xs.length:Int)<=i/\i<xs.length:=by
 unfold atI at h;cases e:ixN xs.length i with
 | none=>rw [e] at h; cases h
 | some j =>
  rw [e] at h;obtain ⟨h1,h2,h3,h4⟩:=a5o e;exact ⟨j,h1,h,h2,h3,h4⟩
def Rn (b:Expr):Prop:=∀ o i,subscripted b false o i=operate [o,i] (getItem o i)
def IxR (X:Cx) (r:R2):Prop :=
 ∀ (value slice:Expr) (pins:List (Addr × Obj)) (s:Shared) (σ:St) (H:Hp) (x y:V) (v u:Value) (Q:VK),Inv X pins σ H s->RelV x v->RelV y u->r x y H Q ->
  subscripted slice false v u=operate [v,u] (getItem v u)->wpAny (model X.prog X.w) X.A (subscriptTail value slice v u) (EP X pins σ Q) X.xe s
def MtR (X:Cx) (id:String) (r:V->List V->Hp->VK->Prop):Prop :=
 ∀ (pins:List (Addr × Obj)) (s:Shared) (σ:St) (H:Hp) (x:V) (xs:List V) (v:Value) (us:List Value) (Q:VK),Inv X pins σ H s->RelV x v->Vals xs us->r x xs H Q ->
  wpAny (model X.prog X.w) X.A (call (.builtin id) (v::us)) (EP X pins σ Q) X.xe s
section
variable {X:Cx} {a b:Expr} {ta tb:TE} {pos:Pos}
theorem a8w {r:R2} (hr:IxR X r) (ha:PE X a ta) (hb:PE X b tb) (hs:Rn b):PE X (.Subscript a b pos) (tOp r ta tb):=by
 intro pins s σ H Q I h;exact Subscript_ (acn ha hb I h fun v u s2 x y H2 I2 rx ry q=>hr a b pins s2 σ H2 x y v u Q I2 rx ry q (hs _ _))
noncomputable def aej (K:PySem.W.Frag):R2:=fun x y H Q=>∃ p xs i v,x=.ref p/\y=.int i/\SqL K H p xs/\atI xs i=some v/\Q v H
noncomputable def adk (K:PySem.W.Frag):R2:=fun x y H Q=>∃ p xs i v,x=.ref p/\y=.int i/\SqT K H p xs/\atI xs i=some v/\Q v H
noncomputable def adp:R2:=fun x y H Q=>∃ z i c,x=.str z/\y=.int i/\z.length<=sizeLine/\atI z.cps.toList i=some c/\Q (.str ⟨#[c]⟩) H
theorem Xv:IxR X (aej X.K):=by
 intro value slice pins s σ H x y v u Q I rx ry h hs;obtain ⟨p,xs,i,z,rfl,rfl,hq,he,q⟩:=h;cases rx;obtain ⟨t,rfl⟩:=ry;obtain ⟨ae,r,pl,hz⟩:=I.list hq;obtain ⟨j,h1,h2,h3,h4,h5⟩:=Qq he;obtain ⟨w,ew,bH⟩:=r.get h2;have hl:=r.length;have hn:=Oa;have fin:EP X pins σ Q w s:=⟨z,H,I,bH,q⟩
 by_cases h0:0<=i
 ·have hj:i.toNat=j:=by
   rw [seqIndex_of h0 h5] at h1;exact Option.some.inj h1
  exact item_listR pl.isList h0 (by omega) (by rw [hj]; simpa using ew) fin hs
 ·have hj:(i+(ae.toArray.size:Int)).toNat=j:=by
   rw [seqIndex_neg (by omega) h4] at h1;rw [List.size_toArray,<- hl];exact Option.some.inj h1
  exact subscriptTail_builtinR (x:=w) pl.isList.typeIs slot_list_getitem.lookup
   (wpAny_getItem_list_neg (Q:=fun r s'=>r=w/\EP X pins σ Q r s') pl.isList (by omega) (by rw [List.size_toArray] <;> omega) (by omega) (by rw [hj]; simpa using ew) ⟨rfl,fin⟩) hs
theorem a9b:IxR X (adk X.K):=by
 intro value slice pins s σ H x y v u Q I rx ry h hs;obtain ⟨p,xs,i,z,rfl,rfl,hq,he,q⟩:=h;cases rx;obtain ⟨t,rfl⟩:=ry;obtain ⟨ae,r,pl,hz⟩:=I.tuple hq;obtain ⟨j,h1,h2,h3,h4,h5⟩:=Qq he;obtain ⟨w,ew,bH⟩:=r.get h2;have hl:=r.length;have hn:=Oa;have fin:EP X pins σ Q w s:=⟨z,H,I,bH,q⟩
 exact subscriptTail_builtinR (x:=w) pl.typeIs slot_tuple_getitem.lookup
  (getItem_tuple (j:=j) (Q:=fun r s'=>r=w/\EP X pins σ Q r s') pl (by omega) (by omega) (by rw [List.size_toArray,<- hl]; exact h1) (by simpa using ew) ⟨rfl,fin⟩) hs
theorem a91:IxR X adp:=by
 intro value slice pins s σ H x y v u Q I rx ry h hs;obtain ⟨z,i,c,rfl,rfl,hz,he,q⟩:=h;obtain ⟨t,rfl⟩:=rx;obtain ⟨t',rfl⟩:=ry;obtain ⟨j,h1,h2,h3,h4,h5⟩:=Qq he;have hl:z.cps.toList.length=z.length:=by simp [Str.length]
 rw [hl] at h1 h4 h5;have hn:=Oa
 exact tail_any (typeIs_str s z t) slot_str_getitem.lookup (getItem_str (c:=c) (by
  have e1:decide (i < -(2 ^ 63:Int))=false:=decide_eq_false (by omega);have e2:decide (i >= 2 ^ 63)=false:=decide_eq_false (by omega);rw [e1,e2,Bool.or_false]) (by rw [h1]; simpa using h2) ⟨.str ⟨#[c]⟩,H,I.tok _,⟨_,rfl⟩,q⟩) hs
theorem Inv.lst {pins:List (Addr × Obj)} {σ:St} {H:Hp} {s:Shared} {p:Addr} {xs:List V} (I:Inv X pins σ H s) (h:H p=some (.lst xs)) :
  ∃ (ae:List Value) (n:Nat),Vals xs ae/\s.heap.get? p=some { cls:=.type "list",data:=.seq ae.toArray n }/\xs.length<=sizeLine:=by
 obtain ⟨z,ae,n,r,e⟩:=I.hok p _ h;exact ⟨ae,n,r,e,z⟩
theorem Oj (lo hi:Option Int) (n:Nat):(sliceBounds lo hi none n).1=((HT.sIx n 0 lo:Nat):Int)/\(sliceBounds lo hi none n).2.1=((HT.sIx n n hi:Nat):Int)/\(sliceBounds lo hi none n).2.2=1:=by
 refine ⟨?_,?_,rfl⟩
 ·cases lo with
  | none=>simp [sliceBounds,HT.sIx]
  | some i =>
   simp only [sliceBounds,HT.sIx,Option.getD_none,show (1:Int) > 0 by decide,if_true]
   by_cases h:i<0
   ·simp only [h,if_true] <;> omega
   ·simp only [h,if_false] <;> omega
 ·cases hi with
  | none=>simp [sliceBounds,HT.sIx]
  | some i =>
   simp only [sliceBounds,HT.sIx,Option.getD_none,show (1:Int) > 0 by decide,if_true]
   by_cases h:i<0
   ·simp only [h,if_true] <;> omega
   ·simp only [h,if_false] <;> omega
theorem Li (ae:List Value) (lo hi:Option Int):slicePick ae.toArray lo hi none=((ae.drop (HT.sIx ae.length 0 lo)).take (HT.sIx ae.length ae.length hi - HT.sIx ae.length 0 lo)).toArray:=by
 obtain ⟨h1,h2,h3⟩:=Oj lo hi ae.toArray.size;unfold slicePick;rw [h1,h2,h3];simp only [sliceRange_one,pick_run,List.size_toArray] <;> rfl
def ae7 (K:PySem.W.Frag):V->Option Int->Option Int->Hp->VK->Prop:=fun x lo hi H Q=>∃ a xs,x=.ref a/\SqL K H a xs/\∀ p,H p=none->Q (.ref p) (upd H p (.lst (a0t xs lo hi)))
theorem a5b:SlR X (ae7 X.K):=by
 intro pins s σ H x v vl vu lo hi sl Q I rx hs pl pu h;obtain ⟨a,xs,rfl,hx,q⟩:=h;cases rx;obtain ⟨ae,r,ht,hz⟩:=I.list hx;have hlen:=r.length;refine ⟨"list",_,slot_list_getitem.lookup,ht.isList.typeIs,?_⟩;refine wpAny_getItem_list_slice ht.isList hs pl pu .none (by simp) ?_ (by rw [List.size_toArray] <;> omega);rw [Li,<- hlen];refine ⟨.ref s.heap.objs.size,_,I.laid (t':=s.toks) (o:=.lst (a0t xs lo hi)) (fun b ob q=>Heap.get?_push_of_some _ q) (Nat.le_refl _) ?_,rfl,q _ (I.hok.fresh (Nat.le_refl _))⟩;exact ⟨Nat.le_trans (Qp xs lo hi) hz,_,0,(r.drop (HT.sIx xs.length 0 lo)).take (HT.sIx xs.length xs.length hi - HT.sIx xs.length 0 lo),Heap.get?_push_size _ rfl⟩
theorem Cm:Gq X (.builtin "len") (fun xs H Q=>∃ p ys,xs=[.ref p]/\(SqL X.K H p ys\/SqT X.K H p ys)/\Q (.int ys.length) H):=by
 intro pins s σ H xs us Q I r h;obtain ⟨p,ys,rfl,hq,q⟩:=h;obtain ⟨u,rfl,rx⟩:=vals1 r;cases rx;have hn:=Oa;rcases hq with hq | hq
 ·obtain ⟨ae,r',pl,hz⟩:=I.list hq;have hlen:=r'.length;exact Calls.call_len_list pl.isList (by simp only [List.size_toArray] <;> omega) ⟨.int ys.length,H,I.tok _,⟨s.toks+1,by rw [List.size_toArray,hlen]⟩,q⟩
 ·obtain ⟨ae,r',pl,hz⟩:=I.tuple hq;have hlen:=r'.length;exact len_tuple pl (by simp only [List.size_toArray] <;> omega) ⟨.int ys.length,H,I.tok _,⟨s.toks+1,by rw [List.size_toArray,hlen]⟩,q⟩
theorem O8:Gq X (.builtin "len") (fun xs H Q=>∃ z,xs=[.str z]/\z.length<=sizeLine/\Q (.int z.length) H):=by
 intro pins s σ H xs us Q I r h;obtain ⟨z,rfl,hz,q⟩:=h;obtain ⟨u,rfl,t,rfl⟩:=vals1 r;have hn:=Oa;exact len_str (by omega) ⟨.int z.length,H,I.tok _,⟨_,rfl⟩,q⟩
theorem Fl:Gq X (.type "tuple") (fun xs H Q=>∃ p ys,xs=[.ref p]/\((SqL X.K H p ys/\∀ l,H l=none->Q (.ref l) (upd H l (.tup ys)))\/(SqT X.K H p ys/\Q (.ref p) H))):=by
 intro pins s σ H xs us Q I r h;obtain ⟨p,ys,rfl,h⟩:=h;obtain ⟨u,rfl,rx⟩:=vals1 r;cases rx;rcases h with ⟨hq,q⟩ | ⟨hq,q⟩
 ·obtain ⟨ae,r',pl,hz⟩:=I.list hq;have hlen:=r'.length;refine call_tuple_list pl.isList (fun h' kp=>?_) (by simp only [List.size_toArray] <;> omega);have I1:Inv X pins σ H { s with heap:=h' }:=I.kept (t':=s.toks) kp
  have I2:Inv X pins σ (upd H h'.objs.size (.tup ys)) { s with heap:=h'.push { cls:=.type "tuple",data:=.seq ae.toArray } } :=
   I1.laid (t':=s.toks) (fun b o e=>Heap.get?_push_of_some _ e) (Nat.le_refl _) (show ur X.prog X.w _ _ _ (.tup ys) from ⟨hz,ae,r',a0d.new _ _⟩)
  exact ⟨.ref h'.objs.size,_,I2,rfl,q _ (I1.hok.fresh (Nat.le_refl _))⟩
 ·obtain ⟨ae,r',pl,hz⟩:=I.tuple hq;exact call_tuple_same pl ⟨.ref p,H,I,rfl,q⟩
def tyV (K:PySem.W.Frag) (T:String) (x:V) (H:Hp):Prop:=match x with
 | .str _=>T = "str"
 | .int _=>T = "int"
 | .ref p=>(T = "list" /\ ∃ xs,SqL K H p xs)\/(T = "tuple" /\ ∃ o,K.lookup p=some o/\o.cls=.type "tuple" /\ o.dict=none) \/
   (T = "dict" /\ ((∃ kvs,H p=some (.dK kvs))\/∃ kvs,H p=some (.dT kvs)))\/(T = "set" /\ ∃ S n,H p=some (.set S n))
 | _=>False
theorem a3v {pins:List (Addr × Obj)} {σ:St} {H:Hp} {s:Shared} {T:String} {x:V} {v:Value} (I:Inv X pins σ H s) (r:RelV x v) (ty:tyV X.K T x H) :
  s.TypeIs v T/\∀ a,v=.ref a->∃ ob,s.heap.get? a=some ob/\ob.dict=none:=by
 cases x with
 | str z =>
  obtain ⟨t,rfl⟩:=r;cases (show T = "str" from ty);exact ⟨typeIs_str s z t,fun _ e=>nomatch e⟩
 | int i =>
  obtain ⟨t,rfl⟩:=r;cases (show T = "int" from ty);exact ⟨typeIs_int s i t,fun _ e=>nomatch e⟩
 | ref p =>
  cases r;rcases ty with ⟨rfl,xs,hq⟩ | ⟨rfl,o,hk,hc,hd⟩ | ⟨rfl,hk⟩ | ⟨rfl,S,n,hk⟩
  ·obtain ⟨ae,_,pl,_⟩:=I.list hq;refine ⟨pl.isList.typeIs,fun a e=>?_⟩;cases e;obtain ⟨o,n,e,c,hd,_⟩:=pl;exact ⟨o,e,hd⟩
  ·refine ⟨⟨o,I.kIn p o hk,hc⟩,fun a e=>?_⟩;cases e;exact ⟨o,I.kIn _ o hk,hd⟩
  ·have z:∃ o,s.heap.get? p=some o/\o.ExactDict:=by
    rcases hk with ⟨kvs,hk⟩ | ⟨kvs,hk⟩
    ·obtain ⟨_,_,_,_,o,_,_,e,ex,_⟩:=I.hok p _ hk;exact ⟨o,e,ex⟩
    ·obtain ⟨_,_,_,_,o,_,_,e,ex,_⟩:=I.hok p _ hk;exact ⟨o,e,ex⟩
   obtain ⟨o,e,ex⟩:=z;refine ⟨⟨o,e,ex.1⟩,fun a e2=>?_⟩;cases e2;exact ⟨o,e,ex.2.1⟩
  ·obtain ⟨o,_,_,_,e,ex,_⟩:=I.hok p _ hk;refine ⟨⟨o,e,ex.1⟩,fun a e2=>?_⟩;cases e2;exact ⟨o,e,ex.2.1⟩
 | _=>exact False.elim ty
def ad9 (K:PySem.W.Frag) (T:String) (r:V->List V->Hp->VK->Prop) (to:TE):TE:=fun σ H Q=>to σ H fun x H1=>tyV K T x H1/\r x [] H1 Q
def tBM (K:PySem.W.Frag) (T:String) (r:V->List V->Hp->VK->Prop) (to:TE) (t:TA):TE:=fun σ H Q=>to σ H fun x H1=>tyV K T x H1/\t σ H1 fun xs H2=>r x xs H2 Q
variable {o e:Expr} {es:List Expr} {to:TE} {t:TA} {name:Str} {apos aw:Pos} {T id:String} {r:V->List V->Hp->VK->Prop}
theorem a8f (pa:PlainAttrs T) (slot:Slot T name id) (a6:typeOf (.builtin id)=pure (.type "method_descriptor")) (hm:MtR X id r) (ho:PE X o to)
  (aP:attributeBase o name X.env (eval o X.env)=eval o X.env:=by rfl) (aW:(apos.endLine==aw.line)=true:=by rfl):PE X (.Call (.Attribute o name apos) [] [] aw) (ad9 X.K T r to):=by
 intro pins s σ H Q I h;refine wpAny_Call_method0_late aP aW (thn (ho pins s σ H _ I h) fun v s1 z0=>?_);obtain ⟨x,H1,I1,r1,ty,q1⟩:=z0;obtain ⟨h1,h2⟩:=a3v I1 r1 ty;exact ⟨T,id,pa,slot,a6,h1,h2,Calls.callWith_builtin rfl (PySem.evalArgs_none (hm pins s1 σ H1 x [] v [] Q I1 r1 .nil q1))⟩
theorem Mg (pa:PlainAttrs T) (slot:Slot T name id) (a6:typeOf (.builtin id)=pure (.type "method_descriptor")) (hm:MtR X id r) (ho:PE X o to) (ha:PA X (e::es) t)
  (aP:attributeBase o name X.env (eval o X.env)=eval o X.env:=by rfl)
  (cF:((backTo aw (starEach (e::es) X.env)).all (fun x=>!x.1)&&(backToKw aw (keywordEach [] X.env)).all (fun x=>x.1.isSome)
   && decide ((e::es).length+([]:List Keyword).length+(if ([]:List Keyword).isEmpty then 0 else 1)<30))=true:=by rfl)
  (aW:(apos.endLine==aw.line)=true:=by rfl) (hs:starEach (e::es) X.env=(false,eval e X.env)::starEach es X.env:=by rfl) (bc:(backTo aw (starEach es X.env)).any (·.1)=false:=by rfl) :
  PE X (.Call (.Attribute o name apos) (e::es) [] aw) (tBM X.K T r to t):=by
 intro pins s σ H Q I h;refine wpAny_Call_method_late aP cF aW rfl (thn (ho pins s σ H _ I h) fun v s1 z0=>?_);obtain ⟨x,H1,I1,r1,ty,q1⟩:=z0;obtain ⟨h1,h2⟩:=a3v I1 r1 ty;refine ⟨T,id,pa,slot,a6,h1,h2,?_⟩;have hA:=ha aw pins s1 σ H1 _ I1 q1;rw [hs] at hA ⊢;refine Calls.callWith_builtin (by show (false||(backTo aw (starEach es X.env)).any (·.1))=false; rw [bc] <;> rfl) (Calls.evalArgs_plain ?_);exact thn hA fun us s2 ⟨vs,H2,I2,r2,q2⟩=>hm pins s2 σ H2 x vs v us Q I2 r1 r2 q2
end
end L2
namespace L2
open PySem PySem.Spec PyProof.Rows
def MtM (X:Cx) (id:String) (r:V->List V->Hp->VK->Prop):Prop :=
 ∀ (pins:List (Addr × Obj)) (s:Shared) (σ:St) (H:Hp) (x:V) (xs:List V) (v:Value) (us:List Value) (Q:VK),Inv X pins σ H s->RelV x v->Vals xs us->r x xs H Q ->
  wpAny (model X.prog X.w) X.A (call (.builtin id) (v::us)) (EP X pins σ Q) X.xe s
theorem Vals.one {x:V} {us:List Value} (h:Vals [x] us):∃ u,us=[u]/\RelV x u:=by
 cases h with
 | cons r t=>cases t; exact ⟨_,rfl,r⟩
theorem Vals.two {x y:V} {us:List Value} (h:Vals [x,y] us):∃ u v,us=[u,v]/\RelV x u/\RelV y v:=by
 cases h with
 | cons r t=>obtain ⟨v,e,q⟩:=Vals.one t; exact ⟨_,v,congrArg _ e,r,q⟩
theorem Vals.zero:∀ {us:List Value},Vals [] us->us=[]
 | _,.nil=>rfl
theorem Vals.dropLast {xs:List V} {us:List Value} (h:Vals xs us):Vals xs.dropLast us.dropLast:=by
 induction h with
 | nil=>exact .nil
 | cons r t ih =>
  cases t with
  | nil=>exact .nil
  | cons q t'=>exact .cons r ih
theorem Vals.reverse {xs:List V} {us:List Value} (h:Vals xs us):Vals xs.reverse us.reverse:=by
 induction h with
 | nil=>exact .nil
 | cons r t ih=>rw [List.reverse_cons,List.reverse_cons]; exact Vals.append ih (.cons r .nil)
theorem Vals.rep {xs:List V} {us:List Value} (h:Vals xs us):∀ k:Nat,Vals (List.replicate k xs).flatten (List.replicate k us).flatten
 | 0=>.nil
 | k+1=>by
  rw [List.replicate_succ,List.replicate_succ,List.flatten_cons,List.flatten_cons];exact Vals.append h (Vals.rep h k)
theorem Vd {α:Type} (l:List α):l.eraseIdx (l.length - 1)=l.dropLast:=by
 induction l with
 | nil=>rfl
 | cons a r ih =>
  cases r with
  | nil=>rfl
  | cons b r =>
   have e:(a::b::r).length - 1=((b::r).length - 1)+1:=by
    have h1:(a::b::r).length=r.length+2:=rfl;have h2:(b::r).length=r.length+1:=rfl;omega
   rw [e,List.eraseIdx_cons_succ,ih]
   all_goals rfl
theorem foldl_rep (ae:List Value):∀ (k:Nat) (acc:List Value),
  List.foldl (fun x1 x2=>x1++x2) acc.toArray (List.replicate k ae.toArray)=(acc++(List.replicate k ae).flatten).toArray
 | 0,acc=>by simp
 | k+1,acc=>by
  have e:acc.toArray++ae.toArray=(acc++ae).toArray:=by simp
  have e2:(acc++ae)++(List.replicate k ae).flatten=acc++(List.replicate (k+1) ae).flatten:=by
   rw [List.replicate_succ,List.flatten_cons,List.append_assoc]
  rw [<- e2,<- foldl_rep ae k (acc++ae),<- e,List.replicate_succ,List.foldl_cons]
section
variable {X:Cx} {pins:List (Addr × Obj)} {σ:St} {H:Hp} {s:Shared} {l b:Addr} {xs ys zs:List V}
theorem Inv.abo {ae its':List Value} {n:Nat} {f:Array Value->Array Value} {t':Nat} (I:Inv X pins σ H s) (hH:H l=some (.lst xs))
  (e:s.heap.get? l=some { cls:=.type "list",data:=.seq ae.toArray n }) (hf:f ae.toArray=its'.toArray) (hv:Vals ys its') (hz:ys.length<=sizeLine) :
  Inv X pins σ (upd H l (.lst ys)) { s with heap:=s.heap.update l (Obj.mapSeq f),toks:=t' }:=by
 have q:=PySem.IsL.update e f;rw [hf] at q;refine I.write (x:=l) (e:=l) (by rw [hH]; exact trivial) (.inl rfl) (fun b' u hb hu=>(Heap.get?_update_other s.heap (Obj.mapSeq f) (Ne.symm hb)).trans hu) ⟨_,q⟩ ?_;exact ⟨hz,its',_,hv,q⟩
theorem Inv.ad6 {ae:List Value} {t':Nat} (I:Inv X pins σ H s) (hv:Vals ys ae) (hz:ys.length<=sizeLine) :
  Inv X pins σ (upd H s.heap.objs.size (.lst ys)) { s with heap:=s.heap.push { cls:=.type "list",data:=.seq ae.toArray },toks:=t' } :=
 I.laid (fun _ _ q=>Heap.get?_push_of_some _ q) (Nat.le_refl _) ⟨hz,ae,0,hv,Heap.get?_push_size _ rfl⟩
theorem Inv.fresh (I:Inv X pins σ H s):H s.heap.objs.size=none:=I.hok.fresh (Nat.le_refl _)
theorem Inv.aai (I:Inv X pins σ H s) (hH:H l=some (.lst xs)):xs.length<=sizeLine/\∃ (ae:List Value) (n:Nat),Vals xs ae/\xs.length=ae.length/\s.heap.get? l=some { cls:=.type "list",data:=.seq ae.toArray n }:=by
 obtain ⟨z,ae,n,r,e⟩:=I.hok l _ hH;exact ⟨z,ae,n,r,r.length,e⟩
theorem Uo {n:Nat} (h:n<=sizeLine):Builtin.List.listTooLong n=false:=by
 unfold Builtin.List.listTooLong;exact decide_eq_false (by omega)
end
section
variable {X:Cx}
def Rm:V->List V->Hp->VK->Prop:=fun x vs H Q=>∃ l xs y,x=.ref l/\vs=[y]/\H l=some (.lst xs)/\xs.length<sizeLine/\Q .non (upd H l (.lst (xs++[y])))
theorem wj:MtM X "list.append" Rm:=by
 intro pins s σ H x vs v us Q I rx rv h;obtain ⟨l,xs,y,rfl,rfl,hH,hz,q⟩:=h;cases rx;obtain ⟨u,rfl,ru⟩:=rv.one;obtain ⟨z,ae,n,r,hl,e⟩:=I.aai hH;refine call_meets F.slot_list_append ⟨_,e,rfl⟩ F.entry_list_append (F.args_list_append_2 _ _) (PySem.list_append l ae.toArray n u (by rw [List.size_toArray]; omega)) ⟨e,?_⟩;refine ⟨.non,_,I.abo (its':=ae++[u]) hH e (by simp) (r.append (.cons ru .nil)) ?_,rfl,q⟩;rw [List.length_append,List.length_singleton];omega
def ad7:V->List V->Hp->VK->Prop:=fun x vs H Q=>∃ l xs y,x=.ref l/\vs=[]/\H l=some (.lst xs)/\xs[xs.length - 1]? = some y/\Q y (upd H l (.lst xs.dropLast))
theorem a8u:MtM X "list.pop" ad7:=by
 intro pins s σ H x vs v us Q I rx rv h;obtain ⟨l,xs,y,rfl,rfl,hH,hy,q⟩:=h;cases rx;have gF:=rv.zero;subst gF;obtain ⟨z,ae,n,r,hl,e⟩:=I.aai hH;obtain ⟨u,hu,ru⟩:=r.get hy
 have dQ:ae.toArray[ae.toArray.size - 1]? = some u:=by
  show ae.toArray[ae.length - 1]? = some u;rw [<- Array.getElem?_toList,<- hl];exact hu
 refine call_meets F.slot_list_pop ⟨_,e,rfl⟩ F.entry_list_pop (F.args_list_pop_1 _) (MeetsSeq.list_pop_last l ae.toArray n u dQ (by rw [List.size_toArray]; omega)) ⟨e,?_⟩;refine ⟨y,_,I.abo (its':=ae.dropLast) hH e ?_ r.dropLast ?_,ru,q⟩
 ·show ae.toArray.eraseIdxIfInBounds (ae.toArray.size - 1)=ae.dropLast.toArray;rw [List.size_toArray,List.eraseIdxIfInBounds_toArray,Vd]
 ·rw [List.length_dropLast];omega
noncomputable def ae1:R2:=fun x y H Q=>∃ l k xs,x=.ref l/\y=.int k/\H l=some (.lst xs)/\-(2 ^ 63)<=k/\k<2 ^ 63/\xs.length * k.toNat<=sizeLine /\
 ∀ p,H p=none->Q (.ref p) (upd H p (.lst (List.replicate k.toNat xs).flatten))
theorem len_rep {α:Type} (xs:List α) (k:Nat):(List.replicate k xs).flatten.length=k * xs.length:=by
 induction k with
 | zero=>simp
 | succ k ih=>rw [List.replicate_succ,List.flatten_cons,List.length_append,ih,Nat.succ_mul,Nat.add_comm]
theorem a89:OpR X (binaryOp .Mult) ae1:=by
 intro pins s σ H x y v u Q I rx ry h;obtain ⟨l,k,xs,rfl,rfl,hH,h1,h2,hz,q⟩:=h;cases rx;obtain ⟨t,rfl⟩:=ry;obtain ⟨z,ae,n,r,hl,e⟩:=I.aai hH;have hlen:ae.toArray.size * k.toNat<=sizeLine:=by rw [List.size_toArray,<- hl]; exact hz
 have aG:¬ ae.toArray.size * k.toNat > (2 ^ 63 - 1) / 8:=by
  have:(sizeLine:Nat)<=(2 ^ 63 - 1) / 8:=by decide
  omega
 have dO:¬ (!Builtin.List.listFitsIndex k)=true:=by
  rw [fitsIndex_both h1 h2];exact Bool.false_ne_true
 have bB:¬ Builtin.List.listTooLong (ae.toArray.size * k.toNat)=true:=by
  rw [Uo hlen];exact Bool.false_ne_true
 have dP:List.foldl (fun x1 x2=>x1++x2) #[] (List.replicate (if ae.toArray.isEmpty=true then 0 else k.toNat) ae.toArray)=(List.replicate k.toNat ae).flatten.toArray:=by
  have f0:∀ m:Nat,List.foldl (fun x1 x2=>x1++x2) #[] (List.replicate m ae.toArray)=(List.replicate m ae).flatten.toArray:=fun m=>by
   have:=foldl_rep ae m [];rw [List.nil_append] at this;exact this
  rw [f0];cases ae with
  | nil=>simp
  | cons a r'=>rw [if_neg (by simp)]
 refine wpAny_binaryOp_repeat_ref (T := "list") (U := "int") (by decide) ⟨_,e,rfl⟩ (fun s'=>typeIs_int s' k t) noFill_list_mul F.fills_int_mul F.slot_int_rmul repeat_list F.slot_int_index.lookup
  (call_meets F.slot_int_rmul (typeIs_int s k t) F.entry_int_rmul (F.args_int_rmul_2 _ _) (int___rmul___int_list k t l ae.toArray n)
   ⟨e,rfl,⟨_,e,rfl⟩,call_meets F.slot_list_mul ⟨_,e,rfl⟩ F.entry_list_mul (F.args_list_mul_2 _ _) (AutoListH.list___mul___list_int_3 l ae.toArray n k t dO aG bB) ⟨e,?_⟩⟩)
 rw [dP];exact ⟨.ref _,_,I.ad6 (t':=s.toks) (r.rep k.toNat) (by rw [len_rep,Nat.mul_comm]; exact hz),rfl,q _ I.fresh⟩
end
section
variable {prog:Program} {w:World} {A:Around} {E:Value->Shared->Prop} {s:Shared}
end
section
variable {X:Cx}
end
section
variable {κ:Type} [DecidableEq κ]
def Rk (kvs:List (κ × V)) (k:κ):Option V:=(kvs.find? fun kv=>decide (kv.1=k)).map (·.2)
noncomputable def putK (kvs:List (κ × V)) (k:κ) (v:V):List (κ × V) :=
 if (kvs.any fun kv=>decide (kv.1=k))=true then kvs.map (fun kv=>if kv.1=k then (kv.1,v) else kv) else kvs++[(k,v)]
theorem Hq {p:κ × V} {r:List (κ × V)} {k:κ} (e:p.1=k):Rk (p::r) k=some p.2:=by simp [Rk,List.find?_cons,e]
theorem Hi {p:κ × V} {r:List (κ × V)} {k:κ} (e:¬ p.1=k):Rk (p::r) k=Rk r k:=by simp [Rk,List.find?_cons,e]
theorem Tr (k:κ):∀ kvs:List (κ × V),(kvs.any fun kv=>decide (kv.1=k))=(Rk kvs k).isSome
 | []=>rfl
 | p::r=>by
  rw [List.any_cons]
  by_cases e:p.1=k
  ·simp only [Hq e,decide_eq_true e,Bool.true_or,Option.isSome_some]
  ·rw [Hi e,decide_eq_false e,Bool.false_or]; exact Tr k r
theorem Jj (kvs:List (κ × V)) (k:κ) (v:V):(putK kvs k v).length<=kvs.length+1:=by
 unfold putK;split
 ·rw [List.length_map]; omega
 ·rw [List.length_append,List.length_cons,List.length_nil]; omega
theorem Le.Cj {o:Option V} {u:Option Value} (r:Le o u):o.isSome=u.isSome:=by
 cases o with
 | none=>cases u with
  | none=>rfl
  | some _=>exact (show False from r).elim
 | some _=>cases u with
  | none=>exact (show False from r).elim
  | some _=>rfl
theorem Le.getD {o:Option V} {u:Option Value} {d:V} {d':Value} (r:Le o u) (rd:RelV d d'):RelV (o.getD d) (u.getD d'):=by
 cases o with
 | none=>cases u with
  | none=>exact rd
  | some _=>exact (show False from r).elim
 | some _=>cases u with
  | none=>exact (show False from r).elim
  | some _=>exact r
theorem KV.val {kvs:List (κ × V)} {vs:List (κ × Value)} (r:KV kvs vs) (k:κ):Le (Rk kvs k) (valueAt vs k):=by
 unfold KV at r
 induction r with
 | nil=>exact True.intro
 | @cons p q ps qs h t ih =>
  obtain ⟨h1,h2⟩:=h
  by_cases e:p.1=k
  ·have e':q.1=k:=h1.symm.trans e;have b:valueAt (q::qs) k=some q.2:=by simp [valueAt,List.find?_cons,e']
   rw [Hq e,b]; exact h2
  ·have e':¬ q.1=k:=fun z=>e (h1.trans z);have b:valueAt (q::qs) k=valueAt qs k:=by simp [valueAt,List.find?_cons,e']
   rw [Hi e,b]; exact ih
theorem KV.any {kvs:List (κ × V)} {vs:List (κ × Value)} (r:KV kvs vs) (k:κ):(kvs.any fun kv=>decide (kv.1=k))=vs.any fun kv=>decide (kv.1=k):=by
 unfold KV at r
 induction r with
 | nil=>rfl
 | cons h t ih=>rw [List.any_cons,List.any_cons,ih,h.1]
theorem KV.repl {kvs:List (κ × V)} {vs:List (κ × Value)} (r:KV kvs vs) (k:κ) {y:V} {u:Value} (ry:RelV y u) :
  KV (kvs.map fun kv=>if kv.1=k then (kv.1,y) else kv) (vs.map fun kv=>if kv.1=k then (kv.1,u) else kv):=by
 unfold KV at r ⊢
 induction r with
 | nil=>exact .nil
 | @cons p q ps qs h t ih =>
  rw [List.map_cons,List.map_cons];refine .cons ?_ ih;obtain ⟨h1,h2⟩:=h
  by_cases e:p.1=k
  ·rw [if_pos e,if_pos (h1.symm.trans e)]; exact ⟨h1,ry⟩
  ·rw [if_neg e,if_neg (fun z=>e (h1.trans z))]; exact ⟨h1,h2⟩
theorem KV.put {kvs:List (κ × V)} {vs:List (κ × Value)} (r:KV kvs vs) (k:κ) {y:V} {u:Value} (ry:RelV y u):KV (putK kvs k y) (stored vs k u):=by
 unfold putK stored;rw [r.any k]
 by_cases e:(vs.any fun kv=>decide (kv.1=k))=true
 ·rw [if_pos e,if_pos e]; exact r.repl k ry
 ·rw [if_neg e,if_neg e]; exact Paired.snoc r ⟨rfl,ry⟩
theorem KV.keys {kvs:List (κ × V)} {vs:List (κ × Value)} (r:KV kvs vs):kvs.map (·.1)=vs.map (·.1):=by
 unfold KV at r
 induction r with
 | nil=>rfl
 | cons h t ih=>rw [List.map_cons,List.map_cons,ih,h.1]
theorem KV.length {kvs:List (κ × V)} {vs:List (κ × Value)} (r:KV kvs vs):kvs.length=vs.length:=Paired.length r
end
theorem Wb {P:Program} {w:World} {k:Key} {u:Value} (r:RelV (kV k) u):(qj P w).is k u=true:=by
 cases k with
 | inl i=>obtain ⟨t,e⟩:=(show ∃ t,u=Value.int i t from r); subst e; exact Qk P w i t
 | inr x=>obtain ⟨t,e⟩:=(show ∃ t,u=Value.str x t from r); subst e; exact Qx P w x t
theorem Np {P:Program} {w:World}:∀ {ks:List Key} {us:List Value},Vals (ks.map kV) us->ItemsAre (qj P w) ks us
 | [],_,r=>by rw [List.map_nil] at r; cases r; exact .nil
 | k::ks,_,r=>by
  rw [List.map_cons] at r;cases r with
  | cons h t=>exact .cons (Wb h) (Np t)
abbrev KT (H:Hp):List (List Key × V)->List (List Key × Addr × Value)->Prop:=Paired fun p q=>p.1=q.1/\H q.2.1=some (.tup (p.1.map kV))/\RelV p.2 q.2.2
theorem KT.val {H:Hp} {kvs:List (List Key × V)} {xs:List (List Key × Addr × Value)} (r:KT H kvs xs) (k:List Key):Le (Rk kvs k) ((atKey xs k).map (·.2)):=by
 induction r with
 | nil=>exact True.intro
 | @cons p q ps qs h t ih =>
  obtain ⟨h1,_,h2⟩:=h
  by_cases e:p.1=k
  ·have e':q.1=k:=h1.symm.trans e;have b:atKey (q::qs) k=some q.2:=by simp [atKey,List.find?_cons,e']
   rw [Hq e,b]; exact h2
  ·have e':¬ q.1=k:=fun z=>e (h1.trans z);have b:atKey (q::qs) k=atKey qs k:=by simp [atKey,List.find?_cons,e']
   rw [Hi e,b]; exact ih
theorem KT.repl {H:Hp} {kvs:List (List Key × V)} {xs:List (List Key × Addr × Value)} (r:KT H kvs xs) (k:List Key) {y:V} {u:Value} (ry:RelV y u) :
  KT H (kvs.map fun kv=>if kv.1=k then (kv.1,y) else kv) (xs.map (putAt k u)):=by
 induction r with
 | nil=>exact .nil
 | @cons p q ps qs h t ih =>
  rw [List.map_cons,List.map_cons];refine .cons ?_ ih;obtain ⟨h1,h2,h3⟩:=h;unfold putAt
  by_cases e:p.1=k
  ·rw [if_pos e,if_pos (h1.symm.trans e)]; exact ⟨h1,h2,ry⟩
  ·rw [if_neg e,if_neg (fun z=>e (h1.trans z))]; exact ⟨h1,h2,h3⟩
theorem KT.put {H:Hp} {kvs:List (List Key × V)} {xs:List (List Key × Addr × Value)} (r:KT H kvs xs) (k:List Key) {b:Addr} {y:V} {u:Value} (hb:H b=some (.tup (k.map kV))) (ry:RelV y u) :
  KT H (putK kvs k y) (storedH xs k b u):=by
 have e:(kvs.any fun kv=>decide (kv.1=k))=(atKey xs k).isSome:=by
  rw [Tr,(r.val k).Cj,Option.isSome_map]
 unfold putK storedH;rw [e]
 by_cases q:(atKey xs k).isSome=true
 ·rw [if_pos q,if_pos q]; exact r.repl k ry
 ·rw [if_neg q,if_neg q]; exact Paired.snoc r ⟨rfl,hb,ry⟩
theorem KT.keeps {H H':Hp} {kvs:List (List Key × V)} {xs:List (List Key × Addr × Value)} (r:KT H kvs xs) (ht:∀ b ys,H b=some (.tup ys)->H' b=some (.tup ys)):KT H' kvs xs :=
 Paired.ad1 r fun _ _ z=>⟨z.1,ht _ _ z.2.1,z.2.2⟩
section
variable {P:Program} {w:World} {H:Hp} {h:Heap} {a:Addr}
theorem a9m {u:HO} (ok:HOk P w H h) (e:Rd H a u):ur P w H h a u:=e.ok ok
theorem Gw {kvs:List (Key × V)} (ok:HOk P w H h) (e:Rd H a (.dK kvs)):kvs.length<=sizeLine/\(a==sysModules)=false/\∃ vs,KV kvs vs/\h.DictOf (qj P w) a vs :=
 show ur P w H h a (.dK kvs) from a9m ok e
theorem ac7 {kvs:List (Key × V)} (ok:HOk P w H h) (e:H a=some (.dK kvs)):kvs.length<=sizeLine/\(a==sysModules)=false/\∃ vs,KV kvs vs/\h.DictOf (qj P w) a vs:=Gw ok (.inl e)
theorem Kr {ks:List Key} (ok:HOk P w H h) (e:H a=some (.tup (ks.map kV))):(tupleKind (qj P w)).is h ks a:=by
 obtain ⟨_,ae,r,o,h1,h2,_,n,h3⟩:=(show ur P w H h a (.tup (ks.map kV)) from ok a _ e);exact ⟨o,ae.toArray,n,h1,h2,h3,by simpa using Np r⟩
theorem S9 {kvs:List (List Key × V)} (ok:HOk P w H h) (e:Rd H a (.dT kvs)):kvs.length<=sizeLine/\(a==sysModules)=false /\
  ∃ xs,KT H kvs xs/\h.DictOfH (tupleKind (qj P w)) a xs:=by
 obtain ⟨z,y,xs,r,o,es,ep,h1,h2,h3,h4,h5⟩:=(show ur P w H h a (.dT kvs) from a9m ok e);refine ⟨z,y,xs,r,o,es,ep,h1,h2,h3,h4,fun x hx=>?_,h5⟩
 have all:∀ {l:List (List Key × V)} {m:List (List Key × Addr × Value)},KT H l m->∀ x∈m,(tupleKind (qj P w)).is h x.1 x.2.1:=by
  intro l m q
  induction q with
  | nil=>intro x hx; exact nomatch hx
  | @cons p q ps qs hq t ih =>
   intro x hx;rcases List.mem_cons.mp hx with e | hx
   ·subst e;exact Kr ok (by rw [<- hq.1]; exact hq.2.1)
   ·exact ih x hx
 exact all r x hx
theorem aaz {kvs:List (List Key × V)} (ok:HOk P w H h) (e:H a=some (.dT kvs)):kvs.length<=sizeLine/\(a==sysModules)=false /\
  ∃ xs,KT H kvs xs/\h.DictOfH (tupleKind (qj P w)) a xs:=S9 ok (.inl e)
end
def a3u (H:Hp) (a:Addr) (y:V) (r:Option V):Prop :=
 (∃ kvs k,Rd H a (.dK kvs)/\y=kV k/\r=Rk kvs k)\/∃ kvs k b,Rd H a (.dT kvs)/\y=.ref b/\H b=some (.tup (k.map kV))/\r=Rk kvs k
def a7e (H:Hp) (a:Addr) (y v:V) (H':Hp):Prop :=
 (∃ kvs k,H a=some (.dK kvs)/\y=kV k/\kvs.length<sizeLine/\H'=upd H a (.dK (putK kvs k v))) \/
 ∃ kvs k b,H a=some (.dT kvs)/\y=.ref b/\H b=some (.tup (k.map kV))/\kvs.length<sizeLine/\H'=upd H a (.dT (putK kvs k v))
theorem a7e.k {H:Hp} {a:Addr} {kvs:List (Key × V)} {k:Key} {v:V} (e:H a=some (.dK kvs)) (hl:kvs.length<sizeLine):a7e H a (kV k) v (upd H a (.dK (putK kvs k v))):=.inl ⟨kvs,k,e,rfl,hl,rfl⟩
theorem a7e.t {H:Hp} {a b:Addr} {kvs:List (List Key × V)} {k:List Key} {v:V} (e:H a=some (.dT kvs)) (eb:H b=some (.tup (k.map kV))) (hl:kvs.length<sizeLine) :
  a7e H a (.ref b) v (upd H a (.dT (putK kvs k v))):=.inr ⟨kvs,k,b,e,rfl,eb,hl,rfl⟩
section
variable {X:Cx} {pins:List (Addr × Obj)} {σ:St} {H:Hp} {s:Shared} {a:Addr} {y v:V} {u r:Value} {o:Option V} {A:Around} {E:Value->Shared->Prop}
theorem Inv.big (I:Inv X pins σ H s):sysModules<s.heap.objs.size:=by
 have h:mainGlobals<s.heap.objs.size:=(I.mod.glob.keeps I.bk).lt;exact Nat.lt_trans (by decide) h
theorem Y9 {Q:Value->Shared->Prop} (hu:A.units+1<cLine) (I:Inv X pins σ H s) (g:a3u H a y (some v)) (ry:RelV y u) (h:∀ w' s',Inv X pins σ H s'->RelV v w'->Q w' s') :
  wpAny (model X.prog X.w) A (getItem (.ref a) u) Q E s:=by
 rcases g with ⟨kvs,k,e,ey,l⟩ | ⟨kvs,k,b,e,ey,eb,l⟩
 ·subst ey;obtain ⟨z,hd,vs,rel,dd⟩:=Gw I.hok e;obtain ⟨w',hw,bH⟩:=Le.some_of (v:=v) (o:=valueAt vs k) (by rw [l]; exact rel.val k);exact wpAny_getItem_of (Wb ry) dd.mapOf hw (h w' _ (I.tok _) bH)
 ·subst ey;cases (show u=Value.ref b from ry);obtain ⟨z,hd,xs,rel,dd⟩:=S9 I.hok e;obtain ⟨w',hw,bH⟩:=Le.some_of (v:=v) (o:=(atKey xs k).map (·.2)) (by rw [l]; exact rel.val k);obtain ⟨p,hp,cQ⟩:=Option.map_eq_some_iff.mp hw;refine wpAny_getItem_heap (tupleKind_room_in1 hu) (Kr I.hok eb) dd hp ?_;rw [cQ];exact h w' _ (I.tok _) bH
theorem af3 {Q:Value->Shared->Prop} (hu:A.units+1<cLine) (I:Inv X pins σ H s) (g:a3u H a y o) (ry:RelV y u) (h:∀ s',Inv X pins σ H s'->Q (.bool o.isSome) s') :
  wpAny (model X.prog X.w) A (compareOp .In u (.ref a)) Q E s:=by
 rcases g with ⟨kvs,k,e,ey,l⟩ | ⟨kvs,k,b,e,ey,eb,l⟩
 ·subst ey;obtain ⟨z,hd,vs,rel,dd⟩:=Gw I.hok e;refine wpAny_in_of (Wb ry) hd dd.mapOf ?_;rw [<- (rel.val k).Cj,<- l];exact h _ (I.tok _)
 ·subst ey;cases (show u=Value.ref b from ry);obtain ⟨z,hd,xs,rel,dd⟩:=S9 I.hok e;refine wpAny_in_heap (tupleKind_room_in1 hu) (Kr I.hok eb) hd dd ?_;have q:=(rel.val k).Cj;rw [Option.isSome_map] at q;rw [<- q,<- l];exact h _ (I.tok _)
theorem a6x {Q:Value->Shared->Prop} (hu:A.units+1<cLine) (I:Inv X pins σ H s) (g:a3u H a y o) (ry:RelV y u) (h:∀ s',Inv X pins σ H s'->Q (.bool (!o.isSome)) s') :
  wpAny (model X.prog X.w) A (compareOp .NotIn u (.ref a)) Q E s:=by
 rcases g with ⟨kvs,k,e,ey,l⟩ | ⟨kvs,k,b,e,ey,eb,l⟩
 ·subst ey;obtain ⟨z,hd,vs,rel,dd⟩:=Gw I.hok e;refine wpAny_notIn_of (Wb ry) hd dd.mapOf ?_;rw [<- (rel.val k).Cj,<- l];exact h _ (I.tok _)
 ·subst ey;cases (show u=Value.ref b from ry);obtain ⟨z,hd,xs,rel,dd⟩:=S9 I.hok e;refine wpAny_notIn_heap (tupleKind_room_in1 hu) (Kr I.hok eb) hd dd ?_;have q:=(rel.val k).Cj;rw [Option.isSome_map] at q;rw [<- q,<- l];exact h _ (I.tok _)
theorem Ws {h':Heap} {t':Nat} {ob:HO} (I:Inv X pins σ H s) (mu:Mut (H a)) (hs:Heap.SameBut a s.heap h') (he:∃ q,h'.get? a=some q) (new:ur X.prog X.w (upd H a ob) h' a ob) :
  Inv X pins σ (upd H a ob) { s with heap:=h',toks:=t' } :=
 I.write (x:=a) (e:=a) mu (.inl rfl) (fun b q hb z=>(hs.2 b hb).trans z) he new
theorem a81 {P:Program} {w:World} {H':Hp} {h':Heap} {kvs:List (Key × V)} {vs:List (Key × Value)} (z:kvs.length<=sizeLine) (hd:(a==sysModules)=false) (rel:KV kvs vs) (dd:h'.DictOf (qj P w) a vs) :
  ur P w H' h' a (.dK kvs):=⟨z,hd,vs,rel,dd⟩
theorem Xf {H':Hp} {Q:Unit->Shared->Prop} (hu:A.units+1<cLine) (I:Inv X pins σ H s) (g:a7e H a y v H') (ry:RelV y u) (rv:RelV v r) (h:∀ s',Inv X pins σ H' s'->Q () s') :
  wpAny (model X.prog X.w) A (setItem (.ref a) u r) Q E s:=by
 rcases g with ⟨kvs,k,e,ey,l,eH⟩ | ⟨kvs,k,b,e,ey,eb,l,eH⟩
 ·subst ey eH;obtain ⟨z,hd,vs,rel,dd⟩:=ac7 I.hok e;have hz:vs.length<=sizeLine:=by rw [<- rel.length]; exact z
  have hl:(putK kvs k v).length<=sizeLine:=by have:=Jj kvs k v; omega
  refine wpAny_setItem_pairs (hsz:=hz) (Wb ry) dd fun h' bT hs=>h _ ?_;have he:∃ q,h'.get? a=some q:=let ⟨q,_,_,hq,_⟩:=bT; ⟨q,hq⟩;exact Ws I (by rw [e]; exact True.intro) hs he (a81 hl hd (rel.put k rv) bT)
 ·subst ey eH;cases (show u=Value.ref b from ry);obtain ⟨z,hd,xs,rel,dd⟩:=aaz I.hok e;have hz:xs.length<=sizeLine:=by rw [<- Paired.length rel]; exact z
  have hl:(putK kvs k v).length<=sizeLine:=by have:=Jj kvs k v; omega
  refine wpAny_setItem_heap (hsz:=hz) (tupleKind_room_in1 hu) (Kr I.hok eb) dd fun h' bT hs=>h _ ?_;obtain ⟨q,es,ep,hq,h2,h3,h4,_,h5⟩:=bT;refine Ws I (by rw [e]; exact True.intro) hs ⟨q,hq⟩ ⟨hl,hd,_,(rel.put k eb rv).keeps fun c ys ec=>?_,q,es,ep,hq,h2,h3,h4,h5⟩;rw [gb (aax ec e (fun z=>nomatch z))];exact ec
end
section
variable {X:Cx} {pins:List (Addr × Obj)} {σ:St} {H:Hp} {s:Shared} {a:Addr} {kvs:List (Key × V)} {k:Key} {u:Value} {A:Around} {E:Value->Shared->Prop}
theorem a9z {Q:Value->Shared->Prop} (I:Inv X pins σ H s) (e:Rd H a (.dK kvs)) (h:∀ t s',Inv X pins σ H s'->Q (.int kvs.length t) s'):wpAny (model X.prog X.w) A (call (.builtin "len") [.ref a]) Q E s:=by
 obtain ⟨z,hd,vs,rel,dd⟩:=Gw I.hok e;refine call_len_dict hd dd (by rw [<- rel.length]; rw [sizeLine_eq] at z; omega) ?_;rw [<- rel.length];exact h _ _ (I.tok _)
end
theorem Rf {X:Cx} {pins:List (Addr × Obj)} {σ:St} {H:Hp} {s:Shared} {a:Addr} {y:V} {o:Option V} (I:Inv X pins σ H s) (g:a3u H a y o):s.TypeIs (.ref a) "dict" := by
 rcases g with ⟨kvs,k,e,_,_⟩ | ⟨kvs,k,b,e,_,_,_⟩
 ·obtain ⟨_,_,vs,_,dd⟩:=Gw I.hok e;exact dd.typeIs
 ·obtain ⟨_,_,xs,_,dd⟩:=S9 I.hok e;exact dd.typeIs
noncomputable def ab6 (td ty tv:TE):TS:=fun D σ H=>tv σ H fun v H1=>td σ H1 fun x H2=>ty σ H2 fun y H3=>∃ a H4,x=.ref a/\a7e H3 a y v H4/\D.nx σ H4
section
variable {X:Cx} {o i e value:Expr} {pos pos' aK:Pos} {td ty tv:TE}
theorem a5f (hu:X.A.units+1<cLine) (ho:PE X o td) (hi:PE X i ty) (hv:PE X value tv) (hs:swapsWith value (some (.Subscript o i pos')) pos.line X.env=pure false) :
  PS X (.Assign [.Subscript o i pos'] value pos) (ab6 td ty tv):=by
 intro pins s σ H D I h;refine wpAny_Assign_Subscript (thn (hv pins s σ H _ I h) fun r s1 ⟨v,H1,I1,rv,q1⟩=>thn (ho pins s1 σ H1 _ I1 q1) fun u s2 ⟨x,H2,I2,rx,q2⟩=>thn (hi pins s2 σ H2 _ I2 q2) fun iv s3 ⟨y,H3,I3,ry,a,H4,ex,g,q3⟩=>?_) hs;subst ex;obtain rfl:u=Value.ref a:=rx;exact Xf hu I3 g ry rv fun s4 I4=>⟨σ,H4,I4,q3⟩
end
theorem a1j {P:Program} {w:World} {H:Hp} (h:Heap) (hb:sysModules<h.objs.size):ur P w H (h.push { cls:=.type "dict",data:=.dict #[] }) h.objs.size (.dK []) :=
 ⟨Nat.zero_le _,beq_eq_false_iff_ne.mpr (Ne.symm (Nat.ne_of_lt hb)),[],.nil,Heap.DictOf.new h⟩
def a9g:TE:=fun _ H Q=>∀ p,H p=none->Q (.ref p) (upd H p (.dK []))
section
variable {X:Cx} {pos:Pos}
theorem a1c:PE X (.Dict [] [] pos) a9g:=fun pins s σ H Q I h =>
 wpAny_Dict_empty ⟨.ref s.heap.objs.size,_,I.laid (a:=s.heap.objs.size) (o:=.dK []) (t':=s.toks) (fun _ _ q=>Heap.get?_push_of_some _ q) (Nat.le_refl _) (a1j s.heap I.big),rfl,h _ (I.hok.fresh (Nat.le_refl _))⟩
end
structure M1 (X:Cx) (o:Expr) (m:Str) (apos:Pos) (e:Expr) (aw:Pos):Prop where
 base:attributeBase o m X.env (eval o X.env)=eval o X.env
 few:((backTo aw (starEach [e] X.env)).all (fun x=>!x.1)&&(backToKw aw (keywordEach [] X.env)).all (fun x=>x.1.isSome)
  && decide (([e]:List Expr).length+([]:List Keyword).length+(if ([]:List Keyword).isEmpty then 0 else 1)<30))=true
 line:(apos.endLine==aw.line)=true
 trees:backTo aw (starEach [e] X.env)=[(false,eval e X.env)]
structure M2 (X:Cx) (o:Expr) (m:Str) (apos:Pos) (e f:Expr) (aw:Pos):Prop where
 base:attributeBase o m X.env (eval o X.env)=eval o X.env
 few:((backTo aw (starEach [e,f] X.env)).all (fun x=>!x.1)&&(backToKw aw (keywordEach [] X.env)).all (fun x=>x.1.isSome)
  && decide (([e,f]:List Expr).length+([]:List Keyword).length+(if ([]:List Keyword).isEmpty then 0 else 1)<30))=true
 line:(apos.endLine==aw.line)=true
 trees:backTo aw (starEach [e,f] X.env)=[(false,eval e X.env),(false,eval f X.env)]
def IsD (H:Hp) (a:Addr):Prop:=(∃ kvs,Rd H a (.dK kvs))\/∃ kvs,Rd H a (.dT kvs)
theorem a9c {X:Cx} {pins:List (Addr × Obj)} {σ:St} {H:Hp} {s:Shared} {a:Addr} (I:Inv X pins σ H s) (d:IsD H a) :
  s.TypeIs (.ref a) "dict" /\ (∀ b,Value.ref a=.ref b->∃ ob,s.heap.get? b=some ob/\ob.dict=none)/\(a==sysModules)=false:=by
 rcases d with ⟨kvs,e⟩ | ⟨kvs,e⟩
 ·obtain ⟨_,hd,vs,_,dd⟩:=Gw I.hok e;refine ⟨dd.typeIs,fun b q=>?_,hd⟩;cases q;obtain ⟨ob,_,_,h1,h2,_⟩:=dd;exact ⟨ob,h1,h2.2.1⟩
 ·obtain ⟨_,hd,xs,_,dd⟩:=S9 I.hok e;refine ⟨dd.typeIs,fun b q=>?_,hd⟩;cases q;obtain ⟨ob,_,_,h1,h2,_⟩:=dd;exact ⟨ob,h1,h2.2.1⟩
section
variable {X:Cx} {pins:List (Addr × Obj)} {σ:St} {H:Hp} {s:Shared} {a:Addr} {y d:V} {u r:Value} {o:Option V} {A:Around} {E:Value->Shared->Prop}
theorem a85 {Q:Value->Shared->Prop} (hu:A.units+1<cLine) (I:Inv X pins σ H s) (g:a3u H a y o) (ry:RelV y u) (rd:RelV d r) (h:∀ w' s',Inv X pins σ H s'->RelV (o.getD d) w'->Q w' s') :
  wpAny (model X.prog X.w) A (call (.builtin "dict.get") [.ref a,u,r]) Q E s:=by
 rcases g with ⟨kvs,k,e,ey,l⟩ | ⟨kvs,k,b,e,ey,eb,l⟩
 ·subst ey;obtain ⟨z,hd,vs,rel,dd⟩:=Gw I.hok e;refine call_meetsIn PySem.F.slot_dict_get dd.typeIs PySem.F.entry_dict_get (PySem.F.args_dict_get_3 _ _ _) (meets_dict_get_default (qj X.prog X.w) a (Wb ry) hd r) ⟨_,dd.mapOf,h _ _ (I.tok _) ?_⟩;rw [l];exact (rel.val k).getD rd
 ·subst ey;cases (show u=Value.ref b from ry);obtain ⟨z,hd,xs,rel,dd⟩:=S9 I.hok e;refine call_meetsIn PySem.F.slot_dict_get dd.typeIs PySem.F.entry_dict_get (PySem.F.args_dict_get_3 _ _ _) (meetsH_dict_get_default (tupleKind (qj X.prog X.w)) a b hd r) ⟨tupleKind_room_in1 hu,k,xs,Kr I.hok eb,dd,h _ _ (I.tok _) ?_⟩;rw [l];exact (rel.val k).getD rd
end
noncomputable def a9n (td ty tx:TE):TE:=fun σ H Q=>td σ H fun x H1=>∃ a,x=.ref a/\IsD H1 a/\ty σ H1 fun y H2=>tx σ H2 fun z H3=>∃ o,a3u H3 a y o/\Q (o.getD z) H3
section
variable {X:Cx} {o e f:Expr} {apos aw:Pos} {td ty tx:TE}
theorem a1f (hu:X.A.units+1<cLine) (ho:PE X o td) (he:PE X e ty) (hf:PE X f tx) (m:M2 X o "get" apos e f aw):PE X (.Call (.Attribute o "get" apos) [e,f] [] aw) (a9n td ty tx):=by
 intro pins s σ H Q I h;refine wpAny_Call_method m.base m.few m.line PySem.F.plainAttrs_dict PySem.F.slot_dict_get PySem.F.type_dict_get (thn (ho pins s σ H _ I h) fun u s1 z0=>?_);obtain ⟨x,H1,I1,rx,a,ex,d,q1⟩:=z0;subst ex;obtain rfl:u=Value.ref a:=rx;obtain ⟨t1,t2,_⟩:=a9c I1 d;refine ⟨t1,t2,?_⟩;rw [m.trees]
 refine Calls.callWith_builtin rfl (Calls.evalArgs_plain (Calls.spliced_cons (thn (he pins s1 σ H1 _ I1 q1) fun iv s2 ⟨y,H2,I2,ry,q2⟩ =>
  Calls.spliced_cons (thn (hf pins s2 σ H2 _ I2 q2) fun fv s3 ⟨z,H3,I3,rz,ov,g,q3⟩=>Calls.spliced_nil ?_))))
 exact a85 hu I3 g ry rz fun w' s4 I4 bH=>⟨_,H3,I4,bH,q3⟩
end
section
variable {X:Cx} {pins:List (Addr × Obj)} {σ:St} {H:Hp} {s:Shared} {a:Addr} {kvs:List (Key × V)} {A:Around} {E:Value->Shared->Prop}
end
section
variable {X:Cx} {pins:List (Addr × Obj)} {σ:St} {H:Hp} {s:Shared} {a:Addr} {y:V} {u:Value} {A:Around} {E:Value->Shared->Prop}
end
end L2
end
section
namespace Att
open PySem PySem.W PySem.Calls PyProof.Rows
theorem Je {P:Params} {h:Heap}:∀ (ns:List Int) (vs:List Value),WellAll P h vs (ns.map WData.int)->IntsAre vs ns:=by
 intro ns
 induction ns with
 | nil =>
  intro vs w;rw [List.map_nil] at w;cases w;exact .nil
 | cons n ns ih =>
  intro vs w;rw [List.map_cons] at w;cases w with
  | cons a b =>
   cases a;exact .cons _ _ (ih _ b)
theorem Zy {l:OpenLaw} {n:Nat} (hn:l.most=some n) {P:Params} {h:Heap} {args:List WData} {vals:List Value}
  (aF:l.row.toRowW.claim.pre args=true) (eC:WellAll P h vals args) :
  ∃ a vs ns,vals=[Value.ref a]/\args=[WData.list (ns.map WData.int)]/\h.get? a=some { cls:=.type "list",data:=.seq vs.toArray }/\IntsAre vs ns/\ns.length<=n:=by
 have gv:WShape.hasAll [] args [.list .int]=true:=(pre_splitW aF).1;have hc:l.pre.holds [] { args:=args } = true:=(pre_splitW aF).2;obtain ⟨d,r,rfl,h1,h2⟩:=hasAllW_cons gv;obtain rfl:=hasAllW_nil h2;obtain ⟨xs,rfl,h3⟩:=hasW_list h1;obtain ⟨ns,rfl⟩:=items_int h3
 have hlen:ns.length<=n:=by
  unfold OpenLaw.pre at hc
  have h4:(WTm.not (.lt (.lit (.int (n:Int))) (.len (.arg 0)))).holds [] { args:=[.list (ns.map .int)] } = true:=by
   have h4:=(holds_andW hc).1;rw [hn] at h4;exact h4
  have h5:=condW_of h4 (w_not (w_lt w_lit (w_len_list (w_arg rfl))));rw [List.length_map] at h5;refine Nat.le_of_not_lt fun q=>?_;have q':(n:Int)<((ns.length:Nat):Int):=by omega
  first
   | (rw [decide_eq_true q'] at h5; exact absurd h5 (by decide))
   | (simp at h5; omega)
 cases eC with
 | cons w1 w2 =>
  cases w2;cases w1 with
  | list ho hall=>exact ⟨_,_,ns,rfl,rfl,ho,Je ns _ hall,hlen⟩
theorem Yq (l:OpenLaw) (args:List WData):l.row.toRowW.claim.post args (.bool true) args=true :=
 postW_of (r:=l.row.toRowW) (X:=(true==true))
  (show WShape.has [] (.bool true) .bool=true by first | rfl | decide | simp [WShape.has,WShape.arms,WShape.armsAll])
  (show (WTm.eq .res (.lit (.bool true))).value [] { args:=args,res:=some (.bool true),after:=args } = some (.bool (true==true)) from w_eq_bool (w_res rfl) w_lit) rfl
theorem R7 {l:OpenLaw} {n:Nat} {q:Program} {loose:List Str} {XP:(Str->Option Value)->Heap->Prop} {YP:World->Heap->Prop} {d:DefRec}
  (hn:l.most=some n) (cO:d.params.defaults=[])
  (call:∀ (w:World) (s₀ ah:Shared) (mg mb:Str->Option Value) (fa:Addr) (o:Obj) (pm cd doc:Value) (a:Addr) (vs:List Value) (ns:List Int),
   Ground q loose [] XP w s₀ mg mb ah.heap->YP w ah.heap ->
   ah.heap.get? fa=some o->o.data=.func (docDef d.name d.params d.body d.scope pm cd doc)->ah.heap.CodeRec cd d.name->mg d.name=some (.ref fa) ->
   ah.heap.get? a=some { cls:=.type "list",data:=.seq vs.toArray }->IntsAre vs ns->ns.length<=n->ah.gens = #[] ->
   codeAny (model l.prog w) callerA (.call (.ref fa) ⟨[.ref a],[]⟩) (fun r s'=>r=.ok (.ret (.bool true))/\OldK ah.heap s'.heap/\s'.os=ah.os/\AllBare s'.gens) ah) :
  WalkO q loose XP YP l.row.toRowW d [] (fun f vs=>PySem.call f vs):=by
 intro w s₀ ah mg mb G Y fa o pm cd doc dV kV ho hd a7 hD cB hg args vals as aF fP gX eC gY;obtain rfl:dV=.none:=Dflts.none hD cO;obtain rfl:kV=.none:=Dflts.noKw hD;obtain ⟨a,vs,ns,rfl,rfl,cC,hints,hlen⟩:=Zy hn aF eC;refine enter_call (codeAny_mono (call w s₀ ah mg mb fa o pm cd doc a vs ns G Y ho (fd_plain hd) a7 cB cC hints hlen hg) fun r s' hq=>?_);obtain ⟨rfl,h2,h3,h4⟩:=hq;exact ⟨.inl ⟨.bool true,.bool true,[],rfl,fun _=>rfl,.bool true,Yq l _,fun _=>⟨List.Pairwise.nil,fun _ hm=>(nomatch hm)⟩⟩,h2,h3,h4⟩
section
variable {prog:Program} {w:World} {A:Around} {E:Value->Shared->Prop} {s:Shared} {K:Frag}
end
end Att
namespace L2
open PySem PySem.Spec PyProof.Rows
theorem Nb:∀ {vs:List Value} {ns:List Int},IntsAre vs ns->Vals (ns.map V.int) vs
 | _,_,.nil=>.nil
 | _,_,.cons n t h=>.cons ⟨t,rfl⟩ (Nb h)
def Only (H:Hp):Prop:=∀ b,H b=none\/∃ o xs,H b=some (.frz o (.lst xs))
theorem a1x {P:Program} {w:World} {K:PySem.W.Frag} {mg mb:Str->Option Value} {CX:CXT} {k:Nat} {fa a:Addr} {fd:FuncData} {x:Str} {sp:Sp} {ah:Shared} {vs:List Value} {ns:List Int}
  (KX:K.In ah.heap) (fh:ah.heap.Ns mainGlobals mg) (hb:ah.heap.Ns builtinsNs mb) (gi:∀ x:Str,x ≠ "__name__" -> mb x=bootBuiltins x) (bW:ah.heap.NoLimit) (hg:ah.gens = #[])
  (ha:ah.heap.get? a=some { cls:=.type "list",data:=.seq vs.toArray }) (hi:IntsAre vs ns) (hl:ns.length<=sizeLine) (hr:yw k callerA)
  (F:∀ base:Heap,K.In base->base.Ns mainGlobals mg->Bh P w K mg base CX k fa fd [x] sp) (cY:∀ (s:Shared) (u:Value),BindsTo s fd ⟨[u],[]⟩ [(x,u)])
  (cf:∀ H:Hp,Only H->SqL K H a (ns.map V.int)->sp [.ref a] H (fun v _=>v=.bl true) fun _ _ _=>False)
  (dX:∀ H e s',CX [] H ah (fun _ _ _=>False) e s'->False) :
  codeAny (model P w) callerA (.call (.ref fa) ⟨[.ref a],[]⟩) (fun r s'=>r=.ok (.ret (.bool true))/\OldK ah.heap s'.heap/\s'.os=ah.os/\AllBare s'.gens) ah:=by
 have rv:=Nb hi;have eA:=hi.length
 have core:∀ H:Hp,Only H->SqL K H a (ns.map V.int)->HOk P w H ah.heap->(∀ b,H b≠none->b=a)->(H a≠none->K.lookup a=none) ->
   codeAny (model P w) callerA (.call (.ref fa) ⟨[.ref a],[]⟩) (fun r s'=>r=.ok (.ret (.bool true))/\OldK ah.heap s'.heap/\s'.os=ah.os/\AllBare s'.gens) ah:=by
  intro H hO hS hok hA hK;have bE:∀ {b:Addr} {o:Obj},ah.heap.get? b=some o->H b=none->(a1t ah.heap H).get? b=some o:=fun e n=>a1s e n
  have c9:∀ {b:Addr} {o:Obj} {es:Array DictEntry} {ep:Nat},ah.heap.get? b=some o->o.data=.dict es ep->H b=none:=fun {b o es ep} e d=>by
   cases q:H b with
   | none=>rfl
   | some u =>
    have e':b=a:=hA b (by rw [q]; simp);subst e';rw [ha] at e; cases e;have d':Data.seq vs.toArray _=Data.dict es ep:=d;cases d'
  have dB:∀ {b:Addr} {m:Str->Option Value},ah.heap.Ns b m->(a1t ah.heap H).Ns b m:=fun {b m} ⟨o,es,ep,e,d,r⟩=>⟨o,es,ep,bE e (c9 e d),d,r⟩
  have eR:K.In (a1t ah.heap H):=fun b o e=>bE (KX b o e) (by
   cases q:H b with
   | none=>rfl
   | some u =>
    have e':b=a:=hA b (by rw [q]; simp);subst e';rw [hK (by rw [q]; simp)] at e; cases e)
  have hM:Mod K mg (a1t ah.heap H):=⟨eR,dB fh,⟨mb,dB hb,gi⟩,let ⟨mc,h1,h2⟩:=bW; ⟨mc,dB h1,h2⟩⟩;have e0:a5q P w K mg (a1t ah.heap H) callerA [] ah H:=⟨rfl,hM,fun b o e=>a7f e,Nat.le_of_eq (Wg _ _),trivial,fun b hb=>absurd (show b∈([]:List Addr) from hb) (by simp),hok,.of_eq hg⟩;refine codeAny_mono ((F _ eR (dB fh)).run callerA [] ah H ⟨[.ref a],[]⟩ [.ref a] [.ref a] _ _ hr e0 (cY ah (.ref a)) (.cons rfl .nil) (cf H hO hS)) fun r s' h=>?_;cases r with
  | error e=>exact (dX H e s' h).elim
  | ok fl =>
   cases fl with
   | next=>exact False.elim h
   | brk=>exact False.elim h
   | cont=>exact False.elim h
   | ret u =>
    obtain ⟨v,H',os,bare,un,hok',r',q⟩:=h;have q':v=.bl true:=q;subst q';obtain rfl:u=Value.bool true:=r';refine ⟨rfl,OldK.of_keep fun b o e=>?_,os,bare⟩;cases q:H b with
    | none=>exact un.keep b o e q (by intro z; exact absurd (show b∈([]:List Addr) from z) (by simp)) (by simp)
    | some u =>
     rcases hO b with z | ⟨ob,xs,z⟩
     ·rw [q] at z; cases z
     ·have z2:=un.frzs b ob _ z;obtain ⟨e1,_⟩:=hok b _ z;obtain ⟨e2,_⟩:=hok' b _ z2;rw [e] at e1; cases e1;exact e2
 cases hk:K.lookup a with
 | some o =>
  have e:=KX a o hk;rw [ha] at e;cases e;refine core (fun _=>none) (fun _=>.inl rfl) (.inr ⟨_,vs.toArray,_,hk,rfl,rfl,rfl,by rw [List.size_toArray,eA]; exact hl,by simpa using rv⟩) (fun b u z=>by have z':(none:Option HO)=some u:=z; cases z') (fun b z=>absurd rfl z) fun z=>absurd rfl z
 | none =>
  refine core (fun b=>if b=a then some (.frz { cls:=.type "list",data:=.seq vs.toArray } (.lst (ns.map V.int))) else none) (fun b=>?_) (.inl (.inr ⟨{ cls:=.type "list",data:=.seq vs.toArray },if_pos rfl⟩)) (fun b u z=>?_) (fun b z=>?_) fun _=>hk
  ·by_cases hb:b=a
   ·exact .inr ⟨_,_,if_pos hb⟩
   ·exact .inl (if_neg hb)
  ·by_cases hb:b=a
   ·have z':=(if_pos hb).symm.trans z;cases z';subst hb;exact ⟨ha,by rw [List.length_map]; exact hl,vs,_,rv,ha⟩
   ·have z':=(if_neg hb).symm.trans z;cases z'
  ·by_cases hb:b=a
   ·exact hb
   ·exact absurd (if_neg hb) z
end L2
namespace L2
open PySem PySem.Spec PyProof.Rows
theorem a76 {l:PySem.W.OpenLaw} {n k:Nat} {q:Program} {loose:List Str} {XP:(Str->Option Value)->Heap->Prop} {YP:World->Heap->Prop} {d:DefRec} {K:Params->PySem.W.Frag} {CX:World->CXT} {sp:World->Sp} {x:Str}
  (hn:l.most=some n) (dH:n<=sizeLine) (cO:d.params.defaults=[]) (hr:yw k callerA)
  (hY:∀ (w:World) (h:Heap),YP w h->(K w.params).In h)
  (F:∀ (w:World) (mg:Str->Option Value) (fa:Addr) (h:Heap),(K w.params).In h->h.Ns mainGlobals mg->mg d.name=some (.ref fa) ->
   ∃ fd:FuncData,(∀ (s:Shared) (u:Value),BindsTo s fd ⟨[u],[]⟩ [(x,u)]) /\
    ∀ base:Heap,(K w.params).In base->base.Ns mainGlobals mg->Bh l.prog w (K w.params) mg base (CX w) k fa fd [x] (sp w))
  (cf:∀ (w:World) (H:Hp) (a:Addr) (ns:List Int),ns.length<=n->Only H->SqL (K w.params) H a (ns.map V.int)->sp w [.ref a] H (fun v _=>v=.bl true) fun _ _ _=>False)
  (dX:∀ (w:World) (H:Hp) (s:Shared) (e:Value) (s':Shared),CX w [] H s (fun _ _ _=>False) e s'->False) :
  PySem.W.WalkO q loose XP YP l.row.toRowW d [] (fun f vs=>PySem.call f vs):=by
 refine Att.R7 hn cO fun w s₀ ah mg mb fa o pm cd doc a vs ns G Y ho hd a7 cB cC hints hlen hg=>?_;have KX:=hY w _ Y;obtain ⟨fd,hb,hF⟩:=F w mg fa _ KX G.T.g cB;exact a1x KX G.T.g G.T.b G.T.builtins G.T.nolimit hg cC hints (Nat.le_trans hlen dH) hr hF hb (fun H hO hS=>cf w H a ns hlen hO hS) fun H e s'=>dX w H ah e s'
end L2
namespace L2
open PySem PySem.Spec PyProof.Rows
noncomputable def Eb (s:Stmt):Arguments:=match s with
 | .FunctionDef _ a _ _ _ _ _ _ _ _=>a
 | _=>{ posonlyargs:=[],args:=[],vararg:=none,kwonlyargs:=[],kw_defaults:=[],kwarg:=none,defaults:=[] }
def v8 (s:Stmt):List Stmt:=match s with
 | .FunctionDef _ _ b _ _ _ _ _ _ _=>b
 | _=>[]
noncomputable def gw (s:Stmt):Scope:=match s with
 | .FunctionDef _ _ _ _ _ _ sc _ _ _=>sc
 | _=>{ kind:=.function,names:=[],isGenerator:=false,isCoroutine:=false }
abbrev CX0:CXT:=fun _ _ _ _ _ _=>False
abbrev E0:XK:=fun _ _ _=>False
theorem a6i {X:Cx}:Passes CX0 X E0:=fun _ _ _ _ _ _ _ h=>h.elim
structure Fun (K:PySem.W.Frag) (x qual:Str) (st:Stmt) (f:Addr) (fd:FuncData):Prop where
 ex:∃ (oc:Value) (od:Option Addr) (kV doc pm:Value) (an:Option Addr) (ay ct:Value) (bA:Array (Option Value)),
  fd=PySem.W.fnOf x qual (Eb st) (v8 st) (gw st) .none kV doc pm an ay ct/\K.lookup f=some ⟨oc,od,.func fd,bA⟩/\PySem.W.codeIn K ay qual=true
 kp:PySem.W.keepIn K (.ref f)=true
section
variable {P:Program} {w:World} {K:PySem.W.Frag} {mg:Str->Option Value} {base:Heap}
theorem Fun.ok {x qual:Str} {st:Stmt} {f:Addr} {fd:FuncData} {N ps:List Str} {k:Nat} {sp:Sp} (F:Fun K x qual st f fd) (S:Ag N ps (gw st)) (len:∀ vs H Q E,sp vs H Q E->vs.length=ps.length)
  (bN:∀ (ay:Value) (A:Around) (outer:List Env) (s:Shared) (H:Hp) (vs:List V) (Q:VK) (E:XK),yw k (A.deeper (envOfC qual (gw st) s.heap.objs.size f ay))->sp vs H Q E ->
   ∃ t,PSs (Qg CX0 P w K mg base N qual (gw st) f ay A outer s H E).nox (v8 st) t/\t { nx:=fun _ H'=>Q .non H',rt:=Q } (start N vs) H):Bh P w K mg base CX0 (k+1) f fd ps sp:=by
 obtain ⟨oc,od,kV,doc,pm,an,ay,ct,bA,rfl,lk,a7⟩:=F.ex;refine a7w lk a7 S len fun A outer s H vs Q E hr cf=>?_;obtain ⟨t,h,q⟩:=bN ay A outer s H vs Q E hr cf;exact ⟨t,h.nox,q⟩
theorem Fun.binds {x qual:Str} {st:Stmt} {f:Addr} {fd:FuncData} {ps:List Str} (F:Fun K x qual st f fd)
  (h:∀ (kV doc pm:Value) (an:Option Addr) (ay ct:Value) (us:List Value),us.length=ps.length->bindArgs (PySem.W.fnOf x qual (Eb st) (v8 st) (gw st) .none kV doc pm an ay ct) ⟨us,[]⟩=pure (ps.zip us)):Binds K fd ps []:=by
 obtain ⟨oc,od,kV,doc,pm,an,ay,ct,bA,rfl,lk,a7⟩:=F.ex;exact .all (h kV doc pm an ay ct)
theorem bd1 {fd:FuncData} {ps:List Str} (h:∀ a,bindArgs fd ⟨[a],[]⟩=pure (ps.zip [a])) (us:List Value) (hl:us.length=1):bindArgs fd ⟨us,[]⟩=pure (ps.zip us):=by
 cases us with
 | nil=>exact nomatch hl
 | cons a us =>
 cases us with
 | cons _ _=>simp at hl
 | nil=>exact h a
theorem bd2 {fd:FuncData} {ps:List Str} (h:∀ a b,bindArgs fd ⟨[a,b],[]⟩=pure (ps.zip [a,b])) (us:List Value) (hl:us.length=2):bindArgs fd ⟨us,[]⟩=pure (ps.zip us):=by
 cases us with
 | nil=>exact nomatch hl
 | cons a us =>
 cases us with
 | nil=>exact nomatch hl
 | cons b us =>
 cases us with
 | cons _ _=>simp at hl
 | nil=>exact h a b
theorem bd3 {fd:FuncData} {ps:List Str} (h:∀ a b c,bindArgs fd ⟨[a,b,c],[]⟩=pure (ps.zip [a,b,c])) (us:List Value) (hl:us.length=3):bindArgs fd ⟨us,[]⟩=pure (ps.zip us):=by
 cases us with
 | nil=>exact nomatch hl
 | cons a us =>
 cases us with
 | nil=>exact nomatch hl
 | cons b us =>
 cases us with
 | nil=>exact nomatch hl
 | cons c us =>
 cases us with
 | cons _ _=>simp at hl
 | nil=>exact h a b c
theorem bd4 {fd:FuncData} {ps:List Str} (h:∀ a b c d,bindArgs fd ⟨[a,b,c,d],[]⟩=pure (ps.zip [a,b,c,d])) (us:List Value) (hl:us.length=4):bindArgs fd ⟨us,[]⟩=pure (ps.zip us):=by
 cases us with
 | nil=>exact nomatch hl
 | cons a us =>
 cases us with
 | nil=>exact nomatch hl
 | cons b us =>
 cases us with
 | nil=>exact nomatch hl
 | cons c us =>
 cases us with
 | nil=>exact nomatch hl
 | cons d us =>
 cases us with
 | cons _ _=>simp at hl
 | nil=>exact h a b c d
theorem bd5 {fd:FuncData} {ps:List Str} (h:∀ a b c d e,bindArgs fd ⟨[a,b,c,d,e],[]⟩=pure (ps.zip [a,b,c,d,e])) (us:List Value) (hl:us.length=5):bindArgs fd ⟨us,[]⟩=pure (ps.zip us):=by
 cases us with
 | nil=>exact nomatch hl
 | cons a us =>
 cases us with
 | nil=>exact nomatch hl
 | cons b us =>
 cases us with
 | nil=>exact nomatch hl
 | cons c us =>
 cases us with
 | nil=>exact nomatch hl
 | cons d us =>
 cases us with
 | nil=>exact nomatch hl
 | cons e us =>
 cases us with
 | cons _ _=>simp at hl
 | nil=>exact h a b c d e
theorem Um {x qual:Str} {st:Stmt} {f:Addr} {oc:Value} {od an:Option Addr} {bA:Array (Option Value)} {kV doc pm ay ct:Value} (l:K.lookup f=some ⟨oc,od,.func (PySem.W.fnOf x qual (Eb st) (v8 st) (gw st) .none kV doc pm an ay ct),bA⟩)
  (c:PySem.W.codeIn K ay qual=true) (k:PySem.W.keepIn K (.ref f)=true):Fun K x qual st f (PySem.W.fnOf x qual (Eb st) (v8 st) (gw st) .none kV doc pm an ay ct):=⟨⟨oc,od,kV,doc,pm,an,ay,ct,bA,rfl,l,c⟩,k⟩
end
theorem a6e {A:Around} {k:Nat} (hr:yw k A):A.units+1<cLine:=Nat.lt_of_le_of_lt (Nat.add_le_add_left (by decide:1<=64) _) hr.units
theorem Aq {n:Nat} (h:n<=1000):n<sizeLine:=Nat.lt_of_le_of_lt h (by decide)
section
variable {X:Cx}
theorem pv (i:Nat) {x:Str} {pos:Pos} (hN:X.N[i]? = some x:=by rfl) (hv:Vis X.env.scope x:=by first | exact Or.inl rfl | exact Or.inr (Or.inl rfl) | exact Or.inr (Or.inr rfl)) (hd:(x==("__debug__" : Str))=false:=by decide)
  (a7:(x==("__classdict__" : Str))=false:=by decide):PE X (.Name x pos) (W2 i):=Xp hN hv hd a7
end
theorem Xa {A B:Prop} (h:B):if false=true then A else B:=by
 rw [if_neg Bool.false_ne_true];exact h
theorem Yt {A B:Prop} (h:A):if true=true then A else B:=by
 rw [if_pos rfl];exact h
def Same (H H':Hp):Prop:=∀ b o,H b=some o->H' b=some o
theorem Same.refl (H:Hp):Same H H:=fun _ _ h=>h
theorem Same.trans {H H1 H2:Hp} (a:Same H H1) (b:Same H1 H2):Same H H2:=fun c o h=>b c o (a c o h)
theorem Same.free {H H':Hp} (e:Same H H') {l:Addr} (h:H' l=Option.none):H l=Option.none:=by
 cases q:H l with
 | none=>rfl
 | some o =>
  rw [e l o q] at h;cases h
section
variable {X:Cx}
end
section
variable {κ:Type} [DecidableEq κ]
end
section
variable {pr:Program} {wd:World} {Ar:Around} {Rs:Result->Shared->Prop} {s:Shared}
theorem Qc {el dD eO:Expr} {cs:List Expr} {eU:Scope} {ps:Pos} {bY aH:Value} {en:Env} (J:Nat->Shared->Prop)
  (turn:∀ n z,J n z->wpAny (model pr wd) Ar (pyNext bY) (fun nx z1=>match nx with
   | none=>Rs (.ok .next) z1
   | some v=>wpAny (model pr wd) Ar (letOwnedTupleGo dD bY v) (fun _ z2=>wpAny (model pr wd) Ar (assign dD en v) (fun _ z3 =>
     wpAny (model pr wd) Ar (forIn cs true fun c go=>if go=true then do let ok <- isTrue c en (eval c en); pure (ForInStep.yield ok) else pure (ForInStep.yield go)) (fun ok z4 =>
      if ok=true then wpAny (model pr wd) Ar (eval el en) (fun x z5 =>
       wpAny (model pr wd) Ar (call (.builtin "list.append") [aH,x]) (fun _ z6=>∃ m,m<n/\J m z6) (fun _ _=>False) z5) (notedBy (model pr wd) Ar en fun x z=>Rs (.error x) z) z4
      else ∃ m,m<n/\J m z4) (fun _ _=>False) z3) (fun _ _=>False) z2) (fun _ _=>False) z1) (fun _ _=>False) z)
  (n:Nat) (h:J n s) :
  codeAny (model pr wd) Ar (.compLoop (.ListComp el [⟨dD,eO,cs,0⟩] eU ps) 0 bY aH en) Rs s:=by
 refine codeAny_loop rfl J (fun k z hz=>?_) n h;show wpAny _ Ar ((compTurn (.ListComp el [⟨dD,eO,cs,0⟩] eU ps) 0 bY aH en).onRaise (fun ex=>do noteFrame ex en; theTreesLotGoes ex)) _ _ z;refine wpAny_noted ?_;rw [compTurn_list];refine wpAny_bind (wpAny_standAt (wpAny_bind (wpAny_mono (turn k z hz) (fun nx z1 g1=>?_) fun _ _ no=>no.elim)));cases nx with
 | none=>exact wpAny_pure g1
 | some v =>
  refine wpAny_bind (wpAny_mono g1 (fun _ z2 g2=>?_) fun _ _ no=>no.elim);refine wpAny_bind (wpAny_mono g2 (fun _ z3 g3=>wpAny_bind (wpAny_mono g3 (fun ok z4 g4=>?_) fun _ _ no=>no.elim)) fun _ _ no=>no.elim);cases ok with
  | false=>exact wpAny_pure (And.intro rfl g4)
  | true =>
   exact wpAny_bind (wpAny_bind (wpAny_mono g4 (fun x z5 g5=>wpAny_bind (wpAny_mono g5 (fun _ z6 g6=>wpAny_pure (wpAny_pure (And.intro rfl g6))) fun _ _ no=>no.elim)) fun _ _ e=>e))
end
noncomputable def U4 (env:Env):List (Str × NameKind)->List (Str × Addr)->List (Str × Addr)
 | [],cs=>cs
 | (n,k)::r,cs=>U4 env r (if (k==NameKind.free)=true then (match env.cells.lookup n with | some c=>(n,c)::cs | none=>cs) else cs)
noncomputable def Cz (env:Env) (names:List (Str × NameKind)):Bool:=names.all fun y=>!(y.2==NameKind.free)||(env.cells.lookup y.1).isSome
theorem Er {scope:Scope} {env:Env} (h:Cz env scope.names=true):closureFor scope env=pure (U4 env scope.names []):=by
 have key:∀ (l:List (Str × NameKind)) (cs:List (Str × Addr)),Cz env l=true ->
   (forIn (m:=Sem) l cs fun x r=>(do
    if (x.2==NameKind.free)=true then
     let c <- cellOf env x.1
     pure (ForInStep.yield ((x.1,c)::r))
    else pure (ForInStep.yield r)))=pure (U4 env l cs):=by
  intro l
  induction l with
  | nil=>intro cs _; rfl
  | cons x r ih =>
   intro cs h;obtain ⟨n,k⟩:=x;unfold Cz at h;rw [List.all_cons,Bool.and_eq_true] at h;obtain ⟨h1,h2⟩:=h;rw [List.forIn_cons]
   by_cases hk:(k==NameKind.free)=true
   ·have cK:(env.cells.lookup n).isSome=true:=by simpa [hk] using h1
    obtain ⟨c,hc⟩:=Option.isSome_iff_exists.mp cK;have e:cellOf env n=pure c:=by unfold cellOf; rw [hc]
    simp only [hk,if_true,e,pure_bind];rw [ih _ h2];simp only [U4,hk,if_true,hc]
   ·simp only [hk,if_false,pure_bind,Bool.false_eq_true];rw [ih _ h2];simp only [U4,hk,if_false,Bool.false_eq_true]
 have:=key scope.names [] h;unfold closureFor;simpa using this
noncomputable def ou (X:Cx) (scope:Scope) (N:List Str) (C:Addr) (s₀:Shared) (H₀:Hp) (ex:List Addr) (pn:List (Addr × Obj)):Cx :=
 { X with N:=N,s₀:=s₀,H₀:=H₀,env:=compEnvC scope (U4 X.env scope.names []) C X.env,outer:=X.stack,ex:=ex,fn:=fun _=>false,pn:=pn,xe:=fun _ _=>False }
structure Io (X:Cx) (scope:Scope) (N:List Str):Prop where
 has:Cz X.env scope.names=true
 kind:scope.kind=.function
 nocell:∀ y∈scope.names,y.2≠.cell
 names:∀ y∈scope.names,y.2=.local->scope.names.lookup y.1=some .local
def a7g (X:Cx) (scope:Scope) (x:Str):Prop :=
 (X.env.kindOf x=some .cell\/X.env.kindOf x=some .free)/\Vis X.env.scope x/\((relabel scope X.env).names.lookup x=some .cell\/(relabel scope X.env).names.lookup x=some .free)
theorem Jf {env:Env}:∀ (l:List (Str × NameKind)) (cs:List (Str × Addr)),(∀ x c,cs.lookup x=some c->env.cells.lookup x=some c) ->
  ∀ x c,(U4 env l cs).lookup x=some c->env.cells.lookup x=some c
 | [],cs,h,x,c,e=>h x c e
 | (n,k)::r,cs,h,x,c,e=>by
  rw [U4] at e;refine Jf r _ (fun y d q=>?_) x c e;split at q
  ·split at q
   ·rename_i c' bV;rw [List.lookup_cons] at q;split at q
    ·rename_i hb;cases q;have dW:=eq_of_beq hb;rw [dW]; exact bV
    ·exact h y d q
   ·exact h y d q
  ·exact h y d q
theorem Wm {env:Env}:∀ (l:List (Str × NameKind)) (cs:List (Str × Addr)) (x:Str),(∃ c,cs.lookup x=some c)->∃ c,(U4 env l cs).lookup x=some c
 | [],cs,x,h=>h
 | (n,k)::r,cs,x,h=>by
  rw [U4];refine Wm r _ x ?_;split
  ·split
   ·rename_i c' bV;rw [List.lookup_cons];split
    ·exact ⟨_,rfl⟩
    ·exact h
   ·exact h
  ·exact h
theorem Ys {env:Env}:∀ (l:List (Str × NameKind)) (cs:List (Str × Addr)) (x:Str),Cz env l=true->(x,NameKind.free)∈l->∃ c,(U4 env l cs).lookup x=some c
 | [],cs,x,_,h=>by simp at h
 | (n,k)::r,cs,x,hh,h=>by
  unfold Cz at hh;rw [List.all_cons,Bool.and_eq_true] at hh;rw [U4];rcases List.mem_cons.mp h with e | h'
  ·injection e with e1 e2;subst e1; subst e2;have h1:(env.cells.lookup x).isSome=true:=by simpa using hh.1
   obtain ⟨c,hc⟩:=Option.isSome_iff_exists.mp h1;refine Wm r _ x ?_;simp [hc]
  ·exact Ys r _ x hh.2 h'
theorem mem_of_lookup {α:Type}:∀ {l:List (Str × α)} {x:Str} {k:α},l.lookup x=some k->(x,k)∈l
 | [],_,_,h=>by simp at h
 | (n,k')::r,x,k,h=>by
  rw [List.lookup_cons] at h;split at h
  ·rename_i hb;cases h;have dW:=eq_of_beq hb;rw [dW]; exact List.mem_cons_self
  ·exact List.mem_cons_of_mem _ (mem_of_lookup h)
theorem Uy {scope:Scope} {env:Env} (nc:∀ y∈scope.names,y.2≠.cell) {x:Str} (h:(relabel scope env).names.lookup x=some .cell\/(relabel scope env).names.lookup x=some .free):(x,NameKind.free)∈scope.names:=by
 have:∃ k,(x,k)∈(relabel scope env).names/\(k=.cell\/k=.free):=by
  rcases h with h | h
  ·exact ⟨_,mem_of_lookup h,.inl rfl⟩
  ·exact ⟨_,mem_of_lookup h,.inr rfl⟩
 obtain ⟨k,hm,hk⟩:=this;obtain ⟨⟨n,k'⟩,hm',e⟩:=List.mem_map.mp hm;dsimp only at e;split at e
 ·rename_i hc;cases e;simp only [Bool.and_eq_true,beq_iff_eq] at hc;obtain ⟨⟨h1,_⟩,_⟩:=hc;subst h1; exact hm'
 ·cases e;rcases hk with rfl | rfl
  ·exact absurd rfl (nc _ hm')
  ·exact hm'
def PTs (X:Cx) (ifs:List Expr) (t:TT):Prop:=∀ (pins:List (Addr × Obj)) (s:Shared) (σ:St) (H:Hp) (Q:Bool->Hp->Prop),Inv X pins σ H s->t σ H Q ->
 wpAny (model X.prog X.w) X.A (forIn ifs true fun c r=>if r=true then do let ok <- isTrue c X.env (eval c X.env); pure (ForInStep.yield ok) else pure (ForInStep.yield r)) (TP X pins σ Q) X.xe s
theorem a5s {X:Cx}:PTs X [] (fun _ H Q=>Q true H):=fun pins s σ H Q I h=>wpAny_tests_nil ⟨H,I,h⟩
theorem a4u {X:Cx} {c:Expr} {t:TT} (h:PT X c t):PTs X [c] t:=fun pins s σ H Q I q=>wpAny_tests_one (h pins s σ H Q I q)
def Lf (X:Cx) (scope:Scope) (N:List Str) (g:TG) (tc:TT) (te:TE) (σ:St) (J:It) (H1:Hp) (Q:VK):Prop:=∀ D,H1 D=none->∃ br:St,br.length=N.length /\
 (∀ (i:Nat) (v:V) (x:Str),br[i]? = some (some v)->N[i]? = some x->Vis (relabel scope X.env) x->∃ k:Nat,X.N[k]? = some x/\σ[k]? = some (some v)/\a7g X scope x) /\
 ∃ W:Nat->Nat->St->Hp->Prop,(∃ m,W 0 m br (upd H1 D (.lst [])))/\∀ i m σ' H',W i m σ' H' ->
  (J.stop i H'/\Q (.ref D) H')\/(J.go i H'/\∀ x H2,J.yld i H' x H2->g x σ' H2 fun bL H3=>tc bL H3 fun b H4=>if b=true then te bL H4 fun y H5=>∃ l,H5 D=some (.lst l)/\l.length<sizeLine/\∃ m',m'<m/\W (i+1) m' bL (upd H5 D (.lst (l++[y]))) else ∃ m',m'<m/\W (i+1) m' bL H4)
noncomputable def a7a (X:Cx) (scope:Scope) (N:List Str) (wi:TI) (g:TG) (tc:TT) (te:TE):TE:=fun σ H Q=>wi σ H fun J H1=>Lf X scope N g tc te σ J H1 Q
section
variable {X:Cx} {scope:Scope} {N:List Str}
theorem Yx (sc:Io X scope N) {pins:List (Addr × Obj)} {σ:St} {H:Hp} {s:Shared} {fp:List Addr} (I:Inv X pins σ H s) (hf:∀ b∈fp,Q6 X pins H b) (dM:∀ b∈fp,b<s.heap.objs.size) :
  (ou X scope N s.heap.objs.size s H fp (X.pn++pins)).Ok where
 mod:=I.ok.mod
 kind:=sc.kind
 glob:=I.ok.glob
 blt:=I.ok.blt
 above:=Nat.le_refl _
 inj:=fun x y c h1 h2=>I.ok.inj x y c (Jf _ [] (fun _ _ z=>by simp at z) x c h1) (Jf _ [] (fun _ _ z=>by simp at z) y c h2)
 has:=fun x h=>Ys _ [] x sc.has (Uy sc.nocell h)
 cab:=fun x c h=>by cases h
 hd:=I.ok.hd
 frames:=I.ok.frames
 stk:=.inl rfl
 exf:=fun b hb=>⟨Nat.ne_of_lt (dM b hb),fun x c h=>(hf b hb).2.2.2.2.1 x c (Jf _ [] (fun _ _ z=>by simp at z) x c h)⟩
 bs:=I.bs
 bsz:=Nat.le_trans I.ok.bsz I.sz
 noex:=fun b o e hb=>by
  rcases (hf b hb).2.2.2.1 with z | z
  ·exact I.ok.noex b o e z
  ·exact absurd (Nat.lt_of_lt_of_le (Heap.lt_size e) (Nat.le_trans I.ok.bsz z)) (Nat.lt_irrefl _)
 exfs:=fun b hb z=>by
  rcases List.mem_cons.mp (I.Pz b z) with e | e
  ·exact (hf b hb).2.1 e
  ·exact (hf b hb).2.2.1 e
 T4:=I.stack
 frf:=I.Qj
theorem W3 (sc:Io X scope N) {pins:List (Addr × Obj)} {σ br:St} {H:Hp} {s:Shared} {fp:List Addr} {h':Heap} {m:Str->Option Value} {tk:Nat} (I:Inv X pins σ H s) (hf:∀ b∈fp,Q6 X pins H b) (dM:∀ b∈fp,b<s.heap.objs.size)
  (hl:br.length=N.length) (h0:∀ (i:Nat) (v:V) (x:Str),br[i]? = some (some v)->N[i]? = some x->Vis (relabel scope X.env) x->∃ k:Nat,X.N[k]? = some x/\σ[k]? = some (some v)/\a7g X scope x)
  (hn:h'.Ns s.heap.objs.size m) (hk:∀ b o,s.heap.get? b=some o->h'.get? b=some o) :
  Inv (ou X scope N s.heap.objs.size s H fp (X.pn++pins)) [] br H { s with heap:=h',toks:=tk } where
 ok:=Yx sc I hf dM
 os:=rfl
 bare:=I.bare
 base:=Un.kept hk
 loc:=⟨m,hn,fun i x v e1 e2 e3=>by
  obtain ⟨k,n2,n3,ck,cv,cr⟩:=h0 i v x e2 e1 e3;obtain ⟨m0,_,hl0⟩:=I.loc;obtain ⟨u,r,l⟩:=hl0 k x v n2 n3 cv;refine ⟨u,r,.inr ⟨cr,?_⟩⟩;rcases l with ⟨l1,_⟩ | ⟨_,c,hc,z⟩
  ·rcases ck with q | q <;> (rw [l1] at q; cases q)
  ·obtain ⟨c',bV⟩:=Ys (env:=X.env) scope.names [] x sc.has (Uy sc.nocell cr);have q:=Jf scope.names [] (fun _ _ z=>by simp at z) x c' bV;rw [hc] at q; cases q;obtain ⟨o,ho,hd⟩:=z;exact ⟨c,bV,o,hk _ _ ho,hd⟩⟩
 cell:=fun x c e=>by
  obtain ⟨v,o,ho,hd⟩:=I.cell x c (Jf scope.names [] (fun _ _ z=>by simp at z) x c e);exact ⟨v,o,hk _ _ ho,hd⟩
 free:=I.hok.fresh (Nat.le_refl _)
 freeC:=fun x c e=>I.freeC x c (Jf scope.names [] (fun _ _ z=>by simp at z) x c e)
 pin:=fun p hp=>by
  have d4:p∈X.pn++pins:=by simpa [ou] using hp
  obtain ⟨a,b,c,d,e⟩:=I.pin p d4;refine ⟨hk _ _ a,b,Nat.ne_of_lt (Heap.lt_size a),fun z=>?_,e⟩;rcases List.mem_cons.mp (I.Pz p.1 z) with q | q
  ·exact c q
  ·exact d q
 hok:=I.hok.kept hk
 len:=hl
theorem T9 {pins:List (Addr × Obj)} {σ σ':St} {H H':Hp} {s s':Shared} {fp:List Addr} {h':Heap} (I:Inv X pins σ H s) (hf:∀ b∈fp,Q6 X pins H b)
  (J:Inv (ou X scope N s.heap.objs.size s H fp (X.pn++pins)) [] σ' H' s') (hs:Heap.SameBut s.heap.objs.size s'.heap h'):Inv X pins σ H' { s' with heap:=h' }:=by
 have kb:∀ b o,b≠s.heap.objs.size->s'.heap.get? b=some o->h'.get? b=some o:=fun b o n e=>hs.extBut b o n e;have ne:∀ b o,s.heap.get? b=some o->b≠s.heap.objs.size:=fun b o e=>Nat.ne_of_lt (Heap.lt_size e);have fr:H' s.heap.objs.size=none:=J.free;have u0:Un (frs X.stack) fp H H' s.heap s'.heap:=J.base
 have u:Un (frs X.stack) fp H H' s.heap h':=⟨fun b o e n h1 h2=>kb b o (ne b o e) (u0.keep b o e n h1 h2),fun b o e n h1 h2=>by
   obtain ⟨sl,q⟩:=u0.slot b o e n h1 h2;exact ⟨sl,kb b _ (ne b o e) q⟩,u0.free,fun b o e h=>by
   obtain ⟨o',q⟩:=u0.there b o e h;exact ⟨o',kb b _ (ne b o e) q⟩,u0.tups,u0.frzs,u0.tbls⟩
 have hok:HOk X.prog X.w H' h':=fun b o e=>by
  refine (J.hok b o e).stay (fun c v hc q=>kb c v ?_ q) (fun _ q=>q) fun _ _ q=>q;rcases hc with z | z
  ·rw [z]; intro y; rw [y] at e; rw [fr] at e; cases e
  ·intro y; rw [y] at z; rw [fr] at z; cases z
 have gz:s'.os=s.os:=J.os;obtain ⟨hh,g,d,t,os'⟩:=s';obtain rfl:os'=s.os:=gz;exact Inv.call (X:=X) (s:=s) (H:=H) (h':=h') (g':=g) (d':=d) (t':=t) (ch:=fp) I u hok J.bare fun b hb=>⟨(hf b hb).2.2.2.1,(hf b hb).2.1,(hf b hb).2.2.2.2.1,(hf b hb).2.2.2.2.2⟩
variable {tg iter elt:Expr} {ifs:List Expr} {pos:Pos} {g:TG} {tc:TT} {te:TE}
theorem T3 {Ex:Cx->Value->Shared->Prop} (sc:Io X scope N) (calm:X.calm=true)
  (hg:∀ C s₀ H₀ ex pn,PG (ou X scope N C s₀ H₀ ex pn) tg g) (hc:∀ C s₀ H₀ ex pn,PTs (ou X scope N C s₀ H₀ ex pn) ifs tc) (he:∀ C s₀ H₀ ex pn,PE ((ou X scope N C s₀ H₀ ex pn).wish (Ex (ou X scope N C s₀ H₀ ex pn))) elt te)
  {pins:List (Addr × Obj)} {σ:St} {H1:Hp} {ax:Shared} {it:Addr} {fp:List Addr} {tn:Nat->Heap->Prop} {J:It} {Q:VK} {E:Value->Shared->Prop} {RR:Value->Addr->Result->Shared->Prop}
  (I:Inv X pins σ H1 ax) (T:Turn X.prog X.w X.K tg J fp it tn) (bU:tn 0 ax.heap) (f2:∀ b∈fp,Q6 X pins H1 b) (q:Lf X scope N g tc te σ J H1 Q)
  (d6:∀ D av H3 σ' H' s',Inv X pins σ H3 av->(∀ b∈fp,Q6 X pins H3 b)->Inv (ou X scope N av.heap.objs.size av H3 fp (X.pn++pins)) [] σ' H' s'->Q (.ref D) H'->RR (.ref D) av.heap.objs.size (.ok .next) s')
  (gK:∀ D av H3 e s',Inv X pins σ H3 av->(∀ b∈fp,Q6 X pins H3 b)->Ex (ou X scope N av.heap.objs.size av H3 fp (X.pn++pins)) e s'->notedBy (model X.prog X.w) X.A (ou X scope N av.heap.objs.size av H3 fp (X.pn++pins)).env (fun x z=>RR (.ref D) av.heap.objs.size (.error x) z) e s') :
  wpAny (model X.prog X.w) X.A (newList []) (fun acc av=>wpAny (model X.prog X.w) X.A (newFunctionEnv scope X.env.globals (U4 X.env scope.names []) [] X.env.qual none .none (some X.env)) (fun bP bp =>
   codeAny (model X.prog X.w) X.A (.compStart (.ListComp elt [⟨tg,iter,ifs,0⟩] scope pos) 0 (.ref it) acc { bP with scope:=relabel scope X.env }) (RR acc bP.locals) bp) E av) E ax:=by
 refine wpAny_newObj_type (wpAny_newFunctionEnv sc.nocell (by intro y hy; simp at hy) (fun bb bu a9=>?_) sc.kind);dsimp only at bu a9 ⊢
 have I3:Inv X pins σ (upd H1 ax.heap.objs.size (.lst [])) { ax with heap:=ax.heap.push { cls:=.type "list",dict:=none,data:=.seq ([]:List Value).toArray } } :=
  I.laid (t':=ax.toks) (fun b ob q=>Heap.get?_push_of_some _ q) (Nat.le_refl _) ⟨Nat.zero_le _,[],_,.nil,Heap.get?_push_size _ rfl⟩
 generalize hs3:({ ax with heap:=ax.heap.push { cls:=.type "list",dict:=none,data:=.seq ([]:List Value).toArray } }:Shared)=av at I3;have bQ:ax.heap.push { cls:=.type "list",dict:=none,data:=.seq ([]:List Value).toArray } = av.heap:=by rw [<- hs3]
 have cy:∀ (h:Heap) (t:Nat),({ ax with heap:=h,toks:=t }:Shared) = { av with heap:=h,toks:=t }:=fun h t=>by rw [<- hs3]
 rw [bQ] at bu a9 ⊢
 have eW:∀ b∈fp,b<ax.heap.objs.size:=fun b hb=>by
  obtain ⟨o,ho,_⟩:=T.obj _ _ bU b hb;exact Heap.lt_size ho
 have gh:av.heap.objs.size=ax.heap.objs.size+1:=by rw [<- bQ,Heap.size_push]
 have gH:∀ b o,ax.heap.get? b=some o->av.heap.get? b=some o:=fun b o e=>by rw [<- bQ]; exact Heap.get?_push_of_some _ e
 have f3:∀ b∈fp,Q6 X pins (upd H1 ax.heap.objs.size (.lst [])) b:=fun b hb=>⟨by rw [gb (Nat.ne_of_lt (eW b hb))]; exact (f2 b hb).1,(f2 b hb).2⟩;have eT:∀ b∈fp,b<av.heap.objs.size:=fun b hb=>by rw [gh]; exact Nat.lt_succ_of_lt (eW b hb)
 obtain ⟨br,hl,h0,W,⟨m0,w0⟩,turn⟩:=q ax.heap.objs.size (I.hok.fresh (Nat.le_refl _));have eQ:∀ b o,av.heap.get? b=some o->bb.get? b=some o:=fun b o e=>a9.extBut b o (Nat.ne_of_lt (Heap.lt_size e)) (Heap.get?_push_of_some _ e);rw [cy];have J0:=W3 (tk:=ax.toks+([]:List (Str × Value)).length) sc I3 f3 eT hl h0 bu eQ;have fe:tn 0 bb:=T.keep _ _ _ bU fun b _ o e=>eQ b o (gH b o e)
 have key:∀ bp:Shared,bp = { av with heap:=bb,toks:=ax.toks+([]:List (Str × Value)).length }->codeAny (model X.prog X.w) X.A (.compLoop (.ListComp elt [⟨tg,iter,ifs,0⟩] scope pos) 0 (.ref it) (.ref ax.heap.objs.size)
   (ou X scope N av.heap.objs.size av (upd H1 ax.heap.objs.size (.lst [])) fp (X.pn++pins)).env) (RR (.ref ax.heap.objs.size) av.heap.objs.size) bp:=by
  rintro bp rfl;generalize hX:ou X scope N av.heap.objs.size av (upd H1 ax.heap.objs.size (.lst [])) fp (X.pn++pins)=X' at J0;have hP:X'.prog=X.prog:=by rw [<- hX]; rfl
  have hW:X'.w=X.w:=by rw [<- hX]; rfl
  have hA:X'.A=X.A:=by rw [<- hX]; rfl
  have eG:X'.xe=fun _ _=>False:=by rw [<- hX]; rfl
  have hK:X'.K=X.K:=by rw [<- hX]; rfl
  have dm:X'.calm=true:=by rw [<- hX]; exact calm
  have bg:∀ {H':Hp},(∀ b∈fp,H' b=none)->∀ b∈fp,Q6 X' [] H' b:=fun hn b hb=>by
   have z:=Yx sc I3 f3 eT;rw [hX] at z;refine ⟨hn b hb,(z.exf b (by rw [<- hX]; exact hb)).1,z.exfs b (by rw [<- hX]; exact hb),.inl (by rw [<- hX]; exact hb),(z.exf b (by rw [<- hX]; exact hb)).2,fun p hp=>?_⟩;have d4:p∈X.pn++pins:=by rw [<- hX] at hp; simpa [ou] using hp
   exact (f3 b hb).2.2.2.2.2 p d4
  have fN:PG X' tg g:=by rw [<- hX]; exact hg _ _ _ _ _
  have bV:PTs X' ifs tc:=by rw [<- hX]; exact hc _ _ _ _ _
  have cI:PE (X'.wish (Ex X')) elt te:=by rw [<- hX]; exact he _ _ _ _ _
  have eF:∀ e s',Ex X' e s'->notedBy (model X.prog X.w) X.A X'.env (fun x z=>RR (.ref ax.heap.objs.size) av.heap.objs.size (.error x) z) e s':=fun e s' z=>by rw [<- hX] at z ⊢; exact gK _ av _ e s' I3 f3 z
  have fin:∀ σ' H' s',Inv X' [] σ' H' s'->Q (.ref ax.heap.objs.size) H'->RR (.ref ax.heap.objs.size) av.heap.objs.size (.ok .next) s':=fun σ' H' s' I' q'=>d6 _ av _ σ' H' s' I3 f3 (by rw [hX]; exact I') q';have T':Turn X'.prog X'.w X'.K tg J fp it tn:=by rw [hP,hW,hK]; exact T
  rw [<- hP,<- hW,<- hA];refine Qc (J:=fun n s'=>∃ i σ' H',Inv X' [] σ' H' s'/\tn i s'.heap/\(∀ b∈fp,H' b=none)/\W i n σ' H') ?_ m0 ⟨0,br,_,J0,fe,fun b hb=>(f3 b hb).1,w0⟩;rintro n s5 ⟨i,σ5,H5,I5,st5,fr5,w5⟩;rcases turn i n σ5 H5 w5 with ⟨stop,qn⟩ | ⟨go,step⟩
  ·refine thn (T'.done X' rfl rfl rfl dm i [] s5 σ5 H5 _ I5 (bg fr5) st5 stop) fun r s6 z0=>?_;obtain ⟨hr,I6⟩:=z0;subst hr;exact fin _ _ _ I6 qn
  ·refine thn (T'.item X' rfl rfl rfl dm i [] s5 σ5 H5 _ I5 (bg fr5) st5 go) fun r s6 z0=>?_;obtain ⟨u,hr,h6⟩:=z0;subst hr;refine thn h6 fun _ s7 z0=>?_;obtain ⟨x,H7,I7,r7,y7,st7,fr7⟩:=z0;have fm:=I7.pinned (bg fr7) (T'.obj _ _ st7);have a1:=fN _ s7 σ5 H7 x u _ fm r7 (step x H7 y7);rw [eG] at a1;refine thn a1 fun _ s8 z0=>?_;obtain ⟨σ8,H8,I8,q8⟩:=z0;have a2:=bV _ s8 σ8 H8 _ I8 q8;rw [eG] at a2;refine thn a2 fun ok s9 z0=>?_;obtain ⟨H9,I9,q9⟩:=z0
   have again:∀ {a8:St} {H7:Hp} {s':Shared} {m':Nat},Inv X' ([]++Pg fp s7.heap) a8 H7 s'->m'<n->W (i+1) m' a8 H7->∃ m,m<n/\∃ i σ' H',Inv X' [] σ' H' s'/\tn i s'.heap/\(∀ b∈fp,H' b=none)/\W i m σ' H':=fun {a8 H7 s' m'} I7 hm w7=>by
    refine ⟨m',hm,i+1,a8,H7,I7.Fe,T'.keep _ _ _ st7 fun b hb o e=>(I7.pin (b,o) (List.mem_append_right _ (List.mem_append_right _ (Av hb e)))).1,fun b hb=>?_,w7⟩;obtain ⟨o,e,d⟩:=T'.obj _ _ st7 b hb;exact (I7.pin (b,o) (List.mem_append_right _ (List.mem_append_right _ (Av hb e)))).2.1
   cases ok with
   | false =>
    rw [if_neg Bool.false_ne_true] at q9 ⊢;obtain ⟨m',hm,w9⟩:=q9;exact again I9 hm w9
   | true =>
    rw [if_pos rfl] at q9 ⊢;refine wpAny_mono (cI _ s9 σ8 H9 _ (I9.wish _) q9) (fun xv gQ z0=>?_) fun e z h=>by rw [hP,hW,hA]; exact eF e z h
    obtain ⟨y,H10,I10',r10,l,hl10,hz10,m',hm,w10⟩:=z0;have fy:=I10'.Dq;have a4:=wj (X:=X') _ gQ σ8 H10 (.ref ax.heap.objs.size) [y] (.ref ax.heap.objs.size) [xv] (fun _ H'=>H'=upd H10 ax.heap.objs.size (.lst (l++[y]))) fy rfl (.cons r10 .nil) ⟨_,l,y,rfl,rfl,hl10,hz10,rfl⟩;rw [eG] at a4;refine thn a4 fun _ g7 z0=>?_;obtain ⟨v,H11,I11,_,e11⟩:=z0;subst e11;exact again I11 hm w10
 exact codeAny_compStart_list (key _ rfl) (T.self _ 0 _ _ _ fe (key _ rfl))
theorem Kg (sc:Io X scope N) (calm:X.calm=true)
  (hg:∀ C s₀ H₀ ex pn,PG (ou X scope N C s₀ H₀ ex pn) tg g) (hc:∀ C s₀ H₀ ex pn,PTs (ou X scope N C s₀ H₀ ex pn) ifs tc) (he:∀ C s₀ H₀ ex pn,PE (ou X scope N C s₀ H₀ ex pn) elt te)
  {pins:List (Addr × Obj)} {σ:St} {H1:Hp} {ax:Shared} {it:Addr} {fp:List Addr} {tn:Nat->Heap->Prop} {J:It} {Q:VK} {E:Value->Shared->Prop} {RR:Value->Addr->Result->Shared->Prop}
  (I:Inv X pins σ H1 ax) (T:Turn X.prog X.w X.K tg J fp it tn) (bU:tn 0 ax.heap) (f2:∀ b∈fp,Q6 X pins H1 b) (q:Lf X scope N g tc te σ J H1 Q)
  (d6:∀ D av H3 σ' H' s',Inv X pins σ H3 av->(∀ b∈fp,Q6 X pins H3 b)->Inv (ou X scope N av.heap.objs.size av H3 fp (X.pn++pins)) [] σ' H' s'->Q (.ref D) H'->RR (.ref D) av.heap.objs.size (.ok .next) s') :
  wpAny (model X.prog X.w) X.A (newList []) (fun acc av=>wpAny (model X.prog X.w) X.A (newFunctionEnv scope X.env.globals (U4 X.env scope.names []) [] X.env.qual none .none (some X.env)) (fun bP bp =>
   codeAny (model X.prog X.w) X.A (.compStart (.ListComp elt [⟨tg,iter,ifs,0⟩] scope pos) 0 (.ref it) acc { bP with scope:=relabel scope X.env }) (RR acc bP.locals) bp) E av) E ax :=
 T3 (Ex:=fun _ _ _=>False) sc calm hg hc he I T bU f2 q d6 fun _ _ _ _ _ _ _ z=>z.elim
theorem a69 {wi:TI} (sc:Io X scope N) (calm:X.calm=true) (hi:PI X tg iter wi)
  (hg:∀ C s₀ H₀ ex pn,PG (ou X scope N C s₀ H₀ ex pn) tg g) (hc:∀ C s₀ H₀ ex pn,PTs (ou X scope N C s₀ H₀ ex pn) ifs tc) (he:∀ C s₀ H₀ ex pn,PE (ou X scope N C s₀ H₀ ex pn) elt te)
  (hs:∀ x,foldedSetIterable iter X.env x=pure x:=by intro _; rfl):PE X (.ListComp elt [⟨tg,iter,ifs,0⟩] scope pos) (a7a X scope N wi g tc te):=by
 intro pins s σ H Q I h;rw [eval_ListComp];refine wpAny_comprehension_free (use:=none) rfl hs (Er sc.has) sc.kind sc.names ?_;refine wpAny_mono (hi pins s σ H _ I h) (fun x ah bb=>wpAny_mono bb (fun bY ax cG=>?_) fun _ _ e=>e) fun _ _ e=>e;obtain ⟨it,fp,tn,J,H1,rfl,I2,T,bU,f2,q⟩:=cG;refine Kg (RR:=fun acc C=>compPost (model X.prog X.w) X.A X.xe none (EP X pins σ Q) acc C) sc calm hg hc he I2 T bU f2 q ?_;intro D av H3 σ' H' s' I3 f3 I' qn;obtain ⟨m,hn,_⟩:=I'.loc;exact ⟨m,hn,fun h' b7=>⟨.ref D,H',T9 I3 f3 I' b7,rfl,qn⟩⟩
theorem a5k {wi:TI} {y:Str} {py du:Pos} {i:Nat} (sc:Io X scope N) (calm:X.calm=true) (hi:PI X tg iter wi)
  (hg:∀ C s₀ H₀ ex pn,PG (ou X scope N C s₀ H₀ ex pn) tg g) (hc:∀ C s₀ H₀ ex pn,PTs (ou X scope N C s₀ H₀ ex pn) ifs tc) (he:∀ C s₀ H₀ ex pn,PE (ou X scope N C s₀ H₀ ex pn) elt te)
  (fF:PG X (.Name y py) (Js i)) (bX:swapsWith (.ListComp elt [⟨tg,iter,ifs,0⟩] scope pos) (some (.Name y py)) du.line X.env=pure true)
  (hs:∀ x,foldedSetIterable iter X.env x=pure x:=by intro _; rfl):PS X (.Assign [.Name y py] (.ListComp elt [⟨tg,iter,ifs,0⟩] scope pos) du) (a5h (a7a X scope N wi g tc te) (Js i)):=by
 intro pins s σ H D I h;rw [exec_Assign_Name_used _ _ _ _ bX];refine wpAny_bind (wpAny_standAt (wpAny_bind ?_));show wpAny _ X.A (do let _ <- comprehension (.ListComp elt [⟨tg,iter,ifs,0⟩] scope pos) scope X.env _ (newList []) false (eval iter X.env) (some (assign (.Name y py) X.env))) _ _ s;refine wpAny_bind (wpAny_mono (wpAny_comprehension_free (use:=some (assign (.Name y py) X.env)) (Q:=fun _ s'=>SP X pins D .next s') rfl hs (Er sc.has) sc.kind sc.names ?_) (fun _ s' hq=>wpAny_pure (wpAny_pure hq)) fun _ _ e=>e);refine wpAny_mono (hi pins s σ H _ I h) (fun x ah bb=>wpAny_mono bb (fun bY ax cG=>?_) fun _ _ e=>e) fun _ _ e=>e;obtain ⟨it,fp,tn,J,H1,rfl,I2,T,bU,f2,q⟩:=cG;refine Kg (RR:=fun acc C=>compPost (model X.prog X.w) X.A X.xe (some (assign (.Name y py) X.env)) (fun _ s'=>SP X pins D .next s') acc C) sc calm hg hc he I2 T bU f2 q ?_;intro D' av H3 σ' H' s' I3 f3 I' qn;obtain ⟨m,hn,_⟩:=I'.loc;obtain ⟨oC,es,ep,hoC,hdC,bS⟩:=id hn;have IX:Inv X pins σ H' s':=T9 I3 f3 I' (.refl ..);have fC:Q6 X pins H' av.heap.objs.size:=I3.a8r (Nat.le_refl _) I'.free
 have fL:=IX.pinned (fp:=[av.heap.objs.size]) (fun b hb=>by rw [List.mem_singleton.mp hb]; exact fC) (fun b hb=>by
  rw [List.mem_singleton.mp hb];exact ⟨oC,hoC,fun v z=>by rw [hdC] at z; cases z⟩)
 show wpAny _ X.A (assign (.Name y py) X.env (.ref D')) _ _ _;refine thn (fF _ s' σ H' (.ref D') (.ref D') _ fL rfl qn) fun _ cM z0=>?_;obtain ⟨σ'',H'',I'',q''⟩:=z0;have pC:=I''.pin (av.heap.objs.size,oC) (List.mem_append_right _ (List.mem_append_right _ (Av (by simp) hoC)));refine ⟨m,⟨oC,es,ep,pC.1,hdC,bS⟩,fun h' b7=>⟨σ'',H'',?_,q''⟩⟩;exact I''.Fe.turned (h':=h') (t':=cM.toks) (it:=av.heap.objs.size) (fun b o ne e=>b7.extBut b o ne e) pC.2.1 fC.2.1 fC.2.2.2.1 fC.2.2.2.2.1 fC.2.2.2.2.2
end
end L2
end
section
namespace C
open PySem PySem.Spec PyProof.Rows L2
mutual
inductive Rep (K:PySem.W.Frag) (S:Hp) (as:List Addr):V->T->Prop where
 | non:Rep K S as .non .non
 | bl (b:Bool):Rep K S as (.bl b) (.bl b)
 | int (i:Int):Rep K S as (.int i) (.int i)
 | str (x:Str):Rep K S as (.str x) (.str x)
 | tup {a:Addr} {vs:List V} {ts:List T}:SqT K S a vs->p8 K S as vs ts->Rep K S as (.ref a) (.tup ts)
 | lst {a:Addr} {vs:List V} {ts:List T}:SqL K S a vs->p8 K S as vs ts->Rep K S as (.ref a) (.lst ts)
 | dic {a:Addr} {kvs:List (L2.Key × V)} {ts:List (L2.Key × T)}:Rd S a (.dK kvs)->Di K S as kvs ts->Rep K S as (.ref a) (.dic ts)
 | obj {n:Nat} {a:Addr}:as[n]? = some a->Rep K S as (.ref a) (.obj n)
 | adr (a:Addr):Rep K S as (.ref a) (.adr a)
inductive p8 (K:PySem.W.Frag) (S:Hp) (as:List Addr):List V->List T->Prop where
 | nil:p8 K S as [] []
 | cons {v:V} {t:T} {vs:List V} {ts:List T}:Rep K S as v t->p8 K S as vs ts->p8 K S as (v::vs) (t::ts)
inductive Di (K:PySem.W.Frag) (S:Hp) (as:List Addr):List (L2.Key × V)->List (L2.Key × T)->Prop where
 | nil:Di K S as [] []
 | cons {k:L2.Key} {v:V} {t:T} {vs:List (L2.Key × V)} {ts:List (L2.Key × T)}:Rep K S as v t->Di K S as vs ts->Di K S as ((k,v)::vs) ((k,t)::ts)
end
theorem vh {S S':Hp} {a:Addr} {u:HO} (e:Same S S') (h:Rd S a u):Rd S' a u:=by
 rcases h with h | ⟨o,h⟩
 ·exact .inl (e _ _ h)
 ·exact .inr ⟨o,e _ _ h⟩
theorem lq {K:PySem.W.Frag} {S S':Hp} {a:Addr} {xs:List V} (e:Same S S') (h:SqT K S a xs):SqT K S' a xs:=by
 rcases h with h | h
 ·exact .inl (vh e h)
 ·exact .inr h
theorem jc {K:PySem.W.Frag} {S S':Hp} {a:Addr} {xs:List V} (e:Same S S') (h:SqL K S a xs):SqL K S' a xs:=by
 rcases h with h | h
 ·exact .inl (vh e h)
 ·exact .inr h
section
variable {K:PySem.W.Frag} {S S':Hp} {as ag:List Addr}
theorem Yo {α:Type} {l r:List α} {n:Nat} {a:α} (h:l[n]? = some a):(l++r)[n]? = some a:=by
 have:=(List.getElem?_eq_some_iff.mp h).1;rw [List.getElem?_append_left this]; exact h
theorem Rp {n:Nat} {a:Addr} (x:∃ l,ag=as++l) (h:as[n]? = some a):ag[n]? = some a:=by obtain ⟨l,rfl⟩:=x; exact Yo h
theorem Rep.mono (e:Same S S') (x:∃ l,ag=as++l) {v:V} {t:T} (h:Rep K S as v t):Rep K S' ag v t :=
 Rep.rec (motive_1:=fun v t _=>Rep K S' ag v t) (motive_2:=fun v t _=>p8 K S' ag v t) (motive_3:=fun v t _=>Di K S' ag v t) .non .bl .int .str (fun h _ i=>.tup (lq e h) i) (fun h _ i=>.lst (jc e h) i) (fun h _ i=>.dic (vh e h) i) (fun h=>.obj (Rp x h)) .adr .nil (fun _ _ a b=>.cons a b) .nil (fun _ _ a b=>.cons a b) h
theorem p8.mono (e:Same S S') (x:∃ l,ag=as++l) {v:List V} {t:List T} (h:p8 K S as v t):p8 K S' ag v t :=
 p8.rec (motive_1:=fun v t _=>Rep K S' ag v t) (motive_2:=fun v t _=>p8 K S' ag v t) (motive_3:=fun v t _=>Di K S' ag v t) .non .bl .int .str (fun h _ i=>.tup (lq e h) i) (fun h _ i=>.lst (jc e h) i) (fun h _ i=>.dic (vh e h) i) (fun h=>.obj (Rp x h)) .adr .nil (fun _ _ a b=>.cons a b) .nil (fun _ _ a b=>.cons a b) h
theorem Di.mono (e:Same S S') (x:∃ l,ag=as++l) {v:List (L2.Key × V)} {t:List (L2.Key × T)} (h:Di K S as v t):Di K S' ag v t :=
 Di.rec (motive_1:=fun v t _=>Rep K S' ag v t) (motive_2:=fun v t _=>p8 K S' ag v t) (motive_3:=fun v t _=>Di K S' ag v t) .non .bl .int .str (fun h _ i=>.tup (lq e h) i) (fun h _ i=>.lst (jc e h) i) (fun h _ i=>.dic (vh e h) i) (fun h=>.obj (Rp x h)) .adr .nil (fun _ _ a b=>.cons a b) .nil (fun _ _ a b=>.cons a b) h
inductive U6 (K:PySem.W.Frag) (S:Hp) (as:List Addr):List (Str × V)->List (Str × T)->Prop where
 | nil:U6 K S as [] []
 | cons {k:Str} {v:V} {t:T} {vs:List (Str × V)} {ts:List (Str × T)}:Rep K S as v t->U6 K S as vs ts->U6 K S as ((k,v)::vs) ((k,t)::ts)
theorem U6.mono (e:Same S S') (x:∃ l,ag=as++l) {v:List (Str × V)} {t:List (Str × T)} (h:U6 K S as v t):U6 K S' ag v t:=by
 induction h with
 | nil=>exact .nil
 | cons h _ ih=>exact .cons (h.mono e x) ih
inductive a2u (K:PySem.W.Frag) (S:Hp) (as:List Addr):List (List L2.Key × V)->List (List L2.Key × T)->Prop where
 | nil:a2u K S as [] []
 | cons {k:List L2.Key} {v:V} {t:T} {vs:List (List L2.Key × V)} {ts:List (List L2.Key × T)}:Rep K S as v t->a2u K S as vs ts->a2u K S as ((k,v)::vs) ((k,t)::ts)
theorem a2u.mono (e:Same S S') (x:∃ l,ag=as++l) {v:List (List L2.Key × V)} {t:List (List L2.Key × T)} (h:a2u K S as v t):a2u K S' ag v t:=by
 induction h with
 | nil=>exact .nil
 | cons h _ ih=>exact .cons (h.mono e x) ih
theorem a2u.length {vs:List (List L2.Key × V)} {ts:List (List L2.Key × T)} (h:a2u K S as vs ts):vs.length=ts.length:=by
 induction h with
 | nil=>rfl
 | cons _ _ ih=>exact congrArg (· + 1) ih
theorem p8.length {vs:List V} {ts:List T} (h:p8 K S as vs ts):vs.length=ts.length :=
 p8.rec (motive_1:=fun _ _ _=>True) (motive_2:=fun v t _=>v.length=t.length) (motive_3:=fun _ _ _=>True) trivial (fun _=>trivial) (fun _=>trivial) (fun _=>trivial) (fun _ _ _=>trivial) (fun _ _ _=>trivial) (fun _ _ _=>trivial) (fun _=>trivial) (fun _=>trivial) rfl (fun _ _ _ i=>congrArg (· + 1) i) trivial (fun _ _ _ _=>trivial) h
theorem Di.length {vs:List (L2.Key × V)} {ts:List (L2.Key × T)} (h:Di K S as vs ts):vs.length=ts.length :=
 Di.rec (motive_1:=fun _ _ _=>True) (motive_2:=fun _ _ _=>True) (motive_3:=fun v t _=>v.length=t.length) trivial (fun _=>trivial) (fun _=>trivial) (fun _=>trivial) (fun _ _ _=>trivial) (fun _ _ _=>trivial) (fun _ _ _=>trivial) (fun _=>trivial) (fun _=>trivial) trivial (fun _ _ _ _=>trivial) rfl (fun _ _ _ i=>congrArg (· + 1) i) h
theorem p8.get:∀ {vs:List V} {ts:List T} {i:Nat} {t:T},p8 K S as vs ts->ts[i]? = some t->∃ v,vs[i]? = some v/\Rep K S as v t
 | _,_,_,_,.nil,e=>by simp at e
 | _,_,0,_,.cons r _,e=>by simp at e; subst e; exact ⟨_,rfl,r⟩
 | _,_,i+1,t,.cons _ r,e=>by
  obtain ⟨v,h1,h2⟩:=p8.get (i:=i) (t:=t) r (by simpa using e);exact ⟨v,by simpa using h1,h2⟩
theorem p8.append {vs:List V} {ts:List T} {ws:List V} {us:List T} (h:p8 K S as vs ts) (q:p8 K S as ws us):p8 K S as (vs++ws) (ts++us) :=
 p8.rec (motive_1:=fun _ _ _=>True) (motive_2:=fun v t _=>p8 K S as (v++ws) (t++us)) (motive_3:=fun _ _ _=>True) trivial (fun _=>trivial) (fun _=>trivial) (fun _=>trivial) (fun _ _ _=>trivial) (fun _ _ _=>trivial) (fun _ _ _=>trivial) (fun _=>trivial) (fun _=>trivial) q (fun h _ _ i=>.cons h i) trivial (fun _ _ _ _=>trivial) h
theorem p8.reverse:∀ {vs:List V} {ts:List T},p8 K S as vs ts->p8 K S as vs.reverse ts.reverse
 | _,_,.nil=>.nil
 | _,_,.cons h r=>by rw [List.reverse_cons,List.reverse_cons]; exact p8.append (p8.reverse r) (.cons h .nil)
theorem p8.drop:∀ (n:Nat) {vs:List V} {ts:List T},p8 K S as vs ts->p8 K S as (vs.drop n) (ts.drop n)
 | 0,_,_,r=>r
 | _+1,_,_,.nil=>.nil
 | n+1,_,_,.cons _ r=>p8.drop n r
theorem Di.get (k:L2.Key):∀ {vs:List (L2.Key × V)} {ts:List (L2.Key × T)},Di K S as vs ts->(∃ v t,Rk vs k=some v/\Qd k ts=some t/\Rep K S as v t)\/(Rk vs k=none/\Qd k ts=none)
 | _,_,.nil=>.inr ⟨rfl,rfl⟩
 | _,_,.cons (k:=q) (v:=v) (t:=t) (vs:=vs) (ts:=ts) h r=>by
  by_cases e:q=k
  ·exact .inl ⟨v,t,Hq (p:=(q,v)) e,by rw [Qd,if_pos e],h⟩
  ·rw [Hi (p:=(q,v)) e,Qd,if_neg e];exact Di.get k r
end
structure Bas where
 S:Hp
 as:List Addr
 H:Hp
structure a9d (B:Bas) (S:Hp) (as:List Addr) (H:Hp):Prop where
 same:Same B.S S
 more:∃ l,as=B.as++l
 keep:∀ p o,B.H p=some o->B.S p=none->p∉B.as->H p=some o/\S p=none/\p∉as
structure Ext (S H S' H':Hp):Prop where
 s:Same S S'
 h:Same H H'
 sub:Same S' H'
 new:∀ p,S' p≠none->S p≠none\/H p=none
theorem Ext.refl {S H:Hp} (h:Same S H):Ext S H S H:=⟨Same.refl _,Same.refl _,h,fun _ q=>.inl q⟩
theorem Same.upd {H:Hp} {p:Addr} (h:H p=none) (o:HO):Same H (upd H p o):=fun b u q=>by rw [gb (uo q h)]; exact q
theorem Ext.laid {S H:Hp} (h:Same S H) {p:Addr} (n:H p=none) (o:HO):Ext S H (upd S p o) (upd H p o) where
 s:=Same.upd (h.free n) o
 h:=Same.upd n o
 sub:=fun b u q=>by
  by_cases e:b=p
  ·subst e; rw [dz] at q ⊢; exact q
  ·rw [gb e] at q ⊢; exact h _ _ q
 new:=fun b q=>by
  by_cases e:b=p
  ·subst e; exact .inr n
  ·rw [gb e] at q; exact .inl q
def Own (K:PySem.W.Frag) (S:Hp) (as:List Addr) (H:Hp) (p:Addr):T->Prop
 | .lst ts=>∃ vs,H p=some (.lst vs)/\p8 K S as vs ts
 | .dic ts=>∃ kvs,H p=some (.dK kvs)/\Di K S as kvs ts
 | _=>False
structure Xq (K:PySem.W.Frag) (B:Bas) (S:Hp) (as:List Addr) (H:Hp) (p:Addr) (t:T):Prop where
 own:Own K S as H p t
 out:S p=none
 nas:p∉as
 new:B.H p=none
def a3y (K:PySem.W.Frag) (S:Hp) (as:List Addr) (H:Hp) (a:Addr):SO->Prop
 | .dic ts=>∃ kvs,H a=some (.dK kvs)/\Di K S as kvs ts
 | .lst ts=>∃ vs,H a=some (.lst vs)/\p8 K S as vs ts
 | .dit ts=>∃ kvs,H a=some (.dT kvs)/\a2u K S as kvs ts
 | .ins C fs=>∃ dx vs,H a=some (.ins C dx vs)/\U6 K S as vs fs
 | .fdc ts=>∃ kvs,(∃ o,H a=some (.frz o (.dK kvs)))/\Di K S as kvs ts
 | .exc C f t=>∃ dx v,H a=some (.ext fun h=>∃ vs,h.get? a=some { cls:=.ref C,dict:=some dx,data:=.fields vs })/\S dx=some (.ext fun h=>∃ hs tk u,RelV v u/\h.get? dx=some (PySem.W.dictOf [⟨hs,.str f tk,u⟩] 1))/\Rep K S as v t
structure Fz (K:PySem.W.Frag) (S:Hp) (as:List Addr) (H:Hp) (sto:List SO):Prop where
 len:as.length=sto.length
 nd:as.Nodup
 at':∀ (n:Nat) so,sto[n]? = some so->∃ a,as[n]? = some a/\S a=none/\a3y K S as H a so
structure Rel (K:PySem.W.Frag) (B:Bas) (st:Sta) (σ:L2.St) (H:Hp) (ps:List (V × T)) (S:Hp) (as:List Addr):Prop where
 sub:Same S H
 grow:a9d B S as H
 slots:∀ (i:Nat) t f,st.env[i]? = some (some (t,f))->∃ v,σ[i]? = some (some v)/\(f=false->Rep K S as v t)/\(f=true->∃ p,v=.ref p/\Xq K B S as H p t)
 apart:∀ (i j:Nat) t u p,st.env[i]? = some (some (t,true))->st.env[j]? = some (some (u,true))->σ[i]? = some (some (.ref p))->σ[j]? = some (some (.ref p))->i=j
 sto:Fz K S as H st.sto
 pend:∀ p∈ps,Rep K S as p.1 p.2
 len:σ.length=st.env.length
section
variable {K:PySem.W.Frag} {B:Bas} {st:Sta} {σ:L2.St} {H H' S S':Hp} {ps:List (V × T)} {as:List Addr}
theorem nol {as:List Addr}:∃ l:List Addr,as=as++l:=⟨[],(List.append_nil _).symm⟩
theorem Own.mono {p:Addr} {t:T} (hs:Same S S') (hh:H p=H' p) (o:Own K S as H p t):Own K S' as H' p t:=by
 cases t with
 | lst ts=>obtain ⟨vs,h,r⟩:=o; exact ⟨vs,hh ▸ h,r.mono hs nol⟩
 | dic ts=>obtain ⟨vs,h,r⟩:=o; exact ⟨vs,hh ▸ h,r.mono hs nol⟩
 | _=>exact o.elim
theorem Own.there {p:Addr} {t:T} (o:Own K S as H p t):∃ ob,H p=some ob:=by
 cases t with
 | lst ts=>obtain ⟨vs,h,r⟩:=o; exact ⟨_,h⟩
 | dic ts=>obtain ⟨vs,h,r⟩:=o; exact ⟨_,h⟩
 | _=>exact o.elim
theorem a3y.mono {a:Addr} {so:SO} (hs:Same S S') (hh:H a=H' a) (o:a3y K S as H a so):a3y K S' as H' a so:=by
 cases so with
 | dic ts=>obtain ⟨vs,h,r⟩:=o; exact ⟨vs,hh ▸ h,r.mono hs nol⟩
 | lst ts=>obtain ⟨vs,h,r⟩:=o; exact ⟨vs,hh ▸ h,r.mono hs nol⟩
 | dit ts=>obtain ⟨vs,h,r⟩:=o; exact ⟨vs,hh ▸ h,r.mono hs nol⟩
 | exc C f t=>obtain ⟨dx,v,h,g,r⟩:=o; exact ⟨dx,v,hh ▸ h,hs _ _ g,r.mono hs nol⟩
 | ins C fs=>obtain ⟨dx,vs,h,r⟩:=o; exact ⟨dx,vs,hh ▸ h,r.mono hs nol⟩
 | fdc ts=>obtain ⟨vs,h,r⟩:=o; exact ⟨vs,hh ▸ h,r.mono hs nol⟩
theorem a3y.there {a:Addr} {so:SO} (o:a3y K S as H a so):∃ ob,H a=some ob:=by
 cases so with
 | dic ts=>obtain ⟨vs,h,r⟩:=o; exact ⟨_,h⟩
 | lst ts=>obtain ⟨vs,h,r⟩:=o; exact ⟨_,h⟩
 | dit ts=>obtain ⟨vs,h,r⟩:=o; exact ⟨_,h⟩
 | exc C f t=>obtain ⟨dx,v,h,g,r⟩:=o; exact ⟨_,h⟩
 | ins C fs=>obtain ⟨dx,vs,h,r⟩:=o; exact ⟨_,h⟩
 | fdc ts=>obtain ⟨vs,⟨o,h⟩,r⟩:=o; exact ⟨_,h⟩
theorem Ext.outs (x:Ext S H S' H') {p:Addr} {o:HO} (h:H p=some o) (n:S p=none):S' p=none:=by
 cases q:S' p with
 | none=>rfl
 | some u =>
  rcases x.new p (by rw [q]; exact Option.some_ne_none _) with z | z
  ·exact absurd n z
  ·rw [h] at z; cases z
theorem Fz.ext {sto:List SO} (r:Fz K S as H sto) (x:Ext S H S' H'):Fz K S' as H' sto where
 len:=r.len
 nd:=r.nd
 at':=fun n so e=>by
  obtain ⟨a,h1,h2,h3⟩:=r.at' n so e;obtain ⟨ob,ho⟩:=h3.there;exact ⟨a,h1,x.outs ho h2,h3.mono x.s (by rw [ho,x.h _ _ ho])⟩
theorem Rel.ext (r:Rel K B st σ H ps S as) (x:Ext S H S' H'):Rel K B st σ H' ps S' as where
 sub:=x.sub
 grow:=⟨r.grow.same.trans x.s,r.grow.more,fun p o h1 h2 h3=>by
  obtain ⟨a,b,c⟩:=r.grow.keep p o h1 h2 h3;exact ⟨x.h _ _ a,x.outs a b,c⟩⟩
 slots:=fun i t f e=>by
  obtain ⟨v,h1,h2,h3⟩:=r.slots i t f e;refine ⟨v,h1,fun q=>(h2 q).mono x.s nol,fun q=>?_⟩;obtain ⟨p,e,o⟩:=h3 q;obtain ⟨ob,ho⟩:=o.own.there;exact ⟨p,e,o.own.mono x.s (by rw [ho,x.h _ _ ho]),x.outs ho o.out,o.nas,o.new⟩
 apart:=r.apart
 sto:=r.sto.ext x
 pend:=fun p hp=>(r.pend p hp).mono x.s nol
 len:=r.len
theorem Rel.push (r:Rel K B st σ H ps S as) {v:V} {t:T} (h:Rep K S as v t):Rel K B st σ H ((v,t)::ps) S as :=
 ⟨r.sub,r.grow,r.slots,r.apart,r.sto,fun p hp=>by
  rcases List.mem_cons.mp hp with rfl | z
  ·exact h
  ·exact r.pend p z,r.len⟩
theorem Rel.drop {p:V × T} (r:Rel K B st σ H (p::ps) S as):Rel K B st σ H ps S as :=
 ⟨r.sub,r.grow,r.slots,r.apart,r.sto,fun q hq=>r.pend q (List.mem_cons_of_mem _ hq),r.len⟩
theorem Rel.top {v:V} {t:T} (r:Rel K B st σ H ((v,t)::ps) S as):Rep K S as v t:=r.pend (v,t) List.mem_cons_self
theorem Rel.top2 {v:V} {t:T} {q:V × T} (r:Rel K B st σ H (q::(v,t)::ps) S as):Rep K S as v t:=r.pend (v,t) (List.mem_cons_of_mem _ List.mem_cons_self)
end
inductive tOf (K:PySem.W.Frag) (B:Bas) (m:M T) (σ:L2.St) (H:Hp) (Q:VK):Prop
 | mk (st:Sta) (ps:List (V × T)) (S:Hp) (as:List Addr) (R:Rel K B st σ H ps S as) (t:T) (aa:Sta) (e:m st=some (t,aa)) (q:∀ v H' S' ag,Rel K B aa σ H' ((v,t)::ps) S' ag->Q v H')
inductive cOf (K:PySem.W.Frag) (B:Bas) (m:M Bool) (σ:L2.St) (H:Hp) (Q:Bool->Hp->Prop):Prop
 | mk (st:Sta) (ps:List (V × T)) (S:Hp) (as:List Addr) (R:Rel K B st σ H ps S as) (b:Bool) (aa:Sta) (e:m st=some (b,aa)) (q:∀ H' S' ag,Rel K B aa σ H' ps S' ag->Q b H')
inductive aOf (K:PySem.W.Frag) (B:Bas) (m:M (List T)) (σ:L2.St) (H:Hp) (Q:List V->Hp->Prop):Prop
 | mk (st:Sta) (ps:List (V × T)) (S:Hp) (as:List Addr) (R:Rel K B st σ H ps S as) (ts:List T) (aa:Sta) (e:m st=some (ts,aa)) (q:∀ vs H' S' ag,Rel K B aa σ H' ps S' ag->p8 K S' ag vs ts->Q vs H')
theorem _root_.L2.PE.imp {X:Cx} {e:Expr} {t t':TE} (h:PE X e t) (i:∀ σ H Q,t' σ H Q->t σ H Q):PE X e t':=fun pins s σ H Q I q=>h pins s σ H Q I (i σ H Q q)
theorem _root_.L2.PT.imp {X:Cx} {e:Expr} {t t':TT} (h:PT X e t) (i:∀ σ H Q,t' σ H Q->t σ H Q):PT X e t':=fun pins s σ H Q I q=>h pins s σ H Q I (i σ H Q q)
theorem _root_.L2.PA.imp {X:Cx} {e:List Expr} {t t':TA} (h:PA X e t) (i:∀ σ H Q,t' σ H Q->t σ H Q):PA X e t':=fun pos pins s σ H Q I q=>h pos pins s σ H Q I (i σ H Q q)
theorem _root_.L2.PS.imp {X:Cx} {e:Stmt} {t t':TS} (h:PS X e t) (i:∀ D σ H,t' D σ H->t D σ H):PS X e t':=fun pins s σ H D I q=>h pins s σ H D I (i D σ H q)
theorem _root_.L2.PSs.imp {X:Cx} {e:List Stmt} {t t':TS} (h:PSs X e t) (i:∀ D σ H,t' D σ H->t D σ H):PSs X e t':=fun pins s σ H D I q=>h pins s σ H D I (i D σ H q)
noncomputable def r2 (K:PySem.W.Frag) (f:T->T->Option T):R2:=fun x y H Q=>∃ S as t u w,Same S H/\Rep K S as x t/\Rep K S as y u/\f t u=some w/\∀ v H' S',Ext S H S' H'->Rep K S' as v w->Q v H'
def r1 (K:PySem.W.Frag) (f:T->Option T):V->Hp->VK->Prop:=fun x H Q=>∃ S as t w,Same S H/\Rep K S as x t/\f t=some w/\∀ v H' S',Ext S H S' H'->Rep K S' as v w->Q v H'
def rL (K:PySem.W.Frag) (f:List T->Option T):List V->Hp->VK->Prop:=fun xs H Q=>∃ S as ts w,Same S H/\p8 K S as xs ts/\f ts=some w/\∀ v H' S',Ext S H S' H'->Rep K S' as v w->Q v H'
abbrev OpT (X:Cx) (f:Value->Value->Sem Value) (g:T->T->Option T):Prop:=OpR X f (r2 X.K g)
abbrev UnT (X:Cx) (f:Value->Sem Value) (g:T->Option T):Prop:=UnR X f (r1 X.K g)
abbrev Mp (X:Cx) (f:Value) (g:List T->Option T):Prop:=Gq X f (rL X.K g)
section
variable {X:Cx} {B:Bas} {a b c:Expr} {m m1 m2:M T} {pos:Pos}
theorem Dd {v:V} {t:T} {e:Expr} (h:PE X e (tC v)) (r:∀ S as,Rep X.K S as v t):PE X e (tOf X.K B (ao t)):=h.imp fun σ H Q z9=>by
 obtain ⟨st,ps,S,as,R,t',aa,e,q⟩:=z9;cases e;exact q v H S as (R.push (r S as))
theorem dj {i:Int} {j:Nat}:PE X (.Constant (.int i) j pos) (tOf X.K B (ao (.int i))):=Dd a4j fun _ _=>.int i
theorem Om {i:Bool} {j:Nat}:PE X (.Constant (.bool i) j pos) (tOf X.K B (ao (.bl i))):=Dd abz fun _ _=>.bl i
theorem cu {i:Str} {j:Nat}:PE X (.Constant (.str i) j pos) (tOf X.K B (ao (.str i))):=Dd a90 fun _ _=>.str i
theorem a8e {j:Nat}:PE X (.Constant .none j pos) (tOf X.K B (ao .non)):=Dd a9f fun _ _=>.non
theorem gk {op:Operator} {f:T->T->Option T} (ho:OpT X (binaryOp op) f) (ha:PE X a (tOf X.K B m1)) (hb:PE X b (tOf X.K B m2)):PE X (.BinOp a op b pos) (tOf X.K B (mOp f m1 m2)) :=
 (Wf ho ha hb).imp fun σ H Q z9=>by
  obtain ⟨st,ps,S,as,R,t,aa,e,q⟩:=z9;obtain ⟨t1,s1,t2,e1,e2,e3⟩:=Gg e;refine ⟨st,ps,S,as,R,t1,s1,e1,fun v H1 S1 af R1=>⟨s1,_,S1,af,R1,t2,aa,e2,fun u H2 S2 az R2=>?_⟩⟩;exact ⟨S2,az,t1,t2,t,R2.sub,R2.top2,R2.top,e3,fun w H3 S3 x r=>q w H3 S3 az ((R2.drop.drop.ext x).push r)⟩
end
section
variable {K:PySem.W.Frag} {B:Bas} {st:Sta} {σ:L2.St} {H H' S S':Hp} {ps:List (V × T)} {as:List Addr}
theorem Rel.freeze (r:Rel K B st σ H ps S as) {i:Nat} {t:T} (e:st.env[i]? = some (some (t,true))) :
  ∃ v S',σ[i]? = some (some v)/\Rel K B { st with env:=st.env.set i (some (t,false)) } σ H ((v,t)::ps) S' as:=by
 obtain ⟨v,h1,_,h3⟩:=r.slots i t true e;obtain ⟨p,rfl,o⟩:=h3 rfl;obtain ⟨ob,ho⟩:=o.own.there;have hi:i<st.env.length:=(List.getElem?_eq_some_iff.mp e).1;have sS:Same S (upd S p ob):=Same.upd o.out ob
 have rep:Rep K (upd S p ob) as (.ref p) t:=by
  have w:=o.own;cases t with
  | lst ts=>obtain ⟨vs,h,q⟩:=w; rw [ho] at h; cases h; exact .lst (SqL.of dz) (q.mono sS nol)
  | dic ts=>obtain ⟨vs,h,q⟩:=w; rw [ho] at h; cases h; exact .dic (.inl dz) (q.mono sS nol)
  | _=>exact w.elim
 have outs:∀ q,S q=none->q≠p->upd S p ob q=none:=fun q h n=>by rw [gb n]; exact h
 refine ⟨.ref p,upd S p ob,h1,?_⟩;refine Rel.push (v:=.ref p) (t:=t) ⟨?_,?_,?_,?_,?_,?_,?_⟩ rep
 ·intro b u q
  by_cases z:b=p
  ·subst z; rw [dz] at q; cases q; exact ho
  ·rw [gb z] at q; exact r.sub _ _ q
 ·refine ⟨r.grow.same.trans sS,r.grow.more,fun q w a b c=>?_⟩;obtain ⟨x,y,z⟩:=r.grow.keep q w a b c;refine ⟨x,outs q y fun n=>?_,z⟩;subst n; rw [o.new] at a; cases a
 ·intro j u f ej
  by_cases aI:i=j
  ·subst aI;rw [List.getElem?_set_self hi] at ej;cases ej;exact ⟨.ref p,h1,fun _=>rep,fun z=>by cases z⟩
  ·rw [List.getElem?_set_ne aI] at ej;obtain ⟨v',a1,a2,a3⟩:=r.slots j u f ej;refine ⟨v',a1,fun z=>(a2 z).mono sS nol,fun z=>?_⟩;subst z;obtain ⟨p',rfl,o'⟩:=a3 rfl;refine ⟨p',rfl,o'.own.mono sS rfl,outs p' o'.out fun n=>?_,o'.nas,o'.new⟩;subst n;exact aI (r.apart i j t u p' e ej h1 a1)
 ·intro j k u w q ej ek
  have hj:st.env[j]? = some (some (u,true)):=by
   by_cases aI:i=j
   ·subst aI; rw [List.getElem?_set_self hi] at ej; cases ej
   ·rwa [List.getElem?_set_ne aI] at ej
  have hk:st.env[k]? = some (some (w,true)):=by
   by_cases aI:i=k
   ·subst aI; rw [List.getElem?_set_self hi] at ek; cases ek
   ·rwa [List.getElem?_set_ne aI] at ek
  exact r.apart j k u w q hj hk
 ·refine ⟨r.sto.len,r.sto.nd,fun n so en=>?_⟩;obtain ⟨a,a1,a2,a3⟩:=r.sto.at' n so en;refine ⟨a,a1,outs a a2 fun z=>?_,a3.mono sS rfl⟩;subst z;exact o.nas (List.mem_of_getElem? a1)
 ·exact fun q hq=>(r.pend q hq).mono sS nol
 ·show σ.length=(st.env.set i _).length;rw [List.length_set]; exact r.len
end
section
variable {X:Cx} {B:Bas} {a b c:Expr} {m m1 m2:M T} {pos:Pos}
theorem aq (i:Nat) {e:Expr} (h:PE X e (W2 i)):PE X e (tOf X.K B (bf i)):=h.imp fun σ H Q z9=>by
 obtain ⟨st,ps,S,as,R,t,aa,e,q⟩:=z9;rcases a0k e with ⟨e1,rfl⟩ | ⟨e1,rfl⟩
 ·obtain ⟨v,h1,h2,_⟩:=R.slots i t false e1;exact ⟨v,h1,q v H S as (R.push (h2 rfl))⟩
 ·obtain ⟨v,S',h1,R'⟩:=R.freeze e1;exact ⟨v,h1,q v H S' as R'⟩
theorem bh:PA X [] (aOf X.K B c7):=w6.imp fun σ H Q z9=>by
 obtain ⟨st,ps,S,as,R,ts,aa,e,q⟩:=z9;cases e;exact q [] H S as R .nil
theorem ak {es:List Expr} {ms:M (List T)} (ha:PE X a (tOf X.K B m)) (hr:PA X es (aOf X.K B ms)) (hs:starEach (a::es) X.env=(false,eval a X.env)::starEach es X.env:=by rfl):PA X (a::es) (aOf X.K B (aj m ms)) :=
 (ql ha hr hs).imp fun σ H Q z9=>by
  obtain ⟨st,ps,S,as,R,ts,aa,e,q⟩:=z9;obtain ⟨t,s1,us,e1,e2,rfl⟩:=Cr e;refine ⟨st,ps,S,as,R,t,s1,e1,fun v H1 S1 af R1=>⟨s1,_,S1,af,R1,us,aa,e2,fun vs H2 S2 az R2 rs=>?_⟩⟩;exact q (v::vs) H2 S2 az R2.drop (.cons R2.top rs)
theorem fu {es:List Expr} {ms:M (List T)} {k:Nat} (h:PA X es (aOf X.K B ms)) (hm:∀ st ts aa,ms st=some (ts,aa)->ts.length<=1000):PE X (.Tuple es k pos) (tOf X.K B (dg (fun l=>some (.tup l)) ms)) :=
 (a3q h).imp fun σ H Q z9=>by
  obtain ⟨st,ps,S,as,R,t,aa,e,q⟩:=z9;obtain ⟨ts,e1,e2⟩:=Bb e;cases e2;refine ⟨st,ps,S,as,R,ts,aa,e1,fun vs H1 S1 af R1 rs=>⟨?_,fun p hp=>?_⟩⟩
  ·rw [rs.length]; exact Nat.le_of_lt (Aq (hm _ _ _ e1))
  ·have x:=Ext.laid R1.sub hp (.tup vs);exact q _ _ _ _ ((R1.ext x).push (.tup (SqT.of dz) (rs.mono x.s nol)))
theorem jy {es:List Expr} {ms:M (List T)} (h:PA X es (aOf X.K B ms)) (hm:∀ st ts aa,ms st=some (ts,aa)->ts.length<=1000):PE X (.List es pos) (tOf X.K B (dg (fun l=>some (.lst l)) ms)) :=
 (Uw h).imp fun σ H Q z9=>by
  obtain ⟨st,ps,S,as,R,t,aa,e,q⟩:=z9;obtain ⟨ts,e1,e2⟩:=Bb e;cases e2;refine ⟨st,ps,S,as,R,ts,aa,e1,fun vs H1 S1 af R1 rs=>⟨?_,fun p hp=>?_⟩⟩
  ·rw [rs.length]; exact Nat.le_of_lt (Aq (hm _ _ _ e1))
  ·have x:=Ext.laid R1.sub hp (.lst vs);exact q _ _ _ _ ((R1.ext x).push (.lst (SqL.of dz) (rs.mono x.s nol)))
theorem d7:∀ st ts aa,c7 st=some (ts,aa)->ts.length<=0:=fun st ts aa e=>by cases e; exact Nat.le_refl _
theorem au {r:M (List T)} {n:Nat} (h:∀ st ts aa,r st=some (ts,aa)->ts.length<=n):∀ st ts aa,aj m r st=some (ts,aa)->ts.length<=n+1:=fun st ts aa e=>by
 obtain ⟨t,s1,us,e1,e2,rfl⟩:=Cr e;exact Nat.succ_le_succ (h _ _ _ e2)
theorem jf {ms:M (List T)} {f:List T->Option T} {e:Expr} (h:PE X e (tCB (rL X.K f) (aOf X.K B ms))):PE X e (tOf X.K B (dg f ms)) :=
 h.imp fun σ H Q z9=>by
  obtain ⟨st,ps,S,as,R,t,aa,e,q⟩:=z9;obtain ⟨ts,e1,e2⟩:=Bb e;refine ⟨st,ps,S,as,R,ts,aa,e1,fun vs H1 S1 af R1 rs=>⟨S1,af,ts,t,R1.sub,rs,e2,fun v H2 S2 x r=>?_⟩⟩;exact q v H2 S2 af ((R1.ext x).push r)
theorem Tw {f:T->T->Option T} {e:Expr} (h:PE X e (tOp (r2 X.K f) (tOf X.K B m1) (tOf X.K B m2))):PE X e (tOf X.K B (mOp f m1 m2)) :=
 h.imp fun σ H Q z9=>by
  obtain ⟨st,ps,S,as,R,t,aa,e,q⟩:=z9;obtain ⟨t1,s1,t2,e1,e2,e3⟩:=Gg e;refine ⟨st,ps,S,as,R,t1,s1,e1,fun v H1 S1 af R1=>⟨s1,_,S1,af,R1,t2,aa,e2,fun u H2 S2 az R2=>?_⟩⟩;exact ⟨S2,az,t1,t2,t,R2.sub,R2.top2,R2.top,e3,fun w H3 S3 x r=>q w H3 S3 az ((R2.drop.drop.ext x).push r)⟩
theorem a2c {f:T->Option T} {e:Expr} (h:PE X e (tUn (r1 X.K f) (tOf X.K B m))):PE X e (tOf X.K B (mUn f m)) :=
 h.imp fun σ H Q z9=>by
  obtain ⟨st,ps,S,as,R,t,aa,e,q⟩:=z9;obtain ⟨t1,e1,e3⟩:=Xr e;refine ⟨st,ps,S,as,R,t1,aa,e1,fun v H1 S1 af R1=>⟨S1,af,t1,t,R1.sub,R1.top,e3,fun w H3 S3 x r=>q w H3 S3 af ((R1.drop.ext x).push r)⟩⟩
theorem Gp {op:CmpOp} {f:T->T->Option T} (ho:OpT X (compareOp op) f) (ha:PE X a (tOf X.K B m1)) (hb:PE X b (tOf X.K B m2)) (hm:behindInMarks op b=false):PE X (.Compare a [op] [b] pos) (tOf X.K B (mOp f m1 m2)):=Tw (a6t ho ha hb hm)
theorem W7 {op:UnaryOp} {f:T->Option T} (ho:UnT X (unaryOp op) f) (ha:PE X a (tOf X.K B m)):PE X (.UnaryOp op a pos) (tOf X.K B (mUn f m)):=a2c (a9r ho ha)
theorem Ks {e:Expr} (h:PT X e (a8y (tOf X.K B m))):PT X e (cOf X.K B (d9 m)):=h.imp fun σ H Q z9=>by
 obtain ⟨st,ps,S,as,R,t,aa,e,q⟩:=z9;refine ⟨st,ps,S,as,R,.bl t,aa,wg e,fun v H1 S1 af R1=>?_⟩;cases R1.top;exact ⟨t,rfl,q H1 S1 af R1.drop⟩
theorem jr {op:CmpOp} {f:T->T->Option T} (ho:OpT X (compareOp op) f) (ha:PE X a (tOf X.K B m1)) (hb:PE X b (tOf X.K B m2)) (hm:behindInMarks op b=false):PT X (.Compare a [op] [b] pos) (cOf X.K B (d9 (mOp f m1 m2))) :=
 Ks ((a5r ho ha hb hm).imp fun σ H Q z9=>by
  obtain ⟨st,ps,S,as,R,t,aa,e,q⟩:=z9;obtain ⟨t1,s1,t2,e1,e2,e3⟩:=Gg e;refine ⟨st,ps,S,as,R,t1,s1,e1,fun v H1 S1 af R1=>⟨s1,_,S1,af,R1,t2,aa,e2,fun u H2 S2 az R2=>?_⟩⟩;exact ⟨S2,az,t1,t2,t,R2.sub,R2.top2,R2.top,e3,fun w H3 S3 x r=>q w H3 S3 az ((R2.drop.drop.ext x).push r)⟩)
theorem qz {e:Expr} (h:PE X e (tOf X.K B m)) (he:∀ whole,isTrue e X.env whole=(do let v <- whole; standAt e.pos; holding [v] (truthy v)):=by intro _; rfl):PT X e (cOf X.K B (d9 m)) :=
 Ks ((a9p h he).imp fun σ H Q h=>h)
theorem Ds {c1:M Bool} (ha:PT X a (cOf X.K B c1)):PT X (.UnaryOp .Not a pos) (cOf X.K B (Fx c1)):=(a86 ha).imp fun σ H Q z9=>by
 obtain ⟨st,ps,S,as,R,t,aa,e,q⟩:=z9;obtain ⟨k,e1,rfl⟩:=T6 e;exact ⟨st,ps,S,as,R,k,aa,e1,q⟩
theorem Wo {c1:M Bool} (ha:PT X a (cOf X.K B c1)):PW X (.BoolOp .And [a] pos) (cOf X.K B c1):=pw_and1 ha
theorem J1 {c1:M Bool} (ha:PT X a (cOf X.K B c1)):PW X (.BoolOp .Or [a] pos) (cOf X.K B c1):=pw_or1 ha
theorem a9a {e:Expr} {t t':TT} (h:PW X e t) (i:∀ σ H Q,t' σ H Q->t σ H Q):PW X e t':=fun whole pins s σ H Q I q=>h whole pins s σ H Q I (i σ H Q q)
theorem a4n {c1 c2:M Bool} {rest:List Expr} (ha:PT X a (cOf X.K B c1)) (hb:PW X (.BoolOp .And (b::rest) pos) (cOf X.K B c2)):PW X (.BoolOp .And (a::b::rest) pos) (cOf X.K B (Ld c1 c2)) :=
 a9a (pw_and ha hb) fun σ H Q z9=>by
  obtain ⟨st,ps,S,as,R,t,aa,e,q⟩:=z9;rcases Uh e with ⟨s1,e1,e2⟩ | ⟨e1,rfl⟩
  ·exact ⟨st,ps,S,as,R,true,s1,e1,fun H1 S1 af R1=>Yt (⟨s1,ps,S1,af,R1,t,aa,e2,q⟩)⟩
  ·exact ⟨st,ps,S,as,R,false,aa,e1,fun H1 S1 af R1=>Xa (q H1 S1 af R1)⟩
theorem Pq {c1 c2:M Bool} {rest:List Expr} (ha:PT X a (cOf X.K B c1)) (hb:PW X (.BoolOp .Or (b::rest) pos) (cOf X.K B c2)):PW X (.BoolOp .Or (a::b::rest) pos) (cOf X.K B (mOr c1 c2)) :=
 a9a (pw_or ha hb) fun σ H Q z9=>by
  obtain ⟨st,ps,S,as,R,t,aa,e,q⟩:=z9;rcases Xw e with ⟨s1,e1,e2⟩ | ⟨e1,rfl⟩
  ·exact ⟨st,ps,S,as,R,false,s1,e1,fun H1 S1 af R1=>Xa (⟨s1,ps,S1,af,R1,t,aa,e2,q⟩)⟩
  ·exact ⟨st,ps,S,as,R,true,aa,e1,fun H1 S1 af R1=>Yt (q H1 S1 af R1)⟩
theorem Ez {c1:M Bool} (hc:PT X c (cOf X.K B c1)) (ha:PE X a (tOf X.K B m1)) (hb:PE X b (tOf X.K B m2)):PE X (.IfExp c a b pos) (tOf X.K B (mIf c1 m1 m2)) :=
 (a1q hc ha hb).imp fun σ H Q z9=>by
  obtain ⟨st,ps,S,as,R,t,aa,e,q⟩:=z9;rcases a70 e with ⟨s1,e1,e2⟩ | ⟨s1,e1,e2⟩
  ·exact ⟨st,ps,S,as,R,true,s1,e1,fun H1 S1 af R1=>Yt (⟨s1,ps,S1,af,R1,t,aa,e2,q⟩)⟩
  ·exact ⟨st,ps,S,as,R,false,s1,e1,fun H1 S1 af R1=>Xa (⟨s1,ps,S1,af,R1,t,aa,e2,q⟩)⟩
theorem a3l (ha:PE X a (tOf X.K B m)):PE X (.UnaryOp .Not a pos) (tOf X.K B (Ak (Fx (d9 m)))):=(a9w ha).imp fun σ H Q z9=>by
 obtain ⟨st,ps,S,as,R,t,aa,e,q⟩:=z9;obtain ⟨b,e1,rfl⟩:=Hz e;obtain ⟨k,e2,rfl⟩:=T6 e1;refine ⟨st,ps,S,as,R,.bl k,aa,wg e2,fun v H1 S1 af R1=>?_⟩;cases R1.top;exact ⟨k,rfl,q _ H1 S1 af (R1.drop.push (.bl _))⟩
theorem V1 {op:BoolOp} (ha:PE X a (tOf X.K B m)):PE X (.BoolOp op [a] pos) (tOf X.K B m):=a8p ha
theorem K7 {rest:List Expr} (ha:PE X a (tOf X.K B m1)) (hb:PE X (.BoolOp .And (b::rest) pos) (tOf X.K B m2)):PE X (.BoolOp .And (a::b::rest) pos) (tOf X.K B (Ak (Ld (d9 m1) (d9 m2)))) :=
 (a7v ha hb).imp fun σ H Q z9=>by
  obtain ⟨st,ps,S,as,R,t,aa,e,q⟩:=z9;obtain ⟨b,e1,rfl⟩:=Hz e;rcases Uh e1 with ⟨s1,e2,e3⟩ | ⟨e2,rfl⟩
  ·refine ⟨st,ps,S,as,R,.bl true,s1,wg e2,fun v H1 S1 af R1=>?_⟩;cases R1.top;exact ⟨true,rfl,Yt (⟨s1,ps,S1,af,R1.drop,.bl b,aa,wg e3,q⟩)⟩
  ·refine ⟨st,ps,S,as,R,.bl false,aa,wg e2,fun v H1 S1 af R1=>?_⟩;cases R1.top;exact ⟨false,rfl,Xa (q _ H1 S1 af (R1.drop.push (.bl _)))⟩
theorem abe {rest:List Expr} (ha:PE X a (tOf X.K B m1)) (hb:PE X (.BoolOp .Or (b::rest) pos) (tOf X.K B m2)):PE X (.BoolOp .Or (a::b::rest) pos) (tOf X.K B (Ak (mOr (d9 m1) (d9 m2)))) :=
 (ac4 ha hb).imp fun σ H Q z9=>by
  obtain ⟨st,ps,S,as,R,t,aa,e,q⟩:=z9;obtain ⟨b,e1,rfl⟩:=Hz e;rcases Xw e1 with ⟨s1,e2,e3⟩ | ⟨e2,rfl⟩
  ·refine ⟨st,ps,S,as,R,.bl false,s1,wg e2,fun v H1 S1 af R1=>?_⟩;cases R1.top;exact ⟨false,rfl,Xa (⟨s1,ps,S1,af,R1.drop,.bl b,aa,wg e3,q⟩)⟩
  ·refine ⟨st,ps,S,as,R,.bl true,aa,wg e2,fun v H1 S1 af R1=>?_⟩;cases R1.top;exact ⟨true,rfl,Yt (q _ H1 S1 af (R1.drop.push (.bl _)))⟩
end
theorem a2v {a b:S} {s s':Sta} {fl:Flow} (h:nq a b s=some (fl,s')):(∃ s1,a s=some (.next,s1)/\b s1=some (fl,s'))\/(a s=some (fl,s')/\fl≠.next):=by
 unfold nq at h;split at h
 ·rename_i s1 e; exact .inl ⟨s1,e,h⟩
 ·rename_i r hr; exact .inr ⟨h,fun z=>by subst z; exact hr _ h⟩
theorem a08 {e:M T} {s s':Sta} {fl:Flow} (h:um e s=some (fl,s')):∃ t,e s=some (t,s')/\fl=.ret t:=by
 unfold um at h;split at h
 ·rename_i t s1 e; cases h; exact ⟨t,e,rfl⟩
 ·cases h
theorem a5a {c:M Bool} {a b:S} {s s':Sta} {fl:Flow} (h:sIf c a b s=some (fl,s')):(∃ s1,c s=some (true,s1)/\a s1=some (fl,s'))\/(∃ s1,c s=some (false,s1)/\b s1=some (fl,s')):=by
 unfold sIf at h;split at h
 ·rename_i s1 e; exact .inl ⟨s1,e,h⟩
 ·rename_i s1 e; exact .inr ⟨s1,e,h⟩
 ·cases h
theorem a2d {i:Nat} {e:M T} {s s':Sta} {fl:Flow} (h:jm i e s=some (fl,s')):∃ t s1,e s=some (t,s1)/\fl=.next/\s'=iu i t false s1:=by
 unfold jm at h;split at h
 ·rename_i t s1 e; cases h; exact ⟨t,s1,e,rfl,rfl⟩
 ·cases h
theorem a1w {i:Nat} {e:M T} {s s':Sta} {fl:Flow} (h:sNew i e s=some (fl,s')):∃ t s1,e s=some (t,s1)/\fl=.next/\s'=iu i t true s1:=by
 unfold sNew at h;split at h
 ·rename_i t s1 e; cases h; exact ⟨t,s1,e,rfl,rfl⟩
 ·cases h
theorem a1o {g:G} {it:M (List T)} {b:S} {s s':Sta} {fl:Flow} (h:S7 g it b s=some (fl,s')):∃ ts s1,it s=some (ts,s1)/\forL g b ts s1=some (fl,s'):=by
 unfold S7 at h;split at h
 ·rename_i ts s1 e; exact ⟨ts,s1,e,h⟩
 ·cases h
theorem Rb {i:Nat} {e:M T} {s s':Sta} {fl:Flow} (h:ud i e s=some (fl,s')) :
  Ac i s=true/\∃ t s1 xs,e s=some (t,s1)/\s1.env[i]? = some (some (.lst xs,true))/\xs.length<lim/\fl=.next/\s'=iu i (.lst (xs++[t])) true s1:=by
 unfold ud at h;split at h
 ·rename_i hd;refine ⟨hd,?_⟩;split at h
  ·rename_i t s1 e;split at h
   ·rename_i xs ex;split at h
    ·rename_i hl; cases h; exact ⟨t,s1,xs,e,ex,hl,rfl,rfl⟩
    ·cases h
   ·cases h
  ·cases h
 ·cases h
theorem Rx {i:Nat} {e:M T} {s s':Sta} {fl:Flow} (h:Bp i e s=some (fl,s')) :
  Ac i s=true/\∃ t s1 xs ys,e s=some (t,s1)/\a1m t=some ys/\s1.env[i]? = some (some (.lst xs,true))/\xs.length+ys.length<lim/\fl=.next/\s'=iu i (.lst (xs++ys)) true s1:=by
 unfold Bp at h;split at h
 ·rename_i hd;refine ⟨hd,?_⟩;split at h
  ·rename_i t s1 e;split at h
   ·rename_i ys xs ey ex;split at h
    ·rename_i hl; cases h; exact ⟨t,s1,_,_,e,ey,ex,hl,rfl,rfl⟩
    ·cases h
   ·cases h
  ·cases h
 ·cases h
theorem Ry {i:Nat} {k v:M T} {s s':Sta} {fl:Flow} (h:Gb i k v s=some (fl,s')) :
  ∃ t s1 kt s2 kvs q,v s=some (t,s1)/\Qz i s1=true/\k s1=some (kt,s2)/\s2.env[i]? = some (some (.dic kvs,true))/\keyOf kt=some q/\kvs.length<lim/\fl=.next/\s'=iu i (.dic (a5w q t kvs)) true s2:=by
 unfold Gb at h;split at h
 ·rename_i t s1 e;split at h
  ·rename_i hd;split at h
   ·rename_i kt s2 ek;split at h
    ·rename_i kvs q ex eq;split at h
     ·rename_i hl; cases h; exact ⟨t,s1,kt,s2,_,_,e,hd,ek,ex,eq,hl,rfl,rfl⟩
     ·cases h
    ·cases h
   ·cases h
  ·cases h
 ·cases h
section
variable {K:PySem.W.Frag} {B:Bas} {st:Sta} {σ:L2.St} {H H' S S':Hp} {ps dn:List (V × T)} {as ag:List Addr}
theorem Rel.pick (r:Rel K B st σ H ps S as) (h:∀ p∈dn,p∈ps):Rel K B st σ H dn S as :=
 ⟨r.sub,r.grow,r.slots,r.apart,r.sto,fun p hp=>r.pend p (h p hp),r.len⟩
theorem Ml {α:Type} {l:List α} {i:Nat} {x:α} (h:l.length<=i):l.set i x=l:=List.set_eq_of_length_le h
theorem Rel.put (r:Rel K B st σ H ps S as) {i:Nat} {v:V} {t:T} (h:Rep K S as v t):Rel K B (iu i t false st) (σ.set i (some v)) H ps S as:=by
 by_cases hi:i<st.env.length
 ·have hs:i<σ.length:=by rw [r.len]; exact hi
  refine ⟨r.sub,r.grow,fun j u f e=>?_,fun j k u w p ej ek sj sk=>?_,r.sto,r.pend,by show _=(st.env.set i _).length; rw [List.length_set,List.length_set]; exact r.len⟩
  ·have e:(st.env.set i (some (t,false)))[j]? = some (some (u,f)):=e
   by_cases aI:i=j
   ·subst aI;rw [List.getElem?_set_self hi] at e; cases e;exact ⟨v,List.getElem?_set_self hs,fun _=>h,fun z=>by cases z⟩
   ·rw [List.getElem?_set_ne aI] at e ⊢;exact r.slots j u f e
  ·have ej:(st.env.set i (some (t,false)))[j]? = some (some (u,true)):=ej;have ek:(st.env.set i (some (t,false)))[k]? = some (some (w,true)):=ek;have aI:i≠j:=fun z=>by subst z; rw [List.getElem?_set_self hi] at ej; cases ej
   have cD:i≠k:=fun z=>by subst z; rw [List.getElem?_set_self hi] at ek; cases ek
   rw [List.getElem?_set_ne aI] at ej sj;rw [List.getElem?_set_ne cD] at ek sk;exact r.apart j k u w p ej ek sj sk
 ·have e1:iu i t false st=st:=by unfold iu; rw [Ml (Nat.le_of_not_lt hi)]
  have e2:σ.set i (some v)=σ:=Ml (by rw [r.len]; exact Nat.le_of_not_lt hi);rw [e1,e2]; exact r
def K1 (st:Sta) (σ:L2.St) (p:Addr):Prop:=∀ (j:Nat) u,st.env[j]? = some (some (u,true))->σ[j]? = some (some (.ref p))->False
theorem Rel.a4k (r:Rel K B st σ H ps S as) {i:Nat} {p:Addr} {t:T} (h:Xq K B S as H p t) (hn:K1 st σ p):Rel K B (iu i t true st) (σ.set i (some (.ref p))) H ps S as:=by
 by_cases hi:i<st.env.length
 ·have hs:i<σ.length:=by rw [r.len]; exact hi
  refine ⟨r.sub,r.grow,fun j u f e=>?_,fun j k u w q ej ek sj sk=>?_,r.sto,r.pend,by show _=(st.env.set i _).length; rw [List.length_set,List.length_set]; exact r.len⟩
  ·have e:(st.env.set i (some (t,true)))[j]? = some (some (u,f)):=e
   by_cases aI:i=j
   ·subst aI;rw [List.getElem?_set_self hi] at e; cases e;exact ⟨.ref p,List.getElem?_set_self hs,(fun z=>by cases z),fun _=>⟨p,rfl,h⟩⟩
   ·rw [List.getElem?_set_ne aI] at e ⊢;exact r.slots j u f e
  ·have ej:(st.env.set i (some (t,true)))[j]? = some (some (u,true)):=ej;have ek:(st.env.set i (some (t,true)))[k]? = some (some (w,true)):=ek
   by_cases aI:i=j
   ·by_cases cD:i=k
    ·rw [<- aI,<- cD]
    ·subst aI;rw [List.getElem?_set_self hs] at sj; cases sj;rw [List.getElem?_set_ne cD] at ek sk;exact (hn k w ek sk).elim
   ·rw [List.getElem?_set_ne aI] at ej sj
    by_cases cD:i=k
    ·subst cD;rw [List.getElem?_set_self hs] at sk; cases sk;exact (hn j u ej sj).elim
    ·rw [List.getElem?_set_ne cD] at ek sk;exact r.apart j k u w q ej ek sj sk
 ·have e1:iu i t true st=st:=by unfold iu; rw [Ml (Nat.le_of_not_lt hi)]
  have e2:σ.set i (some (.ref p))=σ:=Ml (by rw [r.len]; exact Nat.le_of_not_lt hi);rw [e1,e2]; exact r
theorem Rel.turn (r:Rel K B st σ H ps S as) {i:Nat} {t t':T} {p:Addr} {ob:HO} (e:st.env[i]? = some (some (t,true))) (hp:σ[i]? = some (some (.ref p))) (h:Own K S as (upd H p ob) p t') :
  Rel K B (iu i t' true st) σ (upd H p ob) ps S as:=by
 obtain ⟨v,h1,_,h3⟩:=r.slots i t true e;rw [hp] at h1; cases h1;obtain ⟨p',ep,o⟩:=h3 rfl;cases ep;have hi:i<st.env.length:=(List.getElem?_eq_some_iff.mp e).1;have other:∀ q,q≠p->H q=upd H p ob q:=fun q n=>(gb n).symm;refine ⟨fun b u q=>?_,⟨r.grow.same,r.grow.more,fun q w a b c=>?_⟩,fun j u f ej=>?_,fun j k u w q ej ek sj sk=>?_,⟨r.sto.len,r.sto.nd,fun n so en=>?_⟩,r.pend,by show _=(st.env.set i _).length; rw [List.length_set]; exact r.len⟩
 ·have n:b≠p:=fun z=>by subst z; rw [o.out] at q; cases q
  rw [gb n]; exact r.sub _ _ q
 ·obtain ⟨x,y,z⟩:=r.grow.keep q w a b c;have n:q≠p:=fun z=>by subst z; rw [o.new] at a; cases a
  exact ⟨by rw [gb n]; exact x,y,z⟩
 ·have ej:(st.env.set i (some (t',true)))[j]? = some (some (u,f)):=ej
  by_cases aI:i=j
  ·subst aI;rw [List.getElem?_set_self hi] at ej; cases ej;exact ⟨.ref p,hp,(fun z=>by cases z),fun _=>⟨p,rfl,h,o.out,o.nas,o.new⟩⟩
  ·rw [List.getElem?_set_ne aI] at ej;obtain ⟨v',a1,a2,a3⟩:=r.slots j u f ej;refine ⟨v',a1,a2,fun z=>?_⟩;subst z;obtain ⟨p',rfl,o'⟩:=a3 rfl;have n:p'≠p:=fun z=>by subst z; exact aI (r.apart i j t u p' e ej hp a1)
   exact ⟨p',rfl,o'.own.mono (Same.refl _) (other p' n),o'.out,o'.nas,o'.new⟩
 ·have back:∀ (j:Nat) u,(st.env.set i (some (t',true)))[j]? = some (some (u,true))->∃ u',st.env[j]? = some (some (u',true)):=fun j u ej=>by
   by_cases aI:i=j
   ·subst aI; exact ⟨t,e⟩
   ·rw [List.getElem?_set_ne aI] at ej; exact ⟨u,ej⟩
  obtain ⟨u',ej'⟩:=back j u ej;obtain ⟨w',ek'⟩:=back k w ek;exact r.apart j k u' w' q ej' ek' sj sk
 ·obtain ⟨a,a1,a2,a3⟩:=r.sto.at' n so en;have n:a≠p:=fun z=>by subst z; exact o.nas (List.mem_of_getElem? a1)
  exact ⟨a,a1,a2,a3.mono (Same.refl _) (other a n)⟩
theorem Rel.a3k (r:Rel K B st σ H ps S as) {n:Nat} {so e8:SO} {a:Addr} {ob:HO} (e:st.sto[n]? = some so) (ha:as[n]? = some a) (h:a3y K S as (upd H a ob) a e8) :
  Rel K B { st with sto:=st.sto.set n e8 } σ (upd H a ob) ps S as:=by
 have ma:a∈as:=List.mem_of_getElem? ha;have hn:n<st.sto.length:=(List.getElem?_eq_some_iff.mp e).1
 have sa:S a=none:=by
  obtain ⟨a',a1,a2,_⟩:=r.sto.at' n so e;rw [ha] at a1; cases a1; exact a2
 have other:∀ q,q≠a->H q=upd H a ob q:=fun q n=>(gb n).symm;refine ⟨fun b u q=>?_,⟨r.grow.same,r.grow.more,fun q w x y z=>?_⟩,fun j u f ej=>?_,r.apart,⟨by rw [List.length_set]; exact r.sto.len,r.sto.nd,fun k df en=>?_⟩,r.pend,r.len⟩
 ·have n:b≠a:=fun z=>by subst z; rw [sa] at q; cases q
  rw [gb n]; exact r.sub _ _ q
 ·obtain ⟨x1,y1,z1⟩:=r.grow.keep q w x y z;have n:q≠a:=fun z=>by subst z; exact z1 ma
  exact ⟨by rw [gb n]; exact x1,y1,z1⟩
 ·obtain ⟨v',a1,a2,a3⟩:=r.slots j u f ej;refine ⟨v',a1,a2,fun z=>?_⟩;obtain ⟨p',rfl,o'⟩:=a3 z;have n:p'≠a:=fun z=>by subst z; exact o'.nas ma
  exact ⟨p',rfl,o'.own.mono (Same.refl _) (other p' n),o'.out,o'.nas,o'.new⟩
 ·by_cases hk:n=k
  ·subst hk;rw [List.getElem?_set_self hn] at en; cases en;exact ⟨a,ha,sa,h⟩
  ·rw [List.getElem?_set_ne hk] at en;obtain ⟨b,b1,b2,b3⟩:=r.sto.at' k df en
   have n:b≠a:=fun z=>by
    subst z;have l1:=(List.getElem?_eq_some_iff.mp b1).1;have l2:=(List.getElem?_eq_some_iff.mp ha).1;exact hk ((List.getElem?_inj (i:=n) (j:=k) l2 r.sto.nd).mp (by rw [ha,b1]))
   exact ⟨b,b1,b2,b3.mono (Same.refl _) (other b n)⟩
end
def Fin (K:PySem.W.Frag) (B:Bas) (D:Ends) (ps:List (V × T)):Flow->Sta->Prop
 | .next,aa=>∀ σ' H' S' ag,Rel K B aa σ' H' ps S' ag->D.nx σ' H'
 | .ret t,aa=>∀ v σ' H' S' ag,Rel K B aa σ' H' ((v,t)::ps) S' ag->D.rt v H'
 | .brk,aa=>∀ σ' H' S' ag,Rel K B aa σ' H' ps S' ag->D.bk σ' H'
 | .cont,aa=>∀ σ' H' S' ag,Rel K B aa σ' H' ps S' ag->D.ct σ' H'
inductive sOf (K:PySem.W.Frag) (B:Bas) (s:S) (D:Ends) (σ:L2.St) (H:Hp):Prop
 | mk (st:Sta) (ps:List (V × T)) (S0:Hp) (as:List Addr) (R:Rel K B st σ H ps S0 as) (fl:Flow) (aa:Sta) (e:s st=some (fl,aa)) (q:Fin K B D ps fl aa)
inductive gOf (K:PySem.W.Frag) (B:Bas) (g:G) (v:V) (σ:L2.St) (H:Hp) (Q:L2.St->Hp->Prop):Prop
 | mk (st:Sta) (ps:List (V × T)) (S:Hp) (as:List Addr) (t:T) (R:Rel K B st σ H ((v,t)::ps) S as) (aa:Sta) (e:g t st=some aa) (q:∀ σ' H' S' ag,Rel K B aa σ' H' ps S' ag->Q σ' H')
inductive fOf (K:PySem.W.Frag) (B:Bas) (m:M T) (σ:L2.St) (H:Hp) (Q:VK):Prop
 | mk (st:Sta) (ps:List (V × T)) (S:Hp) (as:List Addr) (R:Rel K B st σ H ps S as) (t:T) (aa:Sta) (e:m st=some (t,aa)) (q:∀ p H' S' ag,Rel K B aa σ H' ps S' ag->Xq K B S' ag H' p t->K1 aa σ p->Q (.ref p) H')
section
variable {X:Cx} {B:Bas} {a b c e:Expr} {m m1 m2:M T} {pos:Pos} {u v:S}
theorem jz:PSs X [] (sOf X.K B xr):=a5g.imp fun D σ H z9=>by
 obtain ⟨st,ps,S,as,R,fl,aa,e,q⟩:=z9;cases e; exact q σ H S as R
theorem dw {st:Stmt} {rest:List Stmt} (h1:PS X st (sOf X.K B u)) (h2:PSs X rest (sOf X.K B v)):PSs X (st::rest) (sOf X.K B (nq u v)):=(T8 h1 h2).imp fun D σ H z9=>by
 obtain ⟨st,ps,S,as,R,fl,aa,e,q⟩:=z9;rcases a2v e with ⟨s1,e1,e2⟩ | ⟨e1,hn⟩
 ·exact ⟨st,ps,S,as,R,.next,s1,e1,fun σ' H' S' ag R'=>⟨s1,ps,S',ag,R',fl,aa,e2,q⟩⟩
 ·refine ⟨st,ps,S,as,R,fl,aa,e1,?_⟩;cases fl with
  | next=>exact absurd rfl hn
  | ret t=>exact q
  | brk=>exact q
  | cont=>exact q
theorem j6 {st:Stmt} (h1:PS X st (sOf X.K B u)):PSs X [st] (sOf X.K B u):=Ln h1
theorem j5 (he:PE X e (tOf X.K B m)):PS X (.Return (some e) pos) (sOf X.K B (um m)):=(a3s he).imp fun D σ H z9=>by
 obtain ⟨st,ps,S,as,R,fl,aa,e,q⟩:=z9;obtain ⟨t,e1,rfl⟩:=a08 e;exact ⟨st,ps,S,as,R,t,aa,e1,fun v H' S' ag R'=>q v σ H' S' ag R'⟩
theorem Cg {c1:M Bool} {sa sb:List Stmt} (hc:PT X c (cOf X.K B c1)) (ha:PSs X sa (sOf X.K B u)) (hb:PSs X sb (sOf X.K B v)):PS X (.If c sa sb pos) (sOf X.K B (sIf c1 u v)):=(aa7 hc ha hb).imp fun D σ H z9=>by
 obtain ⟨st,ps,S,as,R,fl,aa,e,q⟩:=z9;rcases a5a e with ⟨s1,e1,e2⟩ | ⟨s1,e1,e2⟩
 ·exact ⟨st,ps,S,as,R,true,s1,e1,fun H1 S1 af R1=>Yt ⟨s1,ps,S1,af,R1,fl,aa,e2,q⟩⟩
 ·exact ⟨st,ps,S,as,R,false,s1,e1,fun H1 S1 af R1=>Xa ⟨s1,ps,S1,af,R1,fl,aa,e2,q⟩⟩
theorem Ab (i:Nat) {tg:Expr} (h:PG X tg (Js i)):PG X tg (gOf X.K B (hName i)):=fun pins s σ H x u Q I r z9=>h pins s σ H x u Q I r (by
 obtain ⟨st,ps,S,as,t,R,aa,e,q⟩:=z9;cases e;exact q _ H S as (R.drop.put R.top))
theorem a4d (i:Nat) {te:TE} {s:Stmt} (h:PS X s (a5h te (Js i))) (hm:∀ σ H Q,tOf X.K B m σ H Q->te σ H Q):PS X s (sOf X.K B (jm i m)):=h.imp fun D σ H z9=>by
 obtain ⟨st,ps,S,as,R,fl,aa,e,q⟩:=z9;obtain ⟨t,s1,e1,rfl,rfl⟩:=a2d e;exact hm σ H _ ⟨st,ps,S,as,R,t,s1,e1,fun v H' S' ag R'=>q _ H' S' ag (R'.drop.put R'.top)⟩
theorem Ax (i:Nat) {te:TE} {s:Stmt} (h:PS X s (a5h te (Js i))) (hm:∀ σ H Q,fOf X.K B m σ H Q->te σ H Q):PS X s (sOf X.K B (sNew i m)):=h.imp fun D σ H z9=>by
 obtain ⟨st,ps,S,as,R,fl,aa,e,q⟩:=z9;obtain ⟨t,s1,e1,rfl,rfl⟩:=a1w e;exact hm σ H _ ⟨st,ps,S,as,R,t,s1,e1,fun p H' S' ag R' o n=>q _ H' S' ag (R'.a4k o n)⟩
end
section
variable {K:PySem.W.Frag} {B:Bas} {st:Sta} {σ:L2.St} {H H' S S':Hp} {ps dn:List (V × T)} {as ag:List Addr}
theorem Own.more {p:Addr} {t:T} (hs:Same S S') (x:∃ l,ag=as++l) (hh:H p=H' p) (o:Own K S as H p t):Own K S' ag H' p t:=by
 cases t with
 | lst ts=>obtain ⟨vs,h,r⟩:=o; exact ⟨vs,hh ▸ h,r.mono hs x⟩
 | dic ts=>obtain ⟨vs,h,r⟩:=o; exact ⟨vs,hh ▸ h,r.mono hs x⟩
 | _=>exact o.elim
theorem Rel.call {aD:List SO} (r:Rel K B st σ H ps S as) (g:a9d ⟨S,as,H⟩ S' ag H') (sub:Same S' H') (so:Fz K S' ag H' aD):Rel K B { st with sto:=aD } σ H' ps S' ag where
 sub:=sub
 grow:=by
  refine ⟨r.grow.same.trans g.same,?_,fun p o a b c=>?_⟩
  ·obtain ⟨l,e⟩:=r.grow.more;obtain ⟨l',e'⟩:=g.more;exact ⟨l++l',by rw [e',e,List.append_assoc]⟩
  ·obtain ⟨x,y,z⟩:=r.grow.keep p o a b c;exact g.keep p o x y z
 slots:=fun i t f e=>by
  obtain ⟨v,h1,h2,h3⟩:=r.slots i t f e;refine ⟨v,h1,fun q=>(h2 q).mono g.same g.more,fun q=>?_⟩;obtain ⟨p,rfl,o⟩:=h3 q;obtain ⟨ob,ho⟩:=o.own.there;obtain ⟨x,y,z⟩:=g.keep p ob ho o.out o.nas;exact ⟨p,rfl,o.own.more g.same g.more (by rw [ho,x]),y,z,o.new⟩
 apart:=r.apart
 sto:=so
 pend:=fun p hp=>(r.pend p hp).mono g.same g.more
 len:=r.len
end
noncomputable def spF (K:PySem.W.Frag) (ar:Nat) (F:Fn):Sp:=fun vs H Q _=>∃ S as sto ts t aD,Same S H/\Fz K S as H sto/\p8 K S as vs ts/\ts.length=ar/\F ts sto=some (t,aD) /\
 ∀ v H' S' ag,a9d ⟨S,as,H⟩ S' ag H'->Same S' H'->Fz K S' ag H' aD->Rep K S' ag v t->Q v H'
section
variable {X:Cx} {B:Bas} {a b c e:Expr} {m m1 m2:M T} {pos p:Pos} {u v:S} {es:List Expr} {ms:M (List T)} {k:Nat} {f:Addr} {fd:FuncData} {pn:List Str} {F:Fn} {x:Str}
theorem a7b (G:Bh X.prog X.w X.K X.mg X.base CX0 k f fd pn (spF X.K pn.length F)) (hr:yw k X.A) (hg:Gl X x) (hm:X.mg x=some (.ref f)) (hk:PySem.W.keepIn X.K (.ref f)=true) (hb:Binds X.K fd pn [])
  (ha:PA X (e::es) (aOf X.K B ms)) (hl:∀ st ts aa,ms st=some (ts,aa)->ts.length=pn.length) (aL:(x==("__debug__" : Str))=false:=by decide)
  (he:starEach (e::es) X.env=(false,eval e X.env)::starEach es X.env:=by rfl) (aE:(backTo pos (starEach es X.env)).any (·.1)=false:=by rfl) :
  PE X (.Call (.Name x p) (e::es) [] pos) (tOf X.K B (j8 F ms)) :=
 (Xd G hr hg hm hk hb .nil a6i ha aL he aE).imp fun σ H Q z9=>by
  obtain ⟨st,ps,S,as,R,t,aa,e,q⟩:=z9;obtain ⟨ts,s1,sto,e1,e2,rfl⟩:=Zb e;refine ⟨st,ps,S,as,R,ts,s1,e1,fun vs H1 S1 af R1 rs=>?_⟩;show spF X.K pn.length F (vs++[]) H1 Q E0;rw [List.append_nil];exact ⟨S1,af,s1.sto,ts,t,sto,R1.sub,R1.sto,rs,hl _ _ _ e1,e2,fun v H2 S2 az g sub so r=>q v H2 S2 az ((R1.call g sub so).push r)⟩
theorem eq_nil:∀ st ts aa,c7 st=some (ts,aa)->ts.length=0:=fun st ts aa e=>by cases e; rfl
theorem bw {r:M (List T)} {n:Nat} (h:∀ st ts aa,r st=some (ts,aa)->ts.length=n):∀ st ts aa,aj m r st=some (ts,aa)->ts.length=n+1:=fun st ts aa e=>by
 obtain ⟨t,s1,us,e1,e2,rfl⟩:=Cr e;exact congrArg (· + 1) (h _ _ _ e2)
end
section
variable {P:Program} {w:World} {K:PySem.W.Frag} {mg:Str->Option Value} {base:Heap}
theorem a02 {N:List Str} {vs:List V} {i:Nat} {v:V} (h:vs[i]? = some v):(L2.start N vs)[i]? = some (some v):=by
 unfold L2.start;have hi:=(List.getElem?_eq_some_iff.mp h).1;rw [List.getElem?_append_left (by rw [List.length_map]; exact hi),List.getElem?_map,h]; rfl
theorem Pj {S H:Hp} {as:List Addr} {sto:List SO} {vs:List V} {ts:List T} {N:List Str} (h1:Same S H) (h2:Fz K S as H sto) (h3:p8 K S as vs ts) (hN:ts.length<=N.length) :
  Rel K ⟨S,as,H⟩ ⟨ts.map (fun t=>some (t,false))++List.replicate (N.length - ts.length) none,sto⟩ (L2.start N vs) H [] S as:=by
 have key:∀ (i:Nat) t fl,(ts.map (fun t=>some (t,false))++List.replicate (N.length - ts.length) (none:Slot))[i]? = some (some (t,fl))->fl=false/\ts[i]? = some t:=fun i t fl e=>by
  by_cases hi:i<ts.length
  ·rw [List.getElem?_append_left (by rw [List.length_map]; exact hi),List.getElem?_map] at e;cases z:ts[i]? with
   | none=>rw [z] at e; cases e
   | some t'=>rw [z] at e; cases e; exact ⟨rfl,rfl⟩
  ·rw [List.getElem?_append_right (by rw [List.length_map]; exact Nat.le_of_not_lt hi)] at e;have:=List.eq_of_mem_replicate (List.mem_of_getElem? e);cases this
 refine ⟨h1,⟨Same.refl _,nol,fun p o a b c=>⟨a,b,c⟩⟩,fun i t fl e=>?_,fun i j t u p ei ej=>?_,h2,(fun p hp=>by cases hp),?_⟩
 ·obtain ⟨rfl,e'⟩:=key i t fl e;obtain ⟨v,hv,r⟩:=h3.get e';exact ⟨v,a02 hv,fun _=>r,fun z=>by cases z⟩
 ·obtain ⟨z,_⟩:=key i t true ei; cases z
 ·unfold L2.start;rw [List.length_append,List.length_append,List.length_map,List.length_map,List.length_replicate,List.length_replicate,h3.length]
theorem a4s {x qual:Str} {st:Stmt} {f:Addr} {fd:FuncData} {N ps:List Str} {k:Nat} {b:S} (F:Fun K x qual st f fd) (Sc:Ag N ps (gw st)) (hN:ps.length<=N.length)
  (hb:∀ (ay:Value) (A:Around) (outer:List Env) (s:Shared) (H:Hp) (E:XK) (B:Bas),yw k (A.deeper (envOfC qual (gw st) s.heap.objs.size f ay)) ->
   PSs (Qg CX0 P w K mg base N qual (gw st) f ay A outer s H E).nox (v8 st) (sOf K B b)):Bh P w K mg base CX0 (k+1) f fd ps (spF K ps.length (uc N.length b)):=by
 refine F.ok Sc (fun vs H Q E h=>?_) fun ay A outer s H vs Q E hr h=>?_
 ·obtain ⟨S,as,sto,ts,t,aD,h1,h2,h3,h4,_⟩:=h;rw [h3.length,h4]
 ·obtain ⟨S,as,sto,ts,t,aD,h1,h2,h3,h4,h5,q⟩:=h;refine ⟨_,hb ay A outer s H E ⟨S,as,H⟩ hr,?_⟩;have lv:vs.length=ps.length:=by rw [h3.length,h4]
  have R:Rel K ⟨S,as,H⟩ ⟨ts.map (fun t=>some (t,false))++List.replicate (N.length - ts.length) none,sto⟩ (L2.start N vs) H [] S as:=Pj h1 h2 h3 (by rw [h4]; exact hN);unfold uc at h5;split at h5
  ·rename_i t' s' e;cases h5;exact ⟨_,[],S,as,R,.ret t,s',e,fun v σ' H' S' ag R'=>q v H' S' ag R'.grow R'.sub R'.sto R'.top⟩
  ·rename_i s' e;cases h5;exact ⟨_,[],S,as,R,.next,s',e,fun σ' H' S' ag R'=>q .non H' S' ag R'.grow R'.sub R'.sto .non⟩
  ·cases h5
end
theorem a0s {g:G} {b:S} {t:T} {r:List T} {s s':Sta} {fl:Flow} (h:forL g b (t::r) s=some (fl,s')):∃ s1 fb s2,g t s=some s1/\b s1=some (fb,s2) /\
  (match fb with | .next=>forL g b r s2=some (fl,s') | .cont=>forL g b r s2=some (fl,s') | .brk=>fl=.next/\s'=s2 | .ret v=>fl=.ret v/\s'=s2):=by
 rw [forL] at h;dsimp only at h;split at h
 ·rename_i s1 e1;split at h
  ·rename_i s2 e2; exact ⟨s1,.next,s2,e1,e2,h⟩
  ·rename_i s2 e2; exact ⟨s1,.cont,s2,e1,e2,h⟩
  ·rename_i s2 e2; cases h; exact ⟨s1,.brk,_,e1,e2,rfl,rfl⟩
  ·rename_i v s2 e2; cases h; exact ⟨s1,.ret v,_,e1,e2,rfl,rfl⟩
  ·cases h
 ·cases h
structure Iw (K:PySem.W.Frag) (S:Hp) (as:List Addr) (H:Hp) (J:It) (ts:List T):Prop where
 go:∀ (i:Nat) t,ts[i]? = some t->J.go i H/\∀ x H',J.yld i H x H'->∃ S',Ext S H S' H'/\Rep K S' as x t
 stop:∀ i,ts.length<=i->J.stop i H
inductive iOf (K:PySem.W.Frag) (B:Bas) (m:M (List T)) (σ:L2.St) (H:Hp) (R:It->Hp->Prop):Prop
 | mk (st:Sta) (ps:List (V × T)) (S:Hp) (as:List Addr) (R0:Rel K B st σ H ps S as) (ts:List T) (aa:Sta) (e:m st=some (ts,aa)) (z:ts.length<=sizeLine) (q:∀ J H' S' ag aY,Rel K B aa σ H' (aY++ps) S' ag->(∀ S as H,(∀ p∈aY,Rep K S as p.1 p.2)->Same S H->Iw K S as H J ts)->R J H')
section
variable {X:Cx} {tg l:Expr} {tl:TE}
noncomputable def iSq (K:PySem.W.Frag) (tl:TE):TI:=fun σ H R=>tl σ H fun x H1=>∃ a,x=.ref a/\(((∃ xs,SqL K H1 a xs)/\R (Itl K a) H1)\/((∃ xs,SqT K H1 a xs)/\R (Itt K a) H1))
theorem ab3 (hl:PE X l tl):PI X tg l (iSq X.K tl):=by
 intro pins s σ H R I h;refine thn (hl pins s σ H _ I h) fun v s1 z0=>?_;obtain ⟨x,H1,I1,r1,q1⟩:=z0;obtain ⟨a,e,q⟩:=q1;subst e;cases r1;rcases q with ⟨⟨xs,hq⟩,q⟩ | ⟨⟨xs,hq⟩,q⟩
 ·obtain ⟨ae,rv,p,hz⟩:=I1.list hq;refine wpAny_pyIter_list p.isList ?_;refine ⟨s1.heap.objs.size,[s1.heap.objs.size],_,_,H1,rfl,I1.kept (t':=s1.toks) fun b o e=>Heap.get?_push_of_some _ e,Yh a _,⟨_,Heap.get?_push_size _ rfl,rfl,rfl⟩,fun b hb=>?_,q⟩;have e:b=s1.heap.objs.size:=by simpa using hb
  subst e;exact I1.a8r (Nat.le_refl _) (I1.hok.fresh (Nat.le_refl _))
 ·obtain ⟨ae,rv,p,hz⟩:=I1.tuple hq;refine wpAny_pyIter_tuple (show s1.heap.IsTuple a ae.toArray from p) ?_;refine ⟨s1.heap.objs.size,[s1.heap.objs.size],_,_,H1,rfl,I1.kept (t':=s1.toks) fun b o e=>Heap.get?_push_of_some _ e,Vz a _,⟨_,Heap.get?_push_size _ rfl,rfl,rfl⟩,fun b hb=>?_,q⟩;have e:b=s1.heap.objs.size:=by simpa using hb
  subst e;exact I1.a8r (Nat.le_refl _) (I1.hok.fresh (Nat.le_refl _))
end
section
variable {X:Cx} {B:Bas} {a b c e tg iter:Expr} {m m1 m2:M T} {pos p:Pos} {u v:S} {g:G} {it:M (List T)} {body:List Stmt}
theorem itL {K:PySem.W.Frag} {S:Hp} {as:List Addr} {H:Hp} {p:Addr} {vs:List V} {ts:List T} (sub:Same S H) (h:SqL K H p vs) (r:p8 K S as vs ts):Iw K S as H (Itl K p) ts where
 go:=fun i t e=>by
  obtain ⟨v,hv,rv⟩:=r.get e;exact ⟨⟨vs,v,h,hv⟩,fun x H' y=>⟨S,by rw [y.1]; exact Ext.refl sub,by have:=y.2 vs h; rw [hv] at this; cases this; exact rv⟩⟩
 stop:=fun i hi=>⟨vs,h,by rw [r.length]; exact hi⟩
theorem itT {K:PySem.W.Frag} {S:Hp} {as:List Addr} {H:Hp} {p:Addr} {vs:List V} {ts:List T} (sub:Same S H) (h:SqT K H p vs) (r:p8 K S as vs ts):Iw K S as H (Itt K p) ts where
 go:=fun i t e=>by
  obtain ⟨v,hv,rv⟩:=r.get e;exact ⟨⟨vs,v,h,hv⟩,fun x H' y=>⟨S,by rw [y.1]; exact Ext.refl sub,by have:=y.2 vs h; rw [hv] at this; cases this; exact rv⟩⟩
 stop:=fun i hi=>⟨vs,h,by rw [r.length]; exact hi⟩
theorem ju:lim<=sizeLine:=by rw [sizeLine_eq]; decide
theorem Fi (h:PE X iter (tOf X.K B m)):PI X tg iter (iOf X.K B (Dj m)):=by
 intro pins s σ H R I hw;refine ab3 h pins s σ H R I ?_;obtain ⟨st,ps,S,as,Rl,ts,aa,e,hz,q⟩:=hw;unfold Dj at e;split at e
 ·rename_i xs s1 e1;split at e
  ·rename_i hl;cases e;refine ⟨st,ps,S,as,Rl,_,_,e1,fun v H1 S1 af R1=>?_⟩;have top:=R1.top;cases top with
   | @lst a vs _ hs hr =>
    refine ⟨a,rfl,.inl ⟨⟨vs,jc R1.sub hs⟩,q _ H1 S1 af [(.ref a,.lst _)] R1 fun S2 az H2 hp hh=>?_⟩⟩;have:=hp _ List.mem_cons_self;cases this with
    | @lst _ vs2 _ aU bO=>exact itL hh (jc hh aU) bO
  ·cases e
 ·rename_i xs s1 e1;split at e
  ·rename_i hl;cases e;refine ⟨st,ps,S,as,Rl,_,_,e1,fun v H1 S1 af R1=>?_⟩;have top:=R1.top;cases top with
   | @tup a vs _ hs hr =>
    refine ⟨a,rfl,.inr ⟨⟨vs,lq R1.sub hs⟩,q _ H1 S1 af [(.ref a,.tup _)] R1 fun S2 az H2 hp hh=>?_⟩⟩;have:=hp _ List.mem_cons_self;cases this with
    | @tup _ vs2 _ aU bO=>exact itT hh (lq hh aU) bO
  ·cases e
 ·cases e
theorem Ky {a:M T} {ts:List T} {s s':Sta} (h:Bv a s=some (ts,s')):∃ n:Int,a s=some (.int n,s')/\(-1000000<n/\n<1000000)/\ts=rangeT n.toNat:=by
 unfold Bv at h;split at h
 ·rename_i n s1 e;split at h
  ·rename_i hl; cases h; exact ⟨n,e,by have:n.natAbs<1000000:=hl; omega,rfl⟩
  ·cases h
 ·cases h
theorem Vh {n i:Nat} {t:T} (h:(rangeT n)[i]? = some t):i<n/\t=.int (i:Int):=by
 unfold rangeT at h;rw [List.getElem?_map] at h;cases z:(List.range n)[i]? with
 | none=>rw [z] at h; cases h
 | some k =>
  rw [z] at h; cases h;obtain ⟨hi,e⟩:=List.getElem?_eq_some_iff.mp z;rw [List.getElem_range] at e; subst e;rw [List.length_range] at hi;exact ⟨hi,rfl⟩
theorem M8 (hg:Gl X "range") (hm:X.mg "range" = none) (h:PE X a (tOf X.K B m)) (hs:starEach [a] X.env=[(false,eval a X.env)]:=by rfl):PI X tg (.Call (.Name "range" p) [a] [] pos) (iOf X.K B (Bv m)):=by
 intro pins s σ H R I hw;refine Zz (ta:=Xg (tOf X.K B m) a7j) hg hm (ql h w6 hs) hs pins s σ H R I ?_;obtain ⟨st,ps,S,as,Rl,ts,aa,e,hz,q⟩:=hw;obtain ⟨n,e1,hl,rfl⟩:=Ky e;refine ⟨st,ps,S,as,Rl,_,_,e1,fun v H1 S1 af R1=>?_⟩;cases R1.top;refine ⟨n,rfl,by omega,by omega,q _ H1 S1 af [] R1.drop fun S2 az H2 _ hh=>⟨fun i t e=>?_,fun i hi=>?_⟩⟩
 ·obtain ⟨hi,rfl⟩:=Vh e;refine ⟨hi,fun x H' y=>⟨S2,by rw [y.1]; exact Ext.refl hh,?_⟩⟩;have:=y.2; subst this;rw [Int.zero_add]; exact .int _
 ·show n.toNat<=i;unfold rangeT at hi
  rwa [List.length_map,List.length_range] at hi
theorem Uc (hp:PassesOwn (model X.prog X.w) X.A X.env X.xe) (hc:X.calm=true) (hi:PI X tg iter (iOf X.K B it)) (hg:PG X tg (gOf X.K B g)) (hb:PSs X body (sOf X.K B u)) (hsz:∀ st ts aa,it st=some (ts,aa)->ts.length<=sizeLine)
  (hs:∀ x,foldedSetIterable iter X.env x=pure x:=by intro _; rfl):PS X (.For tg iter body [] pos) (sOf X.K B (S7 g it u)):=(a94 hp hc hi hg hb hs).imp fun D σ H z9=>by
 obtain ⟨st,ps,S,as,R,fl,aa,e,q⟩:=z9;obtain ⟨ts,s1,e1,e2⟩:=a1o e;refine ⟨st,ps,S,as,R,ts,s1,e1,hsz _ _ _ e1,fun J H1 S1 af aY R1 facts=>?_⟩;refine ⟨fun i m σ H=>m=ts.length - i/\i<=ts.length/\∃ aC Si aB,Rel X.K B aC σ H (aY++ps) Si aB/\forL g u (ts.drop i) aC=some (fl,aa),⟨ts.length,by simp,Nat.zero_le _,s1,S1,af,R1,by simpa using e2⟩,?_⟩;rintro i m bL H2 ⟨rfl,hi,aC,Si,aB,Ri,ei⟩;have F:=facts Si aB H2 (fun p hp=>Ri.pend p (List.mem_append_left _ hp)) Ri.sub;have sub:∀ p∈ps,p∈aY++ps:=fun p hp=>List.mem_append_right _ hp
 by_cases aQ:i<ts.length
 ·rw [List.drop_eq_getElem_cons aQ] at ei;obtain ⟨s2,fb,s3,eg,eb,er⟩:=a0s ei;have ht:ts[i]? = some ts[i]:=List.getElem?_eq_getElem aQ;refine .inr ⟨(F.go i _ ht).1,fun σ' H'=>∃ aC Si aB,Rel X.K B aC σ' H' (aY++ps) Si aB/\forL g u (ts.drop (i+1)) aC=some (fl,aa),fun σ' H' h=>⟨ts.length - (i+1),by omega,rfl,aQ,h⟩,fun x H' y=>?_⟩;obtain ⟨S',ex,rx⟩:=(F.go i _ ht).2 x H' y;refine ⟨aC,aY++ps,S',aB,_,(Ri.ext ex).push rx,s2,eg,fun bK H3 S3 aJ R3=>⟨s2,aY++ps,S3,aJ,R3,fb,s3,eb,?_⟩⟩;cases fb with
  | next=>exact fun σ' H' S' ag R'=>⟨s3,S',ag,R',er⟩
  | cont=>exact fun σ' H' S' ag R'=>⟨s3,S',ag,R',er⟩
  | brk =>
   obtain ⟨rfl,rfl⟩:=er;exact fun σ' H' S' ag R'=>q σ' H' S' ag (R'.pick sub)
  | ret v =>
   obtain ⟨rfl,rfl⟩:=er
   exact fun v σ' H' S' ag R'=>q v σ' H' S' ag (R'.pick fun p hp=>by
    rcases List.mem_cons.mp hp with rfl | z
    ·exact List.mem_cons_self
    ·exact List.mem_cons_of_mem _ (sub p z))
 ·have dU:i=ts.length:=by omega
  subst dU;rw [List.drop_length] at ei;cases ei;exact .inl ⟨F.stop _ (Nat.le_refl _),q bL H2 Si aB (Ri.pick sub)⟩
end
section
variable {K:PySem.W.Frag} {B:Bas} {st:Sta} {σ:L2.St} {H H' S S':Hp} {ps dn:List (V × T)} {as ag:List Addr}
theorem Rel.Yn (r:Rel K B st σ H ps S as) {i:Nat} {t:T} (e:st.env[i]? = some (some (t,true))):∃ S',Rel K B { st with env:=st.env.set i (some (t,false)) } σ H ps S' as:=by
 obtain ⟨v,S',_,R⟩:=r.freeze e;exact ⟨S',R.drop⟩
theorem Rel.lu:∀ (ai:List Nat) {st:Sta} {S:Hp},Rel K B st σ H ps S as->∃ S',Rel K B { st with env:=lu ai st.env } σ H ps S' as
 | [],st,S,r=>⟨S,r⟩
 | i::l,st,S,r=>by
  unfold C.lu;rw [List.foldl_cons];split
  ·rename_i t f e;cases f with
   | true =>
    obtain ⟨S1,R1⟩:=r.Yn e;exact Rel.lu l R1
   | false =>
    have e2:st.env.set i (some (t,false))=st.env:=by
     apply List.ext_getElem?;intro j
     by_cases aI:i=j
     ·subst aI;rw [List.getElem?_set_self (List.getElem?_eq_some_iff.mp e).1,e]
     ·rw [List.getElem?_set_ne aI]
    rw [e2];exact Rel.lu l r
  ·exact Rel.lu l r
noncomputable def Dm (env:List Slot):Nat->List Slot
 | 0=>env
 | n+1=>match (Dm env n)[n]? with
  | some (some (t,_))=>(Dm env n).set n (some (t,false))
  | _=>Dm env n
theorem J7 (env:List Slot):∀ n,(Dm env n).length=env.length
 | 0=>rfl
 | n+1=>by
  rw [Dm];split
  ·rw [List.length_set]; exact J7 env n
  ·exact J7 env n
theorem Ia (env:List Slot):∀ (n j:Nat),(Dm env n)[j]? = if j<n then (env[j]?).map Vc else env[j]?
 | 0,j=>by rw [if_neg (Nat.not_lt_zero _)]; rfl
 | n+1,j=>by
  have dA:=Ia env n n;rw [if_neg (Nat.lt_irrefl _)] at dA;have gG:=Ia env n j;rw [Dm,dA]
  by_cases hj:j=n
  ·subst hj;rw [if_pos (Nat.lt_succ_self _)];cases z:env[j]? with
   | none=>simp only [z,Option.map_none]; rw [dA,z]
   | some s =>
    have hl:j<(Dm env j).length:=by rw [J7]; exact (List.getElem?_eq_some_iff.mp z).1
    cases s with
    | none=>simp only [Option.map_some]; rw [dA,z]; rfl
    | some p=>obtain ⟨t,f⟩:=p; simp only [Option.map_some]; rw [List.getElem?_set_self hl]; rfl
  ·have e1:(if j<n+1 then (env[j]?).map Vc else env[j]?)=(if j<n then (env[j]?).map Vc else env[j]?):=by
    by_cases aQ:j<n
    ·rw [if_pos aQ,if_pos (Nat.lt_succ_of_lt aQ)]
    ·rw [if_neg aQ,if_neg (by omega)]
   rw [e1,<- gG];split
   ·rw [List.getElem?_set_ne (Ne.symm hj)]
   ·rfl
theorem X5 (env:List Slot):Dm env env.length=env.map Vc:=by
 apply List.ext_getElem?;intro j;rw [Ia,List.getElem?_map]
 by_cases hj:j<env.length
 ·rw [if_pos hj]
 ·rw [if_neg hj,List.getElem?_eq_none (Nat.le_of_not_lt hj)]; rfl
theorem Rel.Dm (r:Rel K B st σ H ps S as):∀ n,∃ S',Rel K B { st with env:=C.Dm st.env n } σ H ps S' as
 | 0=>⟨S,r⟩
 | n+1=>by
  obtain ⟨S1,R1⟩:=Rel.Dm r n;rw [C.Dm];split
  ·rename_i t f e;cases f with
   | true=>exact R1.Yn e
   | false =>
    have e2:(C.Dm st.env n).set n (some (t,false))=C.Dm st.env n:=by
     apply List.ext_getElem?;intro j
     by_cases aI:n=j
     ·subst aI;rw [List.getElem?_set_self (List.getElem?_eq_some_iff.mp e).1,e]
     ·rw [List.getElem?_set_ne aI]
    rw [e2];exact ⟨S1,R1⟩
  ·exact ⟨S1,R1⟩
theorem Rel.jo (r:Rel K B st σ H ps S as):∃ S',Rel K B (jo st) σ H ps S' as:=by
 obtain ⟨S',R⟩:=r.Dm st.env.length;rw [X5] at R;exact ⟨S',R⟩
def T5 (st:Sta):Prop:=∀ (i:Nat) t,st.env[i]?≠some (some (t,true))
theorem Aa (st:Sta):T5 (C.jo st):=fun i t e=>by
 unfold C.jo at e;rw [List.getElem?_map] at e;cases z:st.env[i]? with
 | none=>rw [z] at e; cases e
 | some s =>
  rw [z] at e;cases s with
  | none=>cases e
  | some p=>obtain ⟨t,f⟩:=p; cases e
theorem Rel.rebase (r:Rel K B st σ H ps S as) (n:T5 st):Rel K ⟨S,as,H⟩ st σ H ps S as :=
 ⟨r.sub,⟨Same.refl _,nol,fun p o a b c=>⟨a,b,c⟩⟩,fun i t f e=>by
  obtain ⟨v,h1,h2,_⟩:=r.slots i t f e;exact ⟨v,h1,h2,fun z=>by subst z; exact absurd e (n i t)⟩,r.apart,r.sto,r.pend,r.len⟩
end
theorem Xc {g:G} {c:M Bool} {e:M T} {t:T} {r acc us:List T} {s s':Sta} (h:Dp g c e (t::r) s acc=some (us,s')):∃ s1 b s2,g t s=some s1/\c s1=some (b,s2) /\
  ((b=true/\∃ u s3,e s2=some (u,s3)/\acc.length<lim/\Dp g c e r (jo s3) (acc++[u])=some (us,s'))\/(b=false/\Dp g c e r (jo s2) acc=some (us,s'))):=by
 rw [Dp] at h;split at h
 ·rename_i s1 e1;split at h
  ·rename_i s2 e2;split at h
   ·rename_i u s3 e3;split at h
    ·rename_i hl; exact ⟨s1,true,s2,e1,e2,.inl ⟨rfl,u,s3,e3,hl,h⟩⟩
    ·cases h
   ·cases h
  ·rename_i s2 e2; exact ⟨s1,false,s2,e1,e2,.inr ⟨rfl,h⟩⟩
  ·cases h
 ·cases h
theorem Xn {nv:Nat} {ai:List Nat} {g:G} {it:M (List T)} {c:M Bool} {e:M T} {s s':Sta} {v:T} (h:uw nv ai g it c e s=some (v,s')):∃ ts s1 us s2,it s=some (ts,s1) /\
  Dp g c e ts ⟨List.replicate nv none++ai.map (fun i=>((lu ai s1.env)[i]?).getD none),s1.sto⟩ []=some (us,s2)/\v=.lst us/\s'=⟨lu ai s1.env,s2.sto⟩:=by
 unfold uw at h;split at h
 ·rename_i ts s1 e1;dsimp only at h;split at h
  ·rename_i us s2 e2; cases h; exact ⟨ts,s1,us,s2,e1,e2,rfl,rfl⟩
  ·cases h
 ·cases h
section
variable {K:PySem.W.Frag} {B:Bas} {st:Sta} {σ:L2.St} {H H' S S':Hp} {ps dn:List (V × T)} {as ag:List Addr} {D:Addr} {ob:HO}
theorem Fz.mem {sto:List SO} (r:Fz K S as H sto) {a:Addr} (h:a∈as):∃ o,H a=some o:=by
 obtain ⟨n,hn⟩:=List.getElem?_of_mem h;have hl:=(List.getElem?_eq_some_iff.mp hn).1;rw [r.len] at hl;obtain ⟨a',h1,h2,h3⟩:=r.at' n _ (List.getElem?_eq_getElem hl);rw [hn] at h1; cases h1;exact h3.there
theorem Rel.fresh (r:Rel K B st σ H ps S as) (h:H D=none):B.H D=none/\S D=none/\D∉as/\K1 st σ D:=by
 have sD:S D=none:=r.sub.free h;have nD:D∉as:=fun z=>by obtain ⟨o,e⟩:=r.sto.mem z; rw [h] at e; cases e
 refine ⟨?_,sD,nD,fun j u e1 e2=>?_⟩
 ·cases q:B.H D with
  | none=>rfl
  | some o =>
   have b1:B.S D=none:=by
    cases z:B.S D with
    | none=>rfl
    | some u=>have:=r.grow.same _ _ z; rw [sD] at this; cases this
   have b2:D∉B.as:=fun z=>by obtain ⟨l,e⟩:=r.grow.more; exact nD (by rw [e]; exact List.mem_append_left _ z)
   have:=(r.grow.keep D o q b1 b2).1;rw [h] at this; cases this
 ·obtain ⟨v,h1,_,h3⟩:=r.slots j u true e1;rw [e2] at h1; cases h1;obtain ⟨p,ep,o⟩:=h3 rfl;cases ep;obtain ⟨ob,ho⟩:=o.own.there;rw [h] at ho; cases ho
theorem Rel.a7s (r:Rel K B st σ H ps S as) (bD:B.H D=none) (sD:S D=none) (nD:D∉as) (no:K1 st σ D):Rel K B st σ (upd H D ob) ps S as:=by
 have ne:∀ b u,S b=some u->b≠D:=fun b u e z=>by subst z; rw [sD] at e; cases e
 refine ⟨fun b u e=>by rw [gb (ne b u e)]; exact r.sub _ _ e,⟨r.grow.same,r.grow.more,fun p o x y z=>?_⟩,fun i t f e=>?_,r.apart,⟨r.sto.len,r.sto.nd,fun n so e=>?_⟩,r.pend,r.len⟩
 ·obtain ⟨a,b,c⟩:=r.grow.keep p o x y z;exact ⟨by rw [gb (fun w=>by subst w; rw [bD] at x; cases x)]; exact a,b,c⟩
 ·obtain ⟨v,h1,h2,h3⟩:=r.slots i t f e;refine ⟨v,h1,h2,fun z=>?_⟩;obtain ⟨p,rfl,o⟩:=h3 z;have n:p≠D:=fun w=>by subst w; subst z; exact no i t e h1
  exact ⟨p,rfl,o.own.mono (Same.refl _) (gb n).symm,o.out,o.nas,o.new⟩
 ·obtain ⟨a,h1,h2,h3⟩:=r.sto.at' n so e;exact ⟨a,h1,h2,h3.mono (Same.refl _) (gb (fun w=>by subst w; exact nD (List.mem_of_getElem? h1))).symm⟩
theorem Rel.a9s (r:Rel K B st σ H ps S as) (no:T5 st) (sD:S D=none) (nD:D∉as):Rel K ⟨S,as,upd H D ob⟩ st σ (upd H D ob) ps S as:=by
 have ne:∀ b u,S b=some u->b≠D:=fun b u e z=>by subst z; rw [sD] at e; cases e
 refine ⟨fun b u e=>by rw [gb (ne b u e)]; exact r.sub _ _ e,⟨Same.refl _,nol,fun p o x y z=>⟨x,y,z⟩⟩,fun i t f e=>?_,r.apart,⟨r.sto.len,r.sto.nd,fun n so e=>?_⟩,r.pend,r.len⟩
 ·obtain ⟨v,h1,h2,_⟩:=r.slots i t f e;exact ⟨v,h1,h2,fun z=>by subst z; exact absurd e (no i t)⟩
 ·obtain ⟨a,h1,h2,h3⟩:=r.sto.at' n so e;exact ⟨a,h1,h2,h3.mono (Same.refl _) (gb (fun w=>by subst w; exact nD (List.mem_of_getElem? h1))).symm⟩
end
theorem Ep:∀ (ai:List Nat) (env:List Slot) (k:Nat),(∀ t,env[k]?≠some (some (t,true)))->∀ t,(lu ai env)[k]?≠some (some (t,true))
 | [],env,k,h=>h
 | i::l,env,k,h=>by
  have e:lu (i::l) env=lu l (match env[i]? with | some (some (t,_))=>env.set i (some (t,false)) | _=>env):=rfl;rw [e];refine Ep l _ k fun t=>?_;split
  ·rename_i t' f e'
   by_cases hk:i=k
   ·subst hk;rw [List.getElem?_set_self (List.getElem?_eq_some_iff.mp e').1];intro z; cases z
   ·rw [List.getElem?_set_ne hk]; exact h t
  ·exact h t
theorem J9:∀ (ai:List Nat) (env:List Slot) (k:Nat),k∈ai->∀ t,(lu ai env)[k]?≠some (some (t,true))
 | [],env,k,h=>by simp at h
 | i::l,env,k,h=>by
  have e:lu (i::l) env=lu l (match env[i]? with | some (some (t,_))=>env.set i (some (t,false)) | _=>env):=rfl;rw [e];rcases List.mem_cons.mp h with rfl | h'
  ·refine Ep l _ k fun t=>?_;split
   ·rename_i t' f e';rw [List.getElem?_set_self (List.getElem?_eq_some_iff.mp e').1];intro z; cases z
   ·rename_i hx;intro z;exact hx _ _ z
  ·exact J9 l _ k h'
def gE (K:PySem.W.Frag) (g:G):TG:=fun v σ H Q=>∃ B,gOf K B g v σ H Q
def cE (K:PySem.W.Frag) (c:M Bool):TT:=fun σ H Q=>∃ B,cOf K B c σ H Q
def eE (K:PySem.W.Frag) (e:M T):TE:=fun σ H Q=>∃ B,tOf K B e σ H Q
theorem pgE {X:Cx} {tg:Expr} {g:G} (h:∀ B,PG X tg (gOf X.K B g)):PG X tg (gE X.K g):=fun pins s σ H x u Q I r ⟨B,q⟩=>h B pins s σ H x u Q I r q
theorem ptE {X:Cx} {e:Expr} {c:M Bool} (h:∀ B,PT X e (cOf X.K B c)):PT X e (cE X.K c):=fun pins s σ H Q I ⟨B,q⟩=>h B pins s σ H Q I q
theorem peE {X:Cx} {e:Expr} {m:M T} (h:∀ B,PE X e (tOf X.K B m)):PE X e (eE X.K m):=fun pins s σ H Q I ⟨B,q⟩=>h B pins s σ H Q I q
theorem Ba {X:Cx}:PTs X [] (cE X.K Bx):=fun pins s σ H Q I z9=>by
 obtain ⟨B,st,ps,S,as,R,b,aa,e,q⟩:=z9;cases e;exact a5s pins s σ H Q I (q H S as R)
theorem Lr {X:Cx} {e:Expr} {c:M Bool} (h:∀ B,PT X e (cOf X.K B c)):PTs X [e] (cE X.K c):=a4u (ptE h)
section
variable {X:Cx} {scope:Scope} {N:List Str}
inductive CI (K:PySem.W.Frag) (B:Bas) (g:G) (c:M Bool) (e:M T) (ts us:List T) (env:List Slot) (s2:Sta) (σ:L2.St) (pp:List (V × T)) (D:Addr) (i m:Nat) (σ':L2.St) (H':Hp):Prop where
 | mk (aC:Sta) (Si:Hp) (aB:List Addr) (acc:List T) (aH:List V) (hm:m=ts.length - i) (hi:i<=ts.length) (Ri:Rel K ⟨Si,aB,H'⟩ aC σ' H' [] Si aB) (no:T5 aC) (Ro:Rel K B ⟨env,aC.sto⟩ σ H' pp Si aB) (hD:H' D=some (.lst aH)) (sD:Si D=none) (nD:D∉aB) (rA:p8 K Si aB aH acc) (ei:Dp g c e (ts.drop i) aC acc=some (us,s2)):CI K B g c e ts us env s2 σ pp D i m σ' H'
theorem Xi {B:Bas} {nv:Nat} {ai:List Nat} {env:List Slot} {bq:List SO} {σ:L2.St} {H1 S1:Hp} {af:List Addr} {pp:List (V × T)} {D:Addr}
  (hN:N.length=nv+ai.length) (aG:∀ (j k:Nat),ai[j]? = some k->∃ x,N[nv+j]? = some x/\X.N[k]? = some x/\a7g X scope x)
  (R1:Rel X.K B ⟨env,bq⟩ σ H1 pp S1 af) (dq:∀ k∈ai,∀ t,env[k]?≠some (some (t,true))) (hD:H1 D=none) :
  ∃ br:L2.St,br.length=N.length/\(∀ (i:Nat) (v:V) (x:Str),br[i]? = some (some v)->N[i]? = some x->Vis (relabel scope X.env) x->∃ k:Nat,X.N[k]? = some x/\σ[k]? = some (some v)/\a7g X scope x) /\
   Rel X.K ⟨S1,af,upd H1 D (.lst [])⟩ ⟨List.replicate nv none++ai.map (fun i=>(env[i]?).getD none),bq⟩ br (upd H1 D (.lst [])) [] S1 af/\T5 ⟨List.replicate nv none++ai.map (fun i=>(env[i]?).getD none),bq⟩ /\
   Rel X.K B ⟨env,bq⟩ σ (upd H1 D (.lst [])) pp S1 af:=by
 obtain ⟨bD,sD1,nD1,noD⟩:=R1.fresh hD
 have b4:∀ (i:Nat) s,(List.replicate nv (none:Slot)++ai.map (fun i=>(env[i]?).getD none))[i]? = some (some s)->∃ j k,i=nv+j/\ai[j]? = some k/\env[k]? = some (some s):=fun i s h=>by
  by_cases hi:i<nv
  ·rw [List.getElem?_append_left (by rw [List.length_replicate]; exact hi)] at h;have:=List.eq_of_mem_replicate (List.mem_of_getElem? h); cases this
  ·rw [List.getElem?_append_right (by rw [List.length_replicate]; exact Nat.le_of_not_lt hi),List.length_replicate,List.getElem?_map] at h;cases z:ai[i - nv]? with
   | none=>rw [z] at h; cases h
   | some k =>
    rw [z] at h;refine ⟨i - nv,k,by omega,z,?_⟩;cases w:env[k]? with
    | none=>simp [w] at h
    | some s'=>simp [w] at h; rw [h]
 have sig:∀ (j k:Nat) v,ai[j]? = some k->σ[k]? = some (some v)->(List.replicate nv (none:Option V)++ai.map (fun i=>(σ[i]?).getD none))[nv+j]? = some (some v):=fun j k v h1 h2=>by
  rw [List.getElem?_append_right (by rw [List.length_replicate]; omega),List.length_replicate,Nat.add_sub_cancel_left,List.getElem?_map,h1];simp [h2]
 refine ⟨List.replicate nv none++ai.map (fun i=>(σ[i]?).getD none),by rw [List.length_append,List.length_replicate,List.length_map,hN],fun i v x h1 h2 _=>?_,?_⟩
 ·by_cases hi:i<nv
  ·rw [List.getElem?_append_left (by rw [List.length_replicate]; exact hi)] at h1;have:=List.eq_of_mem_replicate (List.mem_of_getElem? h1); cases this
  ·rw [List.getElem?_append_right (by rw [List.length_replicate]; exact Nat.le_of_not_lt hi),List.length_replicate,List.getElem?_map] at h1;cases z:ai[i - nv]? with
   | none=>rw [z] at h1; cases h1
   | some k =>
    rw [z] at h1;obtain ⟨y,n1,n2,ck⟩:=aG _ _ z;have e:nv+(i - nv)=i:=by omega
    rw [e,h2] at n1; cases n1;refine ⟨k,n2,?_,ck⟩;cases w:σ[k]? with
    | none=>simp [w] at h1
    | some s'=>simp [w] at h1; rw [h1]
 refine ⟨?_,?_,?_⟩
 ·refine Rel.a9s (B:=B) (H:=H1) ⟨R1.sub,R1.grow,fun i t f h=>?_,fun i j t u p hi hj=>?_,R1.sto,(fun p hp=>by cases hp),?_⟩ (fun i t h=>?_) sD1 nD1
  ·obtain ⟨j,k,rfl,hk,ek⟩:=b4 i _ h;obtain ⟨v,h1,h2,h3⟩:=R1.slots k t f ek;exact ⟨v,sig j k v hk h1,h2,h3⟩
  ·obtain ⟨j,k,rfl,hk,ek⟩:=b4 i _ hi;exact absurd ek (dq k (List.mem_of_getElem? hk) t)
  ·show (List.replicate nv (none:Option V)++ai.map _).length=(List.replicate nv (none:Slot)++ai.map _).length;rw [List.length_append,List.length_append,List.length_replicate,List.length_replicate,List.length_map,List.length_map]
  ·obtain ⟨j,k,rfl,hk,ek⟩:=b4 i _ h;exact absurd ek (dq k (List.mem_of_getElem? hk) t)
 ·intro i t h;obtain ⟨j,k,rfl,hk,ek⟩:=b4 i _ h;exact absurd ek (dq k (List.mem_of_getElem? hk) t)
 ·exact R1.a7s bD sD1 nD1 noD
theorem Wv {B:Bas} {nv:Nat} {ai:List Nat} {g:G} {c:M Bool} {e:M T} {ts us:List T} {env:List Slot} {bq:List SO} {s2:Sta} {σ:L2.St} {H1 S1:Hp} {af:List Addr} {ps aY:List (V × T)} {J:It} {Q:VK}
  (hN:N.length=nv+ai.length) (hv:∀ i x,i<nv->N[i]? = some x->True)
  (aG:∀ (j k:Nat),ai[j]? = some k->∃ x,N[nv+j]? = some x/\X.N[k]? = some x/\a7g X scope x)
  (R1:Rel X.K B ⟨env,bq⟩ σ H1 (aY++ps) S1 af) (dq:∀ k∈ai,∀ t,env[k]?≠some (some (t,true)))
  (facts:∀ S as H,Same B.S S->(∃ l,as=B.as++l)->(∀ p∈aY,Rep X.K S as p.1 p.2)->Same S H->Iw X.K S as H J ts)
  (hc:Dp g c e ts ⟨List.replicate nv none++ai.map (fun i=>(env[i]?).getD none),bq⟩ []=some (us,s2))
  (fin:∀ D H' S' ag,Rel X.K B ⟨env,s2.sto⟩ σ H' (aY++ps) S' ag->Xq X.K B S' ag H' D (.lst us)->K1 ⟨env,s2.sto⟩ σ D->Q (.ref D) H') :
  Lf X scope N (gE X.K g) (cE X.K c) (eE X.K e) σ J H1 Q:=by
 intro D hD;obtain ⟨bD,sD1,nD1,noD⟩:=R1.fresh hD;obtain ⟨br,z1,z2,z3,z4,z5⟩:=Xi hN aG R1 dq hD;refine ⟨br,z1,z2,fun i m σ' H'=>CI X.K B g c e ts us env s2 σ (aY++ps) D i m σ' H',⟨ts.length,.mk _ S1 af [] [] (by simp) (Nat.zero_le _) z3 z4 z5 dz sD1 nD1 .nil hc⟩,?_⟩;rintro i m σ' H' ⟨aC,Si,aB,acc,aH,rfl,hi,Ri,no,Ro,hD',sD,nD,rA,ei⟩;have F:=facts Si aB H' Ro.grow.same Ro.grow.more (fun p hp=>Ro.pend p (List.mem_append_left _ hp)) Ri.sub
 by_cases aQ:i<ts.length
 ·rw [List.drop_eq_getElem_cons aQ] at ei;obtain ⟨s3,b,s4,eg,ec,er⟩:=Xc ei;have ht:ts[i]? = some ts[i]:=List.getElem?_eq_getElem aQ;refine .inr ⟨(F.go i _ ht).1,fun x H2 y=>?_⟩;obtain ⟨S2,ex,rx⟩:=(F.go i _ ht).2 x H2 y;refine ⟨⟨Si,aB,H'⟩,aC,[],S2,aB,_,(Ri.ext ex).push rx,s3,eg,fun bK H3 S3 aJ R3=>⟨⟨Si,aB,H'⟩,s3,[],S3,aJ,R3,b,s4,ec,fun H4 S4 cU R4=>?_⟩⟩;rcases er with ⟨rfl,w,s5,ee,hlen,erest⟩ | ⟨rfl,erest⟩
  ·refine Yt ⟨⟨Si,aB,H'⟩,s4,[],S4,cU,R4,w,s5,ee,fun y H5 S5 fX R5=>?_⟩;obtain ⟨S6,R6⟩:=R5.jo;obtain ⟨k1,k2,k3⟩:=R6.grow.keep D _ hD' sD nD;have dR:=Ro.call R6.grow R6.sub R6.sto;refine ⟨aH,k1,?_,ts.length - (i+1),by omega,.mk (jo s5) S6 fX (acc++[w]) (aH++[y]) rfl aQ (R6.drop.a9s (Aa _) k2 k3) (Aa _) (dR.a7s bD k2 k3 noD) dz k2 k3 ((rA.mono R6.grow.same R6.grow.more).append (.cons R6.top .nil)) erest⟩;rw [rA.length]; exact Nat.lt_of_lt_of_le hlen ju
  ·refine Xa ?_;obtain ⟨S6,R6⟩:=R4.jo;obtain ⟨k1,k2,k3⟩:=R6.grow.keep D _ hD' sD nD;have dR:=Ro.call R6.grow R6.sub R6.sto;exact ⟨ts.length - (i+1),by omega,.mk (jo s4) S6 cU acc aH rfl aQ (R6.rebase (Aa _)) (Aa _) dR k1 k2 k3 (rA.mono R6.grow.same R6.grow.more) erest⟩
 ·have dU:i=ts.length:=by omega
  subst dU;rw [List.drop_length] at ei;cases ei;exact .inl ⟨F.stop _ (Nat.le_refl _),fin D H' Si aB Ro ⟨⟨aH,hD',rA⟩,sD,nD,bD⟩ noD⟩
theorem Rel.give {K:PySem.W.Frag} {B:Bas} {st:Sta} {σ:L2.St} {H S:Hp} {ps:List (V × T)} {as:List Addr} {p:Addr} {t:T} (r:Rel K B st σ H ps S as) (o:Xq K B S as H p t) (no:K1 st σ p):∃ S',Rel K B st σ H ((.ref p,t)::ps) S' as:=by
 obtain ⟨ob,ho⟩:=o.own.there;have sS:Same S (upd S p ob):=Same.upd o.out ob
 have rep:Rep K (upd S p ob) as (.ref p) t:=by
  have w:=o.own;cases t with
  | lst ts=>obtain ⟨vs,h,q⟩:=w; rw [ho] at h; cases h; exact .lst (SqL.of dz) (q.mono sS nol)
  | dic ts=>obtain ⟨vs,h,q⟩:=w; rw [ho] at h; cases h; exact .dic (.inl dz) (q.mono sS nol)
  | _=>exact w.elim
 have outs:∀ q,S q=none->q≠p->upd S p ob q=none:=fun q h n=>by rw [gb n]; exact h
 refine ⟨upd S p ob,Rel.push (v:=.ref p) (t:=t) ⟨?_,?_,?_,r.apart,?_,fun q hq=>(r.pend q hq).mono sS nol,r.len⟩ rep⟩
 ·intro b u q
  by_cases z:b=p
  ·subst z; rw [dz] at q; cases q; exact ho
  ·rw [gb z] at q; exact r.sub _ _ q
 ·refine ⟨r.grow.same.trans sS,r.grow.more,fun q w a b c=>?_⟩;obtain ⟨x,y,z⟩:=r.grow.keep q w a b c;refine ⟨x,outs q y fun n=>?_,z⟩;subst n; rw [o.new] at a; cases a
 ·intro j u f ej;obtain ⟨v',a1,a2,a3⟩:=r.slots j u f ej;refine ⟨v',a1,fun z=>(a2 z).mono sS nol,fun z=>?_⟩;subst z;obtain ⟨p',rfl,o'⟩:=a3 rfl;refine ⟨p',rfl,o'.own.mono sS rfl,outs p' o'.out fun n=>?_,o'.nas,o'.new⟩;subst n;exact no j u ej a1
 ·refine ⟨r.sto.len,r.sto.nd,fun n so en=>?_⟩;obtain ⟨a,a1,a2,a3⟩:=r.sto.at' n so en;refine ⟨a,a1,outs a a2 fun z=>?_,a3.mono sS rfl⟩;subst z;exact o.nas (List.mem_of_getElem? a1)
theorem a3z {K:PySem.W.Frag} {B:Bas} {m:M T} {σ:L2.St} {H:Hp} {Q:VK} (h:tOf K B m σ H Q):fOf K B m σ H Q:=by
 obtain ⟨st,ps,S,as,R,t,aa,e,q⟩:=h;refine ⟨st,ps,S,as,R,t,aa,e,fun p H' S' ag R' o n=>?_⟩;obtain ⟨S2,R2⟩:=R'.give o n;exact q _ H' S2 ag R2
theorem yd {e:Expr} {B:Bas} {m:M T} (h:PE X e (fOf X.K B m)):PE X e (tOf X.K B m):=h.imp fun σ H Q=>a3z
variable {B:Bas} {nv:Nat} {ai:List Nat} {g:G} {it:M (List T)} {c:M Bool} {e:M T} {tg iter elt:Expr} {ifs:List Expr} {pos:Pos}
structure a9q (X:Cx) (scope:Scope) (N:List Str) (nv:Nat) (ai:List Nat):Prop where
 len:N.length=nv+ai.length
 at':∀ (j k:Nat),ai[j]? = some k->∃ x,N[nv+j]? = some x/\X.N[k]? = some x/\a7g X scope x
theorem a3t (co:a9q X scope N nv ai) (hsz:∀ st ts aa,it st=some (ts,aa)->ts.length<=sizeLine) {σ:L2.St} {H:Hp} {Q:VK} (h:fOf X.K B (uw nv ai g it c e) σ H Q) :
  a7a X scope N (iOf X.K B it) (gE X.K g) (cE X.K c) (eE X.K e) σ H Q:=by
 obtain ⟨st,ps,S,as,R,t,aa,e,q⟩:=h;obtain ⟨ts,s1,us,s2,e1,e2,rfl,rfl⟩:=Xn e;refine ⟨st,ps,S,as,R,ts,s1,e1,hsz _ _ _ e1,fun J H1 S1 af aY R1 facts=>?_⟩;obtain ⟨S2,R2⟩:=R1.lu ai;exact Wv co.len (fun _ _ _ _=>trivial) co.at' R2 (fun k hk=>J9 ai s1.env k hk) (fun S as H _ _=>facts S as H) e2 fun D H' S' ag R' o n=>q D H' S' ag (R'.pick fun p hp=>List.mem_append_right _ hp) o n
theorem Bf (co:a9q X scope N nv ai) (sc:Io X scope N) (calm:X.calm=true) (hi:PI X tg iter (iOf X.K B it)) (hsz:∀ st ts aa,it st=some (ts,aa)->ts.length<=sizeLine)
  (hg:∀ C s₀ H₀ ex pn,PG (ou X scope N C s₀ H₀ ex pn) tg (gE X.K g)) (hc:∀ C s₀ H₀ ex pn,PTs (ou X scope N C s₀ H₀ ex pn) ifs (cE X.K c)) (he:∀ C s₀ H₀ ex pn,PE (ou X scope N C s₀ H₀ ex pn) elt (eE X.K e))
  (hs:∀ x,foldedSetIterable iter X.env x=pure x:=by intro _; rfl):PE X (.ListComp elt [⟨tg,iter,ifs,0⟩] scope pos) (fOf X.K B (uw nv ai g it c e)) :=
 (a69 sc calm hi hg hc he hs).imp fun σ H Q h=>a3t co hsz h
end
section
variable {X:Cx}
theorem Vy {f:Value->Value->Sem Value} {g:T->T->Option T} {r:R2} (h:OpR X f r)
  (k:∀ S as x y t u w,Rep X.K S as x t->Rep X.K S as y u->g t u=some w->∀ (H:Hp) (Q:VK),Same S H->(∀ v H' S',Ext S H S' H'->Rep X.K S' as v w->Q v H')->r x y H Q):OpT X f g:=by
 intro pins s σ H x y v u Q I rx ry z8;obtain ⟨S,as,t,w,z,sub,ht,hu,hf,q⟩:=z8;exact h pins s σ H x y v u Q I rx ry (k S as x y t w z ht hu hf H Q sub q)
structure OI (g:T->Option T):Prop where
 n:g .non=none
 b:∀ x,g (.bl x)=none
 s:∀ x,g (.str x)=none
 t:∀ x,g (.tup x)=none
 l:∀ x,g (.lst x)=none
 d:∀ x,g (.dic x)=none
 o:∀ x,g (.obj x)=none
 a:∀ x,g (.adr x)=none
theorem OI.int {g:T->Option T} {w t:T} (h:OI g) (e:g t=some w):∃ i,t=.int i:=by
 cases t with
 | int i=>exact ⟨i,rfl⟩
 | non=>exact ig (h.n.symm.trans e)
 | bl x=>exact ig ((h.b x).symm.trans e)
 | str x=>exact ig ((h.s x).symm.trans e)
 | tup x=>exact ig ((h.t x).symm.trans e)
 | lst x=>exact ig ((h.l x).symm.trans e)
 | dic x=>exact ig ((h.d x).symm.trans e)
 | obj x=>exact ig ((h.o x).symm.trans e)
 | adr x=>exact ig ((h.a x).symm.trans e)
theorem Dc {K:PySem.W.Frag} {S:Hp} {as:List Addr} {x y:V} {t u w:T} {g:T->T->Option T} {P:Prop} (ht:Rep K S as x t) (hu:Rep K S as y u) (hf:g t u=some w)
  (n1:∀ u,OI (g · u)) (n2:∀ i,OI (g (.int i))) (k:∀ i j,x=.int i->y=.int j->g (.int i) (.int j)=some w->P):P:=by
 obtain ⟨i,rfl⟩:=(n1 u).int hf;obtain ⟨j,rfl⟩:=(n2 i).int hf;cases ht; cases hu;exact k i j rfl rfl hf
theorem Du:OpT X (binaryOp .Mod) Qh:=Vy a82 fun S as x y t u w ht hu hf H Q sub q =>
 Dc (g:=Qh) ht hu hf (fun u=>⟨rfl,fun _=>rfl,fun _=>rfl,fun _=>rfl,fun _=>rfl,fun _=>rfl,fun _=>rfl,fun _=>rfl⟩) (fun i=>⟨rfl,fun _=>rfl,fun _=>rfl,fun _=>rfl,fun _=>rfl,fun _=>rfl,fun _=>rfl,fun _=>rfl⟩) fun i j ex ey hf=>by
 subst ex ey;obtain ⟨hc,hf⟩:=Ad hf;cases hf; exact ⟨_,_,rfl,rfl,hc,q _ H S (Ext.refl sub) (.int _)⟩
def aaw (i j:Int):Prop:=0<j/\(j<1073741824\/j.natAbs<fdl)
theorem a2o:OpR X (binaryOp .FloorDiv) (rI aaw fun i j=>.int (i / j)):=opI fun i j _ _ _ _ _ hc q=>by
 have h1:(0:Int)<j:=hc.1
 have h2:j.natAbs<2 ^ 200:=by
  rcases hc.2 with h | h
  ·exact Nat.lt_trans (show j.natAbs<1073741824 by omega) (by decide)
  ·exact h
 exact floordiv_int (by omega) (by rw [Int.fdiv_eq_ediv_of_nonneg i (by omega)]; exact q) (.inl (PyProof.noPylong_of_log2 (Nat.lt_trans ((Nat.log2_lt (by omega)).mpr h2) (by decide))))
theorem Fo:OpT X (binaryOp .FloorDiv) Al:=Vy a2o fun S as x y t u w ht hu hf H Q sub q =>
 Dc (g:=Al) ht hu hf (fun u=>⟨rfl,fun _=>rfl,fun _=>rfl,fun _=>rfl,fun _=>rfl,fun _=>rfl,fun _=>rfl,fun _=>rfl⟩) (fun i=>⟨rfl,fun _=>rfl,fun _=>rfl,fun _=>rfl,fun _=>rfl,fun _=>rfl,fun _=>rfl,fun _=>rfl⟩) fun i j ex ey hf=>by
 subst ex ey;obtain ⟨hc,hf⟩:=Ad hf;cases hf; exact ⟨_,_,rfl,rfl,hc,q _ H S (Ext.refl sub) (.int _)⟩
theorem Oe:OpT X (compareOp .Lt) ltT:=Vy aci fun S as x y t u w ht hu hf H Q sub q =>
 Dc (g:=ltT) ht hu hf (fun u=>⟨rfl,fun _=>rfl,fun _=>rfl,fun _=>rfl,fun _=>rfl,fun _=>rfl,fun _=>rfl,fun _=>rfl⟩) (fun i=>⟨rfl,fun _=>rfl,fun _=>rfl,fun _=>rfl,fun _=>rfl,fun _=>rfl,fun _=>rfl,fun _=>rfl⟩) fun i j ex ey hf=>by
 subst ex ey; cases hf;exact ⟨_,_,rfl,rfl,q _ H S (Ext.refl sub) (.bl _)⟩
theorem a3j:OpT X (compareOp .LtE) leT:=Vy aau fun S as x y t u w ht hu hf H Q sub q =>
 Dc (g:=leT) ht hu hf (fun u=>⟨rfl,fun _=>rfl,fun _=>rfl,fun _=>rfl,fun _=>rfl,fun _=>rfl,fun _=>rfl,fun _=>rfl⟩) (fun i=>⟨rfl,fun _=>rfl,fun _=>rfl,fun _=>rfl,fun _=>rfl,fun _=>rfl,fun _=>rfl,fun _=>rfl⟩) fun i j ex ey hf=>by
 subst ex ey; cases hf;exact ⟨_,_,rfl,rfl,q _ H S (Ext.refl sub) (.bl _)⟩
theorem Kz:OpT X (compareOp .Gt) gtT:=Vy abm fun S as x y t u w ht hu hf H Q sub q =>
 Dc (g:=gtT) ht hu hf (fun u=>⟨rfl,fun _=>rfl,fun _=>rfl,fun _=>rfl,fun _=>rfl,fun _=>rfl,fun _=>rfl,fun _=>rfl⟩) (fun i=>⟨rfl,fun _=>rfl,fun _=>rfl,fun _=>rfl,fun _=>rfl,fun _=>rfl,fun _=>rfl,fun _=>rfl⟩) fun i j ex ey hf=>by
 subst ex ey; cases hf;exact ⟨_,_,rfl,rfl,q _ H S (Ext.refl sub) (.bl _)⟩
theorem a8n:OpT X (compareOp .GtE) geT:=Vy abq fun S as x y t u w ht hu hf H Q sub q =>
 Dc (g:=geT) ht hu hf (fun u=>⟨rfl,fun _=>rfl,fun _=>rfl,fun _=>rfl,fun _=>rfl,fun _=>rfl,fun _=>rfl,fun _=>rfl⟩) (fun i=>⟨rfl,fun _=>rfl,fun _=>rfl,fun _=>rfl,fun _=>rfl,fun _=>rfl,fun _=>rfl,fun _=>rfl⟩) fun i j ex ey hf=>by
 subst ex ey; cases hf;exact ⟨_,_,rfl,rfl,q _ H S (Ext.refl sub) (.bl _)⟩
theorem Ge:UnT X (unaryOp .USub) Qf:=by
 intro pins s σ H x v Q I rx z8;obtain ⟨S,as,t,w,sub,ht,hf,q⟩:=z8;cases ht <;> simp only [Qf,reduceCtorEq] at hf
 cases hf;exact a3w pins s σ H _ v Q I rx ⟨_,rfl,q _ H S (Ext.refl sub) (.int _)⟩
noncomputable def acv (K:PySem.W.Frag):R2:=fun x y H Q=>∃ l b xs zs,x=.ref l/\y=.ref b/\SqL K H l xs/\SqL K H b zs/\xs.length+zs.length<=sizeLine/\∀ p,H p=none->Q (.ref p) (upd H p (.lst (xs++zs)))
theorem Wk:OpR X (binaryOp .Add) (acv X.K):=by
 intro pins s σ H x y v u Q I rx ry h;obtain ⟨l,b,xs,zs,rfl,rfl,hH,hB,hz,q⟩:=h;cases rx;cases ry;obtain ⟨ae,r,p1,hl⟩:=I.list hH;obtain ⟨aA,r2,p2,eL⟩:=I.list hB;obtain ⟨⟨cls,dd,data,sl⟩,n,ho,hc,hd0,hd⟩:=id p1;obtain ⟨⟨cls2,bz,data2,bC⟩,n2,ho2,hc2,hd02,hd2⟩:=id p2;simp only at hc hd hc2 hd2;subst hc hd hc2 hd2
 refine concat_meets ⟨_,ho,rfl⟩ ⟨_,ho2,rfl⟩ noFill_list_add seq_list_add PySem.F.slot_list_add PySem.F.entry_list_add (PySem.F.args_list_add_2 _ _)
   (list_addW l b ae.toArray aA.toArray n n2 dd bz sl bC (by rw [List.size_toArray,List.size_toArray,<- r.length,<- r2.length]; exact hz)) ⟨ho,ho2,?_⟩
 have ea:ae.toArray++aA.toArray=(ae++aA).toArray:=by simp
 rw [ea];exact ⟨.ref _,_,I.ad6 (t':=s.toks) (r.append r2) (by rw [List.length_append]; exact hz),rfl,q _ I.fresh⟩
noncomputable def a98 (K:PySem.W.Frag):R2:=fun x y H Q=>∃ a b ys,x=.ref a/\y=.ref b/\SqT K H a []/\SqT K H b ys/\Q (.ref b) H
theorem a2g:OpR X (binaryOp .Add) (a98 X.K):=by
 intro pins s σ H x y v u Q I rx ry h;obtain ⟨a,b,ys,rfl,rfl,ha,hb,q⟩:=h;cases rx;cases ry;obtain ⟨ae,r1,p1,_⟩:=I.tuple ha;obtain ⟨aA,r2,p2,_⟩:=I.tuple hb;cases r1;obtain ⟨⟨cls,dd,data,sl⟩,ho,hc,n,hd⟩:=id p1;obtain ⟨⟨cls2,bz,data2,bC⟩,ho2,hc2,n2,hd2⟩:=id p2;simp only at hc hd hc2 hd2;subst hc hd hc2 hd2
 exact concat_meets ⟨_,ho,rfl⟩ ⟨_,ho2,rfl⟩ noFill_tuple_add seq_tuple_add PySem.F.slot_tuple_add PySem.F.entry_tuple_add (PySem.F.args_tuple_add_2 _ _)
   (tuple_addW0 a b _ aA.toArray n n2 dd bz sl bC (by rfl)) ⟨ho,ho2,⟨.ref b,H,I,rfl,q⟩⟩
theorem dh:OpT X (binaryOp .Add) j4:=by
 intro pins s σ H x y v u Q I rx ry z8;obtain ⟨S,as,t,t2,w,sub,ht,hu,hf,q⟩:=z8;cases ht <;> first | exact nomatch (show none=some w from hf) | cases hu <;> first | exact nomatch (show none=some w from hf) | simp only [j4] at hf
 ·cases hf;exact a92 pins s σ H _ _ v u Q I rx ry ⟨_,_,rfl,rfl,q _ H S (Ext.refl sub) (.int _)⟩
 ·split at hf
  ·rename_i hl; cases hf;exact Vf pins s σ H _ _ v u Q I rx ry ⟨_,_,rfl,rfl,Nat.le_trans (Nat.le_of_lt hl) ju,q _ H S (Ext.refl sub) (.str _)⟩
  ·cases hf
 ·rename_i a vs ts hs hr b ws us aU bO;split at hf
  ·rename_i hl; cases hf;have hz:vs.length+ws.length<=sizeLine:=by rw [hr.length,bO.length]; exact Nat.le_trans (Nat.le_of_lt hl) ju
   cases hr with
   | nil=>exact a2g pins s σ H _ _ v u Q I rx ry ⟨_,_,_,rfl,rfl,lq sub hs,lq sub aU,q _ H S (Ext.refl sub) (.tup aU bO)⟩
   | @cons v0 t0 vs0 ts0 h1 h2 =>
    refine a5p pins s σ H _ _ v u Q I rx ry ⟨_,_,_,_,rfl,rfl,lq sub hs,lq sub aU,by simp,hz,fun z=>?_,fun z p hp=>?_⟩
    ·subst z;cases bO;rw [List.append_nil] at q;exact q _ H S (Ext.refl sub) (.tup hs (.cons h1 h2))
    ·have x:=Ext.laid sub hp (.tup ((v0::vs0)++ws));exact q _ _ _ x (.tup (SqT.of dz) (((p8.cons h1 h2).append bO).mono x.s nol))
  ·cases hf
 ·rename_i a vs ts hs hr b ws us aU bO;split at hf
  ·rename_i hl; cases hf;have hz:vs.length+ws.length<=sizeLine:=by rw [hr.length,bO.length]; exact Nat.le_trans (Nat.le_of_lt hl) ju
   refine Wk pins s σ H _ _ v u Q I rx ry ⟨_,_,_,_,rfl,rfl,jc sub hs,jc sub aU,hz,fun p hp=>?_⟩;have x:=Ext.laid sub hp (.lst (vs++ws));exact q _ _ _ x (.lst (SqL.of dz) ((hr.append bO).mono x.s nol))
  ·cases hf
theorem a79 (x:Str) (n:Int) (h:0<=n):Txt.mul x n=⟨((List.replicate n.toNat x.cps.toList).flatten).toArray⟩:=by
 have key:∀ (k:Nat) (acc:Array Nat),(List.replicate k x.cps).foldl (· ++ ·) acc=acc++((List.replicate k x.cps.toList).flatten).toArray:=by
  intro k
  induction k with
  | zero=>intro acc; simp
  | succ k ih =>
   intro acc;rw [List.replicate_succ,List.foldl_cons,ih,List.replicate_succ,List.flatten_cons];apply Array.ext';simp
 unfold Txt.mul
 by_cases h1:n<1
 ·have:n=0:=by omega
  subst this;rw [if_pos h1]; rfl
 ·rw [if_neg h1]
  by_cases h2:(n==1||x.length==0)=true
  ·rw [if_pos h2];rw [Bool.or_eq_true] at h2;rcases h2 with h2 | h2
   ·have:n=1:=by simpa using h2
    subst this;cases x; simp
   ·have h3:x.cps.size=0:=by simpa [Str.length] using h2
    obtain ⟨c⟩:=x;have h4:c = #[]:=Array.eq_empty_of_size_eq_zero h3;subst h4;congr 1;apply Array.ext';simp
  ·rw [if_neg h2,key];congr 1;apply Array.ext';simp
theorem Bg:OpT X (binaryOp .Mult) Ie:=by
 intro pins s σ H x y v u Q I rx ry z8;obtain ⟨S,as,t,t2,w,sub,ht,hu,hf,q⟩:=z8;cases ht <;> first | exact nomatch (show none=some w from hf) | cases hu <;> first | exact nomatch (show none=some w from hf) | simp only [Ie] at hf
 ·split at hf
  ·rename_i hb; cases hf;refine a7y pins s σ H _ _ v u Q I rx ry ⟨_,_,rfl,rfl,?_,q _ H S (Ext.refl sub) (.int _)⟩;rw [Bool.or_eq_true] at hb;rcases hb with h | h
   ·exact .inl (of_decide_eq_true h)
   ·exact .inr (of_decide_eq_true h)
  ·cases hf
 ·rename_i z j;split at hf
  ·rename_i hb; cases hf;obtain ⟨t',rfl⟩:=rx;obtain ⟨t2',rfl⟩:=ry;refine SB.mul ⟨?_,fun _ _=>?_,fun _ _=>?_⟩ fun t3 k=>⟨.str (Txt.mul z j),H,I.tok _,⟨_,rfl⟩,?_⟩
   ·have h1:¬ j < -(2 ^ 63:Int):=by omega
    have h2:¬ j >= 2 ^ 63:=by omega
    rw [decide_eq_false h1,decide_eq_false h2]; rfl
   ·have h1:(z.length:Int)<=100:=by omega
    have h2:(100:Int)<=(2 ^ 63 - 1) / j:=by
     have hj:0<j:=by
      rcases Int.lt_or_le 0 j with h | h
      ·exact h
      ·exfalso;have:j=0:=by omega
       subst this;rename_i a _; exact a (by decide)
     exact (Int.le_ediv_iff_mul_le hj).mpr (by omega)
    omega
   ·have h3:z.length * j.toNat<=100 * 1000:=Nat.mul_le_mul hb.2.2 (by omega);unfold Builtin.Str.tooLong;rw [sizeLine_eq];exact decide_eq_false (by omega)
   ·rw [a79 z j hb.1]; exact q _ H S (Ext.refl sub) (.str _)
  ·cases hf
end
section
variable {X:Cx} {B:Bas} {a b c e o:Expr} {m m1 m2:M T} {pos p:Pos}
theorem Tg (n:Nat) (i:Int):ixI n i=ixN n i:=rfl
theorem a0i {K:PySem.W.Frag} {S:Hp} {as:List Addr} {y:V} {t:T} {q:L2.Key} (r:Rep K S as y t) (h:keyOf t=some q):y=kV q:=by
 cases r <;> simp only [keyOf,reduceCtorEq] at h <;> (cases h; rfl)
def abr:R2:=fun x y H Q=>∃ a v,x=.ref a/\a3u H a y (some v)/\Q v H
theorem a6q (hu:X.A.units+1<cLine):IxR X abr:=by
 intro value slice pins s σ H x y v u Q I rx ry z8 hs;obtain ⟨a,w,ex,g,q⟩:=z8;subst ex;cases rx;refine tail_any (Rf I g) slot_dict_getitem.lookup (Y9 hu I g ry fun w' s' I' r'=>⟨w,H,I',r',q⟩) hs
theorem a07 (hu:X.A.units+1<cLine):IxR X (r2 X.K iz):=by
 intro value slice pins s σ H x y v u Q I rx ry z8 hs;obtain ⟨S,as,t,t2,w,sub,ht,hu2,hf,q⟩:=z8;cases ht with
 | @tup a vs ts h1 h2 =>
  cases hu2 <;> first | exact ig hf | skip
  rename_i i;obtain ⟨j,e1,e2⟩:=Option.bind_eq_some_iff.mp hf;obtain ⟨z,hz,rz⟩:=h2.get e2;refine a9b value slice pins s σ H _ _ v u Q I rx ry ⟨a,vs,i,z,rfl,rfl,lq sub h1,?_,q z H S (Ext.refl sub) rz⟩ hs;rw [Tg,<- h2.length] at e1;unfold atI; rw [e1]; exact hz
 | @lst a vs ts h1 h2 =>
  cases hu2 <;> first | exact ig hf | skip
  rename_i i;obtain ⟨j,e1,e2⟩:=Option.bind_eq_some_iff.mp hf;obtain ⟨z,hz,rz⟩:=h2.get e2;refine Xv value slice pins s σ H _ _ v u Q I rx ry ⟨a,vs,i,z,rfl,rfl,jc sub h1,?_,q z H S (Ext.refl sub) rz⟩ hs;rw [Tg,<- h2.length] at e1;unfold atI; rw [e1]; exact hz
 | str z =>
  cases hu2 <;> first | exact ig hf | skip
  rename_i i;obtain ⟨hl,hf⟩:=Ad hf;obtain ⟨j,e1,e2⟩:=Option.bind_eq_some_iff.mp hf;obtain ⟨cc,e3,e4⟩:=Option.map_eq_some_iff.mp e2;subst e4;refine a91 value slice pins s σ H _ _ v u Q I rx ry ⟨z,i,cc,rfl,rfl,Nat.le_trans (Nat.le_of_lt hl) ju,?_,q _ H S (Ext.refl sub) (.str _)⟩ hs;rw [Tg] at e1;unfold atI; rw [e1]; exact e3
 | @dic a kvs ts h1 h2 =>
  obtain ⟨k,e1,e2⟩:=Option.bind_eq_some_iff.mp hf;have ey:=a0i hu2 e1;subst ey;rcases h2.get k with ⟨z,t',a1,a2,a3⟩ | ⟨_,a2⟩
  ·rw [e2] at a2; cases a2;exact a6q hu value slice pins s σ H _ _ v u Q I rx ry ⟨a,z,rfl,.inl ⟨kvs,k,vh sub h1,rfl,a1.symm⟩,q z H S (Ext.refl sub) a3⟩ hs
  ·rw [e2] at a2; cases a2
 | _=>exact ig hf
theorem tu (hu:X.A.units+1<cLine) (ha:PE X a (tOf X.K B m1)) (hb:PE X b (tOf X.K B m2)) (hs:Rn b):PE X (.Subscript a b pos) (tOf X.K B (mOp iz m1 m2)):=Tw (a8w (a07 hu) ha hb hs)
theorem mz:Mp X (.builtin "len") xg:=by
 intro pins s σ H xs us Q I rs z8;obtain ⟨S,as,ts,w,sub,hr,hf,q⟩:=z8;cases hr with
 | nil=>simp only [xg,reduceCtorEq] at hf
 | @cons x t xs' ts' h1 h2 =>
  cases h2 with
  | cons h3 h4=>simp only [xg,reduceCtorEq] at hf
  | nil =>
   cases h1 with
   | tup g1 g2=>simp only [xg] at hf; cases hf; exact Cm pins s σ H _ us Q I rs ⟨_,_,rfl,.inr (lq sub g1),by rw [g2.length]; exact q _ H S (Ext.refl sub) (.int _)⟩
   | lst g1 g2=>simp only [xg] at hf; cases hf; exact Cm pins s σ H _ us Q I rs ⟨_,_,rfl,.inl (jc sub g1),by rw [g2.length]; exact q _ H S (Ext.refl sub) (.int _)⟩
   | str z =>
    simp only [xg] at hf;split at hf
    ·rename_i hl; cases hf; exact O8 pins s σ H _ us Q I rs ⟨_,rfl,Nat.le_trans (Nat.le_of_lt hl) ju,q _ H S (Ext.refl sub) (.int _)⟩
    ·cases hf
   | @dic a kvs ts g1 g2 =>
    simp only [xg] at hf; cases hf;obtain ⟨u,rfl,ru⟩:=rs.one;cases ru;exact a9z I (vh sub g1) fun t s' I'=>⟨.int kvs.length,H,I',⟨t,rfl⟩,by rw [g2.length]; exact q _ H S (Ext.refl sub) (.int _)⟩
   | _=>simp only [xg,reduceCtorEq] at hf
theorem Jh:Mp X (.type "tuple") Eu:=by
 intro pins s σ H xs us Q I rs z8;obtain ⟨S,as,ts,w,sub,hr,hf,q⟩:=z8;cases hr with
 | nil=>simp only [Eu,reduceCtorEq] at hf
 | @cons x t xs' ts' h1 h2 =>
  cases h2 with
  | cons h3 h4=>simp only [Eu,reduceCtorEq] at hf
  | nil =>
   cases h1 with
   | @tup a vs ts g1 g2=>simp only [Eu] at hf; cases hf; exact Fl pins s σ H _ us Q I rs ⟨_,_,rfl,.inr ⟨lq sub g1,q _ H S (Ext.refl sub) (.tup g1 g2)⟩⟩
   | @lst a vs ts g1 g2 =>
    simp only [Eu] at hf; cases hf;refine Fl pins s σ H _ us Q I rs ⟨_,_,rfl,.inl ⟨jc sub g1,fun p hp=>?_⟩⟩;have x:=Ext.laid sub hp (.tup vs);exact q _ _ _ x (.tup (SqT.of dz) (g2.mono x.s nol))
   | _=>simp only [Eu,reduceCtorEq] at hf
theorem Di.put {K:PySem.W.Frag} {S:Hp} {as:List Addr} {k:L2.Key} {v:V} {t:T} (r:Rep K S as v t):∀ {vs:List (L2.Key × V)} {ts:List (L2.Key × T)},Di K S as vs ts->Di K S as (putK vs k v) (a5w k t ts):=by
 intro vs ts h
 have any:∀ {vs:List (L2.Key × V)} {ts:List (L2.Key × T)},Di K S as vs ts->(vs.any fun kv=>decide (kv.1=k))=(ts.any fun p=>decide (p.1=k)):=by
  intro vs ts h
  induction vs generalizing ts with
  | nil=>cases h; rfl
  | cons p r ih=>cases h with | cons h1 h2=>rw [List.any_cons,List.any_cons,ih h2]
 have mp:∀ {vs:List (L2.Key × V)} {ts:List (L2.Key × T)},Di K S as vs ts->Di K S as (vs.map fun kv=>if kv.1=k then (kv.1,v) else kv) (ts.map fun p=>if p.1=k then (p.1,t) else p):=by
  intro vs ts h
  induction vs generalizing ts with
  | nil=>cases h; exact .nil
  | cons p rr ih =>
   cases h with
   | @cons q v0 t0 _ _ h1 h2 =>
    rw [List.map_cons,List.map_cons]
    by_cases e:q=k
    ·rw [if_pos e,if_pos e]; exact .cons r (ih h2)
    ·rw [if_neg e,if_neg e]; exact .cons h1 (ih h2)
 have ap:∀ {vs:List (L2.Key × V)} {ts:List (L2.Key × T)},Di K S as vs ts->Di K S as (vs++[(k,v)]) (ts++[(k,t)]):=by
  intro vs ts h
  induction vs generalizing ts with
  | nil=>cases h; exact .cons r .nil
  | cons p rr ih=>cases h with | cons h1 h2=>exact .cons h1 (ih h2)
 unfold putK a5w;rw [any h];split
 ·exact mp h
 ·exact ap h
end
theorem Rh {i:Nat} {k d:M T} {s s':Sta} {t:T} (h:G3 i k d s=some (t,s')):Qz i s=true/\∃ kt s1 dt kvs f q,k s=some (kt,s1)/\d s1=some (dt,s')/\s'.env[i]? = some (some (.dic kvs,f))/\keyOf kt=some q/\t=(Qd q kvs).getD dt:=by
 unfold G3 at h;split at h
 ·rename_i hd;refine ⟨hd,?_⟩;split at h
  ·rename_i kt s1 e1;split at h
   ·rename_i dt s2 e2;split at h
    ·rename_i kvs f e3;split at h
     ·rename_i q e4;cases h;exact ⟨kt,s1,dt,kvs,f,q,e1,e2,e3,e4,rfl⟩
     ·cases h
    ·cases h
   ·cases h
  ·cases h
 ·cases h
theorem R9 {i:Nat} {s s':Sta} {t:T} (h:Iz i s=some (t,s')):s'=s/\((∃ xs f,s.env[i]? = some (some (.lst xs,f))/\t=.int xs.length)\/(∃ xs f,s.env[i]? = some (some (.dic xs,f))/\t=.int xs.length)):=by
 unfold Iz at h;split at h
 ·rename_i xs f e; cases h; exact ⟨rfl,.inl ⟨xs,f,e,rfl⟩⟩
 ·rename_i xs f e; cases h; exact ⟨rfl,.inr ⟨xs,f,e,rfl⟩⟩
 ·cases h
section
variable {K:PySem.W.Frag} {B:Bas} {st:Sta} {σ:L2.St} {H S:Hp} {ps:List (V × T)} {as:List Addr}
theorem Rel.dictAt (r:Rel K B st σ H ps S as) {i:Nat} {kvs:List (L2.Key × T)} {f:Bool} (e:st.env[i]? = some (some (.dic kvs,f))):∃ p vs,σ[i]? = some (some (.ref p))/\Rd H p (.dK vs)/\Di K S as vs kvs:=by
 obtain ⟨v,h1,h2,h3⟩:=r.slots i _ f e;cases f with
 | false =>
  have h:=h2 rfl;cases h with
  | dic a b=>exact ⟨_,_,h1,vh r.sub a,b⟩
 | true =>
  obtain ⟨p,rfl,o⟩:=h3 rfl;obtain ⟨vs,h,q⟩:=o.own;exact ⟨p,vs,h1,.inl h,q⟩
end
section
variable {X:Cx} {B:Bas} {a b c e o k d:Expr} {m mo mk md mv:M T} {pos p:Pos}
theorem Nz {i:Nat} {s:Sta} (h:Qz i s=true):∃ kvs f,s.env[i]? = some (some (.dic kvs,f)):=by
 unfold Qz at h;split at h
 ·rename_i kvs f e; exact ⟨kvs,f,e⟩
 ·cases h
theorem Cu {i:Nat} {s:Sta} (h:Ac i s=true):∃ kvs f,s.env[i]? = some (some (.lst kvs,f)):=by
 unfold Ac at h;split at h
 ·rename_i kvs f e; exact ⟨kvs,f,e⟩
 ·cases h
theorem Ye (i:Nat) {apos:Pos} (hu:X.A.units+1<cLine) (ho:PE X o (W2 i)) (hk:PE X k (tOf X.K B mk)) (hd:PE X d (tOf X.K B md)) (m:M2 X o "get" apos k d pos):PE X (.Call (.Attribute o "get" apos) [k,d] [] pos) (tOf X.K B (G3 i mk md)) :=
 (a1f hu ho hk hd m).imp fun σ H Q z9=>by
  obtain ⟨st,ps,S,as,R,t,aa,e,q⟩:=z9;obtain ⟨hd,kt,s1,dt,kvs,f,qk,e1,e2,e3,e4,rfl⟩:=Rh e;obtain ⟨kvs0,f0,e0⟩:=Nz hd;obtain ⟨p0,vs0,s0,rd0,_⟩:=R.dictAt e0;refine ⟨_,s0,p0,rfl,.inl ⟨vs0,rd0⟩,st,ps,S,as,R,kt,s1,e1,fun u H1 S1 af R1=>⟨s1,_,S1,af,R1,dt,aa,e2,fun w H2 S2 az R2=>?_⟩⟩;obtain ⟨p1,vs1,z1,rd1,h4⟩:=R2.dictAt e3;rw [s0] at z1; cases z1;have ey:=a0i R2.top2 e4;subst ey;refine ⟨Rk vs1 qk,.inl ⟨vs1,qk,rd1,rfl,rfl⟩,?_⟩;rcases h4.get qk with ⟨z,t',a1,a2,a3⟩ | ⟨a1,a2⟩
  ·rw [a1]; rw [a2] at q; exact q z H2 S2 az (R2.drop.drop.push a3)
  ·rw [a1]; rw [a2] at q; exact q w H2 S2 az (R2.drop.drop.push R2.top)
theorem Z0 (i:Nat) {pos':Pos} (hu:X.A.units+1<cLine) (ho:PE X o (W2 i)) (hk:PE X k (tOf X.K B mk)) (hv:PE X e (tOf X.K B mv)) (hs:swapsWith e (some (.Subscript o k pos')) pos.line X.env=pure false) :
  PS X (.Assign [.Subscript o k pos'] e pos) (sOf X.K B (Gb i mk mv)):=(a5f hu ho hk hv hs).imp fun D σ H z9=>by
 obtain ⟨st,ps,S,as,R,fl,aa,e,q⟩:=z9;obtain ⟨t,s1,kt,s2,kvs,qk,e1,hd,e3,e4,e5,hl,rfl,rfl⟩:=Ry e;obtain ⟨kvs0,f0,e0⟩:=Nz hd;refine ⟨st,ps,S,as,R,t,s1,e1,fun v H1 S1 af R1=>?_⟩;obtain ⟨p0,vs0,s0,rd0,_⟩:=R1.dictAt e0;refine ⟨_,s0,s1,_,S1,af,R1,kt,s2,e3,fun y H3 S3 aJ R3=>?_⟩;obtain ⟨w,h1,_,h3⟩:=R3.slots i _ true e4;rw [s0] at h1; cases h1;obtain ⟨p',ep,ow⟩:=h3 rfl;cases ep;obtain ⟨vs,hH,h4⟩:=ow.own;have ey:=a0i R3.top e5;subst ey;exact ⟨p0,_,rfl,a7e.k hH (by rw [h4.length]; exact Nat.lt_of_lt_of_le hl ju),q _ _ S3 aJ (R3.drop.drop.turn e4 s0 ⟨_,dz,h4.put R3.top2⟩)⟩
end
theorem d8 {ms:M (List T)} {n:Nat} (h:∀ st ts aa,ms st=some (ts,aa)->ts.length<=n) (hn:n<=1000):∀ st ts aa,ms st=some (ts,aa)->ts.length<=1000:=fun st ts aa e=>Nat.le_trans (h st ts aa e) hn
theorem Eo {m:M T}:∀ st ts aa,Dj m st=some (ts,aa)->ts.length<=sizeLine:=fun st ts aa e=>by
 unfold Dj at e;split at e
 ·split at e
  ·rename_i h; cases e; exact Nat.le_trans (Nat.le_of_lt h) ju
  ·cases e
 ·split at e
  ·rename_i h; cases e; exact Nat.le_trans (Nat.le_of_lt h) ju
  ·cases e
 ·cases e
theorem Lg {m:M T}:∀ st ts aa,Bv m st=some (ts,aa)->ts.length<=sizeLine:=fun st ts aa e=>by
 obtain ⟨n,_,h,rfl⟩:=Ky e;unfold rangeT;rw [List.length_map,List.length_range];refine Nat.le_trans ?_ ju;show n.toNat<=1000000;omega
def u9 (P:Program) (w:World) (K:PySem.W.Frag) (mg:Str->Option Value) (base:Heap) (x:Str) (k:Nat) (ps:List Str) (F:Fn):Prop :=
 ∃ f fd,Bh P w K mg base CX0 k f fd ps (spF K ps.length F)/\Binds K fd ps []/\PySem.W.keepIn K (.ref f)=true/\mg x=some (.ref f)
theorem u9.mono {P:Program} {w:World} {K:PySem.W.Frag} {mg:Str->Option Value} {base:Heap} {x:Str} {j k:Nat} {ps:List Str} {F:Fn} (d:u9 P w K mg base x j ps F) (h:j<=k):u9 P w K mg base x k ps F:=by
 obtain ⟨f,fd,h1,h2⟩:=d;exact ⟨f,fd,h1.mono h,h2⟩
section
variable {X:Cx} {B:Bas} {a b c e o k:Expr} {m m1 m2:M T} {pos p:Pos} {es:List Expr} {ms:M (List T)} {F:Fn} {x:Str} {n:Nat} {pn:List Str}
theorem iy (D:u9 X.prog X.w X.K X.mg X.base x n pn F) (hr:yw n X.A) (hg:Gl X x)
  (ha:PA X (e::es) (aOf X.K B ms)) (hl:∀ st ts aa,ms st=some (ts,aa)->ts.length=pn.length) (aL:(x==("__debug__" : Str))=false:=by decide)
  (he:starEach (e::es) X.env=(false,eval e X.env)::starEach es X.env:=by rfl) (aE:(backTo pos (starEach es X.env)).any (·.1)=false:=by rfl) :
  PE X (.Call (.Name x p) (e::es) [] pos) (tOf X.K B (j8 F ms)):=by
 obtain ⟨f,fd,h1,h2,h3,h4⟩:=D;exact a7b h1 hr hg h4 h3 h2 ha hl aL he aE
theorem Ux (h:PA X es (aOf X.K B ms)) (hm:∀ st ts aa,ms st=some (ts,aa)->ts.length<=1000):PE X (.List es pos) (fOf X.K B (dg (fun l=>some (.lst l)) ms)) :=
 (Uw h).imp fun σ H Q z9=>by
  obtain ⟨st,ps,S,as,R,t,aa,e,q⟩:=z9;obtain ⟨ts,e1,e2⟩:=Bb e;cases e2;refine ⟨st,ps,S,as,R,ts,aa,e1,fun vs H1 S1 af R1 rs=>⟨?_,fun p hp=>?_⟩⟩
  ·rw [rs.length]; exact Nat.le_of_lt (Aq (hm _ _ _ e1))
  ·obtain ⟨bD,sD,nD,no⟩:=R1.fresh hp;exact q p _ S1 af (R1.a7s bD sD nD no) ⟨⟨vs,dz,rs⟩,sD,nD,bD⟩ no
theorem a4y:PE X (.Dict [] [] pos) (fOf X.K B (ao (.dic []))):=a1c.imp fun σ H Q z9=>by
 obtain ⟨st,ps,S,as,R,t,aa,e,q⟩:=z9;cases e;intro p hp;obtain ⟨bD,sD,nD,no⟩:=R.fresh hp;exact q p _ S as (R.a7s bD sD nD no) ⟨⟨[],dz,.nil⟩,sD,nD,bD⟩ no
theorem Rel.listAt {K:PySem.W.Frag} {B:Bas} {st:Sta} {σ:L2.St} {H S:Hp} {ps:List (V × T)} {as:List Addr} (r:Rel K B st σ H ps S as) {i:Nat} {xs:List T} {f:Bool} (e:st.env[i]? = some (some (.lst xs,f))):∃ p vs,σ[i]? = some (some (.ref p))/\SqL K H p vs/\p8 K S as vs xs:=by
 obtain ⟨v,h1,h2,h3⟩:=r.slots i _ f e;cases f with
 | false =>
  have h:=h2 rfl;cases h with
  | lst a b=>exact ⟨_,_,h1,jc r.sub a,b⟩
 | true =>
  obtain ⟨p,rfl,o⟩:=h3 rfl;obtain ⟨vs,h,q⟩:=o.own;exact ⟨p,vs,h1,SqL.of h,q⟩
theorem Et (i:Nat) {st:Stmt} (h:PS X st (a1y (tBM X.K "list" Rm (W2 i) (Xg (tOf X.K B m) a7j)))):PS X st (sOf X.K B (ud i m)):=h.imp fun D σ H z9=>by
 obtain ⟨st,ps,S,as,R,fl,aa,e,q⟩:=z9;obtain ⟨hd,t,s1,xs,e1,e2,hl,rfl,rfl⟩:=Rb e;obtain ⟨aV,f0,e0⟩:=Cu hd;obtain ⟨p0,vs0,s0,q0,_⟩:=R.listAt e0;refine ⟨_,s0,.inl ⟨rfl,_,q0⟩,st,ps,S,as,R,t,s1,e1,fun v H1 S1 af R1=>?_⟩;obtain ⟨w,h1,_,h3⟩:=R1.slots i _ true e2;rw [s0] at h1; cases h1;obtain ⟨p',ep,ow⟩:=h3 rfl;cases ep;obtain ⟨vs,hH,h4⟩:=ow.own;exact ⟨p0,vs,v,rfl,rfl,hH,by rw [h4.length]; exact Nat.lt_of_lt_of_le hl ju,q _ _ S1 af (R1.drop.turn e2 s0 ⟨_,dz,h4.append (.cons R1.top .nil)⟩)⟩
end
section
variable {X:Cx} {B:Bas} {a b c e o k:Expr} {m m1 m2:M T} {pos p:Pos}
theorem Jd {K:PySem.W.Frag} {S:Hp} {as:List Addr}:∀ {vs:List V} {ts:List T} {l:List Int},p8 K S as vs ts->Ox ts=some l->vs=l.map V.int
 | _,[],l,h0,h=>by cases h0; cases h; rfl
 | _,_::_,l,h0,h=>by
  cases h0 with | cons h1 h2=>?_
  cases h1 <;> first | exact ig h | skip
  obtain ⟨l',e1,e2⟩:=Option.map_eq_some_iff.mp h;subst e2;rw [Jd h2 e1]; rfl
theorem G7 {K:PySem.W.Frag} {S:Hp} {as:List Addr}:∀ {vs:List V} {ts:List T} {l:List Bool},p8 K S as vs ts->Gn ts=some l->vs=l.map V.bl
 | _,_,l,.nil,h=>by cases h; rfl
 | _,_,l,.cons (t:=t) h1 h2,h=>by
  cases h1 <;> first | exact ig h | skip
  obtain ⟨l',e1,e2⟩:=Option.map_eq_some_iff.mp h;subst e2;rw [G7 h2 e1]; rfl
theorem Oi {K:PySem.W.Frag} {S:Hp} {as:List Addr}:∀ {vs:List V} {ts:List T} {l:List Str},p8 K S as vs ts->Eh ts=some l->vs=l.map V.str
 | _,_,l,.nil,h=>by cases h; rfl
 | _,_,l,.cons (t:=t) h1 h2,h=>by
  cases h1 <;> first | exact ig h | skip
  obtain ⟨l',e1,e2⟩:=Option.map_eq_some_iff.mp h;subst e2;rw [Oi h2 e1]; rfl
theorem a1p {l:List Int} {us:List Value} (r:Vals (l.map V.int) us) {i:Nat} {v:Value} (h:us.toArray[i]? = some v):∃ t,v=.int (l.getD i 0) t:=by
 rw [List.getElem?_toArray] at h;have hi:i<(l.map V.int).length:=by rw [r.length]; exact (List.getElem?_eq_some_iff.mp h).1
 rw [List.length_map] at hi;have e:(l.map V.int)[i]? = some (.int l[i]):=by rw [List.getElem?_map,List.getElem?_eq_getElem hi]; rfl
 obtain ⟨u,h1,t,h2⟩:=r.get e;rw [h] at h1; cases h1;exact ⟨t,by rw [h2,List.getD_eq_getElem?_getD,List.getElem?_eq_getElem hi]; rfl⟩
theorem Ow {l:List Bool} {us:List Value} (r:Vals (l.map V.bl) us) {i:Nat} {v:Value} (h:us.toArray[i]? = some v):v=.bool (l.getD i true):=by
 rw [List.getElem?_toArray] at h;have hi:i<(l.map V.bl).length:=by rw [r.length]; exact (List.getElem?_eq_some_iff.mp h).1
 rw [List.length_map] at hi;have e:(l.map V.bl)[i]? = some (.bl l[i]):=by rw [List.getElem?_map,List.getElem?_eq_getElem hi]; rfl
 obtain ⟨u,h1,h2⟩:=r.get e;rw [h] at h1; cases h1;rw [h2,List.getD_eq_getElem?_getD,List.getElem?_eq_getElem hi]; rfl
theorem Inv.Ac {pins:List (Addr × Obj)} {σ:L2.St} {H:Hp} {s:Shared} {a:Addr} {xs:List V} (I:L2.Inv X pins σ H s) (h:SqL X.K H a xs):a<s.heap.objs.size:=by
 obtain ⟨ae,_,⟨o,n,h1,_⟩,_⟩:=I.list h;exact Heap.lt_size h1
theorem Wi (hc:X.calm=true):Mp X (.builtin "sum") aaj:=by
 intro pins s σ H xs us Q I rs z8;obtain ⟨S,as,ts,w,sub,hr,hf,q⟩:=z8;cases hr with
 | nil=>exact ig hf
 | @cons x t xs' ts' h1 h2 =>
  cases h2 with
  | cons h3 h4=>cases h1 <;> exact ig hf
  | nil =>
   cases h1 with
   | @lst a vs ts g1 g2 =>
    obtain ⟨l,e1,e2⟩:=Option.map_eq_some_iff.mp hf;subst e2;have ev:=Jd g2 e1;subst ev;obtain ⟨u,rfl,ru⟩:=rs.one;cases ru;obtain ⟨ae,r,p,hz⟩:=I.list (jc sub g1);have aQ:=Inv.Ac I (jc sub g1);refine call_sum_walkG (wpAny_pyIter_list p.isList ?_);refine ⟨_,_,_,_,_,_,fun i=>l.getD i 0,rfl,Walks.list (A:=X.A.in1) (show X.A.in1.handled=none from I.ok.hd hc) s.heap.objs.size a (Nat.ne_of_lt aQ) ae.toArray,And.intro ⟨_,Heap.get?_push_size _ rfl,rfl,rfl⟩ (PlainL.keeps p fun b o e=>Heap.get?_push_of_some _ e).isList,fun b hb=>?_,fun i v hv=>a1p r hv,fun h' tk t' hk=>?_⟩
    ·rw [Heap.size_push];rcases List.mem_cons.mp hb with rfl | hb
     ·exact Nat.lt_succ_self _
     ·rw [List.mem_singleton.mp hb]; exact Nat.lt_succ_of_lt aQ
    ·have hl:ae.toArray.size=l.length:=by rw [List.size_toArray,<- r.length,List.length_map]
     rw [hl,preSum_getD,List.take_length];exact ⟨.int l.sum,H,I.kept (h':=h') (t':=tk) fun b u e=>hk b u (by simp; exact Nat.ne_of_lt (Heap.lt_size e)) (Heap.get?_push_of_some _ e),⟨_,rfl⟩,q _ H S (Ext.refl sub) (.int _)⟩
   | _=>exact ig hf
theorem all_range (l:List Bool) (d:Bool):((List.range l.length).all fun i=>l.getD i d)=l.all id:=by
 induction l with
 | nil=>rfl
 | cons x r ih =>
  rw [List.length_cons,List.range_succ_eq_map,List.all_cons,List.all_map,List.all_cons,<- ih];rfl
theorem any_range (l:List Bool) (d:Bool):((List.range l.length).any fun i=>l.getD i d)=l.any id:=by
 induction l with
 | nil=>rfl
 | cons x r ih =>
  rw [List.length_cons,List.range_succ_eq_map,List.any_cons,List.any_map,List.any_cons,<- ih];rfl
theorem Ir (hc:X.calm=true):Mp X (.builtin "all") a6c:=by
 intro pins s σ H xs us Q I rs z8;obtain ⟨S,as,ts,w,sub,hr,hf,q⟩:=z8;cases hr with
 | nil=>exact ig hf
 | @cons x t xs' ts' h1 h2 =>
  cases h2 with
  | cons h3 h4=>cases h1 <;> exact ig hf
  | nil =>
   cases h1 with
   | @lst a vs ts g1 g2 =>
    obtain ⟨l,e1,e2⟩:=Option.map_eq_some_iff.mp hf;subst e2;have ev:=G7 g2 e1;subst ev;obtain ⟨u,rfl,ru⟩:=rs.one;cases ru;obtain ⟨ae,r,p,hz⟩:=I.list (jc sub g1);have aQ:=Inv.Ac I (jc sub g1);refine call_all_walk (wpAny_pyIter_list p.isList ?_);refine ⟨_,_,_,_,_,_,fun i=>l.getD i true,rfl,Walks.list (A:=X.A.in1) (show X.A.in1.handled=none from I.ok.hd hc) s.heap.objs.size a (Nat.ne_of_lt aQ) ae.toArray,And.intro ⟨_,Heap.get?_push_size _ rfl,rfl,rfl⟩ (PlainL.keeps p fun b o e=>Heap.get?_push_of_some _ e).isList,fun i v s Q E hv hq=>?_,fun h' tk hk=>?_⟩
    ·have e:=Ow r hv;subst e;exact wpAny_truthy_bool hq
    ·have hl:ae.toArray.size=l.length:=by rw [List.size_toArray,<- r.length,List.length_map]
     rw [hl,all_range];exact ⟨.bl (l.all id),H,I.kept (h':=h') (t':=tk) fun b u e=>hk b u (by simp; exact Nat.ne_of_lt (Heap.lt_size e)) (Heap.get?_push_of_some _ e),rfl,q _ H S (Ext.refl sub) (.bl _)⟩
   | _=>exact ig hf
theorem Ze (hc:X.calm=true):Mp X (.builtin "any") ach:=by
 intro pins s σ H xs us Q I rs z8;obtain ⟨S,as,ts,w,sub,hr,hf,q⟩:=z8;cases hr with
 | nil=>exact ig hf
 | @cons x t xs' ts' h1 h2 =>
  cases h2 with
  | cons h3 h4=>cases h1 <;> exact ig hf
  | nil =>
   cases h1 with
   | @lst a vs ts g1 g2 =>
    obtain ⟨l,e1,e2⟩:=Option.map_eq_some_iff.mp hf;subst e2;have ev:=G7 g2 e1;subst ev;obtain ⟨u,rfl,ru⟩:=rs.one;cases ru;obtain ⟨ae,r,p,hz⟩:=I.list (jc sub g1);have aQ:=Inv.Ac I (jc sub g1);refine call_any_walk (wpAny_pyIter_list p.isList ?_);refine ⟨_,_,_,_,_,_,fun i=>l.getD i true,rfl,Walks.list (A:=X.A.in1) (show X.A.in1.handled=none from I.ok.hd hc) s.heap.objs.size a (Nat.ne_of_lt aQ) ae.toArray,And.intro ⟨_,Heap.get?_push_size _ rfl,rfl,rfl⟩ (PlainL.keeps p fun b o e=>Heap.get?_push_of_some _ e).isList,fun i v s Q E hv hq=>?_,fun h' tk hk=>?_⟩
    ·have e:=Ow r hv;subst e;exact wpAny_truthy_bool hq
    ·have hl:ae.toArray.size=l.length:=by rw [List.size_toArray,<- r.length,List.length_map]
     rw [hl,any_range];exact ⟨.bl (l.any id),H,I.kept (h':=h') (t':=tk) fun b u e=>hk b u (by simp; exact Nat.ne_of_lt (Heap.lt_size e)) (Heap.get?_push_of_some _ e),rfl,q _ H S (Ext.refl sub) (.bl _)⟩
   | _=>exact ig hf
theorem K9:∀ {l:List Str} {us:List Value},Vals (l.map V.str) us->StrsAre us l
 | [],_,r=>by cases r; exact .nil
 | x::l,_,r=>by
  rw [List.map_cons] at r;cases r with
  | cons r1 r2=>obtain ⟨t,rfl⟩:=r1; exact .cons x t (K9 r2)
theorem N6 {l:List Str} {us:List Value} (h:StrsAre us l):Vals (l.map V.str) us:=by
 induction h with
 | nil=>exact .nil
 | cons x t _ ih=>exact .cons ⟨t,rfl⟩ ih
abbrev Dk (a b:Str):Prop:=¬ b.cps.toList<a.cps.toList
theorem Jk {a b c:Str} (h1:Dk a b) (h2:Dk b c):Dk a c:=fun h=>by
 have h3:a.cps.toList<=b.cps.toList:=List.not_lt.mp h1;have h4:b.cps.toList<=c.cps.toList:=List.not_lt.mp h2;exact List.not_lt.mpr (List.le_trans h3 h4) h
theorem Vo {a b:Str} (h1:Dk a b) (h2:Dk b a):a=b:=by
 have h3:a.cps.toList<=b.cps.toList:=List.not_lt.mp h1;have h4:b.cps.toList<=a.cps.toList:=List.not_lt.mp h2;have h5:=List.le_antisymm h3 h4;cases a; cases b;simp at h5; subst h5; rfl
theorem Ik:∀ (p:Str) (l:List Str),risingS p l=true->(p::l).Pairwise Dk
 | p,[],_=>by simp
 | p,x::r,h=>by
  rw [risingS,Bool.and_eq_true] at h;have ih:=Ik x r h.2
  have hx:Dk p x:=fun z=>by
   have:=h.1;rw [ltCps_eq,decide_eq_true z] at this;cases this
  refine List.pairwise_cons.mpr ⟨fun y hy=>?_,ih⟩;rcases List.mem_cons.mp hy with rfl | hy
  ·exact hx
  ·exact Jk hx (List.rel_of_pairwise_cons ih hy)
theorem Qs (l:List Str) (h:sortedS l=true):l.Pairwise Dk:=by
 cases l with
 | nil=>exact .nil
 | cons x r=>exact Ik x r h
theorem J2 (x:Str):∀ l,(Mw x l).Perm (x::l)
 | []=>.refl _
 | y::r=>by
  rw [Mw];split
  ·exact .refl _
  ·exact ((J2 x r).cons y).trans (.swap x y r)
theorem Ot (x:Str):∀ l:List Str,l.Pairwise Dk->(Mw x l).Pairwise Dk
 | [],_=>by simp [Mw]
 | y::r,h=>by
  rw [Mw];split
  ·rename_i hx;have hx:=of_decide_eq_true hx;have ff:Dk x y:=fun z=>List.lt_irrefl _ (List.lt_trans hx z);refine List.pairwise_cons.mpr ⟨fun z hz=>?_,h⟩;rcases List.mem_cons.mp hz with rfl | hz
   ·exact ff
   ·exact Jk ff (List.rel_of_pairwise_cons h hz)
  ·rename_i hx;have hx:Dk y x:=fun z=>hx (decide_eq_true z);refine List.pairwise_cons.mpr ⟨fun z hz=>?_,Ot x r (List.pairwise_cons.mp h).2⟩;rcases List.mem_cons.mp ((J2 x r).mem_iff.mp hz) with rfl | hz
   ·exact hx
   ·exact List.rel_of_pairwise_cons h hz
theorem yh:∀ (l acc:List Str),acc.Pairwise Dk->(l.foldl (fun acc x=>Mw x acc) acc).Pairwise Dk/\(l.foldl (fun acc x=>Mw x acc) acc).Perm (l++acc)
 | [],acc,h=>⟨h,.refl _⟩
 | x::l,acc,h=>by
  obtain ⟨h1,h2⟩:=yh l (Mw x acc) (Ot x acc h);exact ⟨h1,h2.trans (((J2 x acc).append_left l).trans (List.perm_middle))⟩
theorem Vt (l:List Str):(Af l).Pairwise Dk:=(yh l [] .nil).1
theorem Fy (l:List Str):(Af l).Perm l:=by
 have:=(yh l [] .nil).2
 rwa [List.append_nil] at this
theorem Tz {l l':List Str} (h1:sortedS l'=true) (h2:l'.Perm l):l'=Af l :=
 List.Perm.eq_of_pairwise (le:=Dk) (fun _ _ _ _=>Vo) (Qs l' h1) (Vt l) (h2.trans (Fy l).symm)
theorem Im {K:PySem.W.Frag} {S:Hp} {as:List Addr}:∀ l:List Str,p8 K S as (l.map V.str) (l.map T.str)
 | []=>.nil
 | x::l=>.cons (.str x) (Im l)
theorem V5 {pins:List (Addr × Obj)} {σ:L2.St} {H S:Hp} {s:Shared} {as:List Addr} {a:Addr} {l:List Str} {Q:VK} (I:L2.Inv X pins σ H s) (sub:Same S H) (g1:SqL X.K H a (l.map V.str)) (bG:l.length<64)
  (q:∀ v H' S',Ext S H S' H'->Rep X.K S' as v (.lst ((Af l).map .str))->Q v H'):wpAny (model X.prog X.w) X.A (call (.builtin "sorted") [.ref a]) (EP X pins σ Q) X.xe s:=by
 obtain ⟨ae,r,p,hz⟩:=I.list g1;refine sorted_strs p.isList (K9 r) (by rw [<- r.length,List.length_map]; exact bG) fun out fV a1 a2 a3=>?_;have es:=Tz a3 a2;subst es;obtain ⟨e,he⟩:=sortedAll_at s.heap ae out
 have hl:(List.map V.str (Af l)).length<=sizeLine:=by
  rw [List.length_map,(Fy l).length_eq];exact Nat.le_trans (Nat.le_of_lt bG) (by rw [sizeLine_eq]; decide)
 have hn:H (s.heap.objs.size+1)=none:=I.hok.fresh (Nat.le_succ _);have x:=Ext.laid sub hn (.lst ((Af l).map V.str));refine ⟨.ref (s.heap.objs.size+1),_,I.laid (a:=s.heap.objs.size+1) (o:=.lst ((Af l).map V.str)) (h':=sortedAll s.heap ae out) (t':=s.toks) (fun _ _=>sortedAll_old) (Nat.le_succ _) ⟨hl,out.toList,e,N6 a1,he⟩,rfl,q _ _ _ x (.lst (SqL.of dz) (Im _))⟩
theorem Ly:Gq X (.builtin "sorted") (fun xs H Q=>∃ S as ts l,Same S H/\p8 X.K S as xs [.lst ts]/\ts.length<64/\Eh ts=some l/\∀ v H' S',Ext S H S' H'->Rep X.K S' as v (.lst ((Af l).map .str))->Q v H'):=by
 intro pins s σ H xs us Q I rs z8;obtain ⟨S,as,ts,l,sub,hr,bG,e1,q⟩:=z8;cases hr with
 | cons h1 h2 =>
  cases h2;cases h1 with
  | @lst a vs _ g1 g2 =>
   have ev:=Oi g2 e1;subst ev;obtain ⟨u,rfl,ru⟩:=rs.one;cases ru;have hl:=g2.length;rw [List.length_map] at hl;exact V5 I sub (jc sub g1) (by omega) q
noncomputable def tyOf:T->Option Value
 | .non=>some (.type "NoneType")
 | .bl _=>some (.type "bool")
 | .int _=>some (.type "int")
 | .str _=>some (.type "str")
 | .tup _=>some (.type "tuple")
 | .lst _=>some (.type "list")
 | .dic _=>some (.type "dict")
 | .obj _=>none
 | .adr _=>none
theorem a8k {pins:List (Addr × Obj)} {σ:L2.St} {H S:Hp} {s:Shared} {as:List Addr} {x:V} {u c:Value} {t:T} {ty:Value} {b:Bool} {Q:Value->Shared->Prop} {E:Value->Shared->Prop} (I:L2.Inv X pins σ H s) (sub:Same S H) (rx:RelV x u) (r:Rep X.K S as x t) (a6:tyOf t=some ty)
  (e:PySem.W.kitOne X.K ty c=some b) (h:∀ tk,Q (.bool b) { s with toks:=tk }):wpAny (model X.prog X.w) X.A (call (.builtin "isinstance") [u,c]) Q E s:=by
 cases r with
 | non=>cases a6; exact Ew I rx .non e h
 | bl y=>cases a6; exact Ew I rx (.bl y) e h
 | int y=>cases a6; exact Ew I rx (.int y) e h
 | str y=>cases a6; exact Ew I rx (.str y) e h
 | @tup a vs ts g1 g2 =>
  cases a6;cases (show u=Value.ref a from rx);obtain ⟨ae,_,⟨o,h1,h2,_⟩,_⟩:=I.tuple (lq sub g1);exact PySem.W.kia_one PySem.W.kitx_tuple I.kIn ⟨o,h1,h2⟩ e (fun z=>nomatch z) h
 | @lst a vs ts g1 g2 =>
  cases a6;cases (show u=Value.ref a from rx);obtain ⟨ae,_,⟨o,n,h1,h2,_⟩,_⟩:=I.list (jc sub g1);exact PySem.W.kia_one PySem.W.kitx_list I.kIn ⟨o,h1,h2⟩ e (fun z=>nomatch z) h
 | @dic a kvs ts g1 g2 =>
  cases a6;cases (show u=Value.ref a from rx);obtain ⟨_,_,vs,_,o,es,ep,h1,h2,_⟩:=Gw I.hok (vh sub g1);exact PySem.W.kia_one PySem.W.kitx_dict I.kIn ⟨o,h1,h2.1⟩ e (fun z=>nomatch z) h
 | obj h=>cases a6
 | adr h=>cases a6
def a7k (f:Value->Bool):List T->Option T
 | [t]=>(tyOf t).map fun ty=>.bl (f ty)
 | _=>none
theorem Tn {cn:String} {f:Value->Bool} {pc:Pos} (hg:Gl X "isinstance") (hm:X.mg "isinstance" = none) (b5:Gl X (Str.ofString cn)) (b6:X.mg (Str.ofString cn)=none) (hv:bootBuiltins (Str.ofString cn)=some (.type cn))
  (hf:∀ t ty,tyOf t=some ty->PySem.W.kitOne X.K ty (.type cn)=some (f ty)) (ha:PE X a (tOf X.K B m)) (hd:((Str.ofString cn)==("__debug__" : Str))=false) (hn:(Str.ofString cn) ≠ "__name__")
  (he:starEach [a,.Name (Str.ofString cn) pc] X.env=(false,eval a X.env)::starEach [.Name (Str.ofString cn) pc] X.env:=by rfl) (gu:starEach [.Name (Str.ofString cn) pc] X.env=(false,eval (.Name (Str.ofString cn) pc) X.env)::starEach [] X.env:=by rfl)
  (aE:(backTo pos (starEach [.Name (Str.ofString cn) pc] X.env)).any (·.1)=false:=by rfl) :
  PE X (.Call (.Name "isinstance" p) [a,.Name (Str.ofString cn) pc] [] pos) (tOf X.K B (dg (a7k f) (aj m c7))):=by
 have hc:Gq X (.builtin "isinstance") (fun xs H Q=>∃ S as x t ty,xs=[x,.ty cn]/\Same S H/\Rep X.K S as x t/\tyOf t=some ty/\Q (.bl (f ty)) H):=by
  intro pins s σ H xs us Q I rs z8;obtain ⟨S,as,x,t,ty,ex,sub,r,a6,q⟩:=z8;subst ex;obtain ⟨u,w,rfl,r1,r2⟩:=rs.two;cases r2;exact a8k I sub r1 r a6 (hf t ty a6) fun tk=>⟨.bl (f ty),H,I.tok _,rfl,q⟩
 have fZ:PE X (.Name (Str.ofString cn) pc) (tC (.ty cn)):=Xx b5 b6 hv rfl hn hd;refine (jg hc hg hm PyProof.Rows.boot_isinstance (ql ha (ql fZ w6 gu) he) (by decide) (by decide) he aE).imp fun σ H Q z0=>?_;obtain ⟨st,ps,S,as,R,t,aa,e,q⟩:=z0;obtain ⟨ts,e1,e2⟩:=Bb e;obtain ⟨t1,s1,us,ea,en,rfl⟩:=Cr e1;cases en;simp only [a7k] at e2;obtain ⟨ty,e3,e4⟩:=Option.map_eq_some_iff.mp e2;subst e4;exact ⟨st,ps,S,as,R,t1,_,ea,fun v H1 S1 af R1=>⟨S1,af,v,t1,ty,rfl,R1.sub,R1.top,e3,q _ H1 S1 af (R1.drop.push (.bl _))⟩⟩
example (K:PySem.W.Frag):PySem.W.kitOne K (.type "bool") (.type "int")=some true:=by rfl
example (K:PySem.W.Frag):PySem.W.kitOne K (.type "str") (.type "int")=some false:=by rfl
end
theorem Qa (l b:Addr) (aV bM:Array Value) (n n2:Nat) (bz:Option Addr) (bC:Array (Option Value)) (gr:¬(!aV.isEmpty&&Builtin.List.listTooLong (aV.size+bM.size))=true) (ed:aV.size<=sizeLine) (aU:aV.size+bM.size<=sizeLine+1) :
  Meets (Builtin.«list.extend» ⟨[.ref l,.ref b],[]⟩) (fun _ R s=>s.heap.get? l=some { cls:=.type "list",dict:=none,data:=.seq aV n,slots:=#[] }/\s.heap.get? b=some { cls:=.type "list",dict:=bz,data:=.seq bM n2,slots:=bC }/\R (.ok (.ret Value.none)) { s with heap:=s.heap.update l (Obj.mapSeq fun x=>x++bM),toks:=s.toks }) :=
 .of_wp fun pr wd Ar R z h=>by
  obtain ⟨hp,gs,dr,tk,os⟩:=z; obtain ⟨hl,hb,h⟩:=h; have f1:=AutoSeq1.idx_int; have f2:=AutoSeq1.sub_tuple_tuple; have f3:=AutoSeq1.sub_list_list; have f4:=AutoSeq1.sub_tuple_list; have f5:=AutoSeq1.sub_list_tuple;have dC:(aV++bM).size<=sizeLine+1:=by rw [Array.size_append]; exact aU
  wp_walk using (wpAny_updateSeq hl rfl (hz:=ed) (_hz':=dC)),AutoSeq1.wpAny_loadPart' hl,AutoSeq1.wpAny_loadPart' hb; exact ⟨_,rfl,h⟩
theorem N5 (l b:Addr) (aV bM:Array Value) (n n2:Nat) (bz:Option Addr) (bC:Array (Option Value)) (gr:¬(!aV.isEmpty&&Builtin.List.listTooLong (aV.size+bM.size))=true) (ed:aV.size<=sizeLine) (aU:aV.size+bM.size<=sizeLine+1) :
  Meets (Builtin.«list.extend» ⟨[.ref l,.ref b],[]⟩) (fun _ R s=>s.heap.get? l=some { cls:=.type "list",dict:=none,data:=.seq aV n,slots:=#[] }/\s.heap.get? b=some { cls:=.type "tuple",dict:=bz,data:=.seq bM n2,slots:=bC }/\R (.ok (.ret Value.none)) { s with heap:=s.heap.update l (Obj.mapSeq fun x=>x++bM),toks:=s.toks }) :=
 .of_wp fun pr wd Ar R z h=>by
  obtain ⟨hp,gs,dr,tk,os⟩:=z; obtain ⟨hl,hb,h⟩:=h; have f1:=AutoSeq1.idx_int; have f2:=AutoSeq1.sub_tuple_tuple; have f3:=AutoSeq1.sub_list_list; have f4:=AutoSeq1.sub_tuple_list; have f5:=AutoSeq1.sub_list_tuple;have dC:(aV++bM).size<=sizeLine+1:=by rw [Array.size_append]; exact aU
  wp_walk using (wpAny_updateSeq hl rfl (hz:=ed) (_hz':=dC)),AutoSeq1.wpAny_loadPart' hl,AutoSeq1.wpAny_loadPart' hb; exact ⟨_,rfl,h⟩
section
variable {X:Cx} {B:Bas} {m:M T}
def Tj (K:PySem.W.Frag):V->List V->Hp->VK->Prop:=fun x vs H Q=>∃ l b xs zs,x=.ref l/\vs=[.ref b]/\H l=some (.lst xs)/\(SqL K H b zs\/SqT K H b zs)/\xs.length+zs.length<=sizeLine/\Q .non (upd H l (.lst (xs++zs)))
theorem Vn:MtM X "list.extend" (Tj X.K):=by
 intro pins s σ H x vs v us Q I rx rv h;obtain ⟨l,b,xs,zs,rfl,rfl,hH,hB,hz,q⟩:=h;cases rx;obtain ⟨u,rfl,ru⟩:=rv.one;cases ru;obtain ⟨z,ae,n,r,hl,e⟩:=I.aai hH
 have fin:∀ aA:List Value,Vals zs aA->L2.Inv X pins σ (upd H l (.lst (xs++zs))) { s with heap:=s.heap.update l (Obj.mapSeq fun x=>x++aA.toArray),toks:=s.toks }:=fun aA r2 =>
  I.abo (its':=ae++aA) hH e (by simp) (r.append r2) (by rw [List.length_append]; exact hz)
 have bB:∀ aA:List Value,Vals zs aA->¬ (!ae.toArray.isEmpty&&Builtin.List.listTooLong (ae.toArray.size+aA.toArray.size))=true:=fun aA r2=>by
  have hsz:ae.toArray.size+aA.toArray.size<=sizeLine:=by rw [List.size_toArray,List.size_toArray,<- hl,<- r2.length]; exact hz
  rw [Uo hsz,Bool.and_false];exact Bool.false_ne_true
 rcases hB with hB | hB
 ·obtain ⟨aA,r2,⟨⟨cls2,bz,data2,bC⟩,n2,ho2,hc2,hd02,hd2⟩,_⟩:=I.list hB;simp only at hc2 hd2;subst hc2 hd2
  refine call_meets F.slot_list_extend ⟨_,e,rfl⟩ F.entry_list_extend (F.args_list_extend_2 _ _)
   (Qa l b ae.toArray aA.toArray n n2 bz bC (bB aA r2) (by rw [List.size_toArray,<- hl]; omega) (by rw [List.size_toArray,List.size_toArray,<- hl,<- r2.length]; omega)) ⟨e,ho2,?_⟩
  exact ⟨.non,_,fin aA r2,rfl,q⟩
 ·obtain ⟨aA,r2,⟨⟨cls2,bz,data2,bC⟩,ho2,hc2,n2,hd2⟩,_⟩:=I.tuple hB;simp only at hc2 hd2;subst hc2 hd2
  refine call_meets F.slot_list_extend ⟨_,e,rfl⟩ F.entry_list_extend (F.args_list_extend_2 _ _)
   (N5 l b ae.toArray aA.toArray n n2 bz bC (bB aA r2) (by rw [List.size_toArray,<- hl]; omega) (by rw [List.size_toArray,List.size_toArray,<- hl,<- r2.length]; omega)) ⟨e,ho2,?_⟩
  exact ⟨.non,_,fin aA r2,rfl,q⟩
theorem Yz (i:Nat) {st:Stmt} (h:PS X st (a1y (tBM X.K "list" (Tj X.K) (W2 i) (Xg (tOf X.K B m) a7j)))):PS X st (sOf X.K B (Bp i m)):=h.imp fun D σ H z9=>by
 obtain ⟨st,ps,S,as,R,fl,aa,e,q⟩:=z9;obtain ⟨hd,t,s1,xs,ys,e1,ey,e2,hl,rfl,rfl⟩:=Rx e;obtain ⟨aV,f0,e0⟩:=Cu hd;obtain ⟨p0,vs0,s0,q0,_⟩:=R.listAt e0;refine ⟨_,s0,.inl ⟨rfl,_,q0⟩,st,ps,S,as,R,t,s1,e1,fun v H1 S1 af R1=>?_⟩;obtain ⟨w,h1,_,h3⟩:=R1.slots i _ true e2;rw [s0] at h1; cases h1;obtain ⟨p',ep,ow⟩:=h3 rfl;cases ep;obtain ⟨vs,hH,h4⟩:=ow.own;have top:=R1.top;cases top with
 | @tup b zs _ g1 g2 =>
  cases ey;exact ⟨p0,b,vs,zs,rfl,rfl,hH,.inr (lq R1.sub g1),by rw [h4.length,g2.length]; exact Nat.le_trans (Nat.le_of_lt hl) ju,q _ _ S1 af (R1.drop.turn e2 s0 ⟨_,dz,h4.append g2⟩)⟩
 | @lst b zs _ g1 g2 =>
  cases ey;exact ⟨p0,b,vs,zs,rfl,rfl,hH,.inl (jc R1.sub g1),by rw [h4.length,g2.length]; exact Nat.le_trans (Nat.le_of_lt hl) ju,q _ _ S1 af (R1.drop.turn e2 s0 ⟨_,dz,h4.append g2⟩)⟩
 | _=>exact ig ey
end
theorem Rel.newObj {K:PySem.W.Frag} {B:Bas} {st:Sta} {σ:L2.St} {H S:Hp} {ps:List (V × T)} {as:List Addr} {p:Addr} {ob:HO} {so:SO} (r:Rel K B st σ H ps S as) (hp:H p=none) (h:a3y K S (as++[p]) (upd H p ob) p so) :
  Rel K B { st with sto:=st.sto++[so] } σ (upd H p ob) ((.ref p,.obj st.sto.length)::ps) S (as++[p]):=by
 obtain ⟨bD,sD,nD,no⟩:=r.fresh hp;have mo:∃ l,as++[p]=as++l:=⟨[p],rfl⟩;have other:∀ q,q≠p->H q=upd H p ob q:=fun q n=>(gb n).symm;refine Rel.push (st:={ st with sto:=st.sto++[so] }) (H:=upd H p ob) (v:=.ref p) (t:=.obj st.sto.length) ⟨fun b u e=>?_,⟨r.grow.same,?_,fun q o a b c=>?_⟩,fun i t f e=>?_,r.apart,⟨?_,?_,fun n df e=>?_⟩,fun q hq=>(r.pend q hq).mono (Same.refl _) mo,r.len⟩ (.obj ?_)
 ·rw [gb (fun z=>by subst z; rw [sD] at e; cases e)]; exact r.sub _ _ e
 ·obtain ⟨l,e⟩:=r.grow.more;exact ⟨l++[p],by rw [e,List.append_assoc]⟩
 ·obtain ⟨x,y,z⟩:=r.grow.keep q o a b c;have n:q≠p:=fun w=>by subst w; rw [bD] at a; cases a
  refine ⟨by rw [gb n]; exact x,y,fun m=>?_⟩;rcases List.mem_append.mp m with m | m
  ·exact z m
  ·exact n (List.mem_singleton.mp m)
 ·obtain ⟨v,h1,h2,h3⟩:=r.slots i t f e;refine ⟨v,h1,fun z=>(h2 z).mono (Same.refl _) mo,fun z=>?_⟩;obtain ⟨q,rfl,o⟩:=h3 z;have n:q≠p:=fun w=>by subst w; subst z; exact no i t e h1
  refine ⟨q,rfl,o.own.more (Same.refl _) mo (other q n),o.out,fun m=>?_,o.new⟩;rcases List.mem_append.mp m with m | m
  ·exact o.nas m
  ·exact n (List.mem_singleton.mp m)
 ·show (as++[p]).length=(st.sto++[so]).length;rw [List.length_append,List.length_append,r.sto.len]; rfl
 ·refine List.nodup_append.mpr ⟨r.sto.nd,by simp,fun a ha b hb=>?_⟩;rw [List.mem_singleton.mp hb];intro z; subst z; exact nD ha
 ·have e:(st.sto++[so])[n]? = some df:=e
  by_cases hn:n<st.sto.length
  ·rw [List.getElem?_append_left hn] at e;obtain ⟨a,h1,h2,h3⟩:=r.sto.at' n df e;have na:a≠p:=fun z=>by subst z; exact nD (List.mem_of_getElem? h1)
   refine ⟨a,Yo h1,h2,?_⟩;cases df with
   | dic ts=>obtain ⟨vs,x,y⟩:=h3; exact ⟨vs,by rw [gb na]; exact x,y.mono (Same.refl _) mo⟩
   | lst ts=>obtain ⟨vs,x,y⟩:=h3; exact ⟨vs,by rw [gb na]; exact x,y.mono (Same.refl _) mo⟩
   | dit ts=>obtain ⟨vs,x,y⟩:=h3; exact ⟨vs,by rw [gb na]; exact x,y.mono (Same.refl _) mo⟩
   | exc C f t=>obtain ⟨dx,v,x,g,y⟩:=h3; exact ⟨dx,v,by rw [gb na]; exact x,g,y.mono (Same.refl _) mo⟩
   | ins C fs=>obtain ⟨dx,vs,x,y⟩:=h3; exact ⟨dx,vs,by rw [gb na]; exact x,y.mono (Same.refl _) mo⟩
   | fdc ts=>obtain ⟨vs,x,y⟩:=h3; exact ⟨vs,by rw [gb na]; exact x,y.mono (Same.refl _) mo⟩
  ·rw [List.getElem?_append_right (Nat.le_of_not_lt hn)] at e
   have fK:n - st.sto.length=0:=by
    have:=(List.getElem?_eq_some_iff.mp e).1;simp at this; omega
   rw [fK] at e; cases e;have cm:n=as.length:=by rw [r.sto.len]; omega
   subst cm;exact ⟨p,by rw [List.getElem?_append_right (Nat.le_refl _),Nat.sub_self]; rfl,sD,h⟩
 ·rw [<- r.sto.len,List.getElem?_append_right (Nat.le_refl _),Nat.sub_self]; rfl
def PN (X:Cx) (e:Expr) (N:L2.St->V->Prop):Prop:=PE X e (fun σ H Q=>∃ v,N σ v/\Q v H)
def MN (K:PySem.W.Frag) (m:M T) (N:L2.St->V->Prop):Prop:=∀ (B:Bas) (st:Sta) (σ:L2.St) (H:Hp) (ps:List (V × T)) (S:Hp) (as:List Addr) (t:T) (aa:Sta),Rel K B st σ H ps S as->m st=some (t,aa)->aa=st/\∃ v,N σ v/\Rep K S as v t
structure PM (X:Cx) (e:Expr) (m:M T) (N:L2.St->V->Prop):Prop where
 p:PN X e N
 m:MN X.K m N
section
variable {X:Cx} {B:Bas} {a b e e1 e2:Expr} {m m1 m2:M T} {N N1 N2:L2.St->V->Prop} {pos p:Pos}
end
inductive a1k:List Expr->List Str->Prop where
 | nil:a1k [] []
 | cons {x:Str} {k:Nat} {q:Pos} {es:List Expr} {xs:List Str}:a1k es xs->a1k (.Constant (.str x) k q::es) (x::xs)
theorem yq {X:Cx} {B:Bas}:∀ {es:List Expr} {xs:List Str},a1k es xs->PA X es (aOf X.K B (yg xs))
 | _,_,.nil=>bh
 | _,_,.cons h=>ak cu (yq h)
theorem len_strs:∀ (xs:List Str) (st:Sta) (ts:List T) (aa:Sta),yg xs st=some (ts,aa)->ts.length<=xs.length
 | [],st,ts,aa,e=>d7 st ts aa e
 | _::xs,st,ts,aa,e=>au (len_strs xs) st ts aa e
section
variable {X:Cx} {B:Bas} {a b c e o k:Expr} {m m1 m2:M T} {pos p p2:Pos}
theorem a3b (l:List T):isTup l=a7k (fun ty=>ty == .type "tuple") l:=by
 match l with
 | []=>rfl
 | [t]=>cases t <;> rfl
 | x::y::r=>cases x <;> rfl
theorem a2x (l:List T):isInt l=a7k (fun ty=>ty == .type "int" || ty == .type "bool") l:=by
 match l with
 | []=>rfl
 | [t]=>cases t <;> rfl
 | x::y::r=>cases x <;> rfl
theorem a4t (l:List T):aa1 l=a7k (fun ty=>ty == .type "bool") l:=by
 match l with
 | []=>rfl
 | [t]=>cases t <;> rfl
 | x::y::r=>cases x <;> rfl
theorem a0m (l:List T):isStr l=a7k (fun ty=>ty == .type "str") l:=by
 match l with
 | []=>rfl
 | [t]=>cases t <;> rfl
 | x::y::r=>cases x <;> rfl
theorem Z1:bootBuiltins "int" = some (.type "int"):=by decide +kernel
theorem Vv:bootBuiltins "bool" = some (.type "bool"):=by decide +kernel
theorem Zg:bootBuiltins "str" = some (.type "str"):=by decide +kernel
theorem Gk {pc:Pos} (hg:Gl X "isinstance") (hm:X.mg "isinstance" = none) (b5:Gl X "tuple") (b6:X.mg "tuple" = none) (ha:PE X a (tOf X.K B m)) (he:starEach [a,.Name "tuple" pc] X.env=(false,eval a X.env)::starEach [.Name "tuple" pc] X.env:=by rfl) :
  PE X (.Call (.Name "isinstance" p) [a,.Name "tuple" pc] [] pos) (tOf X.K B (dg isTup (aj m c7))):=by
 rw [show isTup=_ from funext a3b];exact Tn (cn := "tuple") hg hm b5 b6 boot_tuple (fun t ty h=>by cases t <;> cases h <;> rfl) ha (by decide) (by decide) he
theorem V6 {pc:Pos} (hg:Gl X "isinstance") (hm:X.mg "isinstance" = none) (b5:Gl X "int") (b6:X.mg "int" = none) (ha:PE X a (tOf X.K B m)) (he:starEach [a,.Name "int" pc] X.env=(false,eval a X.env)::starEach [.Name "int" pc] X.env:=by rfl) :
  PE X (.Call (.Name "isinstance" p) [a,.Name "int" pc] [] pos) (tOf X.K B (dg isInt (aj m c7))):=by
 rw [show isInt=_ from funext a2x];exact Tn (cn := "int") hg hm b5 b6 Z1 (fun t ty h=>by cases t <;> cases h <;> rfl) ha (by decide) (by decide) he
theorem Rz {pc:Pos} (hg:Gl X "isinstance") (hm:X.mg "isinstance" = none) (b5:Gl X "bool") (b6:X.mg "bool" = none) (ha:PE X a (tOf X.K B m)) (he:starEach [a,.Name "bool" pc] X.env=(false,eval a X.env)::starEach [.Name "bool" pc] X.env:=by rfl) :
  PE X (.Call (.Name "isinstance" p) [a,.Name "bool" pc] [] pos) (tOf X.K B (dg aa1 (aj m c7))):=by
 rw [show aa1=_ from funext a4t];exact Tn (cn := "bool") hg hm b5 b6 Vv (fun t ty h=>by cases t <;> cases h <;> rfl) ha (by decide) (by decide) he
theorem Yp (i:Nat) (hm:X.mg "len" = none) {es:Expr} (hg:Gl X "len") (h:PE X es (W2 i)) (he:starEach [es] X.env=(false,eval es X.env)::starEach [] X.env:=by rfl) (aE:(backTo pos (starEach [] X.env)).any (·.1)=false:=by rfl) :
  PE X (.Call (.Name "len" p) [es] [] pos) (tOf X.K B (Iz i)):=by
 have hc:Gq X (.builtin "len") (fun xs H Q=>∃ q,xs=[.ref q]/\((∃ ys,SqL X.K H q ys/\Q (.int ys.length) H)\/(∃ kvs,Rd H q (.dK kvs)/\Q (.int kvs.length) H))):=by
  intro pins s σ H xs us Q I rs z8;obtain ⟨q,ex,h⟩:=z8;rcases h with ⟨ys,h1,h2⟩ | ⟨kvs,h1,h2⟩
  ·exact Cm pins s σ H xs us Q I rs ⟨q,ys,ex,.inl h1,h2⟩
  ·subst ex;obtain ⟨u,rfl,ru⟩:=rs.one;cases ru;exact a9z I h1 fun t s' I'=>⟨.int kvs.length,H,I',⟨t,rfl⟩,h2⟩
 refine (jg hc hg hm PySem.boot_len (ql h w6 he) (by decide) (by decide) he aE).imp fun σ H Q z0=>?_;obtain ⟨st,ps,S,as,R,t,aa,e,q⟩:=z0;obtain ⟨rfl,h⟩:=R9 e;rcases h with ⟨xs,f,e1,rfl⟩ | ⟨xs,f,e1,rfl⟩
 ·obtain ⟨p0,vs,s0,h1,h2⟩:=R.listAt e1;exact ⟨_,s0,p0,rfl,.inl ⟨vs,h1,by rw [h2.length]; exact q _ H S as (R.push (.int _))⟩⟩
 ·obtain ⟨p0,vs,s0,h1,h2⟩:=R.dictAt e1;exact ⟨_,s0,p0,rfl,.inr ⟨vs,h1,by rw [h2.length]; exact q _ H S as (R.push (.int _))⟩⟩
end
section
variable {X:Cx} {pins:List (Addr × Obj)} {σ:L2.St} {H S:Hp} {s:Shared} {as:List Addr}
theorem Yr (I:L2.Inv X pins σ H s) (sub:Same S H):(∀ {v:V} {t:T},Rep X.K S as v t->∀ {d:PyData} {u:Value},dat t=some d->RelV v u->∃ bs,Reads s.heap u d bs)/\∀ {vs:List V} {ts:List T},p8 X.K S as vs ts->∀ {ds:List PyData} {us:List Value},Ms ts=some ds->Vals vs us->∃ bs,ReadsAll s.heap us ds bs:=by
 have tp:∀ {a:Addr} {vs:List V} {ts:List T},SqT X.K S a vs->p8 X.K S as vs ts->(∀ {ds:List PyData} {us:List Value},Ms ts=some ds->Vals vs us->∃ bs,ReadsAll s.heap us ds bs)->∀ {d:PyData} {u:Value},dat (.tup ts)=some d->RelV (.ref a) u->∃ bs,Reads s.heap u d bs:=by
  intro a vs ts h _ q d u e r;simp only [dat] at e;obtain ⟨l,e1,e2⟩:=Option.map_eq_some_iff.mp e;subst e2;cases r;obtain ⟨ae,rv,⟨o,h1,h2,n,h3⟩,_⟩:=I.tuple (lq sub h);obtain ⟨bs,rb⟩:=q e1 rv;exact ⟨_,.tuple h1 h2 h3 rb⟩
 have ls:∀ {a:Addr} {vs:List V} {ts:List T},SqL X.K S a vs->p8 X.K S as vs ts->(∀ {ds:List PyData} {us:List Value},Ms ts=some ds->Vals vs us->∃ bs,ReadsAll s.heap us ds bs)->∀ {d:PyData} {u:Value},dat (.lst ts)=some d->RelV (.ref a) u->∃ bs,Reads s.heap u d bs:=by
  intro a vs ts h _ q d u e r;simp only [dat] at e;obtain ⟨l,e1,e2⟩:=Option.map_eq_some_iff.mp e;subst e2;cases r;obtain ⟨ae,rv,⟨o,n,h1,h2,_,h3⟩,_⟩:=I.list (jc sub h);obtain ⟨bs,rb⟩:=q e1 rv;exact ⟨_,.list h1 h2 h3 rb⟩
 have st:∀ (x:Str) {d:PyData} {u:Value},dat (.str x)=some d->RelV (.str x) u->∃ bs,Reads s.heap u d bs:=by
  intro x d u e r;simp only [dat] at e;split at e
  ·cases e; obtain ⟨t,rfl⟩:=r; exact ⟨_,.str x t⟩
  ·cases e
 have cn:∀ {v:V} {t:T} {vs:List V} {ts:List T},Rep X.K S as v t->p8 X.K S as vs ts->(∀ {d:PyData} {u:Value},dat t=some d->RelV v u->∃ bs,Reads s.heap u d bs)->(∀ {ds:List PyData} {us:List Value},Ms ts=some ds->Vals vs us->∃ bs,ReadsAll s.heap us ds bs)->∀ {ds:List PyData} {us:List Value},Ms (t::ts)=some ds->Vals (v::vs) us->∃ bs,ReadsAll s.heap us ds bs:=by
  intro v t vs ts _ _ h q ds us e r;obtain ⟨a,l,e1,e2,e3⟩:=a03 e;subst e3;cases r with
  | cons r1 r2 =>
   obtain ⟨b1,x1⟩:=h e1 r1;obtain ⟨b2,x2⟩:=q e2 r2;exact ⟨_,.cons x1 x2⟩
 have nl:∀ {ds:List PyData} {us:List Value},Ms []=some ds->Vals [] us->∃ bs,ReadsAll s.heap us ds bs:=by
  intro ds us e r; simp only [Ms] at e; cases e; cases r; exact ⟨_,.nil⟩
 have no:∀ {d:PyData} {u:Value},dat .non=some d->RelV .non u->∃ bs,Reads s.heap u d bs:=by
  intro d u e r; simp only [dat] at e; cases e; cases r; exact ⟨_,.none⟩
 have bo:∀ (b:Bool) {d:PyData} {u:Value},dat (.bl b)=some d->RelV (.bl b) u->∃ bs,Reads s.heap u d bs:=by
  intro b d u e r; simp only [dat] at e; cases e; cases r; exact ⟨_,.bool b⟩
 have it:∀ (i:Int) {d:PyData} {u:Value},dat (.int i)=some d->RelV (.int i) u->∃ bs,Reads s.heap u d bs:=by
  intro i d u e r; simp only [dat] at e; cases e; obtain ⟨t,rfl⟩:=r; exact ⟨_,.int i t⟩
 have di:∀ {a:Addr} {ts:List (L2.Key × T)} {d:PyData} {u:Value},dat (.dic ts)=some d->RelV (.ref a) u->∃ bs,Reads s.heap u d bs:=by
  intro a ts d u e; simp only [dat] at e; cases e
 have ob:∀ {a:Addr} {n:Nat} {d:PyData} {u:Value},dat (.obj n)=some d->RelV (.ref a) u->∃ bs,Reads s.heap u d bs:=by
  intro a n d u e; simp only [dat] at e; cases e
 have ad:∀ (a:Addr) {d:PyData} {u:Value},dat (.adr a)=some d->RelV (.ref a) u->∃ bs,Reads s.heap u d bs:=by
  intro a d u e; simp only [dat] at e; cases e
 exact ⟨fun h=>Rep.rec (motive_1:=fun v t _=>∀ {d:PyData} {u:Value},dat t=some d->RelV v u->∃ bs,Reads s.heap u d bs) (motive_2:=fun vs ts _=>∀ {ds:List PyData} {us:List Value},Ms ts=some ds->Vals vs us->∃ bs,ReadsAll s.heap us ds bs) (motive_3:=fun _ _ _=>True) no bo it st tp ls (fun _ _ _=>di) (fun _=>ob) ad nl cn trivial (fun _ _ _ _=>trivial) h,
  fun h=>p8.rec (motive_1:=fun v t _=>∀ {d:PyData} {u:Value},dat t=some d->RelV v u->∃ bs,Reads s.heap u d bs) (motive_2:=fun vs ts _=>∀ {ds:List PyData} {us:List Value},Ms ts=some ds->Vals vs us->∃ bs,ReadsAll s.heap us ds bs) (motive_3:=fun _ _ _=>True) no bo it st tp ls (fun _ _ _=>di) (fun _=>ob) ad nl cn trivial (fun _ _ _ _=>trivial) h⟩
theorem Rep.reads (I:L2.Inv X pins σ H s) (sub:Same S H) {v:V} {t:T} (h:Rep X.K S as v t) {d:PyData} {u:Value} (e:dat t=some d) (r:RelV v u):∃ bs,Reads s.heap u d bs:=(Yr I sub).1 h e r
theorem a4a (I:L2.Inv X pins σ H s) (sub:Same S H) {x y:V} {t u:T} {v w:Value} {b:Bool} {A:Around} (hx:Rep X.K S as x t) (hy:Rep X.K S as y u) (rx:RelV x v) (ry:RelV y w) (e:eqD t u=some b) (hu:A.units+40<cLine):SeqAt.EqAt A s v w b:=by
 obtain ⟨dx,dy,e1,e2,hd,rfl⟩:=Qn e;obtain ⟨b1,x1⟩:=hx.reads I sub e1 rx;obtain ⟨b2,x2⟩:=hy.reads I sub e2 ry;exact SeqAt.eqAt_reads dx dy A s v w b1 b2 x1 x2 (Cv _ e1) (Cv _ e2) (by have:=Nat.min_le_left dx.depth dy.depth; omega)
theorem Zc (I:L2.Inv X pins σ H s) (sub:Same S H) {A:Around} (hu:A.units+40<cLine) {kb:List (L2.Key × V)} {ub:List (L2.Key × T)} {wb:List (L2.Key × Value)} (rb:Di X.K S as kb ub) (vb:KV kb wb) :
  ∀ {ka:List (L2.Key × V)} {ua:List (L2.Key × T)} {wa:List (L2.Key × Value)} {r:Bool},Di X.K S as ka ua->KV ka wa->a7p ua ub=some r->PySem.W.KeqHits A s wb wa r
 | _,[],_,_,h0,va,e=>by
  cases h0;simp only [a7p] at e; cases e;cases va;exact .nil
 | _,(k,_)::_,_,_,h0,va,e=>by
  cases h0 with | cons h q=>?_
  simp only [a7p] at e;cases va with
  | @cons _ p2 _ _ hp hr =>
   obtain ⟨pk,pv⟩:=p2;obtain ⟨ek,rv⟩:=hp;dsimp only at ek rv;subst ek;rcases rb.get k with ⟨z,t',a1,a2,a3⟩ | ⟨a1,a2⟩
   ·rw [a2] at e;dsimp only at e;have rel:=KV.val vb k;rw [a1] at rel;obtain ⟨w',hw,bH⟩:=Le.some_of rel;split at e
    ·rename_i eb he;obtain ⟨b',e1,e2⟩:=Option.map_eq_some_iff.mp e;subst e2;exact .hit hw (a4a I sub h a3 rv bH he hu) (Zc I sub hu rb vb q hr e1)
    ·cases e
   ·rw [a2] at e;cases e;have rel:=KV.val vb k;rw [a1] at rel;exact .miss (Le.none_of rel)
end
section
variable {X:Cx}
theorem O2 {op:CmpOp} {neg:Bool} (cA:(op=.Eq/\neg=false)\/(op=.NotEq/\neg=true)) {g:T->T->Option T} (hg:∀ t u w,g t u=some w->∃ b,eqT t u=some b/\w=.bl (xor neg b)) (hu:X.A.units+64<cLine):OpT X (compareOp op) g:=by
 intro pins s σ H x y v u Q I rx ry z8;obtain ⟨S,as,t,t2,w,sub,ht,hu2,hf,q⟩:=z8;obtain ⟨b,e,rfl⟩:=hg _ _ _ hf;have fin:EP X pins σ Q (.bool (xor neg b)) s:=⟨.bl (xor neg b),H,I,rfl,q _ H S (Ext.refl sub) (.bl _)⟩;rcases a6o e with ⟨xs,ys,rfl,rfl,hd⟩ | he
 ·cases ht with
  | @dic a kvs _ g1 g2 =>
   cases hu2 with
   | @dic a' kvs' _ k1 k2 =>
    cases rx;cases ry;obtain ⟨z,hs,vs,rel,dd⟩:=Gw I.hok (vh sub g1);obtain ⟨z',b7,vs',rel',bT⟩:=Gw I.hok (vh sub k1);have l1:vs.length=xs.length:=by rw [<- rel.length]; exact g2.length
    have l2:vs'.length=ys.length:=by rw [<- rel'.length]; exact k2.length
    have dG:X.A.in1.units+40<cLine:=by show X.A.units+1+40<cLine; omega
    rcases hd with ⟨hl,eb⟩ | ⟨hl,rfl⟩
    ·have hits:vs.length=vs'.length->PySem.W.KeqHits X.A.in1 s vs' vs b:=fun _=>Zc I sub dG k2 rel' g2 rel eb;have el:(vs.length==vs'.length)=true:=by rw [l1,l2,hl]; exact beq_self_eq_true _
     rcases cA with ⟨rfl,rfl⟩ | ⟨rfl,rfl⟩
     ·refine PySem.W.keq_eq hs b7 dd bT (by omega) hits ?_;rw [el]; simpa using fin
     ·refine PySem.W.keq_ne hs b7 dd bT (by omega) hits ?_;rw [el]; simpa using fin
    ·have hits:vs.length=vs'.length->PySem.W.KeqHits X.A.in1 s vs' vs true:=fun h=>absurd (by rw [<- l1,<- l2]; exact h) hl;have el:(vs.length==vs'.length)=false:=by rw [l1,l2]; exact beq_eq_false_iff_ne.mpr hl
     rcases cA with ⟨rfl,rfl⟩ | ⟨rfl,rfl⟩
     ·refine PySem.W.keq_eq hs b7 dd bT (by omega) hits ?_;rw [el]; simpa using fin
     ·refine PySem.W.keq_ne hs b7 dd bT (by omega) hits ?_;rw [el]; simpa using fin
 ·obtain ⟨dx,dy,e1,e2,hd,rfl⟩:=Qn he;obtain ⟨b1,x1⟩:=ht.reads I sub e1 rx;obtain ⟨b2,x2⟩:=hu2.reads I sub e2 ry;have hm:X.A.units+min dx.depth dy.depth<cLine:=by have:=Nat.min_le_left dx.depth dy.depth; omega
  rcases cA with ⟨rfl,rfl⟩ | ⟨rfl,rfl⟩
  ·exact SeqAt.compareEq_reads x1 x2 (Cv _ e1) (Cv _ e2) hm (by simpa using fin)
  ·exact SeqAt.compareNe_reads x1 x2 (Cv _ e1) (Cv _ e2) hm (by simpa using fin)
theorem Bs (hu:X.A.units+64<cLine):OpT X (compareOp .Eq) eqO:=O2 (.inl ⟨rfl,rfl⟩) (fun t u w h=>by
 unfold eqO at h;split at h
 ·rename_i b e; cases h; exact ⟨b,e,by simp⟩
 ·cases h) hu
theorem Ih (hu:X.A.units+64<cLine):OpT X (compareOp .NotEq) neO:=O2 (.inr ⟨rfl,rfl⟩) (fun t u w h=>by
 unfold neO at h;split at h
 ·rename_i b e; cases h; exact ⟨b,e,by simp⟩
 ·cases h) hu
open Classical in
noncomputable def a4m (h:Heap) (dx:PyData) (y:Value):Bool:=if e:∃ d bs,Reads h y d bs/\d.canLay0=true then PyData.eqv (Classical.choose e) dx else false
theorem a4q {h:Heap} {dx d:PyData} {y:Value} {bs:List Addr} (r:Reads h y d bs) (l:d.canLay0=true):a4m h dx y=PyData.eqv d dx:=by
 have e:∃ d bs,Reads h y d bs/\d.canLay0=true:=⟨d,bs,r,l⟩;unfold a4m;rw [dif_pos e];obtain ⟨bs',r',l'⟩:=Classical.choose_spec e;rw [SeqAt.Reads.unique _ _ _ _ _ l' r' r]
theorem Xk {pins:List (Addr × Obj)} {σ:L2.St} {H S:Hp} {s:Shared} {as:List Addr} {A:Around} (I:L2.Inv X pins σ H s) (sub:Same S H) (hu:A.units+40<cLine) {x:V} {t:T} {v:Value} {dx:PyData} (hx:Rep X.K S as x t) (rx:RelV x v) (ex:dat t=some dx) :
  ∀ {vs:List V} {ts:List T} {us:List Value} {b:Bool},p8 X.K S as vs ts->Vals vs us->inL t ts=some b->(∀ y∈us,SeqAt.EqAt A s y v (a4m s.heap dx y))/\us.any (a4m s.heap dx)=b
 | _,[],_,_,h0,r,e=>by cases h0; simp only [inL] at e; cases e; cases r; exact ⟨fun y h=>(nomatch h),rfl⟩
 | _,_::_,_,_,h0,r,e=>by
  cases h0 with | cons h q=>?_
  simp only [inL] at e;cases r with
  | @cons _ u1 _ us1 r1 r2 =>
   split at e
   ·rename_i eb he;obtain ⟨b',e1,e2⟩:=Option.map_eq_some_iff.mp e;subst e2;obtain ⟨i1,i2⟩:=Xk I sub hu hx rx ex q r2 e1;obtain ⟨dy,dx',f1,f2,hd,rfl⟩:=Qn he;rw [ex] at f2; cases f2;obtain ⟨b1,x1⟩:=h.reads I sub f1 r1;have hb:=a4q (dx:=dx) x1 (Cv _ f1);refine ⟨fun y hy=>?_,by rw [List.any_cons,i2,hb]⟩;rcases List.mem_cons.mp hy with rfl | hy
    ·rw [hb]; exact a4a I sub h hx r1 rx he hu
    ·exact i1 y hy
   ·cases e
theorem Xj {t u w:T} (h:inT t u=some w):(∃ ys b,(u=.tup ys\/u=.lst ys)/\inL t ys=some b/\(dat t).isSome=true/\w=.bl b)\/(∃ kvs q,u=.dic kvs/\keyOf t=some q/\w=.bl (Qd q kvs).isSome):=by
 unfold inT at h;split at h
 ·obtain ⟨q,e1,e2⟩:=Option.map_eq_some_iff.mp h;exact .inr ⟨_,q,rfl,e1,e2.symm⟩
 ·split at h
  ·rename_i hd;split at h
   ·obtain ⟨b,e1,e2⟩:=Option.map_eq_some_iff.mp h; exact .inl ⟨_,b,.inl rfl,e1,hd,e2.symm⟩
   ·obtain ⟨b,e1,e2⟩:=Option.map_eq_some_iff.mp h; exact .inl ⟨_,b,.inr rfl,e1,hd,e2.symm⟩
   ·cases h
  ·cases h
theorem Ny {op:CmpOp} {neg:Bool} (cA:(op=.In/\neg=false)\/(op=.NotIn/\neg=true)) {g:T->T->Option T} (hg:∀ t u w,g t u=some w->∃ w',inT t u=some w'/\∃ b,w'=.bl b/\w=.bl (xor neg b)) (hu:X.A.units+64<cLine):OpT X (compareOp op) g:=by
 intro pins s σ H x y v u Q I rx ry z8;obtain ⟨S,as,t,t2,w,sub,ht,hu2,hf,q⟩:=z8;obtain ⟨w',ei,b0,rfl,rfl⟩:=hg _ _ _ hf;rcases Xj ei with ⟨ys,b,hy,e,hdt,eb⟩ | ⟨kvs,qk,rfl,ek,eb⟩
 ·cases eb;obtain ⟨dx,ex⟩:=Option.isSome_iff_exists.mp hdt;have fin:EP X pins σ Q (.bool (xor neg b0)) s:=⟨.bl (xor neg b0),H,I,rfl,q _ H S (Ext.refl sub) (.bl _)⟩;have dG:X.A.in1.units+40<cLine:=by show X.A.units+1+40<cLine; omega
  rcases hy with rfl | rfl
  ·cases hu2 with
   | @tup a vs _ g1 g2 =>
    cases ry;obtain ⟨ae,r,p,hz⟩:=I.tuple (lq sub g1);obtain ⟨i1,i2⟩:=Xk I sub dG ht rx ex g2 r e;have he:∀ y,y∈ae.toArray->SeqAt.EqAt X.A.in1 s y v (a4m s.heap dx y):=fun y hy=>i1 y (by simpa using hy);have ha:ae.toArray.any (a4m s.heap dx)=b0:=by rw [<- i2]; simp
    rcases cA with ⟨rfl,rfl⟩ | ⟨rfl,rfl⟩
    ·exact SeqAt.in_tupleAt _ (show s.heap.IsTuple a ae.toArray from p) he (by rw [ha]; simpa using fin)
    ·exact SeqAt.notIn_tupleAt _ (show s.heap.IsTuple a ae.toArray from p) he (by rw [ha]; simpa using fin)
  ·cases hu2 with
   | @lst a vs _ g1 g2 =>
    cases ry;obtain ⟨ae,r,p,hz⟩:=I.list (jc sub g1);obtain ⟨i1,i2⟩:=Xk I sub dG ht rx ex g2 r e;have he:∀ y,y∈ae.toArray->SeqAt.EqAt X.A.in1 s y v (a4m s.heap dx y):=fun y hy=>i1 y (by simpa using hy);have ha:ae.toArray.any (a4m s.heap dx)=b0:=by rw [<- i2]; simp
    rcases cA with ⟨rfl,rfl⟩ | ⟨rfl,rfl⟩
    ·exact SeqAt.in_listAt _ p.isList he (by rw [ha]; simpa using fin)
    ·exact SeqAt.notIn_listAt _ p.isList he (by rw [ha]; simpa using fin)
 ·cases eb;cases hu2 with
  | @dic a kv _ g1 g2 =>
   cases ry;have ey:=a0i ht ek;subst ey
   have hs:(Qd qk kvs).isSome=(Rk kv qk).isSome:=by
    rcases g2.get qk with ⟨z,t',a1,a2,_⟩ | ⟨a1,a2⟩
    ·simp [a1,a2]
    ·simp [a1,a2]
   rw [hs] at q;have gd:a3u H a (kV qk) (Rk kv qk):=.inl ⟨kv,qk,vh sub g1,rfl,rfl⟩;rcases cA with ⟨rfl,rfl⟩ | ⟨rfl,rfl⟩
   ·exact af3 (by omega) I gd rx fun s' I'=>⟨.bl _,H,I',rfl,by simpa using q _ H S (Ext.refl sub) (.bl _)⟩
   ·exact a6x (by omega) I gd rx fun s' I'=>⟨.bl _,H,I',rfl,by simpa using q _ H S (Ext.refl sub) (.bl _)⟩
theorem K6 (hu:X.A.units+64<cLine):OpT X (compareOp .In) inT:=Ny (.inl ⟨rfl,rfl⟩) (fun t u w h=>by
 rcases Xj h with ⟨ys,b,h1,h2,h3,rfl⟩ | ⟨kvs,q,rfl,h2,rfl⟩
 ·exact ⟨_,h,b,rfl,by simp⟩
 ·exact ⟨_,h,_,rfl,by simp⟩) hu
theorem O6 (hu:X.A.units+64<cLine):OpT X (compareOp .NotIn) Hy:=Ny (.inr ⟨rfl,rfl⟩) (fun t u w h=>by
 unfold Hy at h;split at h
 ·rename_i b e;cases h;exact ⟨_,e,b,rfl,by simp⟩
 ·cases h) hu
end
section
variable {X:Cx} {B:Bas} {a b c e:Expr} {m m1 m2:M T} {pos p:Pos} {u v:S} {es:List Expr} {ms:M (List T)} {k n:Nat} {f:Addr} {fd:FuncData} {pn:List Str} {F:Fn} {x:Str}
end
section
variable {X:Cx} {B:Bas} {a b c e:Expr} {m m1 m2:M T} {pos p:Pos} {es:List Expr} {ms:M (List T)} {n:Nat} {pn:List Str} {F:Fn} {x:Str}
end
section
variable {P:Program} {w:World} {K:PySem.W.Frag} {mg:Str->Option Value} {base:Heap}
end
section
variable {X:Cx} {B:Bas} {a b c e:Expr} {m m1 m2:M T} {pos p p2 fA:Pos}
theorem Wn:Mp X (.builtin "abs") a97:=by
 intro pins s σ H xs us Q I rs z8;obtain ⟨S,as,ts,w,sub,hr,hf,q⟩:=z8;cases hr with
 | nil=>exact ig hf
 | @cons x t xs' ts' h1 h2 =>
  cases h2 with
  | cons h3 h4=>cases h1 <;> exact ig hf
  | nil =>
   cases h1 <;> first | exact ig hf | skip
   cases hf;exact a1d pins s σ H _ us Q I rs ⟨_,rfl,q _ H S (Ext.refl sub) (.int _)⟩
def Wd:List Nat->TGs
 | []=>ad5
 | i::is=>a95 (Js i) (Wd is)
theorem V2 {K:PySem.W.Frag} {H S:Hp} {as:List Addr} {ps:List (V × T)}:∀ (is:List Nat) {vs:List V} {xs:List T} {st:Sta} {σ:L2.St} {Q:L2.St->Hp->Prop},Rel K B st σ H ps S as->p8 K S as vs xs->xs.length=is.length ->
  (∀ σ',Rel K B ((is.zip xs).foldl (fun s p=>iu p.1 p.2 false s) st) σ' H ps S as->Q σ' H)->Wd is vs σ H Q
 | [],_,_,_,_,_,R,.nil,_,q=>⟨rfl,q _ R⟩
 | i::is,_,_,_,_,_,R,.cons r rs,hl,q=>⟨_,_,rfl,V2 is (R.put (i:=i) r) rs (by simpa using hl) q⟩
 | [],_,_,_,_,_,_,.cons _ _,hl,_=>by simp at hl
 | _::_,_,_,_,_,_,_,.nil,hl,_=>by simp at hl
theorem U0 {is:List Nat} {tg:Expr} (h:PG X tg (ad8 X.K is.length (Wd is))):PG X tg (gOf X.K B (Ub is)):=fun pins s σ H x u Q I r z9=>h pins s σ H x u Q I r (by
 obtain ⟨st,ps,S,as,t,R,aa,e,q⟩:=z9;have top:=R.top;cases t with
 | tup xs =>
  cases top with
  | @tup a vs _ g1 g2 =>
   obtain ⟨hl,e⟩:=Ad e;cases e;exact ⟨a,vs,rfl,lq R.sub g1,by rw [g2.length]; exact hl,V2 is R.drop g2 hl fun σ' R'=>q σ' H S as R'⟩
 | _=>exact ig e)
end
end C
namespace C
open PySem PySem.Spec PyProof.Rows L2
section
variable {X:Cx} {B:Bas} {a b c e lo hi:Expr} {m m1 m2 ml mh:M T} {pos p p2:Pos}
theorem Rj (xs:List V) (i j:Nat):a0t xs (some (i:Int)) (some (j:Int))=(xs.take j).drop i:=by
 unfold a0t;rw [HT.Y0,HT.Y0];rw [List.drop_take]
 by_cases h:i<=xs.length
 ·rw [Nat.min_eq_left h]
  by_cases h2:j<=xs.length
  ·rw [Nat.min_eq_left h2]
  ·have e2:min j xs.length=xs.length:=by omega
   rw [e2,List.take_of_length_le (i:=xs.length - i) (by rw [List.length_drop]; exact Nat.le_refl _),List.take_of_length_le (by rw [List.length_drop]; omega)]
 ·have e1:min i xs.length=xs.length:=by omega
  rw [e1,List.drop_of_length_le (Nat.le_refl _),List.drop_of_length_le (i:=i) (by omega),List.take_nil,List.take_nil]
end
theorem p8.set {K:PySem.W.Frag} {S:Hp} {as:List Addr} {v:V} {t:T} (h:Rep K S as v t):∀ {vs:List V} {ts:List T} (j:Nat),p8 K S as vs ts->p8 K S as (vs.set j v) (ts.set j t)
 | _,_,_,.nil=>.nil
 | _,_,0,.cons _ r=>.cons h r
 | _,_,j+1,.cons q r=>.cons q (p8.set h j r)
section
variable {X:Cx} {B:Bas} {a b c e o k:Expr} {m mo mk mv:M T} {pos p:Pos}
end
section
variable {X:Cx} {B:Bas} {pins:List (Addr × Obj)} {σ:L2.St} {H S:Hp} {s:Shared} {as:List Addr} {Q:VK}
theorem gather {R:List Value->Shared->Prop} {A:Around} {E:Value->Shared->Prop} {T:String} {r d:Addr} {n:Nat} {P:Nat->Value->Prop} {OK:Heap->Prop} (KS:PySem.W.KdlSrc X.prog X.w T r d n P OK) (nh:A.handled=none) (eY:OK s.heap) (sz:n<=sizeLine)
  (k:∀ (h1:Heap) (tk:Nat) (got:Array Value),s.heap.objs.size<h1.objs.size->(∀ b o,s.heap.get? b=some o->h1.get? b=some o)->ItemsOf P got n->R got.toList { s with heap:=h1,toks:=tk }) :
  wpAny (model X.prog X.w) A (collect (.ref r)) R E s:=by
 have eP:=KS.there _ eY;unfold collect
 refine wpAny_bind (wpAny_runValue
  (codeAny_builtin entry_proto_collect' ?_))
 rw [Around.under_plainId
  PySem.F.plain_proto_collect _]
 show wpAny _ A.in1 (newList [] >>= fun z=>again (.builtin "list.__iadd__" ⟨[z,.ref r],[]⟩)) _ _ s;refine wpAny_bind (wpAny_newObj_type (wpAny_pure ⟨plainId_quiet PySem.F.plain_list_iadd _,codeAny_builtin entry_list_iadd' ?_⟩))
 rw [Around.under_plainId
  PySem.F.plain_list_iadd _]
 change wpAny _ A.in1 (Builtin.List.listExtendWith (.ref s.heap.objs.size) (.ref r) (.ref s.heap.objs.size)) _ _ _;have dJ:(s.heap.push { cls:=.type "list",data:=.seq ([]:List Value).toArray }).get? s.heap.objs.size=some { cls:=.type "list",data:=.seq #[] }:=Heap.get?_push_size _ rfl
 have walk:=PySem.W.kdl_extend (A:=A) (s:={ s with heap:=s.heap.push { cls:=.type "list",data:=.seq ([]:List Value).toArray } })
  (R:=fun (f:Result) (s1:Shared)=>∃ (h1:Heap) (tk:Nat) (got:Array Value) (c1:Nat),f=.ok (.ret (.ref s.heap.objs.size))/\s1 = { s with heap:=h1,toks:=tk }/\(∀ b o,s.heap.get? b=some o->h1.get? b=some o) /\
   h1.get? s.heap.objs.size=some { cls:=.type "list",dict:=none,data:=.seq got c1,slots:=#[] }/\ItemsOf P got n)
  KS nh (KS.keep _ _ eY fun b _ o e=>Heap.get?_push_of_some _ e) s.heap.objs.size (Nat.ne_of_gt eP.1) (Nat.ne_of_gt eP.2) (.ref s.heap.objs.size) 0 dJ
  (fun h1 tk got c1 old b8 ae=>⟨h1,tk,got,c1,rfl,rfl,fun b o e=>old b o (Nat.ne_of_lt (Heap.lt_size e)) (Heap.get?_push_of_some _ e),b8,ae⟩) sz
 have last:∀ (h1:Heap) (tk:Nat) (got:Array Value) (c1:Nat),(∀ b o,s.heap.get? b=some o->h1.get? b=some o)->h1.get? s.heap.objs.size=some { cls:=.type "list",dict:=none,data:=.seq got c1,slots:=#[] }->ItemsOf P got n ->
   wpAny (model X.prog X.w) A (load s.heap.objs.size >>= fun o=>match o.data with | .seq xs _=>pure xs.toList | _=>unsupported "internal:collect") R E { s with heap:=h1,toks:=tk } :=
  fun h1 tk got c1 old b8 ae=>wpAny_bind (wpAny_load b8 (wpAny_pure (k h1 tk got (Heap.lt_size b8) old ae)))
 refine wpAny_mono walk (fun fin s1 x=>?_) fun e s1 x=>?_
 ·cases fin with
  | done f =>
   obtain ⟨h1,tk,got,c1,ef,rfl,old,b8,ae⟩:=x;cases ef;exact last h1 tk got c1 old b8 ae
  | again c =>
   refine ⟨x.1,codeAny_mono x.2 fun f s2 y=>?_⟩;obtain ⟨h1,tk,got,c1,rfl,rfl,old,b8,ae⟩:=y;exact last h1 tk got c1 old b8 ae
 ·obtain ⟨_,_,_,_,ef,_⟩:=x;cases ef
theorem Xo {T:String} {r d:Addr} {n:Nat} {P:Nat->Value->Prop} {OK:Heap->Prop} {l:List Str} (KS:PySem.W.KdlSrc X.prog X.w T r d n P OK) (hc:X.calm=true) (I:L2.Inv X pins σ H s) (sub:Same S H) (hok:OK s.heap) (bG:n<64)
  (hi:∀ vs:List Value,vs.length=n->(∀ (j:Nat) (v:Value),vs[j]? = some v->P j v)->∃ l',StrsAre vs l'/\l'.Perm l)
  (q:∀ v H' S',Ext S H S' H'->Rep X.K S' as v (.lst ((Af l).map .str))->Q v H'):wpAny (model X.prog X.w) X.A (call (.builtin "sorted") [.ref r]) (EP X pins σ Q) X.xe s:=by
 have hn:n<=sizeLine:=Nat.le_trans (Nat.le_of_lt bG) (by rw [sizeLine_eq]; decide)
 refine Calls.call_function_entry kind_sorted plain_sorted
  entry_sorted (args_sorted1 _) ?_
 unfold Builtin.«sorted»;refine wpAny_bind (m:=checkCount "sorted" 1 1 _) (wpAny_pure (wpAny_bind ?_));refine (gather (A:=X.A.in1) KS (show X.A.in1.handled=none from I.ok.hd hc) hok hn fun h' tk acc aQ hk cS=>?_);have hl:acc.toList.length=n:=Array.length_toList.trans cS.1;obtain ⟨l',hS,hp⟩:=hi acc.toList hl fun j v e=>cS.2 j v (by rw [<- Array.getElem?_toList]; exact e);refine wpAny_bind (wpAny_newList ?_ (hl ▸ hn));have cL:(h'.push (seqObj "list" acc.toList.toArray 0)).get? h'.objs.size=some (seqObj "list" acc.toList.toArray 0):=Heap.get?_push_size _ rfl;refine wpAny_bind (wpAny_holding (wpAny_call_entry slot_list_sort ⟨_,cL,rfl⟩ entry_list_sort (list_sort_treeK strKind_oneLt cL hS.keysOf (fun gN f6 rest e=>keyKind_strs (by rw [<- e]; exact hS)) (by rw [hl]; exact bG) fun aa a1 a2=>⟨_,rfl,?_⟩) (args_list_sort _)));refine wpAny_pure ⟨_,rfl,(?_:EP X pins σ Q _ _)⟩;obtain ⟨fV,b1,b2,b3⟩:=sorted_out_str hS a1 a2;have es:=Tz b3 (b2.trans hp);subst es;have hle:=Nat.le_of_lt aQ;obtain ⟨e,he⟩:=sortedHeap_at (out:=(arrOf aa).map (·.2)) cL
 have hsz:(List.map V.str (Af l)).length<=sizeLine:=by
  rw [List.length_map,(Fy l).length_eq,<- hp.length_eq,<- hS.length,hl];exact hn
 have fW:H h'.objs.size=none:=I.hok.fresh hle;have x:=Ext.laid sub fW (.lst ((Af l).map V.str));refine ⟨.ref h'.objs.size,_,I.laid (a:=h'.objs.size) (o:=.lst ((Af l).map V.str)) (t':=tk) (fun b u eb=>?_) hle ⟨hsz,_,e,N6 b1,he⟩,rfl,q _ _ _ x (.lst (SqL.of dz) (Im _))⟩;have hb:=Heap.lt_size (hk _ _ eb);rw [sortedHeap_old (Nat.ne_of_lt hb) (by rw [Heap.size_push]; exact Nat.lt_succ_of_lt hb)];exact Heap.get?_push_of_some _ (hk _ _ eb)
theorem N8:∀ {kvs:List (L2.Key × V)} {ts:List (L2.Key × T)} {l:List Str},kvs.map (·.1)=ts.map (·.1)->Eh (ts.map fun p=>Vw p.1)=some l->kvs.map (·.1)=l.map Sum.inr
 | [],[],l,_,h=>by simp only [List.map_nil,Eh] at h; cases h; rfl
 | (k,v)::kvs,(k2,t)::ts,l,e,h=>by
  simp only [List.map_cons,List.cons.injEq] at e;obtain ⟨e1,e2⟩:=e;subst e1;cases k with
  | inl i=>simp only [List.map_cons,Vw,Eh,reduceCtorEq] at h
  | inr x =>
   simp only [List.map_cons,Vw,Eh] at h;obtain ⟨l',h1,h2⟩:=Option.map_eq_some_iff.mp h;subst h2;rw [List.map_cons,List.map_cons,N8 e2 h1]
theorem Di.keys {K:PySem.W.Frag} {S:Hp} {as:List Addr}:∀ {kvs:List (L2.Key × V)} {ts:List (L2.Key × T)},Di K S as kvs ts->kvs.map (·.1)=ts.map (·.1)
 | _,_,.nil=>rfl
 | _,_,.cons h q=>by rw [List.map_cons,List.map_cons,Di.keys q]
theorem Gh {prog:Program} {w:World}:∀ {vs:List (L2.Key × Value)} {us:List Value} {l:List Str},vs.map (·.1)=l.map Sum.inr->us.length=vs.length->(∀ (j:Nat) (v:Value),us[j]? = some v->∃ k x,vs[j]? = some (k,x)/\(qj prog w).is k v=true)->StrsAre us l
 | [],us,l,e,hl,h=>by
  cases us with
  | cons _ _=>simp at hl
  | nil=>cases l with
   | nil=>exact .nil
   | cons _ _=>simp at e
 | (k,x)::vs,us,l,e,hl,h=>by
  cases us with
  | nil=>simp at hl
  | cons u us =>
   cases l with
   | nil=>simp at e
   | cons y l =>
    simp only [List.map_cons,List.cons.injEq] at e;obtain ⟨e1,e2⟩:=e;subst e1;obtain ⟨k',x',h1,h2⟩:=h 0 u rfl;simp only [List.getElem?_cons_zero,Option.some.injEq,Prod.mk.injEq] at h1;obtain ⟨rfl,rfl⟩:=h1;rw [V4] at h2
    have hu:∃ t,u=.str y t:=by
     rcases n8 h2 with ⟨i,t,e',_⟩ | ⟨z,t,e',hz⟩
     ·cases e'
     ·cases e'; exact ⟨t,hz⟩
    obtain ⟨t,rfl⟩:=hu;exact .cons y t (Gh e2 (by simpa using hl) fun j v ev=>by simpa using h (j+1) v (by simpa using ev))
theorem Oh (hc:X.calm=true):Mp X (.builtin "sorted") M6:=by
 intro pins s σ H xs us Q I rs z8;obtain ⟨S,as,ts,w,sub,hr,hf,q⟩:=z8;cases hr with
 | nil=>exact ig hf
 | @cons x t xs' ts' h1 h2 =>
  cases h2 with
  | cons h3 h4=>cases h1 <;> exact ig hf
  | nil =>
   cases h1 with
   | @lst a vs ts g1 g2 =>
    obtain ⟨bG,hf⟩:=Ad hf;obtain ⟨l,e1,e2⟩:=Option.map_eq_some_iff.mp hf;subst e2;exact Ly pins s σ H _ us Q I rs ⟨S,as,ts,l,sub,.cons (.lst g1 g2) .nil,bG,e1,q⟩
   | @dic a kvs ts g1 g2 =>
    obtain ⟨bG,hf⟩:=Ad hf;obtain ⟨l,e1,e2⟩:=Option.map_eq_some_iff.mp hf;subst e2;obtain ⟨u,rfl,ru⟩:=rs.one;cases ru;obtain ⟨z,hd,vs,rel,dd⟩:=Gw I.hok (vh sub g1);obtain ⟨ep,hat⟩:=dd.dictAt;have hlen:vs.length=ts.length:=by rw [<- rel.length]; exact g2.length
    have hk:=N8 g2.keys e1;rw [KV.keys rel] at hk;exact Xo (PySem.W.kdl_dict (knd:=qj X.prog X.w) (kvs:=vs) (ep:=ep) hd) hc I sub hat (by rw [hlen]; exact bG) (fun us hl hp=>⟨l,Gh hk hl hp,.refl _⟩) q
   | _=>exact ig hf
end
section
variable {prog:Program} {w:World} {A:Around} {E:Value->Shared->Prop} {s:Shared}
end
section
variable {prog:Program} {w:World} {A:Around} {R:Result->Shared->Prop} {I:Addr} {fp wr:List Addr} {G:Array GenState->Array GenState->Prop} {n:Nat} {P:Nat->Value->Prop} {St:Nat->Shared->Prop} {κ:Type} [DecidableEq κ] {knd:PySem.KeyKind prog w κ}
end
section
variable {prog:Program} {w:World} {A:Around} {E:Value->Shared->Prop} {s:Shared} {κ:Type} [DecidableEq κ] {knd:PySem.KeyKind prog w κ}
end
section
variable {X:Cx} {pins:List (Addr × Obj)} {σ:L2.St} {H S:Hp} {s:Shared} {as:List Addr}
inductive Jq (h:Heap) (prog:Program) (w:World):List Value->List L2.Key->List Value->Prop where
 | nil:Jq h prog w [] [] []
 | cons {t:Addr} {kx wv:Value} {o:Obj} {n:Nat} {q:L2.Key} {us:List Value} {qs:List L2.Key} {ws:List Value}:h.get? t=some o->o.cls=.type "tuple" -> o.data=.seq #[kx,wv] n->(qj prog w).is q kx=true ->
   Jq h prog w us qs ws->Jq h prog w (.ref t::us) (q::qs) (wv::ws)
theorem Jq.len {h:Heap} {prog:Program} {w:World}:∀ {us:List Value} {qs:List L2.Key} {ws:List Value},Jq h prog w us qs ws->us.length=qs.length/\us.length=ws.length:=by
 intro us qs ws h
 induction h with
 | nil=>exact ⟨rfl,rfl⟩
 | cons _ _ _ _ _ ih=>exact ⟨congrArg (· + 1) ih.1,congrArg (· + 1) ih.2⟩
end
section
variable {X:Cx} {B:Bas} {a:Expr} {m:M T} {pos p:Pos}
end
theorem u9.zero {P:Program} {w:World} {K:PySem.W.Frag} {mg:Str->Option Value} {base:Heap} {x qual:Str} {st:Stmt} {f:Addr} {fd:FuncData} {ps:List Str} {k:Nat} (F:Fun K x qual st f fd) (h:mg x=some (.ref f)) (b:Binds K fd ps []):u9 P w K mg base x k ps (fun _ _=>none):=by
 have no:∀ vs H Q E,¬ spF K ps.length (fun _ _=>none) vs H Q E:=fun vs H Q E z=>by
  obtain ⟨S,as,sto,ts,t,aD,_,_,_,_,e,_⟩:=z;cases e
 exact ⟨f,fd,⟨fun vs H Q E z=>absurd z (no vs H Q E),fun A outer s H args us vs Q E _ _ _ _ z=>absurd z (no vs H Q E)⟩,b,F.kp,h⟩
end C
end
section
namespace C
open PySem
noncomputable def qw:Nat->M Bool->S->S
 | 0,_,_=>fun _=>none
 | n+1,c,b=>fun s=>match c s with
  | some (false,s1)=>some (.next,s1)
  | some (true,s1)=>match b s1 with
   | some (.next,s2)=>qw n c b s2
   | some (.cont,s2)=>qw n c b s2
   | some (.brk,s2)=>some (.next,s2)
   | some (.ret v,s2)=>some (.ret v,s2)
   | none=>none
  | none=>none
noncomputable def a5y (i j:Nat):S:=fun s=>match s.env[i]? with
 | some (some (.lst xs,true))=>match xs[xs.length - 1]? with
  | some t=>some (.next,iu j t false (iu i (.lst xs.dropLast) true s))
  | none=>none
 | _=>none
end C
end
section
namespace C
open PySem PySem.Spec PyProof.Rows L2
theorem W8 {n:Nat} {c:M Bool} {b:S} {s s':Sta} {fl:Flow} (h:qw (n+1) c b s=some (fl,s')):(∃ s1,c s=some (false,s1)/\fl=.next/\s'=s1) \/
  ∃ s1 fb s2,c s=some (true,s1)/\b s1=some (fb,s2)/\(match fb with | .next=>qw n c b s2=some (fl,s') | .cont=>qw n c b s2=some (fl,s') | .brk=>fl=.next/\s'=s2 | .ret v=>fl=.ret v/\s'=s2):=by
 rw [qw] at h;dsimp only at h;split at h
 ·rename_i s1 e1; cases h; exact .inl ⟨_,e1,rfl,rfl⟩
 ·rename_i s1 e1;split at h
  ·rename_i s2 e2; exact .inr ⟨s1,.next,s2,e1,e2,h⟩
  ·rename_i s2 e2; exact .inr ⟨s1,.cont,s2,e1,e2,h⟩
  ·rename_i s2 e2; cases h; exact .inr ⟨s1,.brk,_,e1,e2,rfl,rfl⟩
  ·rename_i v s2 e2; cases h; exact .inr ⟨s1,.ret v,_,e1,e2,rfl,rfl⟩
  ·cases h
 ·cases h
theorem a2h {i j:Nat} {s s':Sta} {fl:Flow} (h:a5y i j s=some (fl,s')):∃ xs t,s.env[i]? = some (some (.lst xs,true))/\xs[xs.length - 1]? = some t/\fl=.next/\s'=iu j t false (iu i (.lst xs.dropLast) true s):=by
 unfold a5y at h;split at h
 ·rename_i xs e;split at h
  ·rename_i t e2; cases h; exact ⟨xs,t,e,e2,rfl,rfl⟩
  ·cases h
 ·cases h
theorem p8.dropLast {K:PySem.W.Frag} {S:Hp} {as:List Addr}:∀ {vs:List V} {ts:List T},p8 K S as vs ts->p8 K S as vs.dropLast ts.dropLast
 | _,_,.nil=>.nil
 | _,_,.cons h .nil=>.nil
 | _,_,.cons h (.cons h2 r)=>.cons h (p8.dropLast (.cons h2 r))
section
variable {X:Cx} {B:Bas} {c e:Expr} {m:M T} {pos p:Pos} {u:S} {body:List Stmt}
theorem Mh (n:Nat) {mc:M Bool} (hp:PassesOwn (model X.prog X.w) X.A X.env X.xe) (hc:PT X c (cOf X.K B mc)) (hb:PSs X body (sOf X.K B u)):PS X (.While c body [] pos) (sOf X.K B (qw n mc u)):=(Uu hp hc hb).imp fun D σ H z9=>by
 obtain ⟨st,ps,S,as,R,fl,aa,e,q⟩:=z9;refine ⟨fun k σ H=>∃ aC Si aB,Rel X.K B aC σ H ps Si aB/\qw k mc u aC=some (fl,aa),⟨n,st,S,as,R,e⟩,?_⟩;rintro k bL H2 ⟨aC,Si,aB,Ri,ei⟩;cases k with
 | zero=>rw [qw] at ei; cases ei
 | succ k =>
  rcases W8 ei with ⟨s1,e1,rfl,rfl⟩ | ⟨s1,fb,s2,e1,e2,er⟩
  ·exact ⟨aC,ps,Si,aB,Ri,false,_,e1,fun H3 S3 aJ R3=>Xa (q bL H3 S3 aJ R3)⟩
  ·refine ⟨aC,ps,Si,aB,Ri,true,s1,e1,fun H3 S3 aJ R3=>Yt ⟨fun σ' H'=>∃ aC Si aB,Rel X.K B aC σ' H' ps Si aB/\qw k mc u aC=some (fl,aa),fun σ' H' h=>⟨k,Nat.lt_succ_self _,h⟩,s1,ps,S3,aJ,R3,fb,s2,e2,?_⟩⟩;cases fb with
   | next=>exact fun σ' H' S' ag R'=>⟨s2,S',ag,R',er⟩
   | cont=>exact fun σ' H' S' ag R'=>⟨s2,S',ag,R',er⟩
   | brk =>
    obtain ⟨rfl,rfl⟩:=er;exact fun σ' H' S' ag R'=>q σ' H' S' ag R'
   | ret v =>
    obtain ⟨rfl,rfl⟩:=er;exact fun v σ' H' S' ag R'=>q v σ' H' S' ag R'
theorem a9h (i j:Nat) {st:Stmt} (h:PS X st (a5h (ad9 X.K "list" ad7 (W2 i)) (Js j))):PS X st (sOf X.K B (a5y i j)):=h.imp fun D σ H z9=>by
 obtain ⟨st,ps,S,as,R,fl,aa,e,q⟩:=z9;obtain ⟨xs,t,e2,e3,rfl,rfl⟩:=a2h e;obtain ⟨w,h1,_,h3⟩:=R.slots i _ true e2;obtain ⟨p0,rfl,ow⟩:=h3 rfl;obtain ⟨vs,hH,h4⟩:=ow.own;obtain ⟨y,hy,ry⟩:=h4.get e3;have dQ:vs[vs.length - 1]? = some y:=by rw [h4.length]; exact hy
 have R2:=R.turn (ob:=.lst vs.dropLast) (t':=.lst xs.dropLast) e2 h1 ⟨_,dz,h4.dropLast⟩;exact ⟨_,h1,.inl ⟨rfl,_,SqL.of hH⟩,p0,vs,y,rfl,rfl,hH,dQ,q _ _ S as (R2.put (i:=j) ry)⟩
end
section
variable {X:Cx} {B:Bas} {e st:Expr} {te:TE} {m:M T} {pos p2 p3 p4:Pos} {j:Nat}
end
end C
end
section
namespace C
open PySem
noncomputable def sIx (n d:Nat):Option Int->Nat
 | none=>d
 | some v=>if v<0 then (v+(n:Int)).toNat else min v.toNat n
noncomputable def aad (xs:List T) (lo hi:Option Int):List T:=(xs.drop (sIx xs.length 0 lo)).take (sIx xs.length xs.length hi - sIx xs.length 0 lo)
def a83 (lo hi:Option Int):T->Option T
 | .lst xs=>some (.lst (aad xs lo hi))
 | _=>none
noncomputable def Ay (e:M T):M (Option Int):=fun s=>match e s with
 | some (.int i,s1)=>some (some i,s1)
 | _=>none
noncomputable def J6 (m:M T) (lo hi:M (Option Int)):M T:=fun s=>match m s with
 | some (t,s1)=>match lo s1 with
  | some (l,s2)=>match hi s2 with
   | some (h,s3)=>match a83 l h t with
    | some u=>some (u,s3)
    | none=>none
   | none=>none
  | none=>none
 | none=>none
noncomputable def K5 (i:Nat) (k:M T):M T:=fun s=>if Ac i s then (match k s with
 | some (.int j,s1)=>match s1.env[i]? with
  | some (some (.lst xs,_))=>match (ixI xs.length j).bind (xs[·]?) with
   | some t=>some (t,s1)
   | none=>none
  | _=>none
 | _=>none) else none
end C
end
section
namespace C
open PySem PySem.Spec PyProof.Rows L2
section
variable {X:Cx} {B:Bas} {a b:Expr} {m m1 m2:M T} {pos p:Pos} {elts:List Expr} {x1:Nat} {aK:Pos}
end
section
variable {X:Cx}
variable {B:Bas} {o e:Expr} {m1 m2:M T} {apos aw:Pos}
end
theorem a3h (n d:Nat) (o:Option Int):sIx n d o=HT.sIx n d o:=by cases o <;> rfl
inductive oOf (K:PySem.W.Frag) (B:Bas) (m:M (Option Int)) (σ:L2.St) (H:Hp) (Q:Option Int->Hp->Prop):Prop
 | mk (st:Sta) (ps:List (V × T)) (S:Hp) (as:List Addr) (R:Rel K B st σ H ps S as) (o:Option Int) (aa:Sta) (e:m st=some (o,aa)) (q:∀ H' S' ag,Rel K B aa σ H' ps S' ag->Q o H')
section
variable {X:Cx} {B:Bas} {a e:Expr} {m:M T} {ml mh:M (Option Int)} {lo hi:Option Expr} {pos p2:Pos}
theorem Cd (h:PE X e (tOf X.K B m)):PO X (some e) (oOf X.K B (Ay m)):=fun pins s σ H Q I z9=>a6j h pins s σ H Q I (by
 obtain ⟨st,ps,S,as,R,o,aa,eo,q⟩:=z9;unfold Ay at eo;split at eo
 ·rename_i i s1 e1;cases eo;refine ⟨st,ps,S,as,R,.int i,_,e1,fun v H1 S1 af R1=>?_⟩;cases R1.top;exact ⟨i,rfl,q H1 S1 af R1.drop⟩
 ·cases eo)
theorem W0 {s s':Sta} {v:T} (h:J6 m ml mh s=some (v,s')):∃ t s1 l s2 u,m s=some (t,s1)/\ml s1=some (l,s2)/\mh s2=some (u,s')/\a83 l u t=some v:=by
 unfold J6 at h;split at h
 ·rename_i t s1 e1;split at h
  ·rename_i l s2 e2;split at h
   ·rename_i u s3 e3;split at h
    ·rename_i w e4; cases h; exact ⟨t,s1,l,s2,u,e1,e2,e3,e4⟩
    ·cases h
   ·cases h
  ·cases h
 ·cases h
theorem p8.takes {K:PySem.W.Frag} {S:Hp} {as:List Addr}:∀ (n:Nat) {vs:List V} {ts:List T},p8 K S as vs ts->p8 K S as (vs.take n) (ts.take n)
 | 0,_,_,_=>.nil
 | _+1,_,_,.nil=>.nil
 | n+1,_,_,.cons h r=>.cons h (p8.takes n r)
theorem a1a {K:PySem.W.Frag} {S:Hp} {as:List Addr} {vs:List V} {ts:List T} (r:p8 K S as vs ts) (lo hi:Option Int):p8 K S as (a0t vs lo hi) (aad ts lo hi):=by
 unfold a0t aad;rw [a3h,a3h,r.length];exact p8.takes _ (r.drop _)
theorem a0x (ha:PE X a (tOf X.K B m)) (hl:PO X lo (oOf X.K B ml)) (hh:PO X hi (oOf X.K B mh)):PE X (.Subscript a (.Slice lo hi none p2) pos) (tOf X.K B (J6 m ml mh)) :=
 (U8 a5b ha hl hh).imp fun σ H Q z9=>by
  obtain ⟨st,ps,S,as,R,t,aa,e,q⟩:=z9;obtain ⟨t1,s1,l,s2,u,e1,e2,e3,e4⟩:=W0 e;refine ⟨st,ps,S,as,R,t1,s1,e1,fun v H1 S1 af R1=>⟨s1,_,S1,af,R1,l,s2,e2,fun H2 S2 az R2=>⟨s2,_,S2,az,R2,u,aa,e3,fun H3 S3 aJ R3=>?_⟩⟩⟩;have top:=R3.top;cases top with
  | @lst b vs ts g1 g2 =>
   simp only [a83] at e4; cases e4;refine ⟨b,vs,rfl,jc R3.sub g1,fun p hp=>?_⟩;have x:=Ext.laid R3.sub hp (.lst (a0t vs l u));exact q _ _ _ _ ((R3.drop.ext x).push (.lst (SqL.of dz) ((a1a g2 l u).mono x.s nol)))
  | _=>exact ig e4
end
section
variable {prog:Program} {w:World} {A:Around} {E:Value->Shared->Prop} {s:Shared}
theorem P0 {sl:Addr} {t:Tok} {n:Nat} {Q:Int × Int × Nat->Shared->Prop} (hs:s.heap.IsSliceOf sl .none .none (.int (-1) t)) (h:Q ((n:Int) - 1,-1,n) s):wpAny (model prog w) A (Builtin.Slice.sliceApplied (.ref sl) (pure (n:Int))) Q E s:=by
 obtain ⟨os,g1,g2,g3⟩:=id hs
 have ea:Builtin.Slice.sliceAdjust none none (-1) (n:Int)=((n:Int) - 1,-1):=by
  unfold Builtin.Slice.sliceAdjust;simp
 have en:Builtin.Slice.slicePlaces ((n:Int) - 1) (-1) (-1)=n:=by
  unfold Builtin.Slice.slicePlaces;have h1:¬ ((-1:Int) > 0):=by decide
  rw [if_neg h1];split
  ·first
   | (simp; done)
   | (simp; omega)
  ·omega
 unfold Builtin.Slice.sliceApplied Builtin.Slice.sliceFields;refine wpAny_bind (wpAny_bind (wpAny_field g1 g3 (x:=.none) rfl (wpAny_bind (wpAny_field g1 g3 (x:=.none) rfl (wpAny_bind (wpAny_field g1 g3 (x:=.int (-1) t) rfl (wpAny_pure ?_)))))));refine wpAny_bind (HT.Gf (.int (-1) t) ?_);refine (show wpAny _ _ (if ((-1:Int)==0)=true then _ else _) _ _ s from ?_);rw [if_neg (by decide)];refine wpAny_bind (HT.Gf .none (wpAny_bind (HT.Gf .none (wpAny_bind (wpAny_pure ?_)))));refine (show wpAny _ _ (match Builtin.Slice.sliceAdjust none none (-1) (n:Int) with | (lo,hi)=>pure (lo,(-1:Int),Builtin.Slice.slicePlaces lo hi (-1))) _ _ s from ?_);rw [ea];refine (show wpAny _ _ (pure ((n:Int) - 1,(-1:Int),Builtin.Slice.slicePlaces ((n:Int) - 1) (-1) (-1))) _ _ s from ?_);rw [en];exact wpAny_pure h
theorem a9i {α β:Type} {f g:α->Option β}:∀ {l:List α},(∀ a∈l,f a=g a)->l.filterMap f=l.filterMap g
 | [],_=>rfl
 | a::l,h=>by rw [List.filterMap_cons,List.filterMap_cons,h a List.mem_cons_self,a9i fun b hb=>h b (List.mem_cons_of_mem _ hb)]
theorem Ym (xs:Array Value):((List.range xs.size).filterMap fun (m:Nat)=>xs[(((xs.size:Nat):Int) - 1+(m:Int) * (-1)).toNat]?)=xs.toList.reverse:=by
 have e:∀ m∈List.range xs.size,xs[(((xs.size:Nat):Int) - 1+(m:Int) * (-1)).toNat]? = some (xs.toList.reverse.getD m .none):=fun m hm=>by
  have hm:=List.mem_range.mp hm;have e1:(((xs.size:Nat):Int) - 1+(m:Int) * (-1)).toNat=xs.size - 1 - m:=by omega
  rw [e1,List.getD_eq_getElem?_getD,List.getElem?_reverse (by rw [Array.length_toList]; exact hm),Array.getElem?_toList,Array.length_toList,Array.getElem?_eq_getElem (by omega)];rfl
 rw [a9i e];rw [show (fun (x:Nat)=>some (xs.toList.reverse.getD x Value.none))=some ∘ fun x=>xs.toList.reverse.getD x .none from rfl,List.filterMap_eq_map];apply List.ext_getElem
 ·simp
 ·intro i h1 h2;simp [List.getD_eq_getElem?_getD,List.getElem?_eq_getElem h2]
theorem V7 {t sl:Addr} {k:Tok} {items:Array Value} {Q:Value->Shared->Prop} (ht:IsTup s.heap t items) (hs:s.heap.IsSliceOf sl .none .none (.int (-1) k))
  (h:Q (.ref s.heap.objs.size) { s with heap:=s.heap.push { cls:=.type "tuple",data:=.seq items.toList.reverse.toArray } }) (hsz:items.size<=sizeLine):wpAny (model prog w) A (getItem (.ref t) (.ref sl)) Q E s:=by
 have hz:sizeOk (.seq items.toList.reverse.toArray):=by
  show items.toList.reverse.toArray.size<=sizeLine;rw [List.size_toArray,List.length_reverse,Array.length_toList]; exact hsz
 obtain ⟨os,g1,g2,g3⟩:=id hs;have ty:s.TypeIs (.ref sl) "slice" := ⟨os,g1,g2⟩;unfold getItem
 try with_reducible refine wpAny_holding ?_
 first | refine wpAny_bind (wpAny_pure ?_) | skip
 refine wpAny_bind (wpAny_sequenceKey ht.typeIs (by decide) (wpAny_bind (wpAny_callSpecial?_slot (name:=Str.ofString "__getitem__") ht.typeIs PyProof.Rows.slot_tuple_getitem
  (wpAny_call_entry PyProof.Rows.slot_tuple_getitem ht.typeIs entry_tuple_getitem ?_ (args_tuple_getitem _ _)))))
 refine (show wpAny _ _ (Builtin.Tuple.tupleItemsOf (.ref t) >>= _) _ _ s from wpAny_bind (tupleItemsOf_ ht (wpAny_bind (wpAny_typeOf ty ?_))));rw [if_pos (by decide)];refine wpAny_bind (P0 hs ?_);refine (show wpAny _ _ (if ((((items.size:Nat):Int) - 1)==0&&(-1:Int)==1&&items.size==items.size)=true then _ else _) _ _ s from ?_);rw [if_neg (by rw [show ((-1:Int)==1)=false from rfl,Bool.and_false,Bool.false_and]; exact Bool.false_ne_true),Ym]
 first
  | exact wpAny_bind (m:=Builtin.Tuple.tupleExact _) (wpAny_newObj_type (wpAny_pure ⟨_,rfl,wpAny_pure h⟩) hz)
  | exact wpAny_bind (m:=Builtin.Tuple.tupleExact _) (wpAny_newObj_type (wpAny_bind (wpAny_pure (wpAny_pure ⟨_,rfl,wpAny_pure h⟩))) hz)
  | exact wpAny_bind (wpAny_bind (m:=Builtin.Tuple.tupleExact _) (wpAny_newObj_type (wpAny_pure (wpAny_pure ⟨_,rfl,wpAny_pure h⟩)) hz))
  | exact wpAny_bind (wpAny_bind (m:=Builtin.Tuple.tupleExact _) (wpAny_newObj_type (wpAny_pure ⟨_,rfl,wpAny_pure h⟩) hz))
end
section
variable {X:Cx} {B:Bas} {e:Expr} {te:TE} {m m1 m2:M T} {pos p p2 p3 p4:Pos} {j:Nat}
def ac1 (K:PySem.W.Frag):V->Hp->VK->Prop:=fun x H Q=>∃ a xs,x=.ref a/\((SqL K H a xs/\∀ p,H p=none->Q (.ref p) (upd H p (.lst xs.reverse)))\/(SqT K H a xs/\∀ p,H p=none->Q (.ref p) (upd H p (.tup xs.reverse))))
theorem a72:PE X (.UnaryOp .USub (.Constant (.int 1) j p4) p3) (tC (.int (-1))):=(a9r a3w a4j).imp fun σ H Q q=>⟨1,rfl,q⟩
theorem a77 (he:PE X e te):PE X (.Subscript e (.Slice none none (some (.UnaryOp .USub (.Constant (.int 1) j p4) p3)) p2) pos) (fun σ H Q=>te σ H fun x H1=>ac1 X.K x H1 Q):=by
 intro pins s σ H Q I h;refine Subscript_ (thn (he pins s σ H _ I h) fun v s1 z0=>?_);obtain ⟨x,H1,I1,r1,q1⟩:=z0;refine wpAny_Slice ?_;rw [evalPart_none];refine wpAny_pure (wpAny_pure ?_);rw [evalPart_some];refine thn (a72 pins s1 σ H1 (fun v H2=>v=.int (-1)/\H2=H1) I1 ⟨rfl,rfl⟩) fun vk s2 z0=>?_;obtain ⟨y,H2,I2,r2,ey,eH⟩:=z0;subst ey eH;obtain ⟨t,rfl⟩:=r2;obtain ⟨a,xs,rfl,hx⟩:=q1;cases r1;have I4:L2.Inv X pins σ H2 { s2 with heap:=s2.heap.push { cls:=.type "slice",data:=.fields #[.none,.none,.int (-1) t] } }:=I2.kept (t':=s2.toks) fun b ob q=>Heap.get?_push_of_some _ q;rcases hx with ⟨hx,q⟩ | ⟨hx,q⟩
 ·obtain ⟨ae,r,ht,hz⟩:=I4.list hx;have hlen:=r.length;refine tail_any (ops:=[.ref a,.ref s2.heap.objs.size]) (T := "list") ht.isList.typeIs slot_list_getitem.lookup ?_ (by with_unfolding_all rfl);refine wpAny_getItem_list_slice ht.isList (Heap.IsSliceOf.new ..) .none .none (.int (-1) t) (by decide) ?_ (by rw [List.size_toArray] <;> omega);rw [PySem.W.krv_pick];refine ⟨.ref _,_,I4.laid (t':=s2.toks) (o:=.lst xs.reverse) (fun b ob q=>Heap.get?_push_of_some _ q) (Nat.le_refl _) ?_,rfl,q _ (I4.hok.fresh (Nat.le_refl _))⟩;exact ⟨by rw [List.length_reverse]; exact hz,_,0,by simpa using r.reverse,Heap.get?_push_size _ rfl⟩
 ·obtain ⟨ae,r,ht,hz⟩:=I4.tuple hx;have hlen:=r.length;refine tail_any (ops:=[.ref a,.ref s2.heap.objs.size]) (T := "tuple") ht.typeIs PyProof.Rows.slot_tuple_getitem.lookup ?_ (by with_unfolding_all rfl);refine V7 ht (Heap.IsSliceOf.new ..) ?_ (by rw [List.size_toArray] <;> omega);refine ⟨.ref _,_,I4.laid (t':=s2.toks) (o:=.tup xs.reverse) (fun b ob q=>Heap.get?_push_of_some _ q) (Nat.le_refl _) ?_,rfl,q _ (I4.hok.fresh (Nat.le_refl _))⟩;exact ⟨by rw [List.length_reverse]; exact hz,ae.reverse,r.reverse,a0d.new _ ae.reverse.toArray⟩
theorem a68 (ha:PE X e (tOf X.K B m)):PE X (.Subscript e (.Slice none none (some (.UnaryOp .USub (.Constant (.int 1) j p4) p3)) p2) pos) (tOf X.K B (mUn a7r m)) :=
 (a77 ha).imp fun σ H Q z9=>by
  obtain ⟨st,ps,S,as,R,t,aa,e,q⟩:=z9;obtain ⟨t1,e1,e3⟩:=Xr e;refine ⟨st,ps,S,as,R,t1,aa,e1,fun v H1 S1 af R1=>?_⟩;have top:=R1.top;cases top with
  | @lst a vs ts g1 g2 =>
   simp only [a7r] at e3; cases e3;refine ⟨a,vs,rfl,.inl ⟨jc R1.sub g1,fun p hp=>?_⟩⟩;have x:=Ext.laid R1.sub hp (.lst vs.reverse);exact q _ _ _ _ ((R1.drop.ext x).push (.lst (SqL.of dz) (g2.reverse.mono x.s nol)))
  | @tup a vs ts g1 g2 =>
   simp only [a7r] at e3; cases e3;refine ⟨a,vs,rfl,.inr ⟨lq R1.sub g1,fun p hp=>?_⟩⟩;have x:=Ext.laid R1.sub hp (.tup vs.reverse);exact q _ _ _ _ ((R1.drop.ext x).push (.tup (SqT.of dz) (g2.reverse.mono x.s nol)))
  | _=>exact ig e3
theorem zj {x:Str} {i:Int} (hg:Gl X x) (h:∃ tk,X.mg x=some (.int i tk)) (hd:(x==("__debug__" : Str))=false:=by decide):PE X (.Name x pos) (tOf X.K B (ao (.int i))):=by
 obtain ⟨tk,h⟩:=h;exact Dd (v:=.int i) (Bq hg h (show RelV (.int i) _ from ⟨tk,rfl⟩) hd) fun _ _=>.int i
theorem Vu {i:Nat} {k:M T} {s s':Sta} {t:T} (h:K5 i k s=some (t,s')):Ac i s=true/\∃ j xs f n,k s=some (.int j,s')/\s'.env[i]? = some (some (.lst xs,f))/\ixI xs.length j=some n/\xs[n]? = some t:=by
 unfold K5 at h;split at h
 ·rename_i hd;refine ⟨hd,?_⟩;split at h
  ·rename_i j s1 e1;split at h
   ·rename_i xs f e2;split at h
    ·rename_i u e3;cases h;obtain ⟨n,h1,h2⟩:=Option.bind_eq_some_iff.mp e3;exact ⟨j,xs,f,n,e1,e2,h1,h2⟩
    ·cases h
   ·cases h
  ·cases h
 ·cases h
theorem a2n (i:Nat) {o k:Expr} {mk:M T} (ho:PE X o (W2 i)) (hk:PE X k (tOf X.K B mk)) (hs:Rn k):PE X (.Subscript o k pos) (tOf X.K B (K5 i mk)):=(a8w Xv ho hk hs).imp fun σ H Q z9=>by
 obtain ⟨st,ps,S,as,R,t,aa,e,q⟩:=z9;obtain ⟨hd,j,xs,f,n,e1,e2,e3,e4⟩:=Vu e;obtain ⟨aV,f0,e0⟩:=Cu hd;obtain ⟨p0,vs0,s0,_⟩:=R.listAt e0;refine ⟨_,s0,st,ps,S,as,R,.int j,aa,e1,fun u H2 S2 az R2=>?_⟩;cases R2.top;obtain ⟨p1,vs1,s1,rd1,h4⟩:=R2.listAt e2;rw [s0] at s1; cases s1;obtain ⟨z,hz,rz⟩:=h4.get e4;refine ⟨p0,vs1,j,z,rfl,rfl,rd1,?_,q z H2 S2 az (R2.drop.push rz)⟩;rw [Tg,<- h4.length] at e3;unfold atI; rw [e3]; exact hz
theorem Lb {a:Expr} {pc:Pos} (hg:Gl X "isinstance") (hm:X.mg "isinstance" = none) (b5:Gl X "str") (b6:X.mg "str" = none) (ha:PE X a (tOf X.K B m)) (he:starEach [a,.Name "str" pc] X.env=(false,eval a X.env)::starEach [.Name "str" pc] X.env:=by rfl) :
  PE X (.Call (.Name "isinstance" p) [a,.Name "str" pc] [] pos) (tOf X.K B (dg isStr (aj m c7))):=by
 rw [show isStr=_ from funext a0m];exact Tn (cn := "str") hg hm b5 b6 Zg (fun t ty h=>by cases t <;> cases h <;> rfl) ha (by decide) (by decide) he
end
end C
end
section
end
section
namespace C
open PySem PySem.Spec L2
def Held (K:PySem.W.Frag) (u:Value) (t:T):Prop:=∃ v,RelV v u/\∀ S as,Rep K S as v t
def m7 (K:PySem.W.Frag) (us:List Value) (ts:List T):Prop:=∃ vs,Vals vs us/\∀ S as,p8 K S as vs ts
section
variable {K:PySem.W.Frag}
theorem Held.str {x:Str} {tk:Tok}:Held K (.str x tk) (.str x):=⟨.str x,⟨tk,rfl⟩,fun _ _=>.str x⟩
theorem m7.nil:m7 K [] []:=⟨[],.nil,fun _ _=>.nil⟩
theorem m7.cons {u:Value} {t:T} {us:List Value} {ts:List T} (h:Held K u t) (hs:m7 K us ts):m7 K (u::us) (t::ts):=by
 obtain ⟨v,r,e⟩:=h;obtain ⟨vs,rs,es⟩:=hs;exact ⟨v::vs,.cons r rs,fun S as=>.cons (e S as) (es S as)⟩
theorem Held.tup {a:Addr} {us:List Value} {n:Nat} {sl:Array (Option Value)} {ts:List T} (h:K.lookup a=some ⟨.type "tuple",none,.seq us.toArray n,sl⟩) (hz:us.length<=1000) (hs:m7 K us ts):Held K (.ref a) (.tup ts):=by
 obtain ⟨vs,rs,es⟩:=hs;refine ⟨.ref a,rfl,fun S as=>.tup (.inr ⟨_,us.toArray,n,h,rfl,rfl,rfl,?_,?_⟩) (es S as)⟩
 ·rw [List.size_toArray,sizeLine_eq]; omega
 ·exact rs
end
section
variable {X:Cx} {B:Bas} {pos:Pos}
theorem vo {x:Str} {t:T} (hg:Gl X x) (h:∃ u,X.mg x=some u/\Held X.K u t) (hd:(x==("__debug__" : Str))=false:=by decide):PE X (.Name x pos) (tOf X.K B (ao t)):=by
 obtain ⟨u,h,v,r,e⟩:=h;exact Dd (v:=v) (Bq hg h r hd) e
end
end C
end
section
namespace C
open PySem PySem.Spec PyProof.Rows
section
variable {prog:Program} {w:World} {A:Around} {E:Value->Shared->Prop} {s:Shared}
end
section
variable {prog:Program} {w:World} {A:Around} {R:Result->Shared->Prop} {I:Addr} {fp wr:List Addr} {G:Array GenState->Array GenState->Prop} {n:Nat} {P:Nat->Value->Prop} {St:Nat->Shared->Prop}
end
section
variable {prog:Program} {w:World} {A:Around} {E:Value->Shared->Prop} {s:Shared}
end
section
variable {prog:Program} {w:World} {A:Around} {E:Value->Shared->Prop} {s:Shared}
end
section
variable {prog:Program} {w:World} {A:Around} {E:Value->Shared->Prop} {s:Shared}
end
section
variable {prog:Program} {w:World} {A:Around} {E:Value->Shared->Prop} {s:Shared} {I a:Addr} {i n ep:Nat} {o:Obj} {es:Array (Int × Value)} {t:SetTable} {Q:Option Value->Shared->Prop}
end
section
variable {prog:Program} {w:World} {A:Around} {E:Value->Shared->Prop} {s:Shared} {I a q:Addr} {i n ep:Nat} {o:Obj} {es:Array (Int × Value)} {t:SetTable} {Q:Option Value->Shared->Prop} {ps:List Nat}
end
section
variable {prog:Program} {w:World} {A:Around} {E:Value->Shared->Prop} {s:Shared} {I a q:Addr} {n ep:Nat} {o:Obj} {es:Array (Int × Value)} {t:SetTable} {ps:List Nat}
end
section
variable {prog:Program} {w:World} {A:Around} {E:Value->Shared->Prop} {s:Shared} {a:Addr} {o:Obj} {l:List Str}
end
section
variable {prog:Program} {w:World} {A:Around} {E:Value->Shared->Prop} {s:Shared} {a:Addr} {o:Obj} {l:List Str}
end
end C
end
section
namespace C
open PySem PySem.Spec PyProof.Rows L2
section
variable {X:Cx} {B:Bas} {e:Expr} {m1:M T} {p1 p2 p3 p4:Pos}
end
open AutoSeq1 (wpAny_loadPart') -- here
open MeetsSeq MeetsSeq2 MeetsSeq3 -- here
section
variable {prog:Program} {w:World}
end
section
variable {X:Cx} {pins:List (Addr × Obj)} {σ:L2.St} {H S:Hp} {s:Shared} {as:List Addr}
end
end C
end
section
namespace C
open PySem PySem.Spec PyProof.Rows L2
theorem a75 {K:PySem.W.Frag} {F:Fn} {H:Hp} {a:Addr} {ns:List Int} (hS:SqL K H a (ns.map V.int)) (hE:∃ st,F [.lst (ns.map T.int)] []=some (.bl true,st)):spF K 1 F [.ref a] H (fun v _=>v=.bl true) fun _ _ _=>False:=by
 obtain ⟨st,hF⟩:=hE
 have eh:∀ (S:Hp) (l:List Int),p8 K S [] (l.map V.int) (l.map T.int):=fun S l=>by
  induction l with
  | nil=>exact .nil
  | cons x l ih=>exact .cons (.int x) ih
 let S:Hp:=fun p=>if p=a then H p else none
 have sa:S a=H a:=if_pos rfl
 have sub:Same S H:=fun p u h=>by
  by_cases e:p=a
  ·subst e; rw [<- sa]; exact h
  ·have:S p=none:=if_neg e;rw [this] at h; cases h
 have sq:SqL K S a (ns.map V.int):=by
  rcases hS with h | h
  ·refine .inl ?_;unfold Rd at h ⊢;rw [sa]; exact h
  ·exact .inr h
 refine ⟨S,[],[],[.lst (ns.map T.int)],.bl true,st,sub,⟨rfl,.nil,fun n so e=>by simp at e⟩,.cons (.lst sq (eh S ns)) .nil,rfl,hF,fun v H' S' ag _ _ _ r=>?_⟩;cases r;rfl
end C
end
section
namespace C
open PySem
noncomputable def Ed:T->T->Option T
 | .lst xs,.int j=>if 0<=j/\j<1000000/\xs.length * j.toNat<lim then some (.lst (List.replicate j.toNat xs).flatten) else none
 | _,_=>none
abbrev FnX:=List T->List SO->Option ((T ⊕ T) × List SO)
abbrev SX:=Sta->Option ((Flow ⊕ T) × Sta)
def lx (u:S):SX:=fun s=>match u s with
 | some (fl,s1)=>some (.inl fl,s1)
 | none=>none
def o7 (a b:SX):SX:=fun s=>match a s with
 | some (.inl .next,s1)=>b s1
 | r=>r
noncomputable def xIf (c:M Bool) (a b:SX):SX:=fun s=>match c s with
 | some (true,s1)=>a s1
 | some (false,s1)=>b s1
 | none=>none
def xu (m:M T):SX:=fun s=>match m s with
 | some (t,s1)=>some (.inr t,s1)
 | none=>none
noncomputable def jw (n:Nat) (b:SX):FnX:=fun ts sto=>match b ⟨ts.map (fun t=>some (t,false))++List.replicate (n - ts.length) none,sto⟩ with
 | some (.inl (.ret t),s)=>some (.inl t,s.sto)
 | some (.inl .next,s)=>some (.inl .non,s.sto)
 | some (.inr t,s)=>some (.inr t,s.sto)
 | _=>none
def norm (F:FnX):Fn:=fun ts sto=>match F ts sto with
 | some (.inl t,s)=>some (t,s)
 | _=>none
def clr (i:Nat) (s:Sta):Sta:={ s with env:=s.env.set i none }
noncomputable def mXf (c:Nat) (f:Str) (m:M T):M T:=fun s=>match m s with
 | some (.obj n,s1)=>match s1.sto[n]? with
  | some (.exc d g t)=>if d=c/\g=f then some (t,s1) else none
  | _=>none
 | _=>none
noncomputable def Qe (tb:List (Nat × Str × Bool)) (m:M T):M T:=fun s=>match m s with
 | some (.obj n,s1)=>match s1.sto[n]? with
  | some (.exc d g _)=>match tb.find? (fun p=>p.1==d&&p.2.1==g) with
   | some p=>some (.bl p.2.2,s1)
   | none=>none
  | _=>none
 | _=>none
noncomputable def Zi (c:Nat) (f:Str) (F:FnX) (a:M (List T)) (i j:Nat):S:=fun s=>match a s with
 | some (ts,s1)=>match F ts s1.sto with
  | some (.inr t,sto)=>some (.next,clr i (iu j (.obj sto.length) false (clr i { s1 with sto:=sto++[.exc c f t] })))
  | _=>none
 | none=>none
end C
end
section
namespace My
open PySem PySem.W PySem.Calls PyProof.Rows PySem.Spec
abbrev vB:List Value:=[.type "ValueError",.type "Exception",.type "BaseException",.type "object"]
theorem acj {K:Frag} {h:Heap} {D:Addr} {newId:String} (X:K.In h) (q:excIn K D vB newId=true):OwnTail h vB (.ref D::vB):=by
 refine tail_of_in X ?_;unfold excIn at q;unfold tailIn;split at q
 ·rename_i dd cd sl ho;split at q
  ·simp only [Bool.and_eq_true] at q;dsimp only;rw [ho];dsimp only;rw [q.1.2,q.2];have z:tailIn K vB vB=true:=by unfold tailIn; rfl
   rw [z];simp
  ·cases q
 ·cases q
abbrev Ww (C t:Addr):Obj:={ cls:=.ref C,data:=.fields #[.ref t,.none,.none,.none,.bool false,.none] }
abbrev a3x (vs:List Value):Obj:={ cls:=.type "tuple",data:=.seq vs.toArray }
section
variable {prog:Program} {w:World} {A:Around} {E:Value->Shared->Prop} {s:Shared} {h₀:Heap} {L:Addr} {m:Str->Option Value} {news:List (Addr × Obj)} {K:Frag}
variable {nm q:Str} {C D Na:Addr} {bs:List Value} {hdct:Bool} {sn:List Str} {sub:List Value} {ab:Bool} {col:Option Bool} {dd:Option Addr} {k0 k1 k2 k3 k5:Option Value}
theorem Jv {h:Heap} {g:Array GenState} {d:Drawn} {t:Nat} {os:OsState} {rest:List Value} {fI:Addr} {R:Fin->Shared->Prop} (X:K.In h)
  (hC:h.get? C=some (excClassObj nm q C Na bs (.ref D::vB) hdct sn sub ab col dd k0 k1 k2 k3 k5 "ValueError.__new__")) (T:OwnTail h vB (.ref D::vB))
  (hi:findIn K (.ref C) "__init__" = some (some (.ref fI))) (hf:typeIn K (.ref fI)=some (.type "function"))
  (hq:wpAny (model prog w) A (call (.ref fI) (.ref (h.objs.size+1)::rest)) (fun r s'=>r=.none/\R (.done (.ret (.ref (h.objs.size+1)))) s') E ⟨(h.push (a3x rest)).push (Ww C h.objs.size),g,d,t,os⟩) (bS:rest.length<=sizeLine) :
  wpAny (model prog w) A (Builtin.«type.__call__» ⟨.ref C::rest,[]⟩) R E ⟨h,g,d,t,os⟩:=by
 have Fv:=PySem.F.excBase_ValueError;have hv:vB.contains (.type "ValueError")=true:=by decide
 repeat (first | with_reducible refine wpAny_loadPart_at hC ?_ | with_reducible refine wpAny_madeBy_exc hC ?_ | wp_step) -- here
 refine codeAny_call_builtin_code (Code.quiet_builtin _ Fv.quiet) (wpAny_check_new_subU Fv hv T hC ?_);refine codeAny_exc_new_subU Fv hv Fv T hC ?_ bS;show wpAny _ _ _ _ _ _;have kp:∀ b o,h.get? b=some o->((h.push (a3x rest)).push (Ww C h.objs.size)).get? b=some o:=fun b o e=>Heap.get?_push_of_some _ (Heap.get?_push_of_some _ e);have X1:=X.keeps kp;have dI:((h.push (a3x rest)).push (Ww C h.objs.size)).get? (h.objs.size+1)=some (Ww C h.objs.size):=by heap_get
 have gp:(Value.ref C :: .ref D::vB).contains (.ref C)=true:=by simp
 have fo:=kp _ _ hC;unfold isInstance
 repeat (first | with_reducible refine wpAny_loadPart_at dI ?_ | (with_reducible refine wpAny_isSubtype_exc fo ?_; rw [gp]) | wp_step)
 show wpAny _ _ (typeLookup (.ref C) _) _ _ _;refine looks_findIn X1 hi _ _ _ _ (fun _ _ e=>e) ?_;refine wpAny_holding (wpAny_bind ?_);refine bind_fn X1 _ hf _ _ _ _ (fun _ _ e=>e) ?_;refine wpAny_bind (wpAny_mono hq (fun r s' hr=>?_) fun _ _ x=>x);obtain ⟨rfl,hQ⟩:=hr
 wp_walk
 exact hQ
end
end My
end
section
namespace My
open PySem PySem.W PySem.Calls PyProof.Rows PySem.Spec Builtin.ObjectAttr
abbrev a0l (C t dx:Addr):Obj:={ cls:=.ref C,dict:=some dx,data:=.fields #[.ref t,.none,.none,.none,.bool false,.none] }
theorem abx (self:Value):refuseLoop self "__setattr__" vB=pure ():=by kernel_rfl
section
variable {prog:Program} {w:World} {A:Around} {E:Value->Shared->Prop} {s:Shared} {h₀:Heap} {L:Addr} {m:Str->Option Value} {news:List (Addr × Obj)} {K:Frag} {x C D t:Addr} {cd:ClassData} {name:Str} {v:Value} {g:Obj->List (Addr × Obj)}
end
theorem Te:builtinKind "BaseException.__getattribute__" = some .slot:=by decide +kernel
theorem Py:splitId "BaseException.__getattribute__" = some ("BaseException","__getattribute__"):=by decide +kernel
section
variable {prog:Program} {w:World} {A:Around} {E:Value->Shared->Prop} {s:Shared} {K:Frag} {x C:Addr} {ox:Obj} {od:Option Obj} {name:Str} {v:Value} {expr:Bool}
theorem a2i {Q:Value->Shared->Prop} (X:K.In s.heap) (I:InstAt s.heap x ox C od) (cq:findIn K (.ref C) "__getattribute__" = some (some (.builtin "BaseException.__getattribute__")))
  (b9:findIn K (.ref C) "__getattr__" = some none) (hb:mroIn K C (.type "BaseException")=some true) (hf:findObj K C od name=some (.value v)) (hh:handedIn v=true) (h:Q v { s with toks:=s.toks+1 }) :
  wpAny (model prog w) A (getAttr (.ref x) name expr) Q E s:=by
 obtain ⟨hp,g,d,tk,os⟩:=s;have FB:=PySem.F.excAttr_ValueError;have f3:=FB.ga.bind (.ref x);have L0:=I.type (M:=model prog w);have L1:=looks_findIn (M:=model prog w) X cq;have L2:=looks_findIn (M:=model prog w) X b9;have L3:=looks_find (M:=model prog w) X I hf;have L4:Looks (model prog w) hp (isInstance (.ref x) (.type "BaseException")) true:=I.type.andThen (looks_mroIn X hb);have d3:(expr&&onTheHeap (Value.builtin "BaseException.__getattribute__"))=false:=by cases expr <;> rfl
 have dY:(Value.builtin "BaseException.__getattribute__" == Value.builtin "object.__getattribute__")=false:=by decide +kernel
 unfold getAttr getAttrBy;refine wpAny_bind (wpAny_mkText (wpAny_holding (wpAny_bind (L0.at (wpAny_bind (L1.at ?_))))));dsimp only;rw [dY,Bool.and_false];rw [if_neg (by decide)];unfold getAttrByItsOwn;have LH:Looks (model prog w) hp (hookBefore (.ref C)) none:=looks_hook (mc:=.ref C) X (by rw [if_pos (show onTheHeap (.ref C)=true from rfl)]; exact b9);refine wpAny_bind (LH.at (wpAny_bind (wpAny_attempt (wpAny_holding ?_))));unfold callGetattribute;rw [d3,if_neg (by decide)];unfold boundAndCalled;rw [f3];refine wpAny_bind (wpAny_pure ?_);show wpAny _ _ (call (.builtin "BaseException.__getattribute__") [.ref x,.str name tk]) _ _ _;refine wpAny_call (codeAny_call_builtin FB.ga.plain PySem.F.entry_bexc_ga (@check_slot (model prog w) _ _ _ "BaseException.__getattribute__" "BaseException" "__getattribute__" (.ref x) [.str name tk] [] _ Te Py L4 (PySem.F.args_bexc_ga (.ref x) (.str name tk)) ?_));unfold Builtin.«object.__getattribute__»;refine wpAny_bind (wpAny_pure (wpAny_bind (wpAny_pure (wpAny_bind (L0.at (wpAny_bind (L3.at ?_)))))));refine wpAny_pure ?_;show wpAny _ _ (handedOut v) _ _ _;rw [handedOut_of hh];exact wpAny_pure h
end
section
variable {prog:Program} {w:World} {A:Around} {E:Value->Shared->Prop} {s:Shared} {K:Frag} {x C:Addr} {ox od:Obj} {name:Str} {tk:Tok} {v:Value} {fill expr:Bool}
theorem Y5 {Q:Value->Shared->Prop} (X:K.In s.heap) (I:InstAt s.heap x ox C (some od)) (cq:findIn K (.ref C) "__getattribute__" = some (some (.builtin "BaseException.__getattribute__")))
  (b9:findIn K (.ref C) "__getattr__" = some none) (hb:mroIn K C (.type "BaseException")=some true)
  (h:∀ A',wpAny (model prog w) A' (Builtin.«object.__getattribute__» ⟨[.ref x,.str name tk],[]⟩) (fun fin s'=>∃ v,fin=.done (.ret v)/\handedIn v=true/\Q v s') (fun _ _=>False) s) :
  wpAny (model prog w) A (getAttrBy (.ref x) (.str name tk) fill expr) Q E s:=by
 obtain ⟨hp,g,d,tt,os⟩:=s;have FB:=PySem.F.attr_ValueError;have f3:=FB.ga.bind (.ref x);have L0:=I.type (M:=model prog w);have L1:=looks_findIn (M:=model prog w) X cq;have L4:Looks (model prog w) hp (isInstance (.ref x) (.type "BaseException")) true:=I.type.andThen (looks_mroIn X hb);have d3:(expr&&onTheHeap (Value.builtin "BaseException.__getattribute__"))=false:=by cases expr <;> rfl
 have dY:(Value.builtin "BaseException.__getattribute__" == Value.builtin "object.__getattribute__")=false:=by decide +kernel
 unfold getAttrBy;refine wpAny_holding (wpAny_bind (L0.at (wpAny_bind (L1.at ?_))));dsimp only;rw [dY,Bool.and_false,if_neg (by decide)];unfold getAttrByItsOwn;have LH:Looks (model prog w) hp (hookBefore (.ref C)) none:=looks_hook (mc:=.ref C) X (by rw [if_pos (show onTheHeap (.ref C)=true from rfl)]; exact b9);refine wpAny_bind (LH.at (wpAny_bind (wpAny_attempt (wpAny_holding ?_))));unfold callGetattribute;rw [d3,if_neg (by decide)];unfold boundAndCalled;rw [f3];refine wpAny_bind (wpAny_pure ?_);show wpAny _ _ (call (.builtin "BaseException.__getattribute__") [.ref x,.str name tk]) _ _ _;refine wpAny_call (codeAny_call_builtin FB.ga.plain PySem.F.entry_bexc_ga (@check_slot (model prog w) _ _ _ "BaseException.__getattribute__" "BaseException" "__getattribute__" (.ref x) [.str name tk] [] _ Te Py L4 (PySem.F.args_bexc_ga (.ref x) (.str name tk)) ?_));refine wpAny_mono (h _) (fun fin s' z=>?_) fun _ _ z=>z.elim;obtain ⟨v,rfl,hh,q⟩:=z;show wpAny _ _ (handedOut v) _ _ _;rw [handedOut_of hh];exact wpAny_pure q
theorem X4 {Q:Option Value->Shared->Prop} (X:K.In s.heap) (I:InstAt s.heap x ox C (some od)) (cq:findIn K (.ref C) "__getattribute__" = some (some (.builtin "BaseException.__getattribute__")))
  (b9:findIn K (.ref C) "__getattr__" = some none) (hb:mroIn K C (.type "BaseException")=some true) (hh:hasDictIn K C=true)
  (ha:findIn K (.ref C) "__class__" = some (some (.builtin "object.__class__"))) (hn:specialIn K (.builtin "object.__class__") "__get__" = some (some (.builtin "getset_descriptor.__get__"))) (ht:takesIn K (.builtin "object.__class__")=some true)
  (hm:mroIn K C (.type "object")=some true) (h:Q (some (.ref C)) { s with toks:=s.toks+1 }):wpAny (model prog w) A (getAttr? (.ref x) "__class__") Q E s:=by
 unfold getAttr?;refine wpAny_bind (wpAny_mkText ?_);unfold getAttrBy?;refine wpAny_bind (wpAny_attempt (Y5 (s:={ s with toks:=s.toks+1 }) X I cq b9 hb fun A'=>?_));have L0:=I.type (M:=model prog w);have L3:=looks_find (M:=model prog w) X I (name := "__class__") (findObj_data (by obtain ⟨cd,hc,_⟩:=any_some hh; rw [hc]; rfl) ha hn ht);unfold Builtin.«object.__getattribute__»;refine wpAny_bind (wpAny_pure (wpAny_bind (wpAny_pure (wpAny_bind (L0 _ _ _ _ (fun _ _ e=>e) (wpAny_bind (L3 _ _ _ _ (fun _ _ e=>e) ?_)))))));dsimp only;unfold bindTo;refine wpAny_bind (wpAny_holding (wpAny_call (class_get (ox:=ox) (od:=some od) X I hm (wpAny_pure ⟨_,rfl,rfl,wpAny_pure h⟩))))
theorem a1g (cq:findIn K (.ref C) "__getattribute__" = some (some (.builtin "BaseException.__getattribute__")))
  (b9:findIn K (.ref C) "__getattr__" = some none) (hb:mroIn K C (.type "BaseException")=some true) (hh:hasDictIn K C=true)
  (ha:findIn K (.ref C) "__class__" = some (some (.builtin "object.__class__"))) (hn:specialIn K (.builtin "object.__class__") "__get__" = some (some (.builtin "getset_descriptor.__get__"))) (ht:takesIn K (.builtin "object.__class__")=some true)
  (hm:mroIn K C (.type "object")=some true):KitX K (.ref x) (.ref C) (fun h=>InstAt h x ox C (some od)) where
 ty:=fun _ _ _ I=>I.type
 it:=fun _ _ X _=>by
  obtain ⟨cd0,hc0,_⟩:=any_some hh;unfold clsIn at hc0;split at hc0
  ·rename_i ho;intro A' Q' E' s' k q;unfold isType loadHead;exact wpAny_bind (wpAny_loadPart (k _ _ (X _ _ ho)) (wpAny_pure q))
  ·cases hc0
 ne:=fun h tp dd ae n sl X gI=>by
  obtain ⟨cd0,hc0,_⟩:=any_some hh;refine Bool.eq_false_iff.mpr fun q=>?_;have e:C=tp:=Value.ref.inj (beq_iff_eq.mp q);subst e;unfold clsIn at hc0;split at hc0
  ·rename_i ho;cases (X _ _ ho).symm.trans gI
  ·cases hc0
 ca:=fun X I k=>X4 X I cq b9 hb hh ha hn ht hm k
end
end My
end
section
namespace L2
open PySem PySem.Spec PyProof.Rows
abbrev Ue (C dx:Addr) (vs:Array Value):Obj:={ cls:=.ref C,dict:=some dx,data:=.fields vs }
structure XAt (h:Heap) (e C dx T:Addr) (fl:Value):Prop where
 ne:T≠e
 at_:∃ vs,h.get? e=some (Ue C dx vs)/\vs[1]? = some (.ref T)
 tb:∃ o ts,h.get? T=some o/\o.data=.fields ts/\ts[3]? = some fl
structure Kp (fs ch:List Addr) (h h':Heap):Prop where
 keep:∀ b o,h.get? b=some o->b∉fs->b∉ch->h'.get? b=some o
 slot:∀ b o,h.get? b=some o->b∉ch->∃ sl,h'.get? b=some { o with slots:=sl }
 there:∀ b o,h.get? b=some o->∃ o',h'.get? b=some o'
 size:h.objs.size<=h'.objs.size
theorem Kp.trans {fs ch:List Addr} {h h1 h2:Heap} (a:Kp fs ch h h1) (b:Kp fs ch h1 h2):Kp fs ch h h2 where
 keep:=fun c o q n m=>b.keep c o (a.keep c o q n m) n m
 slot:=fun c o q m=>by
  obtain ⟨sl,e1⟩:=a.slot c o q m;obtain ⟨de,e2⟩:=b.slot c _ e1 m;exact ⟨de,e2⟩
 there:=fun c o q=>by
  obtain ⟨o',e1⟩:=a.there c o q;exact b.there c o' e1
 size:=Nat.le_trans a.size b.size
theorem Kp.mono {fs ch c8 ch':List Addr} {h h':Heap} (a:Kp fs ch h h') (hf:∀ b∈fs,b∈c8) (hc:∀ b∈ch,b∈ch'):Kp c8 ch' h h' where
 keep:=fun c o q n m=>a.keep c o q (fun z=>n (hf _ z)) fun z=>m (hc _ z)
 slot:=fun c o q m=>a.slot c o q fun z=>m (hc _ z)
 there:=a.there
 size:=a.size
theorem Kp.slots {fs:List Addr} {h h':Heap} (x:Heap.SlotsOnly fs h h'):Kp fs [] h h' where
 keep:=fun b o q n _=>(x.2.1 b n).trans q
 slot:=fun b o q _=>x.2.2 b o q
 there:=fun b o q=>let ⟨sl,e⟩:=x.2.2 b o q; ⟨_,e⟩
 size:=Nat.le_of_eq x.1.symm
theorem Kp.pushed {fs ch:List Addr} {h:Heap} (o:Obj):Kp fs ch h (h.push o) where
 keep:=fun b u q _ _=>Heap.get?_push_of_some _ q
 slot:=fun b u q _=>⟨u.slots,Heap.get?_push_of_some _ q⟩
 there:=fun b u q=>⟨u,Heap.get?_push_of_some _ q⟩
 size:=by rw [Heap.size_push]; exact Nat.le_succ _
theorem Kp.field {fs:List Addr} {h:Heap} {e:Addr} {o:Obj} {vs:Array Value} (he:h.get? e=some o) (hd:o.data=.fields vs) (f:Array Value->Array Value):Kp fs [e] h (h.update e (Obj.mapFields f)) where
 keep:=fun b u q _ m=>by rw [Heap.get?_update_other _ _ (fun z=>m (by simp [z]))]; exact q
 slot:=fun b u q m=>⟨u.slots,by rw [Heap.get?_update_other _ _ (fun z=>m (by simp [z]))]; exact q⟩
 there:=fun b u q=>by
  by_cases z:e=b
  ·subst z; exact ⟨_,Heap.get?_update_self _ he (Obj.isFreed_of_fields (Obj.data_mapFields hd f))⟩
  ·exact ⟨u,by rw [Heap.get?_update_other _ _ z]; exact q⟩
 size:=Nat.le_of_eq (Heap.size_after_update ..).symm
section
variable {M:Model} {A:Around} {E:Value->Shared->Prop} {s:Shared} {base:Heap} {env:Env} {outer:List Env} {L e C dx T:Addr} {fl:Value} {vs:Array Value} {Q:Unit->Shared->Prop}
theorem Ke {head:Value} {hn:Bool} (hfr:A.frames=some (env::outer)) (hl:s.heap.FunFrames base (env::outer)) (hf:env.frame=some L) (he:s.heap.get? e=some (Ue C dx vs)) (h1:1<vs.size)
  (cT:e∉frs (env::outer))
  (h:∀ h' T,s.heap.objs.size<=T->Kp (frs (env::outer)) [e] s.heap h'->XAt h' e C dx T (rawInt L)->Q () { s with heap:=h' }) :
  wpAny M A (frameOf env >>= fun a=>entryPlaceOf L hn >>= fun pl=>EntryCells.newEntry head a .none (rawInt L) .none pl >>= fun b=>setField (.ref e) 1 b) Q E s:=by
 refine wpAny_bind (wpAny_frameOf_fun hfr hl hf fun cK hs=>?_);refine wpAny_bind (wpAny_entryPlaceOf fun pl aE=>?_);unfold EntryCells.newEntry newFields;have e1:cK.get? e=some (Ue C dx vs):=(hs.2.1 e cT).trans he;refine wpAny_bind (wpAny_newObj_type ?_ (aE.sizeOk5 _ _ _ _ _));refine wpAny_setField (Heap.get?_push_of_some _ e1) rfl h1 ?_;have ne:cK.objs.size≠e:=Nat.ne_of_gt (Heap.lt_size e1);refine h _ cK.objs.size (Nat.le_of_eq hs.1.symm) ?_ ⟨ne,⟨vs.setIfInBounds 1 (.ref cK.objs.size),?_,by simp [h1]⟩,?_⟩
 ·exact (((Kp.slots hs).mono (ch':=[e]) (fun _ z=>z) (fun _ z=>nomatch z)).trans (Kp.pushed _)).trans (Kp.field (Heap.get?_push_of_some _ e1) rfl _)
 ·exact Heap.get?_update_self _ (Heap.get?_push_of_some _ e1) rfl
 ·refine ⟨_,_,(Heap.get?_update_other _ _ (Ne.symm ne)).trans (Heap.get?_push_size _ rfl),rfl,?_⟩;rcases aE with rfl | ⟨_,_,_,_,_,_,_,rfl⟩ <;> simp
theorem Vm (hfr:A.frames=some (env::outer)) (hl:s.heap.FunFrames base (env::outer)) (hf:env.frame=some L) (he:s.heap.get? e=some (Ue C dx vs)) (h1:vs[1]? = some .none) (cT:e∉frs (env::outer))
  (h:∀ h' T,s.heap.objs.size<=T->Kp (frs (env::outer)) [e] s.heap h'->XAt h' e C dx T (rawInt L)->Q () { s with heap:=h' }):wpAny M A (noteFrame (.ref e) env) Q E s:=by
 unfold noteFrame;simp only [hf];refine wpAny_bind (wpAny_field he rfl h1 ?_);rw [if_neg (by decide)];exact Ke hfr hl hf he (Array.getElem?_eq_some_iff.mp h1).1 cT h
theorem Xu (hfr:A.frames=some (env::outer)) (hl:s.heap.FunFrames base (env::outer)) (hf:env.frame=some L) (x:XAt s.heap e C dx T .none) (cT:e∉frs (env::outer)) (gZ:T∉frs (env::outer))
  (h:∀ h' T',s.heap.objs.size<=T'->Kp (frs (env::outer)) [e,T] s.heap h'->XAt h' e C dx T' (rawInt L)->Q () { s with heap:=h' }):wpAny M A (noteFrame (.ref e) env) Q E s:=by
 obtain ⟨ne,⟨vs,he,h1⟩,o,ts,hT,hd,h3⟩:=x;have k1:Kp (frs (env::outer)) [T] s.heap (s.heap.update T (Obj.mapFields (·.setIfInBounds 3 Value.none))):=Kp.field hT hd _;unfold noteFrame;simp only [hf];refine wpAny_bind (wpAny_field he rfl h1 ?_);rw [if_pos (show (Value.ref T != Value.none)=true from by simp)];refine wpAny_bind (wpAny_field hT hd h3 ?_);rw [if_neg (show ¬ ((Value.none==rawInt L)=true) from by simp [rawInt])];refine wpAny_bind (wpAny_setField hT hd (Array.getElem?_eq_some_iff.mp h3).1 ?_);have cI:(s.heap.update T (Obj.mapFields (·.setIfInBounds 3 Value.none))).get? e=some (Ue C dx vs):=(Heap.get?_update_other _ _ ne).trans he;refine Ke (base:=base) hfr (hl.of_keeps fun b u q nf=>?_) hf cI (Array.getElem?_eq_some_iff.mp h1).1 cT fun h' T' hz k2 x=>h h' T' (Nat.le_trans k1.size hz) ((k1.mono (fun _ z=>z) (by simp)).trans (k2.mono (fun _ z=>z) (by simp))) x;refine ⟨u,?_,rfl⟩;have:T≠b:=fun z=>by subst z; rw [hT] at q; cases q; exact nf ts hd
 rw [Heap.get?_update_other _ _ this]; exact q
theorem Ga (x:XAt s.heap e C dx T fl) (h:∀ h',Kp [] [T] s.heap h'->XAt h' e C dx T .none->Q () { s with heap:=h' }):wpAny M A (setFlight (.ref e) none) Q E s:=by
 obtain ⟨ne,⟨vs,he,h1⟩,o,ts,hT,hd,h3⟩:=x;have z3:=(Array.getElem?_eq_some_iff.mp h3).1;unfold setFlight;refine wpAny_bind (wpAny_field he rfl h1 ?_);rw [if_pos (show (Value.ref T != Value.none)=true from by simp)];refine wpAny_setField hT hd z3 (h _ (Kp.field hT hd _) ⟨ne,⟨vs,(Heap.get?_update_other _ _ ne).trans he,h1⟩,_,_,Heap.get?_update_self _ hT (Obj.isFreed_of_fields (Obj.data_mapFields hd _)),Obj.data_mapFields hd _,by simp [z3]⟩)
end
end L2
end
section
namespace My
open PySem PySem.W PySem.Calls PyProof.Rows PySem.Spec Builtin.ObjectAttr
section
variable {prog:Program} {w:World} {A:Around} {E:Value->Shared->Prop} {s:Shared} {K:Frag} {x C D t:Addr} {cd:ClassData} {name:Str} {v:Value}
theorem a0o {Q:Unit->Shared->Prop} (X:K.In s.heap) (hx:s.heap.get? x=some (Ww C t))
  (hs:findIn K (.ref C) "__setattr__" = some (some (.builtin "object.__setattr__"))) (hc:clsIn K C=some cd) (hm:cd.mro=.ref C :: .ref D::vB) (hd:cd.hasDict=true)
  (ho:mroIn K C (.type "object")=some true) (ha:findIn K (.ref C) name=some none)
  (h:∀ h',(∀ b o,b≠x->s.heap.get? b=some o->h'.get? b=some o)->h'.get? x=some (a0l C t s.heap.objs.size)->h'.get? s.heap.objs.size=some (dictOf [⟨PyData.keyHash w.params name,.str name (s.toks+1),v⟩] 1)->Q () { s with heap:=h',toks:=s.toks+2 }) :
  wpAny (model prog w) A (setAttr (.ref x) name v) Q E s:=by
 have I:InstAt s.heap x (Ww C t) C none:=⟨hx,rfl,rfl,trivial⟩;refine set_plain X I hs ?_;have SF:=PySem.F.store_object;have sub:Looks (model prog w) s.heap (isInstance (.ref x) (.type "object")) true:=I.type.andThen (looks_mroIn X ho);refine codeAny_call_builtin SF.slot.plain SF.entry (@check_slot (model prog w) _ _ _ "object.__setattr__" "object" "__setattr__" (.ref x) [.str name s.toks,v] [] _ SF.kind SF.split sub (SF.args (.ref x) (.str name s.toks) v) ?_);have fY:Looks (model prog w) s.heap (mroOf (.ref C)) cd.mro:=(looks_clsIn X hc).andThen .now;rw [osa_eq,refuse_eq];refine wpAny_bind (wpAny_bind (I.type _ _ _ _ (fun _ _ e=>e) (wpAny_bind (fY _ _ _ _ (fun _ _ e=>e) ?_))));rw [hm,refuseLoop_ref,refuseLoop_ref,abx];refine wpAny_pure (wpAny_bind (I.type _ _ _ _ (fun _ _ e=>e) (wpAny_bind (looks_findIn X ha _ _ _ _ (fun _ _ e=>e) (wpAny_bind (wpAny_pure ?_))))));dsimp only;refine wpAny_bind (wpAny_pure (wpAny_bind (wpAny_bind (wpAny_loadPart hx (wpAny_bind (looks_clsIn X hc _ _ _ _ (fun _ _ e=>e) ?_))))));rw [hd];show wpAny _ _ (alloc { cls:=.type "dict",data:=.dict #[] } >>= fun dx=>update x (fun o=>{ o with dict:=some dx }) >>= fun _=>dictMade (.ref C) x dx) _ _ _;have lx:x<s.heap.objs.size:=Heap.lt_size hx;have g1:=Heap.get?_push_of_some (h:=s.heap) (dictOf [] 0) hx;have g2:((s.heap.push (dictOf [] 0)).update x (fun o=>{ o with dict:=some s.heap.objs.size })).get? x=some (a0l C t s.heap.objs.size):=Heap.get?_update_self _ g1 rfl;have g3:((s.heap.push (dictOf [] 0)).update x (fun o=>{ o with dict:=some s.heap.objs.size })).get? s.heap.objs.size=some (dictOf [] 0):=(Heap.get?_update_other _ _ (Nat.ne_of_lt lx)).trans (Heap.get?_push_size _ rfl);refine wpAny_bind (wpAny_alloc (wpAny_bind (wpAny_update g1 ?_)));refine wpAny_pure (a:=some s.heap.objs.size) (wpAny_bind (wpAny_pure (wpAny_bind ?_)));unfold nsSet;refine wpAny_bind (wpAny_bind (wpAny_askSetting (wpAny_pure (wpAny_bind (wpAny_mkText (wpAny_bind (wpAny_loadPart g3 ?_)))))));have c:aRefKeyMayBeTheName name [].toArray=false:=by rw [aRefKeyMayBeTheName_at]; simp
 show wpAny _ _ (if aRefKeyMayBeTheName name [].toArray=true then _ else _) _ _ _;rw [c];refine wpAny_updatePart g3 ?_;have g4:=Heap.get?_update_self (Obj.putName name (PyData.keyHash w.params name) (.str name (s.toks+1)) v) g3 (by rw [putName_dict]; rfl);refine wpAny_bind (wpAny_lookBehind g4 (pastItsLine_dict (by rw [List.size_toArray,sizeLine_eq]; show 1<=_; decide)) ?_);refine wpAny_pure (h _ (fun b o nb q=>?_) ?_ ?_)
 ·have l:=Heap.lt_size q;rw [Heap.get?_update_other _ _ (Nat.ne_of_gt l),Heap.get?_update_other _ _ (Ne.symm nb)];exact Heap.get?_push_of_some _ q
 ·rw [Heap.get?_update_other _ _ (Nat.ne_of_gt lx)]; exact g2
 ·exact g4
end
end My
end
section
namespace L2
open PySem PySem.Spec PyProof.Rows
structure XC (K:PySem.W.Frag) (C D fI:Addr) (f:Str):Prop where
 lk:∃ nm q Na bs sn sub ab col dd k0 k1 k2 k3 k5,K.lookup C=some (excClassObj nm q C Na bs (.ref D::My.vB) true sn sub ab col dd k0 k1 k2 k3 k5 "ValueError.__new__")
 base:PySem.W.excIn K D My.vB "ValueError.__new__" = true
 init:PySem.W.findIn K (.ref C) "__init__" = some (some (.ref fI))
 fn:PySem.W.isFn K (.ref fI)=true
 sa:PySem.W.findIn K (.ref C) "__setattr__" = some (some (.builtin "object.__setattr__"))
 ob:PySem.W.mroIn K C (.type "object")=some true
 na:PySem.W.findIn K (.ref C) f=some none
 kp:PySem.W.keepIn K (.ref C)=true
def aao (e C t:Addr):HO:=.ext fun h=>h.get? e=some (My.Ww C t)
def Y4 (e C t dx:Addr):HO:=.ext fun h=>h.get? e=some (My.a0l C t dx)
noncomputable def Bw (dx:Addr) (f:Str) (v:V):HO:=.ext fun h=>∃ hs tk u,RelV v u/\h.get? dx=some (PySem.W.dictOf [⟨hs,.str f tk,u⟩] 1)
theorem a3o {P:Program} {w:World} {H:Hp} {h:Heap} {a:Addr} {o:Obj} (e:h.get? a=some o):ur P w H h a (.ext fun h=>h.get? a=some o):=⟨e,⟨_,e⟩,fun _ _ q k=>k _ q⟩
theorem a0h {P:Program} {w:World} {H:Hp} {h:Heap} {dx:Addr} {f:Str} {v:V} {hs:Int} {tk:Tok} {u:Value} (r:RelV v u) (e:h.get? dx=some (PySem.W.dictOf [⟨hs,.str f tk,u⟩] 1)):ur P w H h dx (Bw dx f v) :=
 ⟨⟨hs,tk,u,r,e⟩,⟨_,e⟩,fun _ _ ⟨a,b,c,r,q⟩ k=>⟨a,b,c,r,k _ q⟩⟩
section
variable {X:Cx} {pins:List (Addr × Obj)} {σ:St} {H:Hp} {s:Shared} {e C D fI t:Addr} {f:Str} {v:V} {u:Value} {A:Around} {E:Value->Shared->Prop}
theorem Inv.aa2 {h':Heap} {dx:Addr} {o p:HO} {t':Nat} (I:Inv X pins σ H s) (he:Mut (H e)) (hz:s.heap.objs.size<=dx) (k:∀ b u,b≠e->s.heap.get? b=some u->h'.get? b=some u) (gR:∃ u,h'.get? e=some u)
  (n1:∀ H',ur X.prog X.w H' h' e o) (n2:∀ H',ur X.prog X.w H' h' dx p):Inv X pins σ (upd (upd H dx p) e o) { s with heap:=h',toks:=t' }:=by
 have e9:H dx=none:=I.hok.fresh hz;have ne:dx≠e:=fun z=>by subst z; rw [e9] at he; exact he
 have nb:∀ b,H b=none->b≠e:=fun b n z=>by subst z; rw [n] at he; exact he
 have ns:∀ b u,s.heap.get? b=some u->b≠dx:=fun b u q z=>by subst z; exact absurd (Nat.lt_of_lt_of_le (Heap.lt_size q) hz) (Nat.lt_irrefl _)
 have nm:∀ b u,H b=some u->¬ Mut (some u)->b≠e/\b≠dx:=fun b u q n=>⟨fun z=>by subst z; rw [q] at he; exact n he,fun z=>by subst z; rw [e9] at q; cases q⟩;have up:∀ b,b≠e->b≠dx->upd (upd H dx p) e o b=H b:=fun b n m=>by rw [gb n,gb m]
 refine I.un (t':=t') ⟨fun b u q n _ _=>k b u (nb b n) q,fun b u q n _ _=>⟨u.slots,k b u (nb b n) q⟩,fun b u q n _=>by rw [up b (nb b n) (ns b u q)]; exact n,fun b u q _=>?_,
  fun b xs q=>?_,fun b u xs q=>?_,fun b ps q=>⟨#[],?_⟩⟩ fun b u q=>?_
 ·by_cases z:b=e
  ·subst z; exact gR
  ·exact ⟨u,k b u z q⟩
 ·obtain ⟨a,c⟩:=nm b _ q fun z=>z;rw [up b a c]; exact q
 ·obtain ⟨a,c⟩:=nm b _ q fun z=>z;rw [up b a c]; exact q
 ·obtain ⟨a,c⟩:=nm b _ q fun z=>z;rw [up b a c,q]; simp
 ·by_cases z:b=e
  ·subst z; rw [dz] at q; cases q; exact n1 _
  ·rw [gb z] at q
   by_cases y:b=dx
   ·subst y; rw [dz] at q; cases q; exact n2 _
   ·rw [gb y] at q;refine (I.hok b u q).stay (fun c w hc r=>k c w ?_ r) (fun c r=>?_) fun c xs r=>?_
    ·rcases hc with hc | hc
     ·rw [hc]; exact z
     ·exact (nm c _ hc fun z=>z).1
    ·obtain ⟨a,d⟩:=nm c _ r fun z=>z;rw [up c a d]; exact r
    ·obtain ⟨a,d⟩:=nm c _ r fun z=>z;rw [up c a d]; exact r
theorem Za {Q:Unit->Shared->Prop} (c:XC X.K C D fI f) (I:Inv X pins σ H s) (e0:H e=some (aao e C t)) (r:RelV v u)
  (h:∀ s' dx,H dx=none->dx≠e->Inv X pins σ (upd (upd H dx (Bw dx f v)) e (Y4 e C t dx)) s'->Q () s'):wpAny (model X.prog X.w) A (setAttr (.ref e) f u) Q E s:=by
 obtain ⟨nm,q,Na,bs,sn,sub,ab,col,dd,k0,k1,k2,k3,k5,lk⟩:=c.lk;have hx:s.heap.get? e=some (My.Ww C t):=(I.hok e _ e0).1;refine My.a0o (cd:={ name:=nm,bases:=bs,mro:=.ref C :: .ref D::My.vB,ns:=Na,qualname:=q,hasDict:=true,slotNames:=sn,subclasses:=sub,abstract:=ab,collection:=col,hasDel:=false }) I.kIn hx c.sa (by unfold PySem.W.clsIn; rw [lk]) rfl rfl c.ob c.na fun h' k g1 g2=>h _ s.heap.objs.size (I.hok.fresh (Nat.le_refl _)) (Nat.ne_of_gt (Heap.lt_size hx)) ?_;exact I.aa2 (by rw [e0]; exact True.intro) (Nat.le_refl _) k ⟨_,g1⟩ (fun _=>a3o g1) fun _=>a0h r g2
end
noncomputable def ac6 (C:Addr) (f:Str) (ta tv:TE):TS:=fun D σ H=>tv σ H fun v H1=>ta σ H1 fun x H2=>∃ e t,x=.ref e/\H2 e=some (aao e C t)/\∀ dx,H2 dx=none->dx≠e->D.nx σ (upd (upd H2 dx (Bw dx f v)) e (Y4 e C t dx))
noncomputable def Nj (C:Addr) (f:Str):Sp:=fun vs H Q _=>∃ e t v,vs=[.ref e,v]/\H e=some (aao e C t)/\∀ dx,H dx=none->dx≠e->Q .non (upd (upd H dx (Bw dx f v)) e (Y4 e C t dx))
section
variable {X:Cx} {o value:Expr} {ta tv:TE} {f:Str} {pos pos':Pos} {C D fI:Addr}
theorem a4v (c:XC X.K C D fI f) (ha:PE X o ta) (hv:PE X value tv) (hs:swapsWith value (some (.Attribute o f pos')) pos.line X.env=pure false):PS X (.Assign [.Attribute o f pos'] value pos) (ac6 C f ta tv):=by
 intro pins s σ H D I h;refine plainObj_wpAny_Assign_Attribute (thn (hv pins s σ H _ I h) fun u s1 ⟨y,H1,I1,ry,q⟩=>thn (ha pins s1 σ H1 _ I1 q) fun ov s2 ⟨x,H2,I2,rx,e,t,ex,e0,q2⟩=>?_) hs;subst ex;obtain rfl:ov=Value.ref e:=rx;exact Za c I2 e0 ry fun s3 dx h1 h2 I3=>⟨σ,_,I3,q2 dx h1 h2⟩
end
section
variable {P:Program} {w:World} {K:PySem.W.Frag} {mg:Str->Option Value} {base:Heap}
theorem Ss {qual p f:Str} {st:Stmt} {C D fI:Addr} {fd:FuncData} {q1 q2 q3 q4:Pos} (c:XC K C D fI f) (F:Fun K "__init__" qual st fI fd) (S:Ag ["self",p] ["self",p] (gw st))
  (hb:v8 st=[.Assign [.Attribute (.Name "self" q1) f q2] (.Name p q3) q4]) (h1:(gw st).names.lookup ("self" : Str)=some .local) (h2:(gw st).names.lookup p=some .local) (hp:("self" : Str)≠p) (hd:(p==("__debug__" : Str))=false) (a7:(p==("__classdict__" : Str))=false)
  (bX:∀ env:Env,swapsWith (.Name p q3) (some (.Attribute (.Name "self" q1) f q2)) q4.line env=pure false) :
  Bh P w K mg base CX0 1 fI fd ["self",p] (Nj C f):=by
 refine F.ok S (fun vs H Q E ⟨e,t,v,h,_⟩=>by rw [h]; rfl) fun ay A outer s H vs Q E hr ⟨e,t,v,h,h0,h3⟩=>?_;subst h;rw [hb];refine ⟨_,Ln (a4v (C:=C) (D:=D) (fI:=fI) c (Xp (i:=0) rfl (.inl h1)) (Xp (i:=1) rfl (.inl h2) hd a7) (bX _)),?_⟩;exact ⟨v,rfl,.ref e,rfl,e,t,rfl,h0,h3⟩
end
section
variable {X:Cx} {pins:List (Addr × Obj)} {σ:St} {H:Hp} {s:Shared} {C D fI:Addr} {f p:Str} {v:V} {u:Value} {E:Value->Shared->Prop} {fd:FuncData}
theorem a5u {Q:Value->Shared->Prop} (c:XC X.K C D fI f) (F:Bh X.prog X.w X.K X.mg X.base CX0 1 fI fd ["self",p] (Nj C f)) (hr:yw 2 X.A) (hb:Binds X.K fd ["self",p] []) (I:Inv X pins σ H s) (r:RelV v u)
  (h:∀ s' e t dx,H e=none->H dx=none->dx≠e->s.heap.objs.size<=e->Inv X pins σ (upd (upd H dx (Bw dx f v)) e (Y4 e C t dx)) s'->Q (.ref e) s'):wpAny (model X.prog X.w) X.A (call (.ref C) [u]) Q E s:=by
 obtain ⟨nm,q,Na,bs,sn,sub,ab,col,dd,k0,k1,k2,k3,k5,lk⟩:=c.lk;have hC:=I.kIn _ _ lk;have f1:=tc_lookup;have f2:=tc_bind (.ref C);have I1:Inv X pins σ H { s with heap:=s.heap.push (My.a3x [u]) }:=I.kept (t':=s.toks) fun b o z=>Heap.get?_push_of_some _ z;have z1:(s.heap.push (My.a3x [u])).objs.size=s.heap.objs.size+1:=Heap.size_push ..
 have g1:((s.heap.push (My.a3x [u])).push (My.Ww C s.heap.objs.size)).get? (s.heap.objs.size+1)=some (My.Ww C s.heap.objs.size):=by
  rw [<- z1]; exact Heap.get?_push_size _ rfl
 have I2:Inv X pins σ (upd H (s.heap.objs.size+1) (aao (s.heap.objs.size+1) C s.heap.objs.size)) { s with heap:=(s.heap.push (My.a3x [u])).push (My.Ww C s.heap.objs.size) } :=
  I1.laid (t':=s.toks) (fun b o z=>Heap.get?_push_of_some _ z) (by show (s.heap.push (My.a3x [u])).objs.size<=_; rw [z1]; exact Nat.le_refl _) (a3o g1)
 have hE:H (s.heap.objs.size+1)=none:=I.hok.fresh (Nat.le_succ _);have r2:Vals [V.ref (s.heap.objs.size+1),v] [Value.ref (s.heap.objs.size+1),u]:=.cons rfl (.cons r .nil);obtain ⟨hh,g,d,tk,os⟩:=s;have hT:(⟨hh,g,d,tk,os⟩:Shared).TypeIs (.ref C) "type" := ⟨_,hC,rfl⟩;refine wpAny_call (codeAny_of_tree ?_);show wpAny _ _ (callAny (.ref C) _) _ _ _
 repeat (any_goals (first | assumption | with_reducible refine wpAny_loadPart_at hC ?_ | wp_step)) -- here
 refine ⟨rfl,?_⟩
 refine codeAny_call_builtin_at (Code.quiet_builtin _ (by decide +kernel)) entry_typeCall (wpAny_check_type_call_sub hC (My.Jv I.kIn hC (My.acj I.kIn c.base) c.init (beq_iff_eq.mp c.fn) (wpAny_call (codeAny_mono
  (F.run _ X.stack _ _ ⟨[Value.ref (hh.objs.size+1),u],[]⟩ [Value.ref (hh.objs.size+1),u] _ (fun w H'=>w=.non/\∃ dx,H dx=none/\dx≠hh.objs.size+1/\H'=upd (upd H dx (Bw dx f v)) (hh.objs.size+1) (Y4 (hh.objs.size+1) C hh.objs.size dx)) (fun _ _ _=>False) (hr.make C [u] []) (I2.env0.make C [u] [])
   (hb _ [Value.ref (hh.objs.size+1),u] I2.kIn rfl) r2 ⟨_,_,v,rfl,dz,fun dx h1 h2=>⟨rfl,dx,by rw [gb h2] at h1; exact h1,h2,?_⟩⟩) fun r s' hq=>?_)) (by show 1<=sizeLine; rw [sizeLine_eq]; decide)))
 ·funext b
  by_cases e1:b=hh.objs.size+1
  ·subst e1; rw [dz,dz]
  ·rw [gb e1,gb e1]
   by_cases e2:b=dx
   ·subst e2; rw [dz,dz]
   ·rw [gb e2,gb e2,gb e1]
 ·cases r with
  | error e=>exact False.elim hq
  | ok fl =>
   cases fl with
   | ret u' =>
    obtain ⟨v',H',I3,rv,⟨ev,dx,h1,h2,e3⟩⟩:=I2.after hq;subst ev;subst e3;exact ⟨rv,h s' _ _ dx hE h1 h2 (Nat.le_succ _) I3⟩
   | next=>exact False.elim hq
   | brk=>exact False.elim hq
   | cont=>exact False.elim hq
end
noncomputable def CXx (P:Program) (w:World):CXT:=fun outer H s E e s'=>∃ a C dx T H',e=.ref a/\s.heap.objs.size<=a/\s.heap.objs.size<=T/\XAt s'.heap a C dx T .none/\H' a=none/\H' T=none /\
 s'.os=s.os/\AllBare s'.gens/\Un (frs outer) [] H H' s.heap s'.heap/\HOk P w H' s'.heap/\E (.ref C) (some dx) H'
section
variable {X:Cx} {pins:List (Addr × Obj)} {σ:St} {H:Hp} {s:Shared}
theorem Inv.noted {h':Heap} {ch:List Addr} (I:Inv X pins σ H s) (k:Kp (frs X.stack) ch s.heap h') (hn:∀ b∈ch,H b=none)
  (bJ:∀ b∈ch,(b∈X.ex\/X.s₀.heap.objs.size<=b)/\b≠X.env.locals/\(∀ x c,X.env.cells.lookup x=some c->c≠b)/\∀ p∈X.pn++pins,p.1≠b):Inv X pins σ H { s with heap:=h' }:=by
 refine I.step (g':=s.gens) (d':=s.drawn) (t':=s.toks) (ch:=ch) bJ (fun b o hL hb hc e n=>k.keep b o e (fun z=>(List.mem_cons.mp (I.Pz b z)).elim hL hb) hc) (fun b o _ _ hc e _=>k.slot b o e hc) (fun _ _ _ _ n=>n)
  (fun b o _ e=>k.there b o e) (fun _ _ e=>e) (fun _ _ _ e=>e) (fun b ps e=>⟨#[],by rw [e]; simp⟩) (fun m hm=>?_) (fun b u e=>?_) I.bare
 ·obtain ⟨o,es,ep,ho,r⟩:=hm;obtain ⟨sl,q⟩:=k.slot _ o ho fun z=>(bJ _ z).2.1 rfl;exact ⟨_,es,ep,q,r⟩
 ·have tr:∀ c x,H c=some x->c∉frs X.stack/\c∉ch:=fun c x q=>⟨(fun z=>by rw [I.Qj c z] at q; cases q),(fun z=>by rw [hn c z] at q; cases q)⟩;refine (I.hok b u e).stay (fun c v hc q=>?_) (fun _ q=>q) fun _ _ q=>q;rcases hc with hc | hc
  ·subst hc; exact k.keep c v q (tr c u e).1 (tr c u e).2
  ·exact k.keep c v q (tr c _ hc).1 (tr c _ hc).2
theorem Inv.Kl {e:Addr} {o:Obj} {vs:Array Value} (I:Inv X pins σ H s) (he:s.heap.get? e=some o) (hd:o.data=.fields vs):e≠X.env.locals/\(∀ x c,X.env.cells.lookup x=some c->c≠e)/\e∉frs X.stack:=by
 refine ⟨fun z=>?_,fun x c q z=>?_,fun z=>?_⟩
 ·obtain ⟨m,⟨o',es,ep,aT,hd',_⟩,_⟩:=I.loc;rw [<- z,he] at aT; cases aT; rw [hd'] at hd; cases hd
 ·obtain ⟨v,o',aT,hd'⟩:=I.cell x c q;rw [z,he] at aT; cases aT; rw [hd'] at hd; cases hd
 ·obtain ⟨_,o',aT,hnf⟩:=I.stack.mem z;rw [he] at aT; cases aT; exact hnf vs hd
end
section
variable {P:Program} {w:World} {K:PySem.W.Frag} {mg:Str->Option Value} {base:Heap} {N:List Str} {qual:Str} {scope:Scope} {f:Addr} {cd:Value} {A:Around} {outer:List Env} {s₀ s:Shared} {H₀ H:Hp} {E:XK} {pins:List (Addr × Obj)} {σ:St} {e C dx:Addr} {vs:Array Value}
theorem a0r (I:Inv (Qg (CXx P w) P w K mg base N qual scope f cd A outer s₀ H₀ E) pins σ H s) (he:s.heap.get? e=some (Ue C dx vs)) (h1:vs[1]? = some .none) (hn:H e=none) (hz:s₀.heap.objs.size<=e) (hE:E (.ref C) (some dx) H) :
  (Qg (CXx P w) P w K mg base N qual scope f cd A outer s₀ H₀ E).xe (.ref e) s:=by
 have I0:=I.G8 (pins':=[]) (fun p hp=>nomatch hp);have ne:=I0.Kl he rfl;show wpAny _ _ (leaving _ _) _ _ _;unfold leaving;refine wpAny_bind (Vm (L:=s₀.heap.objs.size) (base:=base) I0.ok.frames I0.stack rfl he h1 ne.2.2 fun h' T hT k x=>?_)
 have I1:=I0.noted k (fun b hb=>by rw [List.mem_singleton.mp hb]; exact hn) fun b hb=>by
  obtain rfl:=List.mem_singleton.mp hb;exact ⟨.inr hz,ne.1,ne.2.1,fun p hp=>nomatch hp⟩
 have eX:H T=none:=I0.hok.fresh hT;obtain ⟨oT,tsT,gT,dT,_⟩:=x.tb;have neT:=I1.Kl (s:={ s with heap:=h' }) gT dT;have sz:s₀.heap.objs.size<=T:=Nat.le_trans I0.sz hT;refine Ga (s:={ s with heap:=h' }) x fun h2 k2 x2=>?_
 have I2:=I1.noted (h':=h2) (k2.mono (fun _ z=>nomatch z) (fun _ z=>z)) (fun b hb=>by rw [List.mem_singleton.mp hb]; exact eX) fun b hb=>by
  obtain rfl:=List.mem_singleton.mp hb;exact ⟨.inr sz,neT.1,neT.2.1,fun p hp=>nomatch hp⟩
 exact ⟨e,C,dx,T,H,rfl,hz,sz,x2,hn,eX,I2.os,I2.bare,I2.base,I2.hok,hE⟩
end
section
variable {X:Cx} {pins:List (Addr × Obj)} {σ:St} {H:Hp} {s:Shared} {e:Addr}
theorem Inv.a6w {φ:Heap->Prop} (I:Inv X pins σ (upd H e (.ext φ)) s) (hn:H e=none):Inv X pins σ H s:=by
 have ne:∀ b u,upd H e (.ext φ) b=some u->(∀ ψ,u≠.ext ψ)->b≠e/\H b=some u:=fun b u q n=>by
  by_cases z:b=e
  ·subst z; rw [dz] at q; cases q; exact absurd rfl (n _)
  ·rw [gb z] at q; exact ⟨z,q⟩
 have fr:∀ b,upd H e (.ext φ) b=none->H b=none:=fun b q=>by
  by_cases z:b=e
  ·subst z; exact hn
  ·rw [gb z] at q; exact q
 refine I.step (g':=s.gens) (d':=s.drawn) (t':=s.toks) (h':=s.heap) (ch:=[]) (fun _ z=>nomatch z) (fun b o _ _ _ q _=>q) (fun b o _ _ _ q _=>⟨o.slots,q⟩) (fun b o _ _ n=>fr b n) (fun b o _ q=>⟨o,q⟩)
  (fun b xs q=>(ne b _ q (fun _=>by intro z; cases z)).2) (fun b o u q=>(ne b _ q (fun _=>by intro z; cases z)).2) (fun b ps q=>⟨#[],by rw [(ne b _ q (fun _=>by intro z; cases z)).2]; simp⟩) (fun _ hm=>hm) (fun b u q=>?_) I.bare
 have z:b≠e:=fun z=>by subst z; rw [hn] at q; cases q
 refine (I.hok b u (by rw [gb z]; exact q)).stay (fun _ _ _ r=>r) (fun c r=>(ne c _ r (fun _=>by intro z; cases z)).2) fun c xs r=>(ne c _ r (fun _=>by intro z; cases z)).2
end
def XW (X:Cx) (E:XK):Prop:=∀ (pins:List (Addr × Obj)) (σ:St) (H:Hp) (s:Shared) (e C dx:Addr) (vs:Array Value),Inv X pins σ H s->s.heap.get? e=some (Ue C dx vs)->vs[1]? = some .none->H e=none->X.s₀.heap.objs.size<=e->E (.ref C) (some dx) H->X.xe (.ref e) s
theorem Jw {P:Program} {w:World} {K:PySem.W.Frag} {mg:Str->Option Value} {base:Heap} {N:List Str} {qual:Str} {scope:Scope} {f:Addr} {cd:Value} {A:Around} {outer:List Env} {s₀:Shared} {H₀:Hp} {E:XK} :
  XW (Qg (CXx P w) P w K mg base N qual scope f cd A outer s₀ H₀ E) E:=fun _ _ _ _ _ _ _ _ I he h1 hn hz hE=>a0r I he h1 hn hz hE
section
variable {M:Model} {A:Around} {E:Value->Shared->Prop} {env:Env}
variable {nm q:Str} {C N:Addr} {bs bm:List Value} {hdct:Bool} {sn:List Str} {sub:List Value} {ab:Bool} {col:Option Bool} {dd:Option Addr} {k0 k1 k2 k3 k5:Option Value} {newId:String}
theorem Zt {s:Shared} {x:Sem Value} {Q:Flow->Shared->Prop} (aP:bm.contains (.type "BaseException")=true) (hh:A.handled=none)
  (h:wpAny M A x (fun v s1=>∃ e dx vs,v=.ref e/\s1.heap.get? C=some (excClassObj nm q C N bs bm hdct sn sub ab col dd k0 k1 k2 k3 k5 newId)/\s1.heap.get? e=some (Ue C dx vs)/\vs[1]? = some .none/\E (.ref e) s1) E s) :
  wpAny M A (raiseStmt env (some x) none) Q E s:=by
 have fT:(Value.ref C::bm).contains (.type "BaseException")=true:=by rw [List.contains_cons,aP,Bool.or_true]
 unfold raiseStmt;refine wpAny_bind (wpAny_mono h (fun v s1 h1=>?_) fun _ _ x=>x);obtain ⟨e,dx,vs,rfl,hC,he,hv,hE⟩:=h1;obtain ⟨hp,g,d,tk,os⟩:=s1
 repeat (first | with_reducible refine wpAny_loadPart_at he ?_ | with_reducible refine wpAny_loadPart_at hC ?_ | (with_reducible refine wpAny_isSubtype_exc hC ?_; rw [fT]) | wp_step)
 rw [hv];exact wpAny_pure (wpAny_pure (wpAny_raiseNew_none hh hE))
end
noncomputable def sRz (C:Addr) (f:Str) (E:XK) (te:TE):TS:=fun _ σ H=>te σ H fun v H1=>∀ dx,H1 dx=none->E (.ref C) (some dx) (upd H1 dx (Bw dx f v))
section
variable {X:Cx} {E:XK} {C D fI:Addr} {f p x:Str} {fd:FuncData} {arg:Expr} {te:TE} {np aw pos:Pos}
theorem a2q (W:XW X E) (c:XC X.K C D fI f) (F:Bh X.prog X.w X.K X.mg X.base CX0 1 fI fd ["self",p] (Nj C f)) (hr:yw 2 X.A) (hb:Binds X.K fd ["self",p] []) (hg:Gl X x) (hm:X.mg x=some (.ref C)) (ha:PE X arg te)
  (aL:(x==("__debug__" : Str))=false:=by decide) (he:starEach [arg] X.env=[(false,eval arg X.env)]:=by rfl) :
  PS X (.Raise (some (.Call (.Name x np) [arg] [] aw)) none pos) (sRz C f E te):=by
 intro pins s σ H Dn I h;obtain ⟨nm,q,Na,bs,sn,sub,ab,col,dd,k0,k1,k2,k3,k5,lk⟩:=c.lk;rw [arm_exec_Raise];refine wpAny_bind (wpAny_standAt ?_);show wpAny _ _ (raiseStmt X.env (some (eval (.Call (.Name x np) [arg] [] aw) X.env >>= fun v=>standAt pos >>= fun _=>pure v)) none) _ _ _;refine Zt (C:=C) (nm:=nm) (q:=q) (N:=Na) (bs:=bs) (bm:=.ref D::My.vB) (hdct:=true) (sn:=sn) (sub:=sub) (ab:=ab) (col:=col) (dd:=dd) (k0:=k0) (k1:=k1) (k2:=k2) (k3:=k3) (k5:=k5) (newId := "ValueError.__new__") (by simp) hr.hd ?_;refine wpAny_bind (wpAny_mono (Q:=fun v s1=>∃ e dx vs,v=.ref e/\s1.heap.get? C=some (excClassObj nm q C Na bs (.ref D::My.vB) true sn sub ab col dd k0 k1 k2 k3 k5 "ValueError.__new__")/\s1.heap.get? e=some (Ue C dx vs)/\vs[1]? = some .none/\X.xe (.ref e) s1) ?_ (fun v s1 h1=>wpAny_bind (wpAny_standAt (wpAny_pure h1))) fun _ _ z=>z);refine wpAny_Call_Name_kw (Jp I hg hm ?_ aL);refine PySem.W.callWith_K (h₀:=X.base) I.ok.mod.kin c.kp (thn (ql ha w6 (by rw [he]; rfl) aw pins s σ H (fun vs H1=>match vs with | [v]=>∀ dx,H1 dx=none->E (.ref C) (some dx) (upd H1 dx (Bw dx f v)) | _=>False) I h) fun us s1 ⟨vs,H1,I1,r,q⟩=>⟨I1.kIn,?_⟩) he rfl
 obtain ⟨v,ev,hE⟩:∃ v,vs=[v]/\∀ dx,H1 dx=none->E (.ref C) (some dx) (upd H1 dx (Bw dx f v)):=by
  match vs,q with
  | [v],q=>exact ⟨v,rfl,q⟩
 subst ev;obtain ⟨u,eu,rv⟩:=r.one;subst eu
 exact a5u c F hr hb I1 rv fun s' e t dx h1 h2 h3 h4 I2=>by
  have e0:upd H1 dx (Bw dx f v) e=none:=by rw [gb (Ne.symm h3)]; exact h1
  have cI:s'.heap.get? e=some (My.a0l C t dx):=(I2.hok e _ dz).1;have I3:=I2.a6w e0;exact ⟨e,dx,_,rfl,I3.kIn _ _ lk,cI,rfl,W pins σ _ s' e C dx _ I3 cI rfl e0 (Nat.le_trans I1.sz h4) (hE dx h2)⟩
end
def Off (X:Cx) (pins:List (Addr × Obj)) (b:Addr):Prop:=(b∈X.ex\/X.s₀.heap.objs.size<=b)/\b≠X.env.locals/\(∀ x c,X.env.cells.lookup x=some c->c≠b)/\∀ p∈X.pn++pins,p.1≠b
section
variable {X:Cx} {pins:List (Addr × Obj)} {σ:St} {H:Hp} {s:Shared}
theorem Inv.off {b:Addr} (I:Inv X pins σ H s) (h:s.heap.objs.size<=b):Off X pins b:=by
 refine ⟨.inr (Nat.le_trans I.sz h),fun z=>?_,fun x c q z=>?_,fun p hp z=>?_⟩
 ·subst z; exact absurd (Nat.lt_of_lt_of_le I.lt h) (Nat.lt_irrefl _)
 ·obtain ⟨v,o,ho,_⟩:=I.cell x c q;subst z; exact absurd (Nat.lt_of_lt_of_le (Heap.lt_size ho) h) (Nat.lt_irrefl _)
 ·have:=(I.pin p hp).1;rw [z] at this;exact absurd (Nat.lt_of_lt_of_le (Heap.lt_size this) h) (Nat.lt_irrefl _)
def XP (X:Cx) (CX:CXT) (pins:List (Addr × Obj)) (σ:St) (E:XK) (e:Value) (s':Shared):Prop:=∃ H1 s1,Inv X pins σ H1 s1/\CX X.stack H1 s1 E e s'
structure Lies (X:Cx) (pins:List (Addr × Obj)) (σ:St) (H:Hp) (s:Shared) (a C dx T:Addr):Prop where
 inv:Inv X pins σ H s
 at_:XAt s.heap a C dx T .none
 ha:H a=none
 hT:H T=none
 oa:Off X pins a
 oT:Off X pins T
theorem XP.lies {E:XK} {e:Value} (h:XP X (CXx X.prog X.w) pins σ E e s):∃ a C dx T H',e=.ref a/\Lies X pins σ H' s a C dx T/\E (.ref C) (some dx) H':=by
 obtain ⟨H1,s1,I,a,C,dx,T,H',rfl,za,zT,x,na,nT,os,ba,un,hok,hE⟩:=h;exact ⟨a,C,dx,T,H',rfl,⟨I.call' (ch:=[]) os un hok ba (fun b z=>nomatch z),x,na,nT,I.off za,I.off zT⟩,hE⟩
end
section
variable {X:Cx} {CX:CXT} {k:Nat} {f:Addr} {fd:FuncData} {ps:List Str} {sp:Sp} {x:Str} {p pos:Pos} {e:Expr} {es:List Expr} {t:TA}
theorem a71 (F:Bh X.prog X.w X.K X.mg X.base CX k f fd ps sp) (hr:yw k X.A) (hg:Gl X x) (hm:X.mg x=some (.ref f)) (hk:PySem.W.keepIn X.K (.ref f)=true) (hb:Binds X.K fd ps []) (ha:PA X.nox (e::es) t)
  (aL:(x==("__debug__" : Str))=false:=by decide) (he:starEach (e::es) X.env=(false,eval e X.env)::starEach es X.env:=by rfl) (aE:(backTo pos (starEach es X.env)).any (·.1)=false:=by rfl)
  (pins:List (Addr × Obj)) (s:Shared) (σ:St) (H:Hp) (Q:VK) (E:XK) (I:Inv X pins σ H s) (h:t σ H fun vs H1=>sp vs H1 Q E) :
  wpAny (model X.prog X.w) X.A (eval (.Call (.Name x p) (e::es) [] pos) X.env) (EP X pins σ Q) (XP X CX pins σ E) s:=by
 refine wpAny_Call_Name_kw (Jp I hg hm ?_ aL);refine PySem.W.callWith_K (h₀:=X.base) I.ok.mod.kin hk (wpAny_mono (ha pos pins s σ H _ (I.wish _) h) (fun us s1 z0=>?_) fun _ _ z=>False.elim z) he aE;obtain ⟨vs,H1,I1',r,q⟩:=z0;have I1:=I1'.Dq;refine ⟨I1.kIn,?_⟩;have r2:Vals vs (us++[]):=by rw [List.append_nil]; exact r
 have hl:(us++[]).length=ps.length:=by rw [<- r2.length]; exact F.len _ _ _ _ q
 refine wpAny_call (codeAny_mono (F.run X.A X.stack s1 H1 ⟨us,[]⟩ (us++[]) vs Q E hr I1.env0 (hb s1 us I1.kIn hl) r2 q) fun r s' hq=>?_);cases r with
 | error e=>exact ⟨H1,s1,I1,hq⟩
 | ok fl =>
  cases fl with
  | ret u=>exact I1.after hq
  | next=>exact False.elim hq
  | brk=>exact False.elim hq
  | cont=>exact False.elim hq
end
abbrev Cx.mk' (X:Cx) (a:Addr):Cx:={ X with A:=X.A.mark (some (.ref a)),calm:=false,xe:=fun _ _=>False }
section
variable {X:Cx} {pins:List (Addr × Obj)} {σ:St} {H:Hp} {s:Shared} {a:Addr}
theorem Inv.mk' (I:Inv X pins σ H s) (a:Addr):Inv (X.mk' a) pins σ H s :=
 ⟨⟨I.ok.mod,I.ok.kind,I.ok.glob,I.ok.blt,I.ok.above,I.ok.inj,I.ok.has,I.ok.cab,(fun z=>nomatch z),I.ok.frames,I.ok.stk,I.ok.exf,I.ok.bs,I.ok.bsz,I.ok.noex,I.ok.exfs,I.ok.T4,I.ok.frf⟩,I.os,I.bare,I.base,I.loc,I.cell,I.free,I.freeC,I.pin,I.hok,I.len⟩
theorem Inv.aap (I:Inv (X.mk' a) pins σ H s) (hd:X.calm=true->X.A.handled=none):Inv X pins σ H s :=
 ⟨⟨I.ok.mod,I.ok.kind,I.ok.glob,I.ok.blt,I.ok.above,I.ok.inj,I.ok.has,I.ok.cab,hd,I.ok.frames,I.ok.stk,I.ok.exf,I.ok.bs,I.ok.bsz,I.ok.noex,I.ok.exfs,I.ok.T4,I.ok.frf⟩,I.os,I.bare,I.base,I.loc,I.cell,I.free,I.freeC,I.pin,I.hok,I.len⟩
theorem name_goes {M:Model} {A:Around} {E:Value->Shared->Prop} {Q:Unit->Shared->Prop} {i:Nat} {n:Str} {pos:Pos} (I:Inv X pins σ H s) (hN:X.N.Nodup) (hi:X.N[i]? = some n) (hx:X.env.scope.names.lookup n=some .local)
  (h:∀ s',Inv X pins (σ.set i none) H s'->Q () s'):wpAny M A (do bindName X.env n .none; unbindBehindTheSuite X.env n pos) Q E s:=by
 obtain ⟨m,hn,hl⟩:=id I.loc;have bI:(X.env.scope.kind == .class||(X.env.scope.kind == .module&&X.env.locals != X.env.globals))=false:=by rw [I.ok.kind]; rfl
 have bZ:i<σ.length:=by rw [I.len]; exact (List.getElem?_eq_some_iff.mp hi).1
 obtain ⟨oL,_,_,cL,_⟩:=id hn;refine wpAny_nameGoes_keeps hx hn bI fun h' v eB hs=>h _ ?_;have nL:∀ b o,X.s₀.heap.get? b=some o->b≠X.env.locals:=fun b o e=>Nat.ne_of_lt (Nat.lt_of_lt_of_le (Heap.lt_size e) I.ok.above);refine ⟨I.ok,I.os,I.bare,⟨fun b o e n hb hx=>(hs.2 b (nL b o e)).trans (I.base.keep b o e n hb hx),fun b o e n hb hx=>?_,I.base.free,fun b o e hx=>?_,I.base.tups,I.base.frzs,I.base.tbls⟩,⟨_,eB,fun j y v' e1 e2 e3=>?_⟩,fun y c e=>?_,I.free,I.freeC,fun p hp=>?_,fun b u e=>?_,by rw [List.length_set]; exact I.len⟩
 ·obtain ⟨sl,e1⟩:=I.base.slot b o e n hb hx;exact ⟨sl,(hs.2 b (nL b o e)).trans e1⟩
 ·obtain ⟨o',e1⟩:=I.base.there b o e hx;exact ⟨o',(hs.2 b (nL b o e)).trans e1⟩
 ·by_cases hj:j=i
  ·subst hj;rw [List.getElem?_set_self bZ] at e2; cases e2
  ·rw [List.getElem?_set_ne (Ne.symm hj)] at e2;obtain ⟨u',r',q⟩:=hl j y v' e1 e2 e3;refine ⟨u',r',?_⟩;rcases q with ⟨k,e⟩ | ⟨k,c,e,z⟩
   ·have:y≠n:=fun e=>hj (Lj hN e1 (e ▸ hi));exact .inl ⟨k,by simp [this,e]⟩
   ·exact .inr ⟨k,c,e,z.sameBut hs (I.cne y c e)⟩
 ·obtain ⟨w',z⟩:=I.cell y c e;exact ⟨w',z.sameBut hs (I.cne y c e)⟩
 ·obtain ⟨e,n,ne,nf,d⟩:=I.pin p hp;exact ⟨(hs.2 p.1 ne).trans e,n,ne,nf,d⟩
 ·have tr:∀ c x,H c=some x->c≠X.env.locals:=fun c x q z=>by rw [z,I.free] at q; cases q
  refine (I.hok b u e).stay (fun c w hc q=>(hs.2 c ?_).trans q) (fun _ q=>q) fun _ _ q=>q;rcases hc with hc | hc
  ·subst hc; exact tr c u e
  ·exact tr c _ hc
end
def XCl (K:PySem.W.Frag) (C:Addr) (bm:List Value):Prop:=bm.contains (.type "BaseException")=true/\∃ nm q Na bs hdct sn sub ab col dd k0 k1 k2 k3 k5,K.lookup C=some (excClassObj nm q C Na bs bm hdct sn sub ab col dd k0 k1 k2 k3 k5 "ValueError.__new__")
section
variable {M:Model} {A:Around} {E:Value->Shared->Prop} {K:PySem.W.Frag} {C C1 C2 C3:Addr} {bm cW fJ fE:List Value} {Q:Bool->Shared->Prop}
theorem Yu {s:Shared} {a:Addr} {o:Obj} (X:K.In s.heap) (c:XCl K C bm) (c1:XCl K C1 cW) (he:s.heap.get? a=some o) (hc:o.cls=.ref C) (h:Q ((Value.ref C::bm).contains (.ref C1)) s):wpAny M A (excMatches (.ref a) (.ref C1)) Q E s:=by
 obtain ⟨_,nm,q,Na,bs,hdct,sn,sub,ab,col,dd,k0,k1,k2,k3,k5,lk⟩:=c;obtain ⟨b1,nm',q',Na',bs',hdct',sn',sub',ab',col',bT,k0',k1',k2',k3',k5',lk'⟩:=c1;obtain ⟨hp,g,d,tk,os⟩:=s;have hC:=X _ _ lk;have h1:=X _ _ lk';have e1:(Value.ref C1::cW).contains (.type "BaseException")=true:=by rw [List.contains_cons,b1,Bool.or_true]
 have f:=tc_notTuple;unfold excMatches
 repeat (first | (with_reducible refine wpAny_loadPart_at he ?_; rw [hc]) | with_reducible refine wpAny_loadPart_at h1 ?_ | (with_reducible refine wpAny_isSubtype_exc h1 ?_; rw [e1]) | with_reducible refine wpAny_isSubtype_exc hC ?_ | wp_step)
 cases hb:(Value.ref C::bm).contains (.ref C1) <;> (rw [hb] at h; wp_walk; exact h)
end
section
variable {X:Cx} {pins:List (Addr × Obj)} {σ:St} {H:Hp} {s:Shared} {a C dx T:Addr}
theorem Lies.mk' (L:Lies X pins σ H s a C dx T) (b:Addr):Lies (X.mk' b) pins σ H s a C dx T:=⟨L.inv.mk' b,L.at_,L.ha,L.hT,L.oa,L.oT⟩
theorem Lies.eval {e:Expr} {te:TE} {Q:VK} (L:Lies X pins σ H s a C dx T) (he:PE X e te) (h:te σ H Q) :
  wpAny (model X.prog X.w) X.A (eval e X.env) (fun u s'=>∃ v H1,Lies X pins σ H1 s' a C dx T/\RelV v u/\Q v H1) X.xe s:=by
 obtain ⟨ne,⟨vs,g1,v1⟩,o,ts,g2,d2,t3⟩:=L.at_
 have fs:∀ b,b∉frs X.stack->b≠X.env.locals->b∉X.fs:=fun b h1 _ z=>by
  rcases L.inv.ok.stk with q | ⟨q,_⟩
  ·rw [q] at h1; exact h1 z
  ·rw [q] at h1;refine h1 ?_;unfold frs;rw [List.filterMap_cons];split
   ·exact z
   ·exact List.mem_cons_of_mem _ z
 have n1:=L.inv.Kl g1 rfl;have n2:=L.inv.Kl g2 d2
 have I:=L.inv.G8 (pins':=(a,Ue C dx vs)::(T,o)::pins) fun p hp=>by
  rcases List.mem_cons.mp hp with rfl | hp
  ·exact ⟨g1,L.ha,n1.1,fs a n1.2.2 n1.1,fun v q=>by cases q⟩
  ·rcases List.mem_cons.mp hp with rfl | hp
   ·exact ⟨g2,L.hT,n2.1,fs T n2.2.2 n2.1,fun v q=>by rw [d2] at q; cases q⟩
   ·exact L.inv.pin p (List.mem_append_right _ hp)
 refine thn (he _ s σ H Q I h) fun u s1 z0=>?_;obtain ⟨v,H1,I1,r,q⟩:=z0;obtain ⟨e1,z1,_⟩:=I1.pin (a,Ue C dx vs) (List.mem_append_right _ List.mem_cons_self);obtain ⟨e2,z2,_⟩:=I1.pin (T,o) (List.mem_append_right _ (List.mem_cons_of_mem _ List.mem_cons_self));refine ⟨v,H1,⟨I1.G8 fun p hp=>I1.pin p (List.mem_append_right _ (List.mem_cons_of_mem _ (List.mem_cons_of_mem _ hp))),⟨ne,⟨vs,e1,v1⟩,o,ts,e2,d2,t3⟩,z1,z2,L.oa,L.oT⟩,r,q⟩
end
def PHs (X:Cx) (hs:List ExceptHandler) (C:Addr) (t:Addr->TS):Prop :=
 ∀ (pins:List (Addr × Obj)) (s:Shared) (σ:St) (H:Hp) (D:Ends) (a dx T:Addr),Lies X pins σ H s a C dx T->t dx D σ H->wpAny (model X.prog X.w) X.A (handleBy (.ref a) X.env hs) (SP X pins D) X.xe s
section
variable {X:Cx} {rest:List ExceptHandler} {C C1 C2 C3:Addr} {bm cW fJ fE:List Value} {t:Addr->TS} {x1 x2 x3:Str} {p1 p2 p3 pt pos:Pos} {nm:Option Str} {body:List Stmt} {ec:Nat}
end
def Qy (a C dx:Addr):HO:=.ext fun h=>∃ vs,h.get? a=some (Ue C dx vs)
section
variable {X:Cx} {pins:List (Addr × Obj)} {σ:St} {H:Hp} {s:Shared} {a C dx T:Addr}
theorem Lies.seen (L:Lies X pins σ H s a C dx T):Inv X pins σ (upd H a (Qy a C dx)) s:=by
 have I:=L.inv;obtain ⟨_,⟨vs,ga,_⟩,_⟩:=L.at_;have ne:∀ b u,H b=some u->b≠a:=fun b u q=>uo q L.ha
 refine I.step (g':=s.gens) (d':=s.drawn) (t':=s.toks) (h':=s.heap) (ch:=[a]) (fun b hb=>?_) (fun b o _ _ _ q _=>q) (fun b o _ _ _ q _=>⟨o.slots,q⟩) (fun b o hb _ n=>by rw [gb (fun z=>hb (by simp [z]))]; exact n) (fun b o _ q=>⟨o,q⟩)
  (fun b xs q=>by rw [gb (ne b _ q)]; exact q) (fun b o u q=>by rw [gb (ne b _ q)]; exact q) (fun b ps q=>⟨#[],by rw [gb (ne b _ q),q]; simp⟩) (fun _ hm=>hm) (fun b u q=>?_) I.bare
 ·obtain rfl:=List.mem_singleton.mp hb;exact L.oa
 ·by_cases z:b=a
  ·subst z; rw [dz] at q; cases q;exact ⟨⟨vs,ga⟩,⟨_,ga⟩,fun h1 h2 ⟨ws,e⟩ k=>⟨ws,k _ e⟩⟩
  ·rw [gb z] at q;exact (I.hok b u q).stay (fun _ _ _ r=>r) (fun c r=>by rw [gb (ne c _ r)]; exact r) fun c xs r=>by rw [gb (ne c _ r)]; exact r
theorem Lies.flight {M:Model} {A:Around} {E:Value->Shared->Prop} {Q:Unit->Shared->Prop} (L:Lies X pins σ H s a C dx T) (h:∀ s',Lies X pins σ H s' a C dx T->Q () s'):wpAny M A (setFlight (.ref a) none) Q E s :=
 Ga L.at_ fun h' k x=>h _ ⟨L.inv.noted (k.mono (fun _ z=>nomatch z) (fun _ z=>z)) (fun b hb=>by rw [List.mem_singleton.mp hb]; exact L.hT) (fun b hb=>by rw [List.mem_singleton.mp hb]; exact L.oT),x,L.ha,L.hT,L.oa,L.oT⟩
theorem Lies.note {A:Around} {E:Value->Shared->Prop} {Q:Unit->Shared->Prop} (hst:X.stack=X.env::X.outer) (hfr:X.env.frame=some X.env.locals) (hA:A.frames=some X.stack) (L:Lies X pins σ H s a C dx T) (h:∀ s' T',Lies X pins σ H s' a C dx T'->Q () s') :
  wpAny (model X.prog X.w) A (noteFrame (.ref a) X.env) (fun _ s2=>wpAny (model X.prog X.w) A (setFlight (.ref a) none) Q E s2) E s:=by
 obtain ⟨ne,⟨vs,ga,v1⟩,o,ts,gT,dT,t3⟩:=id L.at_;have n1:=L.inv.Kl ga rfl;have n2:=L.inv.Kl gT dT;have fr:=L.inv.stack;rw [hst] at hA n1 n2 fr;refine Xu (L:=X.env.locals) (base:=X.base) hA fr hfr L.at_ n1.2.2 n2.2.2 fun h' T' dF k x=>?_;rw [<- hst] at k
 have I1:=L.inv.noted k (fun b hb=>by
  rcases List.mem_cons.mp hb with rfl | hb -- here
  ·exact L.ha
  ·rw [List.mem_singleton.mp hb]; exact L.hT) (fun b hb=>by
  rcases List.mem_cons.mp hb with rfl | hb -- here
  ·exact L.oa
  ·rw [List.mem_singleton.mp hb]; exact L.oT)
 refine Ga (s:={ s with heap:=h' }) x fun h2 k2 x2=>h _ T' ⟨I1.noted (h':=h2) (k2.mono (fun _ z=>nomatch z) (fun _ z=>z)) (fun b hb=>by rw [List.mem_singleton.mp hb]; exact L.inv.hok.fresh dF) (fun b hb=>by rw [List.mem_singleton.mp hb]; exact L.inv.off dF),x2,L.ha,L.inv.hok.fresh dF,L.oa,L.inv.off dF⟩
end
noncomputable def a8l (i:Nat) (D:Ends):Ends where
 nx:=fun σ H=>D.nx (σ.set i none) H
 rt:=D.rt
 bk:=fun σ H=>D.bk (σ.set i none) H
 ct:=fun σ H=>D.ct (σ.set i none) H
section
variable {X:Cx} {rest:List ExceptHandler} {C C1:Addr} {bm cW:List Value} {t:Addr->TS} {x1 n:Str} {p1 pos:Pos} {cX:Stmt} {cb:List Stmt} {ts:TS} {i:Nat}
theorem a4x (hd:X.calm=true->X.A.handled=none) (hN:X.N.Nodup) (hi:X.N[i]? = some n) (hn:X.env.scope.names.lookup n=some .local) (c:XCl X.K C bm) (c1:XCl X.K C1 cW) (y:(Value.ref C::bm).contains (.ref C1)=true) (g1:Gl X x1) (m1:X.mg x1=some (.ref C1))
  (hS:∀ a,PSs (X.mk' a) (cX::cb) ts) (d1:(x1==("__debug__" : Str))=false:=by decide) :
  PHs X (.ExceptHandler (some (.Name x1 p1)) (some n) (cX::cb) pos::rest) C fun dx D σ H=>∀ a,H a=none->i<σ.length->ts (a8l i D) (σ.set i (some (.ref a))) (upd H a (Qy a C dx)):=by
 intro pins s σ H D a dx T L hq;refine wpAny_handleBy_cons (codeAny_handlers_test ?_) (by intro q; cases q);have pe:PE (X.mk' a) (.Name x1 p1) (tC (.ref C1)):=Bq g1 m1 rfl d1;refine wpAny_mono ((L.mk' a).eval (Q:=fun v H1=>v=.ref C1/\H1=H) pe ⟨rfl,rfl⟩) (fun u s1 z0=>?_) fun _ _ z=>False.elim z;obtain ⟨v,H1,L1,r,ev,eH⟩:=z0;subst ev;subst eH;obtain rfl:u=Value.ref C1:=r;obtain ⟨_,⟨vs,ga,_⟩,_⟩:=L1.at_;refine Yu L1.inv.kIn c c1 ga rfl ?_;rw [y];refine codeAny_handlers_suite_as ?_;refine L1.flight fun s2 L2=>?_;refine M9 (X:=X.mk' a) (v:=.ref a) L2.seen hN hi (.inl hn) rfl (fun s3 I3=>?_) (.inr hn);refine wpAny_mono (hS a pins s3 _ _ _ I3 (hq a L.ha (by rw [L.inv.len]; exact (List.getElem?_eq_some_iff.mp hi).1))) (fun fl s4 h4=>?_) fun _ _ z=>False.elim z;cases fl with
 | next =>
  obtain ⟨σ',H',I4,q⟩:=h4;exact name_goes (I4.aap hd) hN hi hn fun s5 I5=>⟨_,H',I5,q⟩
 | brk =>
  obtain ⟨σ',H',I4,q⟩:=h4;exact name_goes (I4.aap hd) hN hi hn fun s5 I5=>⟨_,H',I5,q⟩
 | cont =>
  obtain ⟨σ',H',I4,q⟩:=h4;exact name_goes (I4.aap hd) hN hi hn fun s5 I5=>⟨_,H',I5,q⟩
 | ret u =>
  obtain ⟨v,σ',H',I4,r,q⟩:=h4;exact name_goes (I4.aap hd) hN hi hn fun s5 I5=>⟨v,_,H',I5,r,q⟩
end
abbrev TB:=Ends->XK->St->Hp->Prop
def PB (X:Cx) (st:List Stmt) (t:TB):Prop :=
 ∀ (pins:List (Addr × Obj)) (s:Shared) (σ:St) (H:Hp) (D:Ends) (E:XK),Inv X pins σ H s->t D E σ H->wpAny (model X.prog X.w) X.A (execs st X.env) (SP X pins D) (XP X (CXx X.prog X.w) pins σ E) s
noncomputable def abf (C:Addr) (tb:TB) (th:Addr->TS):TS:=fun D σ H=>tb D (fun cls dx H'=>∃ d,cls=.ref C/\dx=some d/\th d D σ H') σ H
section
variable {X:Cx} {body:List Stmt} {h₀:ExceptHandler} {hs:List ExceptHandler} {C:Addr} {tb:TB} {th:Addr->TS} {pos:Pos}
theorem a96 (hst:X.stack=X.env::X.outer) (hfr:X.env.frame=some X.env.locals) (hb:PB X body tb) (hh:PHs X (h₀::hs) C th):PS X (.Try body (h₀::hs) [] [] pos) (abf C tb th):=by
 intro pins s σ H D I h;refine wpAny_Try_except (wpAny_mono (hb pins s σ H D _ I h) (fun f s1 q=>?_) fun e s1 q=>?_)
 ·cases f with
  | next=>exact wpAny_execs_nil q
  | brk=>exact q
  | cont=>exact q
  | ret u=>exact q
 ·obtain ⟨a,C',dx,T,H',rfl,L,d,e1,e2,q⟩:=q.lies;cases e1;cases e2;exact L.note hst hfr L.inv.ok.frames fun s2 T' L2=>hh pins s2 σ H' D a dx T' L2 q
end
end L2
end
section
namespace C
open PySem PySem.Spec PyProof.Rows L2
def adn (K:PySem.W.Frag) (B:Bas) (Cl:Addr) (f:Str) (E:XK) (D:Ends) (ps:List (V × T)):Flow ⊕ T->Sta->Prop
 | .inl fl,aa=>Fin K B D ps fl aa
 | .inr t,aa=>∀ v dx σ' H' S' ag,Rel K B aa σ' H' ((v,t)::ps) S' ag->S' dx=some (Bw dx f v)->E (.ref Cl) (some dx) H'
noncomputable def Jc (K:PySem.W.Frag) (B:Bas) (Cl:Addr) (f:Str) (E:XK) (s:SX):TS:=fun D σ H=>∃ st ps S as,Rel K B st σ H ps S as/\∃ fl aa,s st=some (fl,aa)/\adn K B Cl f E D ps fl aa
theorem Ext.beside {S H:Hp} {p:Addr} (h:Same S H) (n:H p=none) (o:HO):Ext S H S (upd H p o) :=
 ⟨Same.refl _,Same.upd n o,fun b u q=>by rw [gb (uo (h _ _ q) n)]; exact h _ _ q,fun _ q=>.inl q⟩
section
variable {K:PySem.W.Frag} {B:Bas} {st:Sta} {σ σ':L2.St} {H S:Hp} {ps:List (V × T)} {as:List Addr}
theorem Rel.clr {i:Nat} (r:Rel K B st σ H ps S as) (h:∀ k,k≠i->σ'[k]? = σ[k]?) (hl:σ'.length=σ.length):Rel K B (clr i st) σ' H ps S as:=by
 have key:∀ (k:Nat) t f,(st.env.set i none)[k]? = some (some (t,f))->k≠i/\st.env[k]? = some (some (t,f)):=fun k t f e=>by
  by_cases z:i=k
  ·subst z
   by_cases q:i<st.env.length
   ·rw [List.getElem?_set_self q] at e; cases e
   ·rw [List.getElem?_eq_none (by rw [List.length_set]; exact Nat.le_of_not_lt q)] at e; cases e
  ·rw [List.getElem?_set_ne z] at e; exact ⟨Ne.symm z,e⟩
 refine ⟨r.sub,r.grow,fun k t f e=>?_,fun a b t u p ea eb sa sb=>?_,r.sto,r.pend,by rw [hl,r.len]; exact (List.length_set ..).symm⟩
 ·obtain ⟨n,e'⟩:=key k t f e;rw [h k n]; exact r.slots k t f e'
 ·obtain ⟨na,ea'⟩:=key a t true ea;obtain ⟨nb,eb'⟩:=key b u true eb;rw [h a na] at sa;rw [h b nb] at sb;exact r.apart a b t u p ea' eb' sa sb
end
section
variable {X:Cx} {B:Bas} {c:Expr} {pos:Pos} {u v:SX} {Cl:Addr} {f:Str} {E:XK}
theorem j9 {st:Stmt} {w:S} (h:PS X st (sOf X.K B w)):PS X st (Jc X.K B Cl f E (lx w)):=h.imp fun D σ H z9=>by
 obtain ⟨st,ps,S,as,R,fl,aa,e,q⟩:=z9;unfold lx at e;cases z:w st with
 | none=>rw [z] at e; cases e
 | some p=>obtain ⟨fl',s'⟩:=p; rw [z] at e; cases e; exact ⟨st,ps,S,as,R,fl',_,z,q⟩
theorem n6 {st:List Stmt} {w:S} (h:PSs X st (sOf X.K B w)):PSs X st (Jc X.K B Cl f E (lx w)):=fun pins s σ H D I z9=>by
 obtain ⟨st,ps,S,as,R,fl,aa,e,q⟩:=z9;unfold lx at e;cases z:w st with
 | none=>rw [z] at e; cases e
 | some p=>obtain ⟨fl',s'⟩:=p; rw [z] at e; cases e; exact h pins s σ H D I ⟨st,ps,S,as,R,fl',_,z,q⟩
theorem ji {st:Stmt} (h1:PS X st (Jc X.K B Cl f E u)):PSs X [st] (Jc X.K B Cl f E u):=Ln h1
theorem a2l {st aa:Sta} {fl:Flow ⊕ T} (h:o7 u v st=some (fl,aa)):(∃ s1,u st=some (.inl .next,s1)/\v s1=some (fl,aa))\/(u st=some (fl,aa)/\fl≠.inl .next):=by
 unfold o7 at h;split at h
 ·rename_i s1 e; exact .inl ⟨s1,e,h⟩
 ·rename_i r hn;refine .inr ⟨h,fun z=>?_⟩;subst z;exact hn _ h
theorem f9 {st:Stmt} {rest:List Stmt} (h1:PS X st (Jc X.K B Cl f E u)) (h2:PSs X rest (Jc X.K B Cl f E v)):PSs X (st::rest) (Jc X.K B Cl f E (o7 u v)):=(T8 h1 h2).imp fun D σ H z9=>by
 obtain ⟨st,ps,S,as,R,fl,aa,e,q⟩:=z9;rcases a2l e with ⟨s1,e1,e2⟩ | ⟨e1,hn⟩
 ·exact ⟨st,ps,S,as,R,.inl .next,s1,e1,fun σ' H' S' ag R'=>⟨s1,ps,S',ag,R',fl,aa,e2,q⟩⟩
 ·refine ⟨st,ps,S,as,R,fl,aa,e1,?_⟩;cases fl with
  | inr t=>exact q
  | inl fl =>
   cases fl with
   | next=>exact absurd rfl hn
   | ret t=>exact q
   | brk=>exact q
   | cont=>exact q
theorem Cp {c1:M Bool} {sa sb:List Stmt} (hc:PT X c (cOf X.K B c1)) (ha:PSs X sa (Jc X.K B Cl f E u)) (hb:PSs X sb (Jc X.K B Cl f E v)):PS X (.If c sa sb pos) (Jc X.K B Cl f E (xIf c1 u v)):=(aa7 hc ha hb).imp fun D σ H z9=>by
 obtain ⟨st,ps,S,as,R,fl,aa,e,q⟩:=z9;unfold xIf at e;split at e
 ·rename_i s1 e1;exact ⟨st,ps,S,as,R,true,s1,e1,fun H1 S1 af R1=>Yt ⟨s1,ps,S1,af,R1,fl,aa,e,q⟩⟩
 ·rename_i s1 e1;exact ⟨st,ps,S,as,R,false,s1,e1,fun H1 S1 af R1=>Xa ⟨s1,ps,S1,af,R1,fl,aa,e,q⟩⟩
 ·cases e
theorem a0p {D fI:Addr} {p x:Str} {fd:FuncData} {arg:Expr} {m:M T} {np aw:Pos} (W:XW X E) (c:XC X.K Cl D fI f) (F:Bh X.prog X.w X.K X.mg X.base CX0 1 fI fd ["self",p] (Nj Cl f)) (hr:yw 2 X.A) (hb:Binds X.K fd ["self",p] []) (hg:Gl X x) (hm:X.mg x=some (.ref Cl)) (ha:PE X arg (tOf X.K B m))
  (aL:(x==("__debug__" : Str))=false:=by decide) (he:starEach [arg] X.env=[(false,eval arg X.env)]:=by rfl) :
  PS X (.Raise (some (.Call (.Name x np) [arg] [] aw)) none pos) (Jc X.K B Cl f E (xu m)):=(a2q W c F hr hb hg hm ha aL he).imp fun D σ H z9=>by
 obtain ⟨st,ps,S,as,R,fl,aa,e,q⟩:=z9;unfold xu at e;split at e
 ·rename_i t s1 e1;cases e;exact ⟨st,ps,S,as,R,t,_,e1,fun v H1 S1 af R1 dx hn=>q v dx σ _ _ af (R1.ext (Ext.laid R1.sub hn _)) dz⟩
 ·cases e
end
def aei (K:PySem.W.Frag) (B:Bas) (Cl:Addr) (f:Str) (aD:List SO) (Q:VK) (E:XK):T ⊕ T->Prop
 | .inl t=>∀ v H' S' ag,a9d B S' ag H'->Same S' H'->Fz K S' ag H' aD->Rep K S' ag v t->Q v H'
 | .inr t=>∀ v dx H' S' ag,a9d B S' ag H'->Same S' H'->Fz K S' ag H' aD->Rep K S' ag v t->S' dx=some (Bw dx f v)->E (.ref Cl) (some dx) H'
noncomputable def spX (K:PySem.W.Frag) (ar:Nat) (Cl:Addr) (f:Str) (F:FnX):Sp:=fun vs H Q E=>∃ S as sto ts r aD,Same S H/\Fz K S as H sto/\p8 K S as vs ts/\ts.length=ar/\F ts sto=some (r,aD)/\aei K ⟨S,as,H⟩ Cl f aD Q E r
section
variable {P:Program} {w:World} {K:PySem.W.Frag} {mg:Str->Option Value} {base:Heap}
theorem Ua {x qual:Str} {st:Stmt} {a Cl:Addr} {f:Str} {fd:FuncData} {N ps:List Str} {k:Nat} {b:SX} (F:Fun K x qual st a fd) (Sc:Ag N ps (gw st)) (hN:ps.length<=N.length)
  (hb:∀ (ay:Value) (A:Around) (outer:List Env) (s:Shared) (H:Hp) (E:XK) (B:Bas),yw k (A.deeper (envOfC qual (gw st) s.heap.objs.size a ay)) ->
   PSs (Qg (CXx P w) P w K mg base N qual (gw st) a ay A outer s H E) (v8 st) (Jc K B Cl f E b)):Bh P w K mg base (CXx P w) (k+1) a fd ps (spX K ps.length Cl f (jw N.length b)):=by
 obtain ⟨oc,od,kV,doc,pm,an,ay,ct,bA,rfl,lk,a7⟩:=F.ex;refine a7w lk a7 Sc (fun vs H Q E ⟨S,as,sto,ts,t,aD,h1,h2,h3,h4,_⟩=>by rw [h3.length,h4]) fun A outer s H vs Q E hr h=>?_;obtain ⟨S,as,sto,ts,r,aD,h1,h2,h3,h4,h5,q⟩:=h;refine ⟨_,hb ay A outer s H E ⟨S,as,H⟩ hr,?_⟩;have R:Rel K ⟨S,as,H⟩ ⟨ts.map (fun t=>some (t,false))++List.replicate (N.length - ts.length) none,sto⟩ (L2.start N vs) H [] S as:=Pj h1 h2 h3 (by rw [h4]; exact hN);unfold jw at h5;split at h5
 ·rename_i t' s' e;cases h5;exact ⟨_,[],S,as,R,.inl (.ret _),s',e,fun v σ' H' S' ag R'=>q v H' S' ag R'.grow R'.sub R'.sto R'.top⟩
 ·rename_i s' e;cases h5;exact ⟨_,[],S,as,R,.inl .next,s',e,fun σ' H' S' ag R'=>q .non H' S' ag R'.grow R'.sub R'.sto .non⟩
 ·rename_i t' s' e;cases h5;exact ⟨_,[],S,as,R,.inr _,s',e,fun v dx σ' H' S' ag R' hd=>q v dx H' S' ag R'.grow R'.sub R'.sto R'.top hd⟩
 ·cases h5
theorem a6n {a Cl:Addr} {f:Str} {fd:FuncData} {ps:List Str} {k:Nat} {F:FnX} (G:Bh P w K mg base (CXx P w) k a fd ps (spX K ps.length Cl f F)):Bh P w K mg base CX0 k a fd ps (spF K ps.length (norm F)):=by
 refine ⟨fun vs H Q E ⟨S,as,sto,ts,t,aD,h1,h2,h3,h4,_⟩=>by rw [h3.length,h4],fun A outer s H args us vs Q E hr he hb hv h=>?_⟩;obtain ⟨S,as,sto,ts,t,aD,h1,h2,h3,h4,h5,q⟩:=h;unfold norm at h5;split at h5
 ·rename_i t1 s1 e;cases h5;refine codeAny_mono (G.run A outer s H args us vs Q (fun _ _ _=>False) hr he hb hv ⟨S,as,sto,ts,.inl _,_,h1,h2,h3,h4,e,q⟩) fun r s' hq=>?_;cases r with
  | ok fl=>cases fl <;> exact hq
  | error e =>
   obtain ⟨_,_,_,_,_,_,_,_,_,_,_,_,_,_,_,z⟩:=hq;exact z
 ·cases h5
end
section
variable {X:Cx} {B:Bas} {e:Expr} {es:List Expr} {ms:M (List T)} {pos p q1 q2 aK:Pos} {k:Nat} {a Cl:Addr} {f x:Str} {fd:FuncData} {pn:List Str} {F:FnX} {h₀:ExceptHandler} {hs:List ExceptHandler} {th:Addr->TS} {i j:Nat} {hv:T->Option T}
theorem a5i (G:Bh X.prog X.w X.K X.mg X.base (CXx X.prog X.w) k a fd pn (spX X.K pn.length Cl f F)) (hr:yw k X.A) (hg:Gl X x) (hm:X.mg x=some (.ref a)) (hk:PySem.W.keepIn X.K (.ref a)=true) (hb:Binds X.K fd pn [])
  (ha:PA X.nox (e::es) (aOf X.K B ms)) (aL:(x==("__debug__" : Str))=false:=by decide)
  (he:starEach (e::es) X.env=(false,eval e X.env)::starEach es X.env:=by rfl) (aE:(backTo pos (starEach es X.env)).any (·.1)=false:=by rfl) (bX:swapsWith (.Call (.Name x p) (e::es) [] pos) none q1.line X.env=pure false:=by rfl) :
  PB X [.Expr (.Call (.Name x p) (e::es) [] pos) q1] fun D E σ H=>aOf X.K B ms σ H fun vs H1=>spX X.K pn.length Cl f F vs H1 (fun _ H2=>D.nx σ H2) E:=by
 intro pins s σ H D E I h;refine wpAny_execs_cons (wpAny_mono (wpAny_Expr_any (Q:=SP X pins D) (thn (a71 G hr hg hm hk hb ha aL he aE pins s σ H (fun _ H2=>D.nx σ H2) E I h) fun v s1 z7=>by obtain ⟨y,H1,I1,r1,q1⟩:=z7; exact ⟨σ,H1,I1,q1⟩) I.quiet bX) (fun fl s1 hq=>?_) fun _ _ z=>z);cases fl with
 | next=>exact wpAny_execs_nil hq
 | brk=>exact hq
 | cont=>exact hq
 | ret u=>exact hq
end
end C
end
section
namespace L2
open PySem PySem.Spec PyProof.Rows
structure XG (K:PySem.W.Frag) (C:Addr) (f:Str):Prop where
 ga:PySem.W.findIn K (.ref C) "__getattribute__" = some (some (.builtin "BaseException.__getattribute__"))
 gt:PySem.W.findIn K (.ref C) "__getattr__" = some none
 bx:PySem.W.mroIn K C (.type "BaseException")=some true
 dc:PySem.W.hasDictIn K C=true
 na:PySem.W.findIn K (.ref C) f=some none
 cl:PySem.W.findIn K (.ref C) "__class__" = some (some (.builtin "object.__class__"))
 cg:PySem.W.specialIn K (.builtin "object.__class__") "__get__" = some (some (.builtin "getset_descriptor.__get__"))
 ct:PySem.W.takesIn K (.builtin "object.__class__")=some true
 ob:PySem.W.mroIn K C (.type "object")=some true
 ve:PySem.W.kitOne K (.ref C) (.type "ValueError")=some true
theorem Sh {v:V} {u:Value} (r:RelV v u):PySem.W.handedIn u=true:=by
 cases v with
 | non=>cases r; rfl
 | bl b=>cases r; rfl
 | int i=>obtain ⟨t,rfl⟩:=r; rfl
 | str x=>obtain ⟨t,rfl⟩:=r; rfl
 | byt b=>obtain ⟨t,rfl⟩:=r; rfl
 | flt b=>obtain ⟨t,rfl⟩:=r; rfl
 | ref a=>cases r; rfl
 | ty n=>cases r; rfl
section
variable {X:Cx} {e:Expr} {C:Addr} {f:Str} {i:Nat} {pos p:Pos}
end
end L2
namespace C
open PySem PySem.Spec PyProof.Rows L2
section
variable {K:PySem.W.Frag} {B:Bas} {f:Str} {i j:Nat} {hv:T->Option T} {th:Addr->TS} {Cl:Addr} {te:TE}
end
structure XR (P:Program) (w:World) (K:PySem.W.Frag) (mg:Str->Option Value) (base:Heap) (x:Str) (Cl:Addr) (f p:Str):Prop where
 ex:∃ D fI fd,XC K Cl D fI f/\Bh P w K mg base CX0 1 fI fd ["self",p] (Nj Cl f)/\Binds K fd ["self",p] []
 m:mg x=some (.ref Cl)
def jt (P:Program) (w:World) (K:PySem.W.Frag) (mg:Str->Option Value) (base:Heap) (x:Str) (n:Nat) (ps:List Str) (Cl:Addr) (f:Str) (F:FnX):Prop :=
 ∃ (a:Addr) (fd:FuncData),Bh P w K mg base (CXx P w) n a fd ps (spX K ps.length Cl f F)/\Binds K fd ps []/\PySem.W.keepIn K (.ref a)=true/\mg x=some (.ref a)
theorem jt.norm {P:Program} {w:World} {K:PySem.W.Frag} {mg:Str->Option Value} {base:Heap} {x:Str} {n:Nat} {ps:List Str} {Cl:Addr} {f:Str} {F:FnX} (D:jt P w K mg base x n ps Cl f F):u9 P w K mg base x n ps (C.norm F) :=
 let ⟨a,fd,h1,h2,h3,h4⟩:=D; ⟨a,fd,a6n h1,h2,h3,h4⟩
def ae5 (K:PySem.W.Frag) (mg:Str->Option Value) (x:Str) (Cl:Addr) (bm:List Value):Prop:=XCl K Cl bm/\mg x=some (.ref Cl)
section
variable {X:Cx} {B:Bas} {e:Expr} {es:List Expr} {ms:M (List T)} {pos p q1 q2 aK:Pos} {k:Nat} {Cl:Addr} {f x:Str} {pn:List Str} {F:FnX} {h₀:ExceptHandler} {hs:List ExceptHandler} {th:Addr->TS} {i j:Nat} {hv:T->Option T}
theorem ug {E:XK} {pr:Str} {arg:Expr} {m:M T} {np aw:Pos} (R:XR X.prog X.w X.K X.mg X.base x Cl f pr) (W:XW X E) (hr:yw 2 X.A) (hg:Gl X x) (ha:PE X arg (tOf X.K B m))
  (aL:(x==("__debug__" : Str))=false:=by decide) (he:starEach [arg] X.env=[(false,eval arg X.env)]:=by rfl) :
  PS X (.Raise (some (.Call (.Name x np) [arg] [] aw)) none pos) (Jc X.K B Cl f E (xu m)):=by
 obtain ⟨⟨D,fI,fd,h1,h2,h3⟩,m⟩:=R;exact a0p W h1 h2 hr h3 hg m ha aL he
end
end C
end
section
namespace C
open PySem
noncomputable def ni:Nat->M Bool->SX->SX
 | 0,_,_=>fun _=>none
 | n+1,c,b=>fun s=>match c s with
  | some (false,s1)=>some (.inl .next,s1)
  | some (true,s1)=>match b s1 with
   | some (.inl .next,s2)=>ni n c b s2
   | some (.inl .cont,s2)=>ni n c b s2
   | some (.inl .brk,s2)=>some (.inl .next,s2)
   | some (.inl (.ret v),s2)=>some (.inl (.ret v),s2)
   | some (.inr v,s2)=>some (.inr v,s2)
   | none=>none
  | none=>none
end C
end
section
namespace L2
open PySem PySem.Spec PyProof.Rows
section
variable {P:Program} {w:World} {K:PySem.W.Frag} {mg:Str->Option Value} {base:Heap} {N:List Str} {qual:Str} {scope:Scope} {f:Addr} {cd:Value} {A:Around} {outer:List Env} {s₀:Shared} {H₀:Hp} {E:XK}
theorem jq:Passes (CXx P w) (Qg (CXx P w) P w K mg base N qual scope f cd A outer s₀ H₀ E) E:=by
 intro pins σ H s e s' I h;have I0:=I.G8 (pins':=[]) (fun p hp=>nomatch hp);obtain ⟨a,C,dx,T,H',rfl,L,hE⟩:=XP.lies (X:=Qg (CXx P w) P w K mg base N qual scope f cd A outer s₀ H₀ E) ⟨H,s,I0,h⟩;show wpAny _ _ (leaving _ _) _ _ _;unfold leaving;refine wpAny_bind (L.note rfl rfl L.inv.ok.frames fun s2 T' L2=>?_);have za:s₀.heap.objs.size<=a:=L2.oa.1.elim (fun z=>nomatch z) id;have zT:s₀.heap.objs.size<=T':=L2.oT.1.elim (fun z=>nomatch z) id;exact ⟨a,C,dx,T',H',rfl,za,zT,L2.at_,L2.ha,L2.hT,L2.inv.os,L2.inv.bare,L2.inv.base,L2.inv.hok,hE⟩
end
end L2
namespace C
open PySem PySem.Spec PyProof.Rows L2
section
variable {X:Cx} {B:Bas} {c e:Expr} {es:List Expr} {ms:M (List T)} {pos p q1 aK:Pos} {u:SX} {Cl a:Addr} {f x y:Str} {E:XK} {fd:FuncData} {pn:List Str} {F:FnX} {k i:Nat}
theorem V8 {n:Nat} {mc:M Bool} {b:SX} {s s':Sta} {fl:Flow ⊕ T} (h:ni (n+1) mc b s=some (fl,s')):(∃ s1,mc s=some (false,s1)/\fl=.inl .next/\s'=s1) \/
  ∃ s1 fb s2,mc s=some (true,s1)/\b s1=some (fb,s2)/\(match fb with | .inl .next=>ni n mc b s2=some (fl,s') | .inl .cont=>ni n mc b s2=some (fl,s') | .inl .brk=>fl=.inl .next/\s'=s2 | .inl (.ret v)=>fl=.inl (.ret v)/\s'=s2 | .inr v=>fl=.inr v/\s'=s2):=by
 rw [ni] at h;dsimp only at h;split at h
 ·rename_i s1 e1; cases h; exact .inl ⟨_,e1,rfl,rfl⟩
 ·rename_i s1 e1;split at h
  ·rename_i s2 e2; exact .inr ⟨s1,.inl .next,s2,e1,e2,h⟩
  ·rename_i s2 e2; exact .inr ⟨s1,.inl .cont,s2,e1,e2,h⟩
  ·rename_i s2 e2; cases h; exact .inr ⟨s1,.inl .brk,_,e1,e2,rfl,rfl⟩
  ·rename_i v s2 e2; cases h; exact .inr ⟨s1,.inl (.ret v),_,e1,e2,rfl,rfl⟩
  ·rename_i v s2 e2; cases h; exact .inr ⟨s1,.inr v,_,e1,e2,rfl,rfl⟩
  ·cases h
 ·cases h
theorem Hx (n:Nat) {mc:M Bool} {body:List Stmt} (hp:PassesOwn (model X.prog X.w) X.A X.env X.xe) (hc:PT X c (cOf X.K B mc)) (hb:PSs X body (Jc X.K B Cl f E u)):PS X (.While c body [] pos) (Jc X.K B Cl f E (ni n mc u)):=(Uu hp hc hb).imp fun D σ H z9=>by
 obtain ⟨st,ps,S,as,R,fl,aa,e,q⟩:=z9;refine ⟨fun k σ H=>∃ aC Si aB,Rel X.K B aC σ H ps Si aB/\ni k mc u aC=some (fl,aa),⟨n,st,S,as,R,e⟩,?_⟩;rintro k bL H2 ⟨aC,Si,aB,Ri,ei⟩;cases k with
 | zero=>rw [ni] at ei; cases ei
 | succ k =>
  rcases V8 ei with ⟨s1,e1,rfl,rfl⟩ | ⟨s1,fb,s2,e1,e2,er⟩
  ·exact ⟨aC,ps,Si,aB,Ri,false,_,e1,fun H3 S3 aJ R3=>Xa (q bL H3 S3 aJ R3)⟩
  ·refine ⟨aC,ps,Si,aB,Ri,true,s1,e1,fun H3 S3 aJ R3=>Yt ⟨fun σ' H'=>∃ aC Si aB,Rel X.K B aC σ' H' ps Si aB/\ni k mc u aC=some (fl,aa),fun σ' H' h=>⟨k,Nat.lt_succ_self _,h⟩,s1,ps,S3,aJ,R3,fb,s2,e2,?_⟩⟩;cases fb with
   | inr v =>
    obtain ⟨rfl,rfl⟩:=er;exact fun w dx σ' H' S' ag R' hd=>q w dx σ' H' S' ag R' hd
   | inl fb =>
    cases fb with
    | next=>exact fun σ' H' S' ag R'=>⟨s2,S',ag,R',er⟩
    | cont=>exact fun σ' H' S' ag R'=>⟨s2,S',ag,R',er⟩
    | brk =>
     obtain ⟨rfl,rfl⟩:=er;exact fun σ' H' S' ag R'=>q σ' H' S' ag R'
    | ret v =>
     obtain ⟨rfl,rfl⟩:=er;exact fun v σ' H' S' ag R'=>q v σ' H' S' ag R'
end
end C
end
section
namespace L2
open PySem PySem.Spec PyProof.Rows
section
variable {X:Cx} {pins:List (Addr × Obj)} {σ:St} {H:Hp} {s:Shared} {e:Addr}
end
section
variable {X:Cx} {C D fI:Addr} {f p x:Str} {fd:FuncData} {arg:Expr} {te:TE} {np aw pos:Pos}
end
section
variable {X:Cx} {e:Expr} {C:Addr} {f:Str} {te:TE} {pos p:Pos}
theorem a5l (g:XG X.K C f) (he:PE X e te) (hb:attributeBase e f X.env (eval e X.env)=eval e X.env) :
  PE X (.Attribute e f pos) fun σ H Q=>te σ H fun x H1=>∃ a dx v,x=.ref a/\H1 a=some (Qy a C dx)/\H1 dx=some (Bw dx f v)/\Q v H1:=by
 intro pins s σ H Q I h;refine Zn hb (thn (he pins s σ H _ I h) fun u s1 z0=>?_);obtain ⟨x,H1,I1,rx,a,dx,v,ex,e2,e3,q⟩:=z0;subst ex;obtain rfl:u=Value.ref a:=rx;obtain ⟨⟨vs,ga⟩,_⟩:=I1.hok a _ e2;obtain ⟨⟨hs,tk,u,r,gd⟩,_⟩:=I1.hok dx _ e3;refine My.a2i (ox:=Ue C dx vs) (od:=some (PySem.W.dictOf [⟨hs,.str f tk,u⟩] 1)) I1.kIn ⟨ga,rfl,rfl,gd⟩ g.ga g.gt g.bx (PySem.W.findObj_own g.dc g.na rfl ?_) (Sh r) ⟨v,H1,I1.tok _,r,q⟩;rw [PySem.W.lookIn_dict];simp [PySem.W.getL,Value.isStr]
theorem a0f {cv:V} {cw:Value} (eJ:∀ u,RelV cv u->u=cw):Gq X (.builtin "isinstance") (fun xs H Q=>∃ a dx v C f b,xs=[.ref a,cv]/\H a=some (Qy a C dx)/\H dx=some (Bw dx f v)/\XG X.K C f/\PySem.W.kitOne X.K (.ref C) cw=some b/\Q (.bl b) H):=by
 intro pins s σ H xs us Q I rs z8;obtain ⟨a,dx,v,C,f,b,ex,e2,e3,g,hk,q⟩:=z8;subst ex;obtain ⟨u1,u2,rfl,r1,r2⟩:=rs.two;obtain rfl:u1=Value.ref a:=r1;obtain rfl:=eJ u2 r2;obtain ⟨⟨vs,ga⟩,_⟩:=I.hok a _ e2;obtain ⟨⟨hs,tk,u,r,gd⟩,_⟩:=I.hok dx _ e3;exact PySem.W.kia_one (My.a1g (ox:=Ue C dx vs) (od:=PySem.W.dictOf [⟨hs,.str f tk,u⟩] 1) g.ga g.gt g.bx g.dc g.cl g.cg g.ct g.ob) I.kIn ⟨ga,rfl,rfl,gd⟩ hk (by intro q; cases q) fun t=>⟨.bl b,H,I.tok t,rfl,q⟩
end
end L2
namespace C
open PySem PySem.Spec PyProof.Rows L2
section
variable {X:Cx} {B:Bas} {Cl D fI:Addr} {f p x:Str} {fd:FuncData} {arg:Expr} {m:M T} {np aw pos:Pos}
theorem a4i {st:Sta} {σ:L2.St} {H S:Hp} {ps:List (V × T)} {as:List Addr} {v:V} {n:Nat} {c:Nat} {g:Str} {t:T} (R:Rel X.K B st σ H ((v,.obj n)::ps) S as) (e:st.sto[n]? = some (.exc c g t)) :
  ∃ a dx w,v=.ref a/\H a=some (Qy a c dx)/\H dx=some (Bw dx g w)/\Rep X.K S as w t:=by
 have tp:=R.top;cases tp with
 | @obj _ a ha =>
  obtain ⟨a0,l0,_,dx,w,h1,h2,h3⟩:=R.sto.at' n _ e;rw [ha] at l0; cases l0;exact ⟨a,dx,w,rfl,h1,R.sub _ _ h2,h3⟩
theorem abw {e:Expr} (g:XG X.K Cl f) (he:PE X e (tOf X.K B m)) (hb:attributeBase e f X.env (eval e X.env)=eval e X.env:=by rfl):PE X (.Attribute e f pos) (tOf X.K B (mXf Cl f m)):=(a5l g he hb).imp fun σ H Q z9=>by
 obtain ⟨st,ps,S,as,R,t,aa,e,q⟩:=z9;unfold mXf at e;split at e
 ·rename_i n s1 e1;split at e
  ·rename_i d g' t' e2;split at e
   ·rename_i hc;obtain ⟨hc1,hc2⟩:=hc;subst hc1 hc2;cases e;refine ⟨st,ps,S,as,R,_,_,e1,fun v H1 S1 af R1=>?_⟩;obtain ⟨a,dx,w,ev,h1,h2,h3⟩:=a4i R1 e2;exact ⟨a,dx,w,ev,h1,h2,q _ _ _ _ (R1.drop.push h3)⟩
   ·cases e
  ·cases e
 ·cases e
theorem Jm {e d:Expr} {cv:V} {cw:Value} {tb:List (Nat × Str × Bool)} (eJ:∀ u,RelV cv u->u=cw) (hd:PE X d (tC cv)) (hg:Gl X "isinstance") (hm:X.mg "isinstance" = none) (he:PE X e (tOf X.K B m))
  (ht:∀ p∈tb,XG X.K p.1 p.2.1/\PySem.W.kitOne X.K (.ref p.1) cw=some p.2.2) (hs:starEach [e,d] X.env=(false,eval e X.env)::starEach [d] X.env:=by rfl) (aU:starEach [d] X.env=(false,eval d X.env)::starEach [] X.env:=by rfl) (aE:(backTo pos (starEach [d] X.env)).any (·.1)=false:=by rfl) :
  PE X (.Call (.Name "isinstance" np) [e,d] [] pos) (tOf X.K B (Qe tb m)):=(jg (a0f eJ) hg hm PyProof.Rows.boot_isinstance (ql he (ql hd w6 aU) hs) (by decide) (by decide) hs aE).imp fun σ H Q z9=>by
 obtain ⟨st,ps,S,as,R,t,aa,e,q⟩:=z9;unfold Qe at e;split at e
 ·rename_i n s1 e1;split at e
  ·rename_i d g t' e2;split at e
   ·rename_i pp e3;cases e;have hp:=List.mem_of_find?_eq_some e3;have hf:=List.find?_some e3;rw [Bool.and_eq_true] at hf;have f1:pp.1=d:=eq_of_beq hf.1;have f2:pp.2.1=g:=eq_of_beq hf.2;obtain ⟨k1,k2⟩:=ht pp hp;rw [f1,f2] at k1;rw [f1] at k2;refine ⟨st,ps,S,as,R,_,_,e1,fun v H1 S1 af R1=>?_⟩;obtain ⟨a,dx,w,ev,h1,h2,h3⟩:=a4i R1 e2;exact ⟨a,dx,w,d,g,_,by rw [ev],h1,h2,k1,k2,q _ _ _ _ (R1.drop.push (.bl _))⟩
   ·cases e
  ·cases e
 ·cases e
end
section
variable {K:PySem.W.Frag} {B:Bas} {f:Str} {i j:Nat} {th:Addr->TS} {Cl:Addr}
def ad2 (K:PySem.W.Frag) (B:Bas) (Cl:Addr) (f:Str) (i j:Nat) (th:Addr->TS):Prop :=
 ∀ dx D σ H st ps S as v t,Rel K B st σ H ((v,t)::ps) S as->S dx=some (Bw dx f v)->(∀ σ' H' S' ag,Rel K B (clr i (iu j (.obj st.sto.length) false (clr i { st with sto:=st.sto++[.exc Cl f t] }))) σ' H' ps S' ag->D.nx σ' H')->th dx D σ H
theorem a2m:ad2 K B Cl f i j (fun dx D σ H=>∀ a,H a=none->i<σ.length->a5h (W2 i) (Js j) (a8l i D) (σ.set i (some (.ref a))) (upd H a (Qy a Cl dx))):=fun dx D σ H st ps S as v t R hd q a ha hi=>by
 have R1:=R.drop.newObj (ob:=Qy a Cl dx) (so:=.exc Cl f t) ha ⟨dx,v,dz,hd,R.top.mono (Same.refl _) ⟨[a],rfl⟩⟩;have R2:=R1.clr (i:=i) (σ':=σ.set i (some (.ref a))) (fun k n=>List.getElem?_set_ne (Ne.symm n)) (List.length_set ..);refine ⟨_,List.getElem?_set_self hi,?_⟩;exact q _ _ _ _ ((R2.drop.put R2.top).clr (fun k n=>List.getElem?_set_ne (Ne.symm n)) (List.length_set ..))
end
section
variable {X:Cx} {B:Bas} {e:Expr} {es:List Expr} {ms:M (List T)} {pos p q1 q2 aK:Pos} {k:Nat} {a Cl:Addr} {f x:Str} {fd:FuncData} {pn:List Str} {F:FnX} {h₀:ExceptHandler} {hs:List ExceptHandler} {th:Addr->TS} {i j:Nat}
theorem a6h (D:jt X.prog X.w X.K X.mg X.base x k pn Cl f F) (hst:X.stack=X.env::X.outer) (hfr:X.env.frame=some X.env.locals) (hr:yw k X.A) (hg:Gl X x)
  (ha:PA X.nox (e::es) (aOf X.K B ms)) (hl:∀ st ts aa,ms st=some (ts,aa)->ts.length=pn.length) (hh:PHs X (h₀::hs) Cl th) (ho:ad2 X.K B Cl f i j th) (aL:(x==("__debug__" : Str))=false:=by decide)
  (he:starEach (e::es) X.env=(false,eval e X.env)::starEach es X.env:=by rfl) (aE:(backTo pos (starEach es X.env)).any (·.1)=false:=by rfl) (bX:swapsWith (.Call (.Name x p) (e::es) [] pos) none q1.line X.env=pure false:=by rfl) :
  PS X (.Try [.Expr (.Call (.Name x p) (e::es) [] pos) q1] (h₀::hs) [] [] q2) (sOf X.K B (Zi Cl f F ms i j)):=by
 obtain ⟨fa,fd,G,hb,hk,hm⟩:=D;refine (a96 hst hfr (a5i G hr hg hm hk hb ha aL he aE bX) hh).imp fun D σ H z0=>?_;obtain ⟨st,ps,S,as,R,fl,aa,e,q⟩:=z0;unfold Zi at e;split at e
 ·rename_i ts s1 e1;split at e
  ·rename_i t sto e2;cases e;refine ⟨st,ps,S,as,R,ts,s1,e1,fun vs H1 S1 af R1 rs=>⟨S1,af,s1.sto,ts,.inr t,sto,R1.sub,R1.sto,rs,hl _ _ _ e1,e2,?_⟩⟩;exact fun v dx H2 S2 az g sub so r hd=>⟨dx,rfl,rfl,ho dx D σ H2 _ ps S2 az v t ((R1.call g sub so).push r) hd q⟩
  ·cases e
 ·cases e
end
end C
end
section
namespace C
open PySem
noncomputable def qb (i:Nat) (m:M T):M T:=fun s=>if Ac i s then (match m s with
 | some (.lst ys,s1)=>match s1.env[i]? with
  | some (some (.lst xs,_))=>if xs.length+ys.length<lim then some (.lst (xs++ys),s1) else none
  | _=>none
 | _=>none) else none
def a3d:List T->Option T
 | [.int i]=>if Dz i then some (.str (toString i)) else none
 | _=>none
noncomputable def Dw:T->T->Option T
 | .str sep,.lst ts=>match Eh ts with
  | some l=>if (l.map (·.length)).sum+l.length * sep.length<lim then some (.str (Str.join sep l)) else none
  | none=>none
 | _,_=>none
end C
end
section
namespace C
open PySem PySem.W PyProof.Rows
end C
end
section
namespace C
open PySem
end C
end
section
namespace C
open PySem PySem.Spec PyProof.Rows L2
section
variable {K:PySem.W.Frag} {S S':Hp} {as:List Addr}
end
section
variable {X:Cx} {scope:Scope} {N:List Str} {B:Bas} {nv:Nat} {ai:List Nat} {g:G} {c:M Bool} {e:M T} {tg iter elt:Expr} {ifs:List Expr} {pos:Pos} {i:Nat}
end
section
end
section
variable {K:PySem.W.Frag} {B:Bas} {st:Sta} {σ:L2.St} {H S:Hp} {ps:List (V × T)} {as:List Addr}
end
section
variable {X:Cx} {B:Bas} {a b c e o k d:Expr} {m mo mk md mv:M T} {pos p:Pos}
end
section
variable {K:PySem.W.Frag} {S:Hp} {as:List Addr}
theorem p8.rep {vs:List V} {ts:List T} (r:p8 K S as vs ts):∀ k:Nat,p8 K S as (List.replicate k vs).flatten (List.replicate k ts).flatten
 | 0=>.nil
 | k+1=>by
  rw [List.replicate_succ,List.replicate_succ,List.flatten_cons,List.flatten_cons];exact r.append (r.rep k)
end
section
variable {X:Cx} {B:Bas} {a b e:Expr} {m m2:M T} {pos p1:Pos} {es:List Expr} {ms:M (List T)}
theorem Rel.base {K:PySem.W.Frag} {B:Bas} {st:Sta} {σ:L2.St} {H S:Hp} {ps:List (V × T)} {as:List Addr} (r:Rel K B st σ H ps S as):Rel K ⟨S,as,B.H⟩ st σ H ps S as :=
 ⟨r.sub,⟨Same.refl _,nol,fun p o h1 h2 h3=>by
  change S p=none at h2
  have b2:B.S p=none:=by
   cases q:B.S p with
   | none=>rfl
   | some u=>have:=r.grow.same _ _ q; rw [h2] at this; cases this
  have b3:p∉B.as:=fun q=>by obtain ⟨l,e⟩:=r.grow.more; exact h3 (by show p∈as; rw [e]; exact List.mem_append_left _ q)
  exact ⟨(r.grow.keep p o h1 b2 b3).1,h2,h3⟩⟩,fun i t f e=>by
   obtain ⟨v,h1,h2,h3⟩:=r.slots i t f e;exact ⟨v,h1,h2,fun q=>by obtain ⟨p,ep,o⟩:=h3 q; exact ⟨p,ep,o.own,o.out,o.nas,o.new⟩⟩,r.apart,r.sto,r.pend,r.len⟩
theorem Rel.a9v {K:PySem.W.Frag} {B:Bas} {st aa:Sta} {σ σ':L2.St} {H H' S S':Hp} {ps aY:List (V × T)} {as ag:List Addr} (r:Rel K B st σ H ps S as) (r':Rel K ⟨S,as,B.H⟩ aa σ' H' aY S' ag):Rel K B aa σ' H' aY S' ag :=
 ⟨r'.sub,⟨r.grow.same.trans r'.grow.same,by
  obtain ⟨l,e⟩:=r.grow.more;obtain ⟨l',e'⟩:=r'.grow.more;exact ⟨l++l',by rw [e',<- List.append_assoc,<- e]⟩,fun p o h1 h2 h3=>by
  obtain ⟨a,b,c⟩:=r.grow.keep p o h1 h2 h3
  exact r'.grow.keep p o h1 b c⟩,fun i t f e=>by
   obtain ⟨v,h1,h2,h3⟩:=r'.slots i t f e;exact ⟨v,h1,h2,fun q=>by obtain ⟨p,ep,o⟩:=h3 q; exact ⟨p,ep,o.own,o.out,o.nas,o.new⟩⟩,r'.apart,r'.sto,r'.pend,r'.len⟩
theorem Iu (h:PA X es (aOf X.K B ms)) (hm:∀ st ts aa,ms st=some (ts,aa)->ts.length<=1000) (hb:∀ B,PE X b (tOf X.K B m2)):PE X (.BinOp (.List es p1) .Mult b pos) (tOf X.K B (mOp Ed (dg (fun l=>some (.lst l)) ms) m2)) :=
 (Wf a89 (Uw h) (peE hb)).imp fun σ H Q z9=>by
  obtain ⟨st,ps,S,as,R,t,aa,ev,q⟩:=z9;obtain ⟨t1,s1,t2,e1,e2,e3⟩:=Gg ev;obtain ⟨ts,e4,e5⟩:=Bb e1;cases e5;cases t2 <;> simp only [Ed,reduceCtorEq] at e3
  rename_i j;split at e3
  ·rename_i hl;cases e3;refine ⟨st,ps,S,as,R,ts,s1,e4,fun vs H1 S1 af R1 rs=>⟨?_,fun p hp=>?_⟩⟩
   ·rw [rs.length]; exact Nat.le_of_lt (Aq (hm _ _ _ e4))
   ·have x:=Ext.laid R1.sub hp (.lst vs);have R2:=R1.ext x;refine ⟨_,s1,_,_,af,R2.base,_,_,e2,fun v2 H3 S3 aJ R3=>?_⟩;have tp:=R3.top;cases tp;have hS:S3 p=some (.lst vs):=R3.grow.same _ _ dz;have R4:=(R2.a9v R3).drop;refine ⟨p,j,vs,rfl,rfl,R3.sub _ _ hS,by omega,by omega,?_,fun p2 cQ=>?_⟩
    ·rw [rs.length];exact Nat.le_of_lt (Nat.lt_of_lt_of_le hl.2.2 ju)
    ·have y:=Ext.laid R4.sub cQ (.lst (List.replicate j.toNat vs).flatten);have sm:Same S1 S3:=x.s.trans R3.grow.same;exact q _ _ _ _ ((R4.ext y).push (.lst (SqL.of dz) (((rs.mono sm R3.grow.more).rep j.toNat).mono y.s nol)))
  ·cases e3
end
end C
end
section
namespace C
open PySem L2
section
variable {K:PySem.W.Frag} {S S':Hp} {as:List Addr}
end
section
variable {X:Cx} {B:Bas} {e:Expr}
end
section
variable {X:Cx} {B:Bas} {e:Expr}
end
end C
end
section
namespace C
open PySem PySem.Spec PyProof.Rows L2
section
variable {X:Cx} {B:Bas} {a b c e o k d:Expr} {m mo mk md mv:M T} {pos p:Pos}
theorem K3:∀ {l:List Int} {us:List Value},Vals (l.map V.int) us->∃ ps:List (Int × Tok),us=ps.map (fun p=>.int p.1 p.2)/\ps.map (·.1)=l
 | [],_,.nil=>⟨[],rfl,rfl⟩
 | i::l,_,.cons (b:=u) r rs=>by
  obtain ⟨ps,h1,h2⟩:=K3 rs;obtain ⟨t,rfl⟩:=r;exact ⟨(i,t)::ps,by rw [h1]; rfl,by rw [<- h2]; rfl⟩
end
section
variable {X:Cx} {B:Bas} {m g0 g9:M T}
end
section
variable {K:PySem.W.Frag} {S:Hp} {as:List Addr}
end
section
variable {X:Cx} {pins:List (Addr × Obj)} {σ:L2.St} {H:Hp} {s:Shared} {a b:Addr} {u:Value} {v:V} {A:Around} {E:Value->Shared->Prop}
end
section
variable {X:Cx} {B:Bas} {o k e:Expr} {es:List Expr} {mo mk mv:M T} {ms:M (List T)} {td ty:TE} {i:Expr} {pos pos' p2:Pos} {j:Nat}
end
section
variable {X:Cx} {B:Bas} {a b c e:Expr} {m:M T} {pos p:Pos} {u v:S}
end
end C
end
section
namespace HT
open PySem PyProof.Rows
section
variable {prog:Program} {w:World} {A:Around} {E:Value->Shared->Prop} {s:Shared}
end
end HT
namespace C
open PySem PySem.Spec PyProof.Rows L2
section
variable {X:Cx} {B:Bas} {a:Expr} {m:M T} {ml mh:M (Option Int)} {lo hi:Option Expr} {pos p2:Pos}
end
end C
end
section
namespace C
open PySem PySem.Spec
section
variable {prog:Program} {w:World} {A:Around} {E:Value->Shared->Prop} {s:Shared} {it l:Addr} {xs:Array Value}
end
end C
end
section
namespace C
open PySem PySem.Spec PyProof.Rows L2
section
variable {X:Cx} {B:Bas} {a b e e1 e2:Expr} {m m1 m2:M T} {pos p1 p2 p3 p4:Pos} {lo hi:Option Expr} {ml mh:M (Option Int)}
theorem Qw {i:Nat} {s s':Sta} {t:T} (h:qb i m s=some (t,s')):Ac i s=true/\∃ xs f ys,m s=some (.lst ys,s')/\s'.env[i]? = some (some (.lst xs,f))/\xs.length+ys.length<lim/\t=.lst (xs++ys):=by
 unfold qb at h;split at h
 ·rename_i hd;refine ⟨hd,?_⟩;split at h
  ·rename_i ys s1 e1;split at h
   ·rename_i xs f e2;split at h
    ·rename_i hl;cases h;exact ⟨xs,f,ys,e1,e2,hl,rfl⟩
    ·cases h
   ·cases h
  ·cases h
 ·cases h
theorem vq (i:Nat) (hi:PE X a (W2 i)) (hb:PE X b (tOf X.K B m)):PE X (.BinOp a .Add b pos) (fOf X.K B (qb i m)):=(Wf Wk hi hb).imp fun σ H Q z9=>by
 obtain ⟨st,ps,S,as,R,t,aa,ev,q⟩:=z9;obtain ⟨hd,xs,f,ys,e1,e2,hl,rfl⟩:=Qw ev;obtain ⟨aV,f0,e0⟩:=Cu hd;obtain ⟨p0,vs0,s0,_⟩:=R.listAt e0;refine ⟨_,s0,st,ps,S,as,R,.lst ys,aa,e1,fun u H2 S2 az R2=>?_⟩;have tp:=R2.top;cases tp with
 | @lst c vs ts g1 g2 =>
  obtain ⟨q1,vs1,s1,rd1,h4⟩:=R2.listAt e2;rw [s0] at s1; cases s1;refine ⟨p0,c,vs1,vs,rfl,rfl,rd1,jc R2.sub g1,?_,fun l eL=>?_⟩
  ·rw [h4.length,g2.length]; exact Nat.le_trans (Nat.le_of_lt hl) ju
  ·obtain ⟨bD,sD,nD,no⟩:=R2.fresh eL;exact q l _ S2 az (R2.drop.a7s bD sD nD (fun j w e1 e2=>no j w e1 e2)) ⟨⟨vs1++vs,dz,h4.append g2⟩,sD,nD,bD⟩ (fun j w e1 e2=>no j w e1 e2)
end
section
variable {X:Cx} {B:Bas} {a:Expr} {m:M T} {pos p:Pos} {elts:List Expr} {x1:Nat} {aK:Pos}
end
end C
end
section
namespace C
open PySem L2
section
variable {X:Cx} {B:Bas} {a b tg:Expr} {m1 m2:M T} {pos p:Pos}
end
end C
end
section
namespace C
open PySem
noncomputable def a0w (f:Str) (t:T):List (Str × T)->List (Str × T)
 | []=>[(f,t)]
 | (k,x)::r=>if k=f then (k,t)::r else (k,x)::a0w f t r
noncomputable def Mi (C:Nat) (n:Nat) (sto:List SO):Option (List (Str × T)):=match sto[n]? with
 | some (.ins D fs)=>if D=C then some fs else none
 | _=>none
noncomputable def yx (C:Nat) (f:Str) (o:M T):M T:=fun s=>match o s with
 | some (.obj n,s1)=>match Mi C n s1.sto with
  | some fs=>match fs.lookup f with
   | some t=>some (t,s1)
   | none=>none
  | none=>none
 | _=>none
noncomputable def vf (C:Nat) (f:Str) (o v:M T):S:=fun s=>match v s with
 | some (t,s1)=>match o s1 with
  | some (.obj n,s2)=>match Mi C n s2.sto with
   | some fs=>if fs.length<100 then some (.next,{ s2 with sto:=s2.sto.set n (.ins C (a0w f t fs)) }) else none
   | none=>none
  | _=>none
 | none=>none
noncomputable def m9 (C:Nat) (m:Str) (F:Fn) (o:M T) (a:M (List T)):M T:=fun s=>match o s with
 | some (.obj n,s1)=>match Mi C n s1.sto with
  | some fs=>if fs.lookup m=none then (match a s1 with
   | some (ts,s2)=>match F (.obj n::ts) s2.sto with
    | some (t,sto)=>some (t,{ s2 with sto:=sto })
    | none=>none
   | none=>none) else none
  | none=>none
 | _=>none
noncomputable def a6a (n:Nat) (g:G) (c:M Bool) (e:M T):Nat->Nat->Sta->List T->Option (List T × Sta)
 | 0,_,_,_=>none
 | k+1,i,s,acc=>match s.sto[n]? with
  | some (.lst xs)=>match xs[i]? with
   | none=>some (acc,s)
   | some t=>match g t s with
    | some s1=>match c s1 with
     | some (true,s2)=>match e s2 with
      | some (u,s3)=>if acc.length<lim then a6a n g c e k (i+1) (jo s3) (acc++[u]) else none
      | none=>none
     | some (false,s2)=>a6a n g c e k (i+1) (jo s2) acc
     | none=>none
    | none=>none
  | _=>none
end C
namespace C
open PySem
end C
end
section
namespace C
open PySem PySem.Spec PyProof.Rows L2
theorem Am {Cl n:Nat} {sto:List SO} {fs:List (Str × T)} (h:Mi Cl n sto=some fs):sto[n]? = some (.ins Cl fs):=by
 unfold Mi at h;split at h
 ·rename_i D c8 e
  by_cases z:D=Cl
  ·rw [if_pos z] at h; cases h; rw [<- z]; exact e
  ·rw [if_neg z] at h; cases h
 ·cases h
theorem a2b {Cl:Nat} {f:Str} {o:M T} {s s':Sta} {t:T} (h:yx Cl f o s=some (t,s')):∃ n fs,o s=some (.obj n,s')/\s'.sto[n]? = some (.ins Cl fs)/\fs.lookup f=some t:=by
 unfold yx at h;split at h
 ·rename_i n s1 e1;split at h
  ·rename_i fs e2;split at h
   ·rename_i t' e3;cases h; exact ⟨n,fs,e1,Am e2,e3⟩
   ·cases h
  ·cases h
 ·cases h
theorem Rq {Cl:Nat} {f:Str} {o v:M T} {s s':Sta} {fl:Flow} (h:vf Cl f o v s=some (fl,s')):∃ t s1 n s2 fs,v s=some (t,s1)/\o s1=some (.obj n,s2)/\s2.sto[n]? = some (.ins Cl fs)/\fs.length<100/\fl=.next/\s' = { s2 with sto:=s2.sto.set n (.ins Cl (a0w f t fs)) }:=by
 unfold vf at h;split at h
 ·rename_i t s1 e1;split at h
  ·rename_i n s2 e2;split at h
   ·rename_i fs e3;obtain ⟨hl,h⟩:=Ad h;cases h; exact ⟨t,s1,n,s2,fs,e1,e2,Am e3,hl,rfl,rfl⟩
   ·cases h
  ·cases h
 ·cases h
theorem Nv {Cl:Nat} {m:Str} {F:Fn} {o:M T} {a:M (List T)} {s s':Sta} {t:T} (h:m9 Cl m F o a s=some (t,s')):∃ n s1 fs ts s2 sto,o s=some (.obj n,s1)/\s1.sto[n]? = some (.ins Cl fs)/\fs.lookup m=none/\a s1=some (ts,s2)/\F (.obj n::ts) s2.sto=some (t,sto)/\s' = { s2 with sto:=sto }:=by
 unfold m9 at h;split at h
 ·rename_i n s1 e1;split at h
  ·rename_i fs e2;obtain ⟨hn,h⟩:=Ad h;split at h
   ·rename_i ts s2 e3;split at h
    ·rename_i t' sto e4;cases h; exact ⟨n,s1,fs,ts,s2,sto,e1,Am e2,hn,e3,e4,rfl⟩
    ·cases h
   ·cases h
  ·cases h
 ·cases h
section
variable {K:PySem.W.Frag} {S:Hp} {as:List Addr}
theorem U6.get {f:Str} {vs:List (Str × V)} {ts:List (Str × T)} (h:U6 K S as vs ts):(∀ t,ts.lookup f=some t->∃ v,vs.lookup f=some v/\Rep K S as v t)/\(ts.lookup f=none->vs.lookup f=none):=by
 induction h with
 | nil=>exact ⟨fun t z=>(by cases z),fun _=>rfl⟩
 | @cons k v t vs ts r _ ih =>
  rw [List.lookup_cons,List.lookup_cons];cases hk:f==k with
  | true=>exact ⟨fun u z=>(by cases z; exact ⟨v,rfl,r⟩),fun z=>(by cases z)⟩
  | false=>exact ih
theorem U6.length {vs:List (Str × V)} {ts:List (Str × T)} (h:U6 K S as vs ts):vs.length=ts.length:=by
 induction h with
 | nil=>rfl
 | cons _ _ ih=>exact congrArg (· + 1) ih
theorem U6.put {f:Str} {v:V} {t:T} (r:Rep K S as v t) {vs:List (Str × V)} {ts:List (Str × T)} (h:U6 K S as vs ts):U6 K S as (M4 f v vs) (a0w f t ts):=by
 induction h with
 | nil=>exact .cons r .nil
 | @cons k v' t' vs ts r' h' ih =>
  rw [show M4 f v ((k,v')::vs)=(if k=f then (k,v)::vs else (k,v')::M4 f v vs) from rfl,show a0w f t ((k,t')::ts)=(if k=f then (k,t)::ts else (k,t')::a0w f t ts) from rfl]
  by_cases hk:k=f
  ·rw [if_pos hk,if_pos hk]; exact .cons r h'
  ·rw [if_neg hk,if_neg hk]; exact .cons r' ih
end
section
variable {X:Cx} {B:Bas} {o e v:Expr} {es:List Expr} {mo mv m1:M T} {ms:M (List T)} {pos p apos:Pos} {Cl:Addr} {f m x:Str} {k:Nat} {g:Addr} {fd:FuncData} {pn:List Str} {F:Fn}
theorem wk (c:Cls X.K Cl) (n:Bu X.K Cl f) (ho:PE X o (tOf X.K B mo)) (hb:attributeBase o f X.env (eval o X.env)=eval o X.env:=by rfl):PE X (.Attribute o f pos) (tOf X.K B (yx Cl f mo)):=(a9e ho hb).imp fun σ H Q z9=>by
 obtain ⟨st,ps,S,as,R,t,aa,e,q⟩:=z9;obtain ⟨k,fs,e1,e2,e3⟩:=a2b e;refine ⟨st,ps,S,as,R,_,aa,e1,fun v H1 S1 af R1=>?_⟩;have t1:=R1.top;cases t1 with
 | @obj _ a ha =>
  obtain ⟨a',h1,_,dx,vs,h3,h4⟩:=R1.sto.at' k _ e2;rw [ha] at h1; cases h1;obtain ⟨w,hw,bH⟩:=(h4.get (f:=f)).1 t e3;exact ⟨a,Cl,dx,vs,w,rfl,h3,c,n,hw,q w H1 S1 af (R1.drop.push bH)⟩
theorem Ft {pos':Pos} (c:Cls X.K Cl) (n:Bu X.K Cl f) (ho:PE X o (tOf X.K B mo)) (hv:PE X v (tOf X.K B mv)) (hs:swapsWith v (some (.Attribute o f pos')) pos.line X.env=pure false:=by rfl):PS X (.Assign [.Attribute o f pos'] v pos) (sOf X.K B (vf Cl f mo mv)):=(a3n ho hv hs).imp fun D σ H z9=>by
 obtain ⟨st,ps,S,as,R,fl,aa,e,q⟩:=z9;obtain ⟨t,s1,k,s2,fs,e1,e2,e3,hl,rfl,rfl⟩:=Rq e;refine ⟨st,ps,S,as,R,t,s1,e1,fun v H1 S1 af R1=>⟨s1,_,S1,af,R1,_,s2,e2,fun x H2 S2 az R2=>?_⟩⟩;have t1:=R2.top;cases t1 with
 | @obj _ a ha =>
  obtain ⟨a',h1,_,dx,vs,h3,h4⟩:=R2.sto.at' k _ e3;rw [ha] at h1; cases h1;exact ⟨a,Cl,dx,vs,rfl,h3,c,n,by rw [h4.length]; omega,q _ _ S2 az (R2.drop.drop.a3k e3 ha ⟨dx,_,dz,h4.put R2.top2⟩)⟩
structure Ob (P:Program) (w:World) (K:PySem.W.Frag) (mg:Str->Option Value) (base:Heap) (Cl:Addr) (m:Str) (k:Nat) (ps:List Str) (F:Fn):Prop where
 ex:∃ g fd,Meth K Cl m g/\Bh P w K mg base CX0 k g fd ps (spF K ps.length F)/\Binds K fd ps []
 c:Cls K Cl
theorem Ob.mono {P:Program} {w:World} {K:PySem.W.Frag} {mg:Str->Option Value} {base:Heap} {Cl:Addr} {m:Str} {j k:Nat} {ps:List Str} {F:Fn} (h:Ob P w K mg base Cl m j ps F) (l:j<=k):Ob P w K mg base Cl m k ps F:=by
 obtain ⟨⟨g,fd,a,b,d⟩,c⟩:=h;exact ⟨⟨g,fd,a,b.mono l,d⟩,c⟩
theorem uf {pl:Sem Bool} (h:Ob X.prog X.w X.K X.mg X.base Cl m k pn F) (hr:yw k X.A) (ho:PE X o (tOf X.K B mo)) (ha:PA X (e::es) (aOf X.K B ms)) (hl:∀ st ts aa,ms st=some (ts,aa)->ts.length+1=pn.length)
  (hst:starEach (e::es) X.env=(false,eval e X.env)::starEach es X.env:=by rfl) (aE:(backTo pos (starEach es X.env)).any (·.1)=false:=by rfl)
  (ht:eval (.Call (.Attribute o m apos) (e::es) [] pos) X.env=(do
   let ov <- eval o X.env
   standAt apos.atName
   let (f,first) <- holding [ov] (getMethod ov m pl)
   callWith pos f first (backTo pos (starEach (e::es) X.env)) (backToKw pos (keywordEach [] X.env))):=by rfl) :
  PE X (.Call (.Attribute o m apos) (e::es) [] pos) (tOf X.K B (m9 Cl m F mo ms)):=by
 obtain ⟨⟨g,fd,hm,G,hb⟩,c⟩:=h;refine (Xb (pl:=pl) ho c hm G hr hb .nil a6i ha hst aE ht).imp fun σ H Q z0=>?_;obtain ⟨st,ps,S,as,R,t,aa,e,q⟩:=z0;obtain ⟨n,s1,fs,ts,s2,sto,e1,e2,hn,e3,e4,rfl⟩:=Nv e;refine ⟨st,ps,S,as,R,_,s1,e1,fun v H1 S1 af R1=>?_⟩;have t1:=R1.top;cases t1 with
 | @obj _ a ha =>
  obtain ⟨a',h1,_,dx,vs,h3,h4⟩:=R1.sto.at' n _ e2;rw [ha] at h1; cases h1;refine ⟨a,dx,vs,rfl,h3,(h4.get (f:=m)).2 hn,s1,_,S1,af,R1,ts,s2,e3,fun us H2 S2 az R2 rs=>?_⟩;show spF X.K pn.length F (.ref a::(us++[])) H2 Q E0;rw [List.append_nil];have r0:Rep X.K S2 az (.ref a) (.obj n):=R2.top;exact ⟨S2,az,s2.sto,.obj n::ts,t,sto,R2.sub,R2.sto,.cons r0 rs,hl _ _ _ e3,e4,fun v H3 S3 aJ g sub so r=>q v H3 S3 aJ ((R2.drop.call g sub so).push r)⟩
theorem Hu {pl:Sem Bool} (h:Ob X.prog X.w X.K X.mg X.base Cl m k pn F) (hr:yw k X.A) (ho:PE X o (tOf X.K B mo)) (hl:pn.length=1)
  (ht:eval (.Call (.Attribute o m apos) [] [] pos) X.env=(do
   let ov <- eval o X.env
   standAt apos.atName
   let (f,first) <- holding [ov] (getMethod ov m pl)
   callWith pos f first (backTo pos (starEach [] X.env)) (backToKw pos (keywordEach [] X.env))):=by rfl) :
  PE X (.Call (.Attribute o m apos) [] [] pos) (tOf X.K B (m9 Cl m F mo c7)):=by
 obtain ⟨⟨g,fd,hm,G,hb⟩,c⟩:=h;refine (Ti (pl:=pl) ho c hm G hr hb .nil a6i ht).imp fun σ H Q z0=>?_;obtain ⟨st,ps,S,as,R,t,aa,e,q⟩:=z0;obtain ⟨n,s1,fs,ts,s2,sto,e1,e2,hn,e3,e4,rfl⟩:=Nv e;cases e3;refine ⟨st,ps,S,as,R,_,s1,e1,fun v H1 S1 af R1=>?_⟩;have t1:=R1.top;cases t1 with
 | @obj _ a ha =>
  obtain ⟨a',h1,_,dx,vs,h3,h4⟩:=R1.sto.at' n _ e2;rw [ha] at h1; cases h1;refine ⟨a,dx,vs,rfl,h3,(h4.get (f:=m)).2 hn,?_⟩;show spF X.K pn.length F [.ref a] H1 Q E0;exact ⟨S1,af,s1.sto,[.obj n],t,sto,R1.sub,R1.sto,.cons R1.top .nil,hl.symm,e4,fun v H3 S3 aJ g sub so r=>q v H3 S3 aJ ((R1.drop.call g sub so).push r)⟩
structure aco (P:Program) (w:World) (K:PySem.W.Frag) (mg:Str->Option Value) (base:Heap) (x:Str) (Cl:Addr) (k:Nat) (ps:List Str) (F:Fn):Prop where
 ex:∃ g fd,Mk K Cl g/\Bh P w K mg base CX0 k g fd ps (spF K ps.length F)/\Binds K fd ps []
 m:mg x=some (.ref Cl)
theorem aco.mono {P:Program} {w:World} {K:PySem.W.Frag} {mg:Str->Option Value} {base:Heap} {x:Str} {Cl:Addr} {j k:Nat} {ps:List Str} {F:Fn} (h:aco P w K mg base x Cl j ps F) (l:j<=k):aco P w K mg base x Cl k ps F:=by
 obtain ⟨⟨g,fd,a,b,d⟩,c⟩:=h;exact ⟨⟨g,fd,a,b.mono l,d⟩,c⟩
end
section
variable {X:Cx} {B:Bas} {tg iter:Expr} {mo:M T} {g:G} {u:S} {body:List Stmt} {pos:Pos}
end
section
variable {X:Cx} {scope:Scope} {N:List Str}
inductive CIO (K:PySem.W.Frag) (B:Bas) (n:Nat) (g:G) (c:M Bool) (e:M T) (us:List T) (env:List Slot) (s2:Sta) (σ:L2.St) (pp:List (V × T)) (D:Addr) (i m:Nat) (σ':L2.St) (H':Hp):Prop where
 | mk (aC:Sta) (Si:Hp) (aB:List Addr) (acc:List T) (aH:List V) (Ri:Rel K ⟨Si,aB,H'⟩ aC σ' H' [] Si aB) (no:T5 aC) (Ro:Rel K B ⟨env,aC.sto⟩ σ H' pp Si aB) (hD:H' D=some (.lst aH)) (sD:Si D=none) (nD:D∉aB) (rA:p8 K Si aB aH acc) (ei:a6a n g c e m i aC acc=some (us,s2)):CIO K B n g c e us env s2 σ pp D i m σ' H'
variable {B:Bas} {nv:Nat} {ai:List Nat} {g:G} {mo:M T} {c:M Bool} {e:M T} {tg iter elt:Expr} {ifs:List Expr} {pos:Pos}
end
end C
end
section
namespace L2
open PySem PySem.Spec
open Sem (wp)
open Builtin
end L2
namespace C
open PySem PySem.Spec PyProof.Rows L2
section
variable {X:Cx} {B:Bas} {a b c e o k d v:Expr} {m m1 m2 mo mk md mv:M T} {pos p apos:Pos} {i:Nat}
end
section
variable {prog:Program} {w:World} {A:Around} {E:Value->Shared->Prop} {s:Shared}
end
section
variable {X:Cx} {B:Bas} {e l:Expr} {es elts:List Expr} {mo:M T} {ms:M (List T)} {body:List Stmt} {pos p q1 aK apos aw:Pos} {x1:Nat} {Cl:Addr} {f x:Str} {E:XK} {pn:List Str} {F:FnX} {k:Nat} {g:G} {u:S}
end
end C
end
section
namespace C
open PySem L2
section
variable {X:Cx} {B:Bas} {pos:Pos}
theorem qy {ms:M (List T)} {n:Nat} (h:∀ st ts aa,ms st=some (ts,aa)->ts.length=n):∀ st ts aa,ms st=some (ts,aa)->ts.length+1=n+1:=fun st ts aa e=>congrArg (· + 1) (h st ts aa e)
end
end C
end
section
namespace C
open PySem
abbrev MX:=Sta->Option ((T ⊕ T) × Sta)
abbrev MXs:=Sta->Option ((List T ⊕ T) × Sta)
def Ah (m:M T):MX:=fun s=>match m s with
 | some (t,s1)=>some (.inl t,s1)
 | none=>none
noncomputable def gj (F:FnX) (a:M (List T)):MX:=fun s=>match a s with
 | some (ts,s1)=>match F ts s1.sto with
  | some (r,st)=>some (r,{ s1 with sto:=st })
  | none=>none
 | none=>none
def nu:MXs:=fun s=>some (.inl [],s)
noncomputable def gq (m:MX) (l:MXs):MXs:=fun s=>match m s with
 | some (.inl t,s1)=>(match l s1 with
  | some (.inl ts,s2)=>some (.inl (t::ts),s2)
  | some (.inr x,s2)=>some (.inr x,s2)
  | none=>none)
 | some (.inr x,s1)=>some (.inr x,s1)
 | none=>none
noncomputable def mq (C:Nat) (m:Str) (F:FnX) (o:M T) (a:MXs):MX:=fun s=>match o s with
 | some (.obj n,s1)=>(match Mi C n s1.sto with
  | some fs=>if fs.lookup m=none then (match a s1 with
   | some (.inl ts,s2)=>(match F (.obj n::ts) s2.sto with
    | some (r,st)=>some (r,{ s2 with sto:=st })
    | none=>none)
   | some (.inr x,s2)=>some (.inr x,s2)
   | none=>none) else none
  | none=>none)
 | _=>none
noncomputable def Ei (i:Nat) (m:MX):SX:=fun s=>match m s with
 | some (.inl t,s1)=>some (.inl .next,iu i t false s1)
 | some (.inr x,s1)=>some (.inr x,s1)
 | none=>none
noncomputable def Jy (m:MX):SX:=fun s=>match m s with
 | some (.inl _,s1)=>some (.inl .next,s1)
 | some (.inr x,s1)=>some (.inr x,s1)
 | none=>none
noncomputable def Fw (m:MX):SX:=fun s=>match m s with
 | some (.inl t,s1)=>some (.inl (.ret t),s1)
 | some (.inr x,s1)=>some (.inr x,s1)
 | none=>none
end C
end
section
namespace C
open PySem PySem.Spec PyProof.Rows L2
def FinE (K:PySem.W.Frag) (B:Bas) (Cl:Addr) (f:Str) (E:XK) (σ:L2.St) (ps:List (V × T)) (Q:VK):T ⊕ T->Sta->Prop
 | .inl t,aa=>∀ v H' S' ag,Rel K B aa σ H' ((v,t)::ps) S' ag->Q v H'
 | .inr t,aa=>∀ v dx H' S' ag,Rel K B aa σ H' ((v,t)::ps) S' ag->S' dx=some (Bw dx f v)->E (.ref Cl) (some dx) H'
noncomputable def Mv (K:PySem.W.Frag) (B:Bas) (Cl:Addr) (f:Str) (E:XK) (m:MX):TE:=fun σ H Q=>∃ st ps S as,Rel K B st σ H ps S as/\∃ r aa,m st=some (r,aa)/\FinE K B Cl f E σ ps Q r aa
def FinA (K:PySem.W.Frag) (B:Bas) (Cl:Addr) (f:Str) (E:XK) (σ:L2.St) (ps:List (V × T)) (Q:List V->Hp->Prop):List T ⊕ T->Sta->Prop
 | .inl ts,aa=>∀ vs H' S' ag,Rel K B aa σ H' ps S' ag->p8 K S' ag vs ts->Q vs H'
 | .inr t,aa=>∀ v dx H' S' ag,Rel K B aa σ H' ((v,t)::ps) S' ag->S' dx=some (Bw dx f v)->E (.ref Cl) (some dx) H'
noncomputable def a7q (K:PySem.W.Frag) (B:Bas) (Cl:Addr) (f:Str) (E:XK) (m:MXs):TA:=fun σ H Q=>∃ st ps S as,Rel K B st σ H ps S as/\∃ r aa,m st=some (r,aa)/\FinA K B Cl f E σ ps Q r aa
section
variable {X:Cx} {B:Bas} {e o:Expr} {es:List Expr} {m:M T} {mo:M T} {mx:MX} {ms:M (List T)} {a5:MXs} {pos p q1 aK apos:Pos} {Cl a:Addr} {f x y mn:Str} {E:XK} {fd:FuncData} {pn:List Str} {F:FnX} {k i:Nat} {Co:Addr}
theorem Bl (h:PE X e (tOf X.K B m)):PE X e (Mv X.K B Cl f E (Ah m)):=h.imp fun σ H Q z9=>by
 obtain ⟨st,ps,S,as,R,r,aa,ev,q⟩:=z9;unfold Ah at ev;split at ev
 ·rename_i t s1 e1; cases ev; exact ⟨st,ps,S,as,R,t,_,e1,q⟩
 ·cases ev
theorem W4 {st aa:Sta} {r:T ⊕ T} (h:gj F ms st=some (r,aa)):∃ ts s1 sto,ms st=some (ts,s1)/\F ts s1.sto=some (r,sto)/\aa = { s1 with sto:=sto }:=by
 unfold gj at h;split at h
 ·rename_i ts s1 e1;split at h
  ·rename_i r sto e2; cases h; exact ⟨ts,s1,sto,e1,e2,rfl⟩
  ·cases h
 ·cases h
theorem kj (hx:Passes (CXx X.prog X.w) X E) (D:jt X.prog X.w X.K X.mg X.base x k pn Cl f F) (hr:yw k X.A) (hg:Gl X x)
  (ha:PA X (e::es) (aOf X.K B ms)) (hl:∀ st ts aa,ms st=some (ts,aa)->ts.length=pn.length) (aL:(x==("__debug__" : Str))=false:=by decide)
  (he:starEach (e::es) X.env=(false,eval e X.env)::starEach es X.env:=by rfl) (aE:(backTo pos (starEach es X.env)).any (·.1)=false:=by rfl) :
  PE X (.Call (.Name x p) (e::es) [] pos) (Mv X.K B Cl f E (gj F ms)):=by
 obtain ⟨a,fd,h1,h2,h3,h4⟩:=D;refine (Xd h1 hr hg h4 h3 h2 .nil hx ha aL he aE).imp fun σ H Q z0=>?_;obtain ⟨st,ps,S,as,R,r,aa,ev,q⟩:=z0;obtain ⟨ts,s1,sto,e1,e2,rfl⟩:=W4 ev;refine ⟨st,ps,S,as,R,ts,s1,e1,fun vs H1 S1 af R1 rs=>?_⟩;show spX _ _ _ _ _ (vs++[]) _ _ _;rw [List.append_nil];refine ⟨S1,af,s1.sto,ts,r,sto,R1.sub,R1.sto,rs,hl _ _ _ e1,e2,?_⟩;cases r with
 | inl t=>exact fun v H2 S2 az g sub so r=>q v H2 S2 az ((R1.call g sub so).push r)
 | inr t=>exact fun v dx H2 S2 az g sub so r hd=>q v dx H2 S2 az ((R1.call g sub so).push r) hd
theorem yc:PA X [] (a7q X.K B Cl f E nu):=w6.imp fun σ H Q z9=>by
 obtain ⟨st,ps,S,as,R,r,aa,ev,q⟩:=z9;cases ev;exact q [] H S as R .nil
theorem jj (ha:PE X e (Mv X.K B Cl f E mx)) (hr:PA X es (a7q X.K B Cl f E a5)) (hs:starEach (e::es) X.env=(false,eval e X.env)::starEach es X.env:=by rfl):PA X (e::es) (a7q X.K B Cl f E (gq mx a5)) :=
 (ql ha hr hs).imp fun σ H Q z9=>by
  obtain ⟨st,ps,S,as,R,r,aa,ev,q⟩:=z9;unfold gq at ev;split at ev
  ·rename_i t s1 e1;split at ev
   ·rename_i ts s2 e2;cases ev;exact ⟨st,ps,S,as,R,_,s1,e1,fun v H1 S1 af R1=>⟨s1,_,S1,af,R1,_,_,e2,fun vs H2 S2 az R2 rs=>q (v::vs) H2 S2 az R2.drop (.cons R2.top rs)⟩⟩
   ·rename_i x s2 e2;cases ev;exact ⟨st,ps,S,as,R,_,s1,e1,fun v H1 S1 af R1=>⟨s1,_,S1,af,R1,_,_,e2,fun w dx H2 S2 az R2 hd=>q w dx H2 S2 az (R2.drop.drop.push R2.top) hd⟩⟩
   ·cases ev
  ·rename_i x s1 e1;cases ev;exact ⟨st,ps,S,as,R,_,_,e1,q⟩
  ·cases ev
structure K8 (P:Program) (w:World) (K:PySem.W.Frag) (mg:Str->Option Value) (base:Heap) (Co:Addr) (m:Str) (k:Nat) (ps:List Str) (Cl:Addr) (f:Str) (F:FnX):Prop where
 ex:∃ g fd,Meth K Co m g/\Bh P w K mg base (CXx P w) k g fd ps (spX K ps.length Cl f F)/\Binds K fd ps []
 c:Cls K Co
theorem Km {st aa:Sta} {r:T ⊕ T} (h:mq Co mn F mo a5 st=some (r,aa)):∃ n s1 fs ra s2,mo st=some (.obj n,s1)/\s1.sto[n]? = some (.ins Co fs)/\fs.lookup mn=none/\a5 s1=some (ra,s2)/\(match ra with
  | .inl ts=>∃ sto,F (.obj n::ts) s2.sto=some (r,sto)/\aa = { s2 with sto:=sto }
  | .inr x=>r=.inr x/\aa=s2):=by
 unfold mq at h;split at h
 ·rename_i n s1 e1;split at h
  ·rename_i fs e2;split at h
   ·rename_i e3;split at h
    ·rename_i ts s2 e4;split at h
     ·rename_i r sto e5; cases h; exact ⟨n,s1,fs,_,s2,e1,Am e2,e3,e4,sto,e5,rfl⟩
     ·cases h
    ·rename_i x s2 e4; cases h; exact ⟨n,s1,fs,_,_,e1,Am e2,e3,e4,rfl,rfl⟩
    ·cases h
   ·cases h
  ·cases h
 ·cases h
theorem Ig {pl:Sem Bool} (h:K8 X.prog X.w X.K X.mg X.base Co mn k pn Cl f F) (hx:Passes (CXx X.prog X.w) X E) (hr:yw k X.A) (ho:PE X o (tOf X.K B mo)) (ha:PA X (e::es) (a7q X.K B Cl f E a5)) (hl:∀ st ts aa,a5 st=some (.inl ts,aa)->ts.length+1=pn.length)
  (hst:starEach (e::es) X.env=(false,eval e X.env)::starEach es X.env:=by rfl) (aE:(backTo pos (starEach es X.env)).any (·.1)=false:=by rfl)
  (ht:eval (.Call (.Attribute o mn apos) (e::es) [] pos) X.env=(do
   let ov <- eval o X.env
   standAt apos.atName
   let (f,first) <- holding [ov] (getMethod ov mn pl)
   callWith pos f first (backTo pos (starEach (e::es) X.env)) (backToKw pos (keywordEach [] X.env))):=by rfl) :
  PE X (.Call (.Attribute o mn apos) (e::es) [] pos) (Mv X.K B Cl f E (mq Co mn F mo a5)):=by
 obtain ⟨⟨g,fd,hm,G,hb⟩,c⟩:=h;refine (Xb (pl:=pl) ho c hm G hr hb .nil hx ha hst aE ht).imp fun σ H Q z0=>?_;obtain ⟨st,ps,S,as,R,r,aa,ev,q⟩:=z0;obtain ⟨n,s1,fs,ra,s2,e1,e2,hn,e3,e4⟩:=Km ev;refine ⟨st,ps,S,as,R,_,s1,e1,fun v H1 S1 af R1=>?_⟩;have t1:=R1.top;cases t1 with
 | @obj _ a ha =>
  obtain ⟨a',h1,_,dx,vs,h3,h4⟩:=R1.sto.at' n _ e2;rw [ha] at h1; cases h1;refine ⟨a,dx,vs,rfl,h3,(h4.get (f:=mn)).2 hn,s1,_,S1,af,R1,ra,s2,e3,?_⟩;cases ra with
  | inr x =>
   obtain ⟨rfl,rfl⟩:=e4;exact fun w dx H2 S2 az R2 hd=>q w dx H2 S2 az (R2.drop.drop.push R2.top) hd
  | inl ts =>
   obtain ⟨sto,e5,rfl⟩:=e4;intro us H2 S2 az R2 rs;show spX X.K pn.length Cl f F (.ref a::(us++[])) H2 Q E;rw [List.append_nil];have r0:Rep X.K S2 az (.ref a) (.obj n):=R2.top;refine ⟨S2,az,s2.sto,.obj n::ts,r,sto,R2.sub,R2.sto,.cons r0 rs,hl _ _ _ e3,e5,?_⟩;cases r with
   | inl t=>exact fun v H3 S3 aJ g sub so r=>q v H3 S3 aJ ((R2.drop.call g sub so).push r)
   | inr t=>exact fun v dx H3 S3 aJ g sub so r hd=>q v dx H3 S3 aJ ((R2.drop.call g sub so).push r) hd
end
section
variable {X:Cx} {B:Bas} {e o:Expr} {es:List Expr} {m:M T} {mo:M T} {mx:MX} {ms:M (List T)} {a5:MXs} {pos p q1 aK apos:Pos} {Cl a:Addr} {f x y mn:Str} {E:XK} {fd:FuncData} {pn:List Str} {F:Fn} {k i:Nat} {Co:Addr}
theorem Ql (he:PE X e (Mv X.K B Cl f E mx)) (hs:swapsWith e none pos.line X.env=pure false:=by rfl):PS X (.Expr e pos) (Jc X.K B Cl f E (Jy mx)):=(Bo he hs).imp fun D σ H z9=>by
 obtain ⟨st,ps,S,as,R,fl,aa,ev,q⟩:=z9;unfold Jy at ev;split at ev
 ·rename_i t s1 e1; cases ev; exact ⟨st,ps,S,as,R,_,_,e1,fun v H1 S1 af R1=>q σ H1 S1 af R1.drop⟩
 ·rename_i t s1 e1; cases ev; exact ⟨st,ps,S,as,R,_,_,e1,fun v dx H1 S1 af R1 hd=>q v dx σ H1 S1 af R1 hd⟩
 ·cases ev
theorem zy (he:PE X e (Mv X.K B Cl f E mx)):PS X (.Return (some e) pos) (Jc X.K B Cl f E (Fw mx)):=(a3s he).imp fun D σ H z9=>by
 obtain ⟨st,ps,S,as,R,fl,aa,ev,q⟩:=z9;unfold Fw at ev;split at ev
 ·rename_i t s1 e1; cases ev; exact ⟨st,ps,S,as,R,_,_,e1,fun v H1 S1 af R1=>q v σ H1 S1 af R1⟩
 ·rename_i t s1 e1; cases ev; exact ⟨st,ps,S,as,R,_,_,e1,fun v dx H1 S1 af R1 hd=>q v dx σ H1 S1 af R1 hd⟩
 ·cases ev
theorem Ck (hN:X.N.Nodup) (hi:X.N[i]? = some y) (hy:Loc X.env.scope y) (he:PE X e (Mv X.K B Cl f E mx)) (bX:swapsWith e (some (.Name y aK)) q1.line X.env=pure false:=by rfl)
  (hf:X.fn y=true\/X.env.scope.names.lookup y=some .local:=by first | exact .inl rfl | exact .inr rfl | assumption):PS X (.Assign [.Name y aK] e q1) (Jc X.K B Cl f E (Ei i mx)):=(wz hN hi hy he bX hf).imp fun D σ H z9=>by
 obtain ⟨st,ps,S,as,R,fl,aa,ev,q⟩:=z9;unfold Ei at ev;split at ev
 ·rename_i t s1 e1; cases ev; exact ⟨st,ps,S,as,R,_,_,e1,fun v H1 S1 af R1=>q _ H1 S1 af (R1.drop.put R1.top)⟩
 ·rename_i t s1 e1; cases ev; exact ⟨st,ps,S,as,R,_,_,e1,fun v dx H1 S1 af R1 hd=>q v dx σ H1 S1 af R1 hd⟩
 ·cases ev
end
end C
end
section
namespace C
open PySem
end C
end
section
namespace C
open PySem PySem.Spec PyProof.Rows L2
section
variable {X:Cx} {B:Bas} {o k v e:Expr} {mo mk mv:M T} {mx:MX} {pos pos':Pos} {Cl:Addr} {f:Str} {E:XK}
end
section
variable {X:Cx} {B:Bas} {e o:Expr} {mx mo:M T} {pos:Pos}
end
section
variable {X:Cx} {B:Bas} {l:Expr} {elts:List Expr} {mo:M T} {body:List Stmt} {pos aK apos aw:Pos} {x1:Nat} {Co:Addr} {f:Str} {jh jl jp jd:Nat}
end
end C
end
section
namespace L2
open PySem PySem.Spec PyProof.Rows
section
variable {M:Model} {A:Around} {E:Value->Shared->Prop} {s:Shared} {base:Heap} {env en:Env} {outer:List Env} {L e C dx T:Addr} {fl:Value} {Q:Unit->Shared->Prop}
end
section
variable {X:Cx} {pins:List (Addr × Obj)} {σ:St} {H:Hp} {s:Shared} {a C dx T:Addr} {fl:Value}
end
structure XA (X:Cx) (E:XK):Prop where
 hst:X.stack=X.env::X.outer
 hfr:X.env.frame=some X.env.locals
 go:∀ (σ:St) (H:Hp) (s:Shared) (a C dx T:Addr) (fl:Value),Inv X [] σ H s->XAt s.heap a C dx T fl->H a=none->H T=none->Off X [] a->Off X [] T->E (.ref C) (some dx) H->X.xe (.ref a) s
section
variable {pr:Program} {wd:World} {Ar:Around} {Rs:Result->Shared->Prop} {s:Shared}
end
section
variable {X:Cx} {scope:Scope} {N:List Str}
variable {tg iter elt:Expr} {pos:Pos} {g:TG} {te:TE}
end
end L2
end
section
namespace C
open PySem
noncomputable def a4g (g:G) (e:MX):List T->Sta->List T->Option ((List T ⊕ T) × Sta)
 | [],s,acc=>some (.inl acc,s)
 | t::r,s,acc=>match g t s with
  | some s1=>match e s1 with
   | some (.inl u,s2)=>if acc.length<lim then a4g g e r (jo s2) (acc++[u]) else none
   | some (.inr x,s2)=>some (.inr x,s2)
   | none=>none
  | none=>none
end C
end
section
namespace C
open PySem PySem.Spec PyProof.Rows L2
section
variable {X:Cx} {scope:Scope} {N:List Str}
inductive CIX (K:PySem.W.Frag) (B:Bas) (g:G) (e:MX) (ts:List T) (r:List T ⊕ T) (env:List Slot) (s2:Sta) (σ:L2.St) (pp:List (V × T)) (D:Addr) (i m:Nat) (σ':L2.St) (H':Hp):Prop where
 | mk (aC:Sta) (Si:Hp) (aB:List Addr) (acc:List T) (aH:List V) (hm:m=ts.length - i) (hi:i<=ts.length) (Ri:Rel K ⟨Si,aB,H'⟩ aC σ' H' [] Si aB) (no:T5 aC) (Ro:Rel K B ⟨env,aC.sto⟩ σ H' pp Si aB) (hD:H' D=some (.lst aH)) (sD:Si D=none) (nD:D∉aB) (rA:p8 K Si aB aH acc) (ei:a4g g e (ts.drop i) aC acc=some (r,s2)):CIX K B g e ts r env s2 σ pp D i m σ' H'
variable {B:Bas} {nv:Nat} {ai:List Nat} {g:G} {it:M (List T)} {e:MX} {tg iter elt:Expr} {pos:Pos} {Cl:Addr} {f:Str} {E:XK}
end
end C
end
section
namespace C
open PySem
end C
end
section
namespace C
open PySem PySem.Spec PyProof.Rows L2
section
variable {X:Cx} {B:Bas} {tg iter:Expr} {mo:M T} {g:G} {u:SX} {body:List Stmt} {pos:Pos} {Cl:Addr} {f:Str} {E:XK}
end
theorem Jb:∀ st ts aa,nu st=some (.inl ts,aa)->ts.length=0:=fun st ts aa e=>by cases e; rfl
theorem zu {m:MX} {r:MXs} {n:Nat} (h:∀ st ts aa,r st=some (.inl ts,aa)->ts.length=n):∀ st ts aa,gq m r st=some (.inl ts,aa)->ts.length=n+1:=fun st ts aa e=>by
 unfold gq at e;split at e
 ·rename_i t s1 e1;split at e
  ·rename_i us s2 e2; cases e; exact congrArg (· + 1) (h _ _ _ e2)
  ·cases e
  ·cases e
 ·cases e
 ·cases e
theorem Fd {ms:MXs} {n:Nat} (h:∀ st ts aa,ms st=some (.inl ts,aa)->ts.length=n):∀ st ts aa,ms st=some (.inl ts,aa)->ts.length+1=n+1:=fun st ts aa e=>congrArg (· + 1) (h st ts aa e)
theorem jt.zero {P:Program} {w:World} {K:PySem.W.Frag} {mg:Str->Option Value} {base:Heap} {x qual:Str} {st:Stmt} {f:Addr} {fd:FuncData} {ps:List Str} {k:Nat} {Cl:Addr} {fl:Str} (F:Fun K x qual st f fd) (h:mg x=some (.ref f)) (b:Binds K fd ps []):jt P w K mg base x k ps Cl fl (fun _ _=>none):=by
 have no:∀ vs H Q E,¬ spX K ps.length Cl fl (fun _ _=>none) vs H Q E:=fun vs H Q E z=>by
  obtain ⟨S,as,sto,ts,t,aD,_,_,_,_,e,_⟩:=z;cases e
 exact ⟨f,fd,⟨fun vs H Q E z=>absurd z (no vs H Q E),fun A outer s H args us vs Q E _ _ _ _ z=>absurd z (no vs H Q E)⟩,b,F.kp,h⟩
section
variable {X:Cx} {B:Bas} {e a b c:Expr} {m m1 m2 m3:M T} {pos p1 p2 p3 p4:Pos}
theorem aa8 {i:Int} (h:Dz i=true):i.natAbs.log2<1920:=by
 unfold Dz at h;rw [decide_eq_true_eq] at h;have h2:(2:Int) ^ 64=((2 ^ 64:Nat):Int):=by decide
 have h1:i.natAbs<2 ^ 64:=by omega
 by_cases z:i.natAbs=0
 ·rw [z]; decide
 ·exact Nat.lt_trans ((Nat.log2_lt z).mpr h1) (by decide)
theorem a4w (hg:Gl X "str") (hm:X.mg "str" = none) (ha:PE X e (tOf X.K B m)) (he:starEach [e] X.env=(false,eval e X.env)::starEach [] X.env:=by rfl) (aE:(backTo pos (starEach [] X.env)).any (·.1)=false:=by rfl) :
  PE X (.Call (.Name "str" p3) [e] [] pos) (tOf X.K B (dg a3d (aj m c7))):=by
 refine (Fj Pb hg hm (by rfl) (ql ha w6 he) (by decide) (by decide) he aE).imp fun σ H Q z0=>?_;obtain ⟨st,ps,S,as,R,t,aa,ev,q⟩:=z0;obtain ⟨ts,e1,e2⟩:=Bb ev;obtain ⟨t1,s1,us,ea,en,rfl⟩:=Cr e1;cases en;refine ⟨st,ps,S,as,R,t1,_,ea,fun v H1 S1 af R1=>?_⟩;cases t1 <;> simp only [a3d,reduceCtorEq] at e2
 rename_i i;split at e2
 ·rename_i hb;cases e2;have tp:=R1.top;cases tp;exact ⟨i,rfl,aa8 hb,q _ _ _ _ (R1.drop.push (.str _))⟩
 ·cases e2
theorem Nu:∀ {l:List Str} {ae:List Value},Vals (l.map V.str) ae->∃ l':List (Str × Tok),ae=strValues l'/\l'.map (·.1)=l
 | [],_,.nil=>⟨[],rfl,rfl⟩
 | x::l,_,.cons h r=>by
  obtain ⟨t,rfl⟩:=h;obtain ⟨l',rfl,e⟩:=Nu r;exact ⟨(x,t)::l',rfl,by simp [e]⟩
theorem a5j:MtR X "str.join" (fun x xs H Q=>∃ sep p l,x=.str sep/\xs=[.ref p]/\SqL X.K H p (l.map V.str)/\(l.map (·.length)).sum+l.length * sep.length<lim/\(Str.join sep l).length<lim/\Q (.str (Str.join sep l)) H):=by
 intro pins s σ H x xs v us Q I rx rv h;obtain ⟨sep,p,l,rfl,rfl,hq,hz,hj,q⟩:=h;obtain ⟨t,rfl⟩:=rx;obtain ⟨u,rfl,ru⟩:=rv.one;cases ru;obtain ⟨ae,r,pl,_⟩:=I.list hq;obtain ⟨l',rfl,e⟩:=Nu r
 have tl:Builtin.Str.tooLong ((l'.map (·.1)).toArray.foldl (· + ·.length+sep.length) 0)=false:=by
  rw [StrLaws.joinTotal,e];have:=ju;unfold Builtin.Str.tooLong;exact decide_eq_false (by omega)
 refine call_meets F.slot_str_join (typeIs_str _ _ _) F.entry_str_join (F.args_str_join_2 _ _) (meets_str_join_list sep t p l' tl) ⟨pl.isList,?_⟩
 have big:(Made.str (Builtin.Str.glued sep (l'.map (·.1)))).post (fun v s'=>EP X pins σ Q v s') s:=by
  rw [StrLaws.glued_eq_join,e];exact ⟨Nat.le_trans (Nat.le_of_lt hj) ju,.str _,H,I.tok _,⟨_,rfl⟩,q⟩
 match l',e,big with
 | [],_,b=>exact b
 | [w],e,_ =>
  refine ⟨.str w.1,H,I,⟨_,rfl⟩,?_⟩;have:l=[w.1]:=by rw [<- e]; rfl
  subst this;exact q
 | _::_::_,_,b=>exact b
theorem Ku:∀ {ts:List T} {l:List Str},Eh ts=some l->ts=l.map T.str
 | [],_,h=>by simp only [Eh] at h; cases h; rfl
 | t::ts,l,h=>by
  cases t <;> simp only [Eh,reduceCtorEq] at h
  rename_i x;obtain ⟨l',e,rfl⟩:=Option.map_eq_some_iff.mp h;rw [List.map_cons,<- Ku e]
theorem O1 {K:PySem.W.Frag} {S:Hp} {as:List Addr}:∀ {l:List Str} {vs:List V},p8 K S as vs (l.map T.str)->vs=l.map V.str
 | [],_,.nil=>rfl
 | x::l,_,.cons h r=>by
  cases h;rw [List.map_cons,O1 r]
theorem U5 (sep:Str):∀ l:List Str,(Str.join sep l).length<=(l.map (·.length)).sum+l.length * sep.length
 | []=>by simp [Str.join,Str.empty,Str.length]
 | [x]=>by simp [Str.join]
 | x::y::l=>by
  have ih:=U5 sep (y::l);show (x++sep++Str.join sep (y::l)).length<=_;rw [Str.length_append,Str.length_append];simp only [List.map_cons,List.sum_cons,List.length_cons,Nat.add_mul,Nat.one_mul] at ih ⊢;omega
theorem Ij {apos aw:Pos} (h1:PE X a (tOf X.K B m1)) (h2:PE X b (tOf X.K B m2))
  (aP:attributeBase a "join" X.env (eval a X.env)=eval a X.env:=by rfl)
  (cF:((backTo aw (starEach [b] X.env)).all (fun x=>!x.1)&&(backToKw aw (keywordEach [] X.env)).all (fun x=>x.1.isSome)
   && decide (([b]:List Expr).length+([]:List Keyword).length+(if ([]:List Keyword).isEmpty then 0 else 1)<30))=true:=by rfl)
  (aW:(apos.endLine==aw.line)=true:=by rfl) (hs:starEach [b] X.env=(false,eval b X.env)::starEach [] X.env:=by rfl) (bc:(backTo aw (starEach [] X.env)).any (·.1)=false:=by rfl) :
  PE X (.Call (.Attribute a "join" apos) [b] [] aw) (tOf X.K B (mOp Dw m1 m2)) :=
 (Mg PySem.F.plainAttrs_str PySem.F.slot_str_join PySem.F.type_str_join a5j h1 (ql h2 w6 hs) aP cF aW hs bc).imp fun σ H Q z9=>by
  obtain ⟨st,ps,S,as,R,t,aa,ev,q⟩:=z9;obtain ⟨t1,s1,t2,e1,e2,e3⟩:=Gg ev;unfold Dw at e3;split at e3
  ·rename_i sep ts;split at e3
   ·rename_i l hl;split at e3
    ·rename_i hz;cases e3;obtain rfl:=Ku hl;refine ⟨st,ps,S,as,R,_,s1,e1,fun v H1 S1 af R1=>?_⟩;have tp:=R1.top;cases tp;refine ⟨rfl,s1,_,S1,af,R1,_,aa,e2,fun v2 H2 S2 az R2=>?_⟩;have fH:=R2.top;cases fH with
     | @lst p vs _ g1 g2 =>
      obtain rfl:=O1 g2;exact ⟨sep,p,l,rfl,rfl,jc R2.sub g1,hz,Nat.lt_of_le_of_lt (U5 sep l) hz,q _ _ _ _ (R2.drop.drop.push (.str _))⟩
    ·cases e3
   ·cases e3
  ·cases e3
end
noncomputable def Ej (C:Nat) (F:FnX) (a:M (List T)):MX:=fun s=>match a s with
 | some (ts,s1)=>(match F (.obj s1.sto.length::ts) (s1.sto++[.ins C []]) with
  | some (.inl .non,sto)=>some (.inl (.obj s1.sto.length),{ s1 with sto:=sto })
  | some (.inr x,sto)=>some (.inr x,{ s1 with sto:=sto })
  | _=>none)
 | none=>none
theorem Vb {C:Nat} {F:FnX} {a:M (List T)} {s s':Sta} {r:T ⊕ T} (h:Ej C F a s=some (r,s')):∃ ts s1 q sto,a s=some (ts,s1)/\F (.obj s1.sto.length::ts) (s1.sto++[.ins C []])=some (q,sto)/\s' = { s1 with sto:=sto } /\
  ((q=.inl .non/\r=.inl (.obj s1.sto.length))\/∃ x,q=.inr x/\r=.inr x):=by
 unfold Ej at h;split at h
 ·rename_i ts s1 e1;split at h
  ·rename_i sto e2; cases h; exact ⟨ts,s1,_,sto,e1,e2,rfl,.inl ⟨rfl,rfl⟩⟩
  ·rename_i x sto e2; cases h; exact ⟨ts,s1,_,sto,e1,e2,rfl,.inr ⟨x,rfl,rfl⟩⟩
  ·cases h
 ·cases h
structure aa4 (P:Program) (w:World) (K:PySem.W.Frag) (mg:Str->Option Value) (base:Heap) (x:Str) (Co:Addr) (k:Nat) (ps:List Str) (Cl:Addr) (f:Str) (F:FnX):Prop where
 ex:∃ g fd,Mk K Co g/\Bh P w K mg base (CXx P w) k g fd ps (spX K ps.length Cl f F)/\Binds K fd ps []
 m:mg x=some (.ref Co)
section
variable {X:Cx} {B:Bas} {e:Expr} {es:List Expr} {ms:M (List T)} {pos p:Pos} {k:Nat} {Co Cl:Addr} {f x:Str} {pn:List Str} {F:FnX} {E:XK}
theorem a6s (h:aa4 X.prog X.w X.K X.mg X.base x Co k pn Cl f F) (hx:Passes (CXx X.prog X.w) X E) (hr:yw (k+1) X.A) (hg:Gl X x) (ha:PA X (e::es) (aOf X.K B ms)) (hl:∀ st ts aa,ms st=some (ts,aa)->ts.length+1=pn.length) (aL:(x==("__debug__" : Str))=false:=by decide)
  (he:starEach (e::es) X.env=(false,eval e X.env)::starEach es X.env:=by rfl) (aE:(backTo pos (starEach es X.env)).any (·.1)=false:=by rfl) :
  PE X (.Call (.Name x p) (e::es) [] pos) (Mv X.K B Cl f E (Ej Co F ms)):=by
 obtain ⟨⟨g,fd,hM,G,hb⟩,hm⟩:=h;refine (a6b hM G hr hg hm hb .nil hx ha aL he aE).imp fun σ H Q z0=>?_;obtain ⟨st,ps,S,as,R,r,aa,ev,q⟩:=z0;obtain ⟨ts,s1,qr,sto,e1,e2,rfl,e3⟩:=Vb ev;refine ⟨st,ps,S,as,R,ts,s1,e1,fun us H1 S1 af R1 rs y dx hy hd ne=>?_⟩;have R2:=R1.ext (Ext.beside R1.sub hd (.own y));have gm:upd H1 dx (.own y) y=none:=by rw [gb (Ne.symm ne)]; exact hy
 have R3:=R2.newObj (ob:=.ins Co dx []) (so:=.ins Co []) gm ⟨dx,[],dz,.nil⟩;show spX X.K pn.length Cl f F (.ref y::(us++[])) _ _ E;rw [List.append_nil];refine ⟨S1,af++[y],s1.sto++[.ins Co []],.obj s1.sto.length::ts,qr,sto,R3.sub,R3.sto,.cons R3.top (rs.mono (Same.refl _) ⟨[y],rfl⟩),hl _ _ _ e1,e2,?_⟩;rcases e3 with ⟨rfl,rfl⟩ | ⟨xt,rfl,rfl⟩
 ·exact fun v H3 S3 aJ g sub so r=>by
   cases r;exact ⟨rfl,q _ H3 S3 aJ (R3.call g sub so)⟩
 ·exact fun v dx H3 S3 aJ g sub so r hd=>q v dx H3 S3 aJ (((R3.call g sub so).drop).push r) hd
variable {o:Expr} {mo:M T} {mn:Str} {apos:Pos}
theorem Fp {pl:Sem Bool} (h:K8 X.prog X.w X.K X.mg X.base Co mn k pn Cl f F) (hx:Passes (CXx X.prog X.w) X E) (hr:yw k X.A) (ho:PE X o (tOf X.K B mo)) (hl:pn.length=1)
  (ht:eval (.Call (.Attribute o mn apos) [] [] pos) X.env=(do
   let ov <- eval o X.env
   standAt apos.atName
   let (f,first) <- holding [ov] (getMethod ov mn pl)
   callWith pos f first (backTo pos (starEach [] X.env)) (backToKw pos (keywordEach [] X.env))):=by rfl) :
  PE X (.Call (.Attribute o mn apos) [] [] pos) (Mv X.K B Cl f E (mq Co mn F mo nu)):=by
 obtain ⟨⟨g,fd,hm,G,hb⟩,c⟩:=h;refine (Ti (pl:=pl) ho c hm G hr hb .nil hx ht).imp fun σ H Q z0=>?_;obtain ⟨st,ps,S,as,R,r,aa,ev,q⟩:=z0;obtain ⟨n,s1,fs,ra,s2,e1,e2,hn,e3,e4⟩:=Km ev;cases e3;obtain ⟨sto,e5,rfl⟩:=e4;refine ⟨st,ps,S,as,R,_,s1,e1,fun v H1 S1 af R1=>?_⟩;have t1:=R1.top;cases t1 with
 | @obj _ a ha =>
  obtain ⟨a',h1,_,dx,vs,h3,h4⟩:=R1.sto.at' n _ e2;rw [ha] at h1; cases h1;refine ⟨a,dx,vs,rfl,h3,(h4.get (f:=mn)).2 hn,?_⟩;show spX X.K pn.length Cl f F [.ref a] H1 Q E;refine ⟨S1,af,s1.sto,[.obj n],r,sto,R1.sub,R1.sto,.cons R1.top .nil,hl.symm,e5,?_⟩;cases r with
  | inl t=>exact fun v H3 S3 aJ g sub so r=>q v H3 S3 aJ ((R1.drop.call g sub so).push r)
  | inr t=>exact fun v dx H3 S3 aJ g sub so r hd=>q v dx H3 S3 aJ ((R1.drop.call g sub so).push r) hd
end
noncomputable def Ef (g:List T->Option T) (a:MXs):MX:=fun s=>match a s with
 | some (.inl ts,s1)=>(match g ts with
  | some t=>some (.inl t,s1)
  | none=>none)
 | some (.inr x,s1)=>some (.inr x,s1)
 | none=>none
noncomputable def a1b (g:T->T->Option T) (a b:MX):MX:=fun s=>match a s with
 | some (.inl x,s1)=>(match b s1 with
  | some (.inl y,s2)=>(match g x y with
   | some w=>some (.inl w,s2)
   | none=>none)
  | some (.inr x,s2)=>some (.inr x,s2)
  | none=>none)
 | some (.inr x,s1)=>some (.inr x,s1)
 | none=>none
theorem Xe {g:List T->Option T} {a:MXs} {s s':Sta} {r:T ⊕ T} (h:Ef g a s=some (r,s')):∃ ra,a s=some (ra,s')/\((∃ ts t,ra=.inl ts/\g ts=some t/\r=.inl t)\/∃ x,ra=.inr x/\r=.inr x):=by
 unfold Ef at h;split at h
 ·rename_i ts s1 e1;split at h
  ·rename_i t e2; cases h; exact ⟨_,e1,.inl ⟨ts,t,rfl,e2,rfl⟩⟩
  ·cases h
 ·rename_i x s1 e1; cases h; exact ⟨_,e1,.inr ⟨x,rfl,rfl⟩⟩
 ·cases h
section
variable {X:Cx} {B:Bas} {e:Expr} {es:List Expr} {a5:MXs} {m1 m2:MX} {pos:Pos} {Cl:Addr} {f:Str} {E:XK} {g:T->T->Option T}
theorem Gi {k:Nat} (h:PA X es (a7q X.K B Cl f E a5)) (hm:∀ st ts aa,a5 st=some (.inl ts,aa)->ts.length<=1000):PE X (.Tuple es k pos) (Mv X.K B Cl f E (Ef (fun l=>some (.tup l)) a5)) :=
 (a3q h).imp fun σ H Q z9=>by
  obtain ⟨st,ps,S,as,R,r,aa,e,q⟩:=z9;obtain ⟨ra,e1,e2⟩:=Xe e;rcases e2 with ⟨ts,t,rfl,e3,rfl⟩ | ⟨x,rfl,rfl⟩
  ·cases e3;refine ⟨st,ps,S,as,R,_,aa,e1,fun vs H1 S1 af R1 rs=>⟨?_,fun p hp=>?_⟩⟩
   ·rw [rs.length]; exact Nat.le_of_lt (Aq (hm _ _ _ e1))
   ·have x:=Ext.laid R1.sub hp (.tup vs);exact q _ _ _ _ ((R1.ext x).push (.tup (SqT.of dz) (rs.mono x.s nol)))
  ·exact ⟨st,ps,S,as,R,_,aa,e1,q⟩
theorem a0v {e:Expr} (h:PE X e (tOp (r2 X.K g) (Mv X.K B Cl f E m1) (Mv X.K B Cl f E m2))):PE X e (Mv X.K B Cl f E (a1b g m1 m2)) :=
 h.imp fun σ H Q z9=>by
  obtain ⟨st,ps,S,as,R,r,aa,e,q⟩:=z9;unfold a1b at e;split at e
  ·rename_i x s1 e1;split at e
   ·rename_i y s2 e2;split at e
    ·rename_i w e3;cases e;refine ⟨st,ps,S,as,R,_,s1,e1,fun v H1 S1 af R1=>⟨s1,_,S1,af,R1,_,_,e2,fun u H2 S2 az R2=>?_⟩⟩;exact ⟨S2,az,x,y,w,R2.sub,R2.top2,R2.top,e3,fun w H3 S3 x r=>q w H3 S3 az ((R2.drop.drop.ext x).push r)⟩
    ·cases e
   ·rename_i y s2 e2;cases e;exact ⟨st,ps,S,as,R,_,s1,e1,fun v H1 S1 af R1=>⟨s1,_,S1,af,R1,_,_,e2,fun w dx H2 S2 az R2 hd=>q w dx H2 S2 az (R2.drop.drop.push R2.top) hd⟩⟩
   ·cases e
  ·rename_i y s1 e1;cases e;exact ⟨st,ps,S,as,R,_,_,e1,q⟩
  ·cases e
theorem abv {op:Operator} {a b:Expr} (ho:OpT X (binaryOp op) g) (ha:PE X a (Mv X.K B Cl f E m1)) (hb:PE X b (Mv X.K B Cl f E m2)):PE X (.BinOp a op b pos) (Mv X.K B Cl f E (a1b g m1 m2)):=a0v (Wf ho ha hb)
end
noncomputable def Cw (C:Nat) (f:Str) (o:M T) (v:MX):SX:=fun s=>match v s with
 | some (.inl t,s1)=>(match o s1 with
  | some (.obj n,s2)=>(match Mi C n s2.sto with
   | some fs=>if fs.length<100 then some (.inl .next,{ s2 with sto:=s2.sto.set n (.ins C (a0w f t fs)) }) else none
   | none=>none)
  | _=>none)
 | some (.inr x,s1)=>some (.inr x,s1)
 | none=>none
section
variable {X:Cx} {B:Bas} {o v:Expr} {mo:M T} {mv:MX} {pos pos':Pos} {Co Cl:Addr} {f g:Str} {E:XK}
theorem Z6 (c:Cls X.K Co) (n:Bu X.K Co g) (ho:PE X o (tOf X.K B mo)) (hv:PE X v (Mv X.K B Cl f E mv)) (hs:swapsWith v (some (.Attribute o g pos')) pos.line X.env=pure false:=by rfl) :
  PS X (.Assign [.Attribute o g pos'] v pos) (Jc X.K B Cl f E (Cw Co g mo mv)):=(a3n ho hv hs).imp fun D σ H z9=>by
 obtain ⟨st,ps,S,as,R,fl,aa,e,q⟩:=z9;unfold Cw at e;split at e
 ·rename_i t s1 e1;split at e
  ·rename_i k s2 e2;split at e
   ·rename_i fs e3;split at e
    ·rename_i hl;cases e;have e3:=Am e3;refine ⟨st,ps,S,as,R,_,s1,e1,fun v H1 S1 af R1=>⟨s1,_,S1,af,R1,_,s2,e2,fun x H2 S2 az R2=>?_⟩⟩;have t1:=R2.top;cases t1 with
     | @obj _ a ha =>
      obtain ⟨a',h1,_,dx,vs,h3,h4⟩:=R2.sto.at' k _ e3;rw [ha] at h1; cases h1;exact ⟨a,Co,dx,vs,rfl,h3,c,n,by rw [h4.length]; omega,q _ _ S2 az (R2.drop.drop.a3k e3 ha ⟨dx,_,dz,h4.put R2.top2⟩)⟩
    ·cases e
   ·cases e
  ·cases e
 ·rename_i t s1 e1;cases e;exact ⟨st,ps,S,as,R,_,_,e1,fun v dx H1 S1 af R1 hd=>q v dx σ H1 S1 af R1 hd⟩
 ·cases e
end
noncomputable def v7 (i:Nat) (e:MX):SX:=fun s=>if Ac i s then (match e s with
 | some (.inl t,s1)=>(match s1.env[i]? with
  | some (some (.lst xs,true))=>if xs.length<lim then some (.inl .next,iu i (.lst (xs++[t])) true s1) else none
  | _=>none)
 | some (.inr x,s1)=>some (.inr x,s1)
 | none=>none) else none
section
variable {X:Cx} {B:Bas} {mv:MX} {Cl:Addr} {f:Str} {E:XK}
theorem Ji (i:Nat) {st:Stmt} (h:PS X st (a1y (tBM X.K "list" Rm (W2 i) (Xg (Mv X.K B Cl f E mv) a7j)))):PS X st (Jc X.K B Cl f E (v7 i mv)):=h.imp fun D σ H z9=>by
 obtain ⟨st,ps,S,as,R,fl,aa,e,q⟩:=z9;unfold v7 at e;obtain ⟨hd,e⟩:=Ad e;obtain ⟨aV,f0,e0⟩:=Cu hd;obtain ⟨p0,vs0,s0,q0,_⟩:=R.listAt e0;split at e
 ·rename_i t s1 e1;split at e
  ·rename_i xs e2;obtain ⟨hl,e⟩:=Ad e;cases e;refine ⟨_,s0,.inl ⟨rfl,_,q0⟩,st,ps,S,as,R,_,s1,e1,fun v H1 S1 af R1=>?_⟩;obtain ⟨w,h1,_,h3⟩:=R1.slots i _ true e2;rw [s0] at h1; cases h1;obtain ⟨p',ep,ow⟩:=h3 rfl;cases ep;obtain ⟨vs,hH,h4⟩:=ow.own;exact ⟨p0,vs,v,rfl,rfl,hH,by rw [h4.length]; exact Nat.lt_of_lt_of_le hl ju,q _ _ S1 af (R1.drop.turn e2 s0 ⟨_,dz,h4.append (.cons R1.top .nil)⟩)⟩
  ·cases e
 ·rename_i t s1 e1;cases e;exact ⟨_,s0,.inl ⟨rfl,_,q0⟩,st,ps,S,as,R,_,_,e1,fun v dx H1 S1 af R1 hd=>q v dx σ H1 S1 af R1 hd⟩
 ·cases e
noncomputable def Gs (i:Nat) (a:MXs):SX:=fun s=>match a s with
 | some (.inl ts,s1)=>some (.inl .next,iu i (.lst ts) true s1)
 | some (.inr x,s1)=>some (.inr x,s1)
 | none=>none
variable {es:List Expr} {a5:MXs} {i:Nat} {y:Str} {pos pos' p2:Pos}
theorem Sv (hN:X.N.Nodup) (hi:X.N[i]? = some y) (hx:Loc X.env.scope y) (h:PA X es (a7q X.K B Cl f E a5)) (hm:∀ st ts aa,a5 st=some (.inl ts,aa)->ts.length<=1000) (hs:swapsWith (.List es p2) (some (.Name y pos')) pos.line X.env=pure false:=by rfl)
  (hf:X.fn y=true\/X.env.scope.names.lookup y=some .local:=by first | exact .inl rfl | exact .inr rfl | assumption):PS X (.Assign [.Name y pos'] (.List es p2) pos) (Jc X.K B Cl f E (Gs i a5)):=(wz hN hi hx (Uw h) hs hf).imp fun D σ H z9=>by
 obtain ⟨st,ps,S,as,R,fl,aa,e,q⟩:=z9;unfold Gs at e;split at e
 ·rename_i ts s1 e1;cases e;refine ⟨st,ps,S,as,R,_,_,e1,fun vs H1 S1 af R1 rs=>⟨?_,fun p hp=>?_⟩⟩
  ·rw [rs.length]; exact Nat.le_of_lt (Aq (hm _ _ _ e1))
  ·obtain ⟨bD,sD,nD,no⟩:=R1.fresh hp;exact q _ _ S1 af ((R1.a7s bD sD nD no).a4k ⟨⟨vs,dz,rs⟩,sD,nD,bD⟩ no)
 ·rename_i t s1 e1;cases e;exact ⟨st,ps,S,as,R,_,_,e1,fun v dx H1 S1 af R1 hd=>q v dx σ H1 S1 af R1 hd⟩
 ·cases e
end
noncomputable def inS:T->T->Option T
 | .str x,.str y=>some (.bl (!(Builtin.Str.occurrences y x 0 y.length 1).isEmpty))
 | _,_=>none
section
variable {X:Cx}
theorem J4:OpT X (compareOp .In) inS:=by
 intro pins s σ H x y v u Q I rx ry z8;obtain ⟨S,as,t,t2,w,sub,ht,hu2,hf,q⟩:=z8;cases ht <;> first | (cases hf; done) | skip
 all_goals (cases hu2 <;> first | (cases hf; done) | skip)
 cases hf;obtain ⟨t1,rfl⟩:=rx;obtain ⟨t2,rfl⟩:=ry;exact PySem.P.in_str ⟨.bl _,H,I,rfl,q _ H S (Ext.refl sub) (.bl _)⟩
end
noncomputable def Ve (x:Str) (lo hi:Option Int):Str:=⟨((x.cps.toList.drop (HT.sIx x.length 0 lo)).take (HT.sIx x.length x.length hi - HT.sIx x.length 0 lo)).toArray⟩
theorem Kd (lo hi:Option Int) (n:Nat):Builtin.Str.strSliceIndices lo hi 1 n=(List.range (HT.sIx n n hi - HT.sIx n 0 lo)).map (HT.sIx n 0 lo + ·):=by
 have e:∀ (o:Option Int) (d:Nat),(match o with | none=>(d:Int) | some i=>let i:=if i<0 then i+(n:Int) else i; if (1:Int) > 0 then max 0 (min i n) else max (-1) (min i (n - 1)))=((HT.sIx n d o:Nat):Int):=fun o d=>by
  cases o with
  | none=>rfl
  | some i =>
   simp only [HT.sIx,show (1:Int) > 0 by decide,if_true]
   by_cases h:i<0
   ·simp only [h,if_true]; omega
   ·simp only [h,if_false]; omega
 rw [<- sliceRange_one,<- e lo 0,<- e hi n];rfl
theorem a0y (x:Str) (lo hi:Option Int):(Ve x lo hi).length<=x.length:=by
 show (((x.cps.toList.drop _).take _).toArray).size<=x.cps.size;rw [List.size_toArray,List.length_take,List.length_drop,Array.length_toList];omega
theorem a2p (x:Str) (lo hi:Option Int):(⟨((Builtin.Str.strSliceIndices lo hi 1 x.length).filterMap (x.cps[·]?)).toArray⟩:Str)=Ve x lo hi:=by
 rw [Kd,pick_run]; rfl
theorem Yj (x:Str) (lo hi:Option Int) (h:(Builtin.Str.strSliceIndices lo hi 1 x.length).length=x.length):Ve x lo hi=x:=by
 rw [Kd,List.length_map,List.length_range] at h
 have a0:HT.sIx x.length x.length hi<=x.length:=by
  cases hi with
  | none=>exact Nat.le_refl _
  | some i=>simp only [HT.sIx]; split <;> omega
 have a1:HT.sIx x.length 0 lo=0\/x.length=0:=by omega
 have hx:x.cps.toList.length=x.length:=Array.length_toList;unfold Ve;rcases a1 with a1 | a1
 ·rw [a1,List.drop_zero,Nat.sub_zero,List.take_of_length_le (by rw [hx]; omega)]
 ·have:x.cps.toList=[]:=List.eq_nil_of_length_eq_zero (by rw [hx,a1]);rw [this];cases x with
  | mk cps=>simp at this; subst this; simp
def ae8:V->Option Int->Option Int->Hp->VK->Prop:=fun x lo hi H Q=>∃ y:Str,x=.str y/\y.length<=sizeLine/\Q (.str (Ve y lo hi)) H
section
variable {X:Cx}
theorem part_of {v:Value} {o:Option Int} (h:IsPart v o):∃ l:Option (Int × Tok),v=partValue l/\l.map (·.1)=o:=by
 cases h with
 | none=>exact ⟨none,rfl,rfl⟩
 | int i t=>exact ⟨some (i,t),rfl,rfl⟩
theorem a7x:SlR X ae8:=by
 intro pins s σ H x v vl vu lo hi sl Q I rx hs pl pu h;obtain ⟨y,rfl,hy,q⟩:=h;obtain ⟨t,rfl⟩:=rx;obtain ⟨l,rfl,rfl⟩:=part_of pl;obtain ⟨u,rfl,rfl⟩:=part_of pu;refine ⟨"str",_,F.slot_str_getitem.lookup,typeIs_str _ _ _,wpAny_getItem_str_slice (l:=l) (u:=u) (st:=none) hs rfl ?_⟩;unfold sliceMade slicePicked;split
 ·rename_i hw;have gc:(Builtin.Str.strSliceIndices (l.map (·.1)) (u.map (·.1)) 1 y.length).length=y.length:=by simpa using hw
  rw [Yj y _ _ gc] at q;exact ⟨.str y,H,I,⟨t,rfl⟩,q⟩
 ·rw [show ((Option.map (fun x:Int × Tok=>x.1) (none:Option (Int × Tok))).getD 1)=1 from rfl,a2p];refine ⟨Nat.le_trans (a0y _ _ _) hy,?_⟩;exact ⟨.str _,H,I.tok _,⟨_,rfl⟩,q⟩
end
noncomputable def a0n (lo hi:Option Int):T->Option T
 | .str x=>if x.length<lim then some (.str (Ve x lo hi)) else none
 | _=>none
noncomputable def Br (m:M T) (lo hi:M (Option Int)):M T:=fun s=>match m s with
 | some (t,s1)=>match lo s1 with
  | some (l,s2)=>match hi s2 with
   | some (u,s3)=>match a0n l u t with
    | some v=>some (v,s3)
    | none=>none
   | none=>none
  | none=>none
 | none=>none
theorem Rw {m:M T} {ml mh:M (Option Int)} {s s':Sta} {v:T} (h:Br m ml mh s=some (v,s')):∃ t s1 l s2 u,m s=some (t,s1)/\ml s1=some (l,s2)/\mh s2=some (u,s')/\a0n l u t=some v:=by
 unfold Br at h;split at h
 ·rename_i t s1 e1;split at h
  ·rename_i l s2 e2;split at h
   ·rename_i u s3 e3;split at h
    ·rename_i w e4; cases h; exact ⟨t,s1,l,s2,u,e1,e2,e3,e4⟩
    ·cases h
   ·cases h
  ·cases h
 ·cases h
section
variable {X:Cx} {B:Bas} {a:Expr} {m:M T} {ml mh:M (Option Int)} {lo hi:Option Expr} {pos p2:Pos}
theorem Ip (ha:PE X a (tOf X.K B m)) (hl:PO X lo (oOf X.K B ml)) (hh:PO X hi (oOf X.K B mh)):PE X (.Subscript a (.Slice lo hi none p2) pos) (tOf X.K B (Br m ml mh)) :=
 (U8 a7x ha hl hh).imp fun σ H Q z9=>by
  obtain ⟨st,ps,S,as,R,t,aa,e,q⟩:=z9;obtain ⟨t1,s1,l,s2,u,e1,e2,e3,e4⟩:=Rw e;refine ⟨st,ps,S,as,R,t1,s1,e1,fun v H1 S1 af R1=>⟨s1,_,S1,af,R1,l,s2,e2,fun H2 S2 az R2=>⟨s2,_,S2,az,R2,u,aa,e3,fun H3 S3 aJ R3=>?_⟩⟩⟩;have top:=R3.top;cases top with
  | str =>
   simp only [a0n] at e4;split at e4
   ·rename_i fR;cases e4;exact ⟨_,rfl,Nat.le_trans (Nat.le_of_lt fR) ju,q _ _ _ _ (R3.drop.push (.str _))⟩
   ·cases e4
  | _=>exact ig e4
end
noncomputable def ad3 (x:Str):It where
 go:=fun i _=>i<x.cps.size
 yld:=fun i H v H'=>H'=H/\∃ c,x.cps[i]? = some c/\v=.str ⟨#[c]⟩
 stop:=fun i _=>x.cps.size<=i
theorem a0j {P:Program} {w:World} {K:PySem.W.Frag} {tg:Expr} (x:Str) (t:Tok) (it:Addr):Turn P w K tg (ad3 x) [it] it (fun i h=>h.IsStrIter it "str_ascii_iterator" x t i) where
 mem:=by simp
 obj:=fun i h st b hb=>by
  have e:b=it:=by simpa using hb
  subst e;obtain ⟨o,e,c,d⟩:=st;exact ⟨o,e,fun v z=>by rw [d] at z; cases z⟩
 keep:=fun i h h' st k=>by
  obtain ⟨o,e,c,d⟩:=st;exact ⟨o,k it (by simp) o e,c,d⟩
 item:=by
  intro X hP hw hK hc i pins s σ H E I hf st hg;subst hP hw hK;have hg:i<x.cps.size:=hg;obtain ⟨f0,f1,f2,f3,f4,f5⟩:=hf it (by simp);refine wpAny_pyNext_ascii_item st (c:=x.cps[i]) (by simp [hg]) fun h' aa sb=>?_;have I1:Inv X pins σ H { s with heap:=h',toks:=s.toks+1 }:=I.turned (t':=s.toks+1) (fun b o hb e=>(sb.2 b hb).trans e) f0 f1 f3 f4 f5;obtain ⟨o,e,c,d⟩:=id aa;exact ⟨_,rfl,a0g (s:={ s with heap:=h',toks:=s.toks+1 }) e c d (by decide) ⟨.str ⟨#[x.cps[i]]⟩,H,I1,⟨_,rfl⟩,⟨rfl,_,by simp [hg],rfl⟩,aa,fun b hb=>(hf b hb).1⟩⟩
 done:=by
  intro X hP hw hK hc i pins s σ H E I hf st hg;subst hP hw hK;have hg:x.cps.size<=i:=hg;obtain ⟨f0,f1,f2,f3,f4,f5⟩:=hf it (by simp);exact wpAny_pyNext_ascii_end (I.ok.hd hc) st (by simp [hg]) fun h' eb=>⟨rfl,I.turned (t':=s.toks) (fun b o hb e=>eb b o hb e) f0 f1 f3 f4 f5⟩
 self:=fun _ _ _ _ _ st h=>wpAny_pyIter_striter_ascii st h
def signs (x:Str):List T:=x.cps.toList.map fun c=>.str ⟨#[c]⟩
noncomputable def Es (a:M T):M (List T):=fun s=>match a s with
 | some (.str x,s1)=>if x.length<lim/\x.cps.all (· < 128)=true then some (signs x,s1) else none
 | _=>none
section
variable {X:Cx} {B:Bas} {tg iter:Expr} {m:M T}
theorem adx {K:PySem.W.Frag} {S:Hp} {as:List Addr} {H:Hp} {x:Str} (sub:Same S H):Iw K S as H (ad3 x) (signs x) where
 go:=fun i t e=>by
  unfold signs at e;rw [List.getElem?_map] at e
  have hi:i<x.cps.size:=by
   rcases Nat.lt_or_ge i x.cps.size with h | h
   ·exact h
   ·rw [List.getElem?_eq_none (by rw [Array.length_toList]; exact h)] at e; cases e
  refine ⟨hi,fun v H' y=>⟨S,by rw [y.1]; exact Ext.refl sub,?_⟩⟩;obtain ⟨_,c,hc,rfl⟩:=y;rw [Array.getElem?_toList,hc] at e;cases e;exact .str _
 stop:=fun i hi=>by
  unfold signs at hi;rw [List.length_map,Array.length_toList] at hi;exact hi
theorem Tq (h:PE X iter (tOf X.K B m)):PI X tg iter (iOf X.K B (Es m)):=by
 intro pins s σ H R I hw;obtain ⟨st,ps,S,as,Rl,ts,aa,e,hz,q⟩:=hw;unfold Es at e;split at e
 ·rename_i x s1 e1;split at e
  ·rename_i hl;cases e;refine thn (h pins s σ H _ I ⟨st,ps,S,as,Rl,_,_,e1,fun v H1 S1 af R1=>(⟨S1,af,R1⟩:∃ S1 af,Rel X.K B aa σ H1 ((v,.str x)::ps) S1 af)⟩) fun v s1 z0=>?_;obtain ⟨y,H1,I1,r1,S1,af,R1⟩:=z0;have top:=R1.top;cases top;obtain ⟨t,rfl⟩:=r1;refine wpAny_pyIter_ascii hl.2 ?_;refine ⟨s1.heap.objs.size,[s1.heap.objs.size],_,_,H1,rfl,I1.kept (t':=s1.toks) fun b o e=>Heap.get?_push_of_some _ e,a0j x t _,⟨_,Heap.get?_push_size _ rfl,rfl,rfl⟩,fun b hb=>?_,q _ H1 S1 af [(.str x,.str x)] R1 fun S2 az H2 hp hh=>adx hh⟩;have e:b=s1.heap.objs.size:=by simpa using hb
   subst e;exact I1.a8r (Nat.le_refl _) (I1.hok.fresh (Nat.le_refl _))
  ·cases e
 ·cases e
theorem T7 {m:M T}:∀ st ts aa,Es m st=some (ts,aa)->ts.length<=sizeLine:=fun st ts aa e=>by
 unfold Es at e;split at e
 ·split at e
  ·rename_i hl;cases e;unfold signs;rw [List.length_map,Array.length_toList];exact Nat.le_trans (Nat.le_of_lt hl.1) ju
  ·cases e
 ·cases e
end
noncomputable def a7t:List T->Option T
 | [.str x]=>if x.length<=640 then (intText? x).map .int else none
 | _=>none
section
variable {X:Cx}
theorem Vk:Mp X (.type "int") a7t:=by
 intro pins s σ H xs us Q I rs z8;obtain ⟨S,as,ts,w,sub,hr,hf,q⟩:=z8;cases hr with
 | nil=>exact ig hf
 | @cons x t xs' ts' h1 h2 =>
  cases h2 with
  | cons h3 h4=>cases h1 <;> exact ig hf
  | nil =>
   cases h1 <;> first | exact ig hf | skip
   obtain ⟨u,rfl,ru⟩:=rs.one;obtain ⟨t,rfl⟩:=ru;rename_i x;have eI:(if x.length<=640 then (intText? x).map T.int else none)=some w:=hf;split at eI
   ·rename_i hl;obtain ⟨n,hn,rfl⟩:=Option.map_eq_some_iff.mp eI;exact PySem.W.KIN.call_text hn hl ⟨.int n,H,I.tok _,⟨_,rfl⟩,q _ H S (Ext.refl sub) (.int _)⟩
   ·cases eI
end
noncomputable def Jo (f g:T->T->Option T) (a b c:M T):M T:=fun s=>match a s with
 | some (x,s1)=>match b s1 with
  | some (y,s2)=>match f x y with
   | some (.bl true)=>(match c s2 with
    | some (z,s3)=>(match g y z with
     | some w=>some (w,s3)
     | none=>none)
    | none=>none)
   | some (.bl false)=>some (.bl false,s2)
   | _=>none
  | none=>none
 | none=>none
theorem Vi {f g:T->T->Option T} {a b c:M T} {s s':Sta} {w:T} (h:Jo f g a b c s=some (w,s')):∃ x s1 y s2,a s=some (x,s1)/\b s1=some (y,s2) /\
  ((f x y=some (.bl true)/\∃ z,c s2=some (z,s')/\g y z=some w)\/(f x y=some (.bl false)/\w=.bl false/\s'=s2)):=by
 unfold Jo at h;split at h
 ·rename_i x s1 e1;split at h
  ·rename_i y s2 e2;split at h
   ·rename_i e3;split at h
    ·rename_i z s3 e4;split at h
     ·rename_i w' e5;cases h;exact ⟨x,s1,y,s2,e1,e2,.inl ⟨e3,z,e4,e5⟩⟩
     ·cases h
    ·cases h
   ·rename_i e3;cases h;exact ⟨x,s1,y,_,e1,e2,.inr ⟨e3,rfl,rfl⟩⟩
   ·cases h
  ·cases h
 ·cases h
section
variable {X:Cx} {B:Bas} {a b c:Expr} {m1 m2 m3:M T} {pos:Pos} {op cH:CmpOp} {f g:T->T->Option T}
theorem a1i {σ:L2.St} {H:Hp} {Q:VK} (h:tOf X.K B (Jo f g m1 m2 m3) σ H Q):a3r (r2 X.K f) (r2 X.K g) (tOf X.K B m1) (tOf X.K B m2) (tOf X.K B m3) σ H Q:=by
 obtain ⟨st,ps,S,as,R,t,aa,e,q⟩:=h;obtain ⟨x,s1,y,s2,e1,e2,e3⟩:=Vi e;refine ⟨st,ps,S,as,R,x,s1,e1,fun v H1 S1 af R1=>⟨s1,_,S1,af,R1,y,s2,e2,fun u H2 S2 az R2=>?_⟩⟩;rcases e3 with ⟨f1,z,f2,f3⟩ | ⟨f1,rfl,rfl⟩
 ·refine ⟨S2,az,x,y,_,R2.sub,R2.top2,R2.top,f1,fun w H3 S3 xt r=>⟨true,by cases r; rfl,Yt ?_⟩⟩;have R3:=R2.ext xt;refine ⟨s2,_,S3,az,R3,z,aa,f2,fun w4 H4 S4 cU R4=>?_⟩;exact ⟨S4,cU,y,z,t,R4.sub,R4.top2,R4.top,f3,fun w5 H5 S5 x5 r5=>q w5 H5 S5 cU ((R4.drop.drop.drop.ext x5).push r5)⟩
 ·exact ⟨S2,az,x,y,_,R2.sub,R2.top2,R2.top,f1,fun w H3 S3 xt r=>⟨false,by cases r; rfl,Xa (q _ H3 S3 az ((R2.drop.drop.ext xt).push (.bl _)))⟩⟩
theorem a3g (ho:OpT X (compareOp op) f) (aT:OpT X (compareOp cH) g) (ha:PE X a (tOf X.K B m1)) (hb:PE X b (tOf X.K B m2)) (hc:PE X c (tOf X.K B m3)) (hm:lastMarks [op,cH] [b,c]=false:=by with_unfolding_all rfl) :
  PE X (.Compare a [op,cH] [b,c] pos) (tOf X.K B (Jo f g m1 m2 m3)):=(a2e ho aT ha hb hc hm).imp fun σ H Q h=>a1i h
end
noncomputable def aaf:List Int->Option Int
 | []=>none
 | x::r=>some (r.foldl (fun a b=>if b > a then b else a) x)
def a1v:List T->Option T
 | [.lst xs]=>(Ox xs).bind fun l=>(aaf l).map .int
 | _=>none
section
variable {X:Cx}
theorem Uq:∀ (r:List Int) (x:Int),(r.foldl (fun a b=>if b > a then b else a) x=x\/r.foldl (fun a b=>if b > a then b else a) x∈r)/\x<=r.foldl (fun a b=>if b > a then b else a) x/\∀ a∈r,a<=r.foldl (fun a b=>if b > a then b else a) x
 | [],x=>⟨.inl rfl,Int.le_refl _,fun _ h=>by cases h⟩
 | y::r,x=>by
  rw [List.foldl_cons];obtain ⟨h1,h2,h3⟩:=Uq r (if y > x then y else x);have hx:x<=(if y > x then y else x):=by split <;> omega
  have hy:y<=(if y > x then y else x):=by split <;> omega
  refine ⟨?_,Int.le_trans hx h2,fun a ha=>?_⟩
  ·rcases h1 with h1 | h1
   ·by_cases z:y > x
    ·rw [if_pos z] at h1 ⊢; exact .inr (by rw [h1]; exact List.mem_cons_self)
    ·rw [if_neg z] at h1 ⊢; exact .inl h1
   ·exact .inr (List.mem_cons_of_mem _ h1)
  ·rcases List.mem_cons.mp ha with rfl | ha
   ·exact Int.le_trans hy h2
   ·exact h3 a ha
theorem Ni {l:List Int} {m:Int} (h:aaf l=some m):m∈l/\∀ a∈l,a<=m:=by
 cases l with
 | nil=>cases h
 | cons x r =>
  cases h;obtain ⟨h1,h2,h3⟩:=Uq r x;refine ⟨?_,fun a ha=>?_⟩
  ·rcases h1 with h1 | h1
   ·rw [h1]; exact List.mem_cons_self
   ·exact List.mem_cons_of_mem _ h1
  ·rcases List.mem_cons.mp ha with rfl | ha
   ·exact h2
   ·exact h3 a ha
theorem Wa (hc:X.calm=true):Mp X (.builtin "max") a1v:=by
 intro pins s σ H xs us Q I rs z8;obtain ⟨S,as,ts,w,sub,hr,hf,q⟩:=z8;cases hr with
 | nil=>exact ig hf
 | @cons x t xs' ts' h1 h2 =>
  cases h2 with
  | cons h3 h4=>cases h1 <;> exact ig hf
  | nil =>
   cases h1 with
   | @lst a vs ts g1 g2 =>
    obtain ⟨l,e1,e2⟩:=Option.bind_eq_some_iff.mp hf;obtain ⟨M,e3,e4⟩:=Option.map_eq_some_iff.mp e2;subst e4;have ev:=Jd g2 e1;subst ev;obtain ⟨u,rfl,ru⟩:=rs.one;cases ru;obtain ⟨ae,r,p,hz⟩:=I.list (jc sub g1);obtain ⟨ps,rfl,hl⟩:=K3 r;obtain ⟨m1,m2⟩:=Ni e3
    have cm:0<ps.toArray.size:=by
     rw [List.size_toArray];have:l.length=ps.length:=by rw [<- hl,List.length_map]
     have:=List.length_pos_of_mem m1;omega
    have gf:s.heap.IsList a (intItems ps.toArray):=by
     have:=p.isList;unfold intItems;simpa using this
    refine max_intList (I.ok.hd hc) gf cm fun v h' tk hv hk=>?_;obtain ⟨t,rfl⟩:=intItems_at hv;obtain ⟨b1,b2⟩:=argBest_gt (numAt ps.toArray) (ps.toArray.size - 1)
    have eM:numAt ps.toArray (argBest (fun i j=>decide (numAt ps.toArray i > numAt ps.toArray j)) (ps.toArray.size - 1))=M:=by
     apply Int.le_antisymm
     rotate_left
     ·rw [<- hl] at m1;obtain ⟨j,hj,ej⟩:=mem_getD m1;rw [List.length_map] at hj;rw [<- ej];have:=b2 j (by rw [List.size_toArray]; omega);rw [numAt_eq (j:=j)] at this;exact this
     ·apply m2;rw [numAt_eq,<- hl];exact PySem.getD_mem (by rw [List.length_map]; rw [List.size_toArray] at b1 cm; simp only [List.size_toArray]; omega)
    rw [eM];exact ⟨.int M,H,I.kept (h':=h') (t':=tk) hk,⟨_,rfl⟩,q _ H S (Ext.refl sub) (.int _)⟩
   | _=>exact ig hf
end
end C
end
section
namespace L2
open PySem PySem.Spec
open Sem (wp)
open Builtin
theorem a67 (a:Int) (t:Tok) (l:Addr) (items:Array Value) (n:Nat) (dd:Option Addr) (sl:Array (Option Value)) :
  Meets (Builtin.«int.__rmul__» ⟨[.int a t,.ref l],[]⟩) (fun _ R s=>s.heap.get? l=some { cls:=.type "tuple",dict:=dd,data:=.seq items n,slots:=sl }/\R (.ok (.ret Value.notImplemented)) s) :=
 .of_wp fun prog w A R s h=>by obtain ⟨hp,g,d,tk,os⟩:=s; obtain ⟨hl,h⟩:=h; wp_walk; exact ⟨_,rfl,h⟩
theorem Uz (ae:List Value) (m:Nat):List.foldl (fun x1 x2=>x1++x2) #[] (List.replicate m ae.toArray)=(List.replicate m ae).flatten.toArray:=by
 have:=foldl_rep ae m [];rw [List.nil_append] at this;exact this
theorem a9k (l:Addr) (items:Array Value) (n:Nat) (dd:Option Addr) (sl:Array (Option Value)) (k:Nat) (u:Tok) (h2:2<=k) (h3:k<=1000) (he:items.isEmpty=false) (hz:items.size * k<=sizeLine) :
  Meets (Builtin.«tuple.__mul__» ⟨[.ref l,.int (k:Int) u],[]⟩) (fun _ R s=>s.heap.get? l=some { cls:=.type "tuple",dict:=dd,data:=.seq items n,slots:=sl }/\R (.ok (.ret (Value.ref s.heap.objs.size))) { s with heap:=s.heap.push { cls:=Value.type "tuple",data:=Data.seq (List.foldl (fun x1 x2=>x1++x2) #[] (List.replicate k items)) },toks:=s.toks }) :=
 .of_wp fun prog w A R s h=>by
  obtain ⟨hp,g,d,tk,os⟩:=s; obtain ⟨hl,h⟩:=h
  have c1:¬ (decide ((k:Int) < -(2 ^ 63))||decide ((k:Int) >= 2 ^ 63))=true:=by
   rw [Bool.not_eq_true,Bool.or_eq_false_iff,decide_eq_false_iff_not,decide_eq_false_iff_not]; omega
  have c2:¬ (items.isEmpty||((k:Int)==1))=true:=by
   rw [Bool.not_eq_true,he,Bool.false_or]; exact beq_eq_false_iff_ne.mpr (by omega)
  have c3:¬ (decide ((k:Int)<=0)||items.isEmpty)=true:=by
   rw [Bool.not_eq_true,he,Bool.or_false]; exact decide_eq_false (by omega)
  have dC:(items.size:Int) * (k:Int)<=(sizeLine:Int):=by exact_mod_cast hz
  have c4:¬ (items.size:Int) * (k:Int) > (2 ^ 63 - 1) / 8:=by
   have:(sizeLine:Int)<=(2 ^ 63 - 1) / 8:=by decide
   omega
  have c5:¬ Builtin.Tuple.tupleTooMany ((items.size:Int) * (k:Int))=true:=by
   unfold Builtin.Tuple.tupleTooMany;rw [decide_eq_true_eq]; omega
  have c6:¬ (List.foldl (fun x1 x2=>x1++x2) #[] (List.replicate ((k:Int)).toNat items)).size > sizeLine:=by
   have:=Uz items.toList ((k:Int)).toNat;rw [Array.toArray_toList] at this;rw [this,List.size_toArray,len_rep,Int.toNat_natCast,Array.length_toList,Nat.mul_comm];omega
  wp_walk; refine wpAny_ite_false (decide_eq_false c1) ?_; wp_walk; refine wpAny_ite_false (decide_eq_false c2) ?_; wp_walk; refine wpAny_ite_false (decide_eq_false c3) ?_; wp_walk; refine wpAny_ite_false (decide_eq_false c4) ?_; wp_walk; refine wpAny_ite_false (decide_eq_false c6) ?_; wp_walk
  exact ⟨_,rfl,h⟩
end L2
namespace C
open PySem PySem.Spec PyProof.Rows L2
section
variable {X:Cx} {B:Bas} {a b:Expr} {m1 m2:M T} {pos:Pos}
theorem Gv:fillsNumberSlot (.type "tuple") "mul" = pure false :=
 PySem.fillsNumberSlot_seq (id := "tuple.__mul__") (r:=some (.builtin "tuple.__rmul__")) F.slot_tuple_mul.lookup (by decide +kernel) F.slot_tuple_rmul.lookup (by decide +kernel)
theorem Ol:seqRepeat? (.type "tuple")=pure (some (.builtin "tuple.__mul__")):=by
 unfold seqRepeat?;rw [PySem.seqSlot_of (T := "tuple") (name := "__mul__") (id := "tuple.__mul__") F.slot_tuple_mul.lookup (by decide +kernel),PySem.seqSlot_of (T := "tuple") (name := "__rmul__") (id := "tuple.__rmul__") F.slot_tuple_rmul.lookup (by decide +kernel)];rfl
noncomputable def acf (K:PySem.W.Frag):R2:=fun x y H Q=>∃ l k xs,x=.ref l/\y=.int ((k:Nat):Int)/\SqT K H l xs/\2<=k/\k<=1000/\xs≠[]/\xs.length * k<=sizeLine /\
 ∀ p,H p=none->Q (.ref p) (upd H p (.tup (List.replicate k xs).flatten))
theorem a7d:OpR X (binaryOp .Mult) (acf X.K):=by
 intro pins s σ H x y v u Q I rx ry h;obtain ⟨l,k,xs,rfl,rfl,hH,h2,h3,hx,hz,q⟩:=h;cases rx;obtain ⟨t,rfl⟩:=ry;obtain ⟨ae,r,p1,_⟩:=I.tuple hH;have hl:=r.length;have cm:ae≠[]:=fun z=>hx (r.Mq.mp z);obtain ⟨⟨oc,dd,odt,sl⟩,e,bI,n,hdat⟩:=id p1;simp only at bI hdat;subst bI hdat
 have he:ae.toArray.isEmpty=false:=by
  cases ae with
  | nil=>exact absurd rfl cm
  | cons a r=>rfl
 refine wpAny_binaryOp_repeat_ref (T := "tuple") (U := "int") (by decide) ⟨_,e,rfl⟩ (fun s'=>typeIs_int s' k t) Gv F.fills_int_mul F.slot_int_rmul Ol F.slot_int_index.lookup
  (call_meets F.slot_int_rmul (typeIs_int s k t) F.entry_int_rmul (F.args_int_rmul_2 _ _) (a67 k t l ae.toArray n dd sl)
   ⟨e,rfl,⟨_,e,rfl⟩,call_meets F.slot_tuple_mul ⟨_,e,rfl⟩ F.entry_tuple_mul (F.args_tuple_mul_2 _ _) (a9k l ae.toArray n dd sl k t h2 h3 he (by rw [List.size_toArray,<- hl]; exact hz)) ⟨e,?_⟩⟩)
 rw [Uz];refine ⟨.ref s.heap.objs.size,_,I.laid (t':=s.toks) (o:=.tup (List.replicate k xs).flatten) (fun b ob q=>Heap.get?_push_of_some _ q) (Nat.le_refl _) ?_,rfl,q _ (I.hok.fresh (Nat.le_refl _))⟩;exact ⟨by rw [len_rep,Nat.mul_comm]; exact hz,_,r.rep k,a0d.new _ _⟩
noncomputable def V9:T->T->Option T
 | .tup xs,.int j=>if 2<=j/\j<=1000/\xs≠[]/\xs.length * j.toNat<lim then some (.tup (List.replicate j.toNat xs).flatten) else none
 | _,_=>none
theorem U9 (ha:PE X a (tOf X.K B m1)) (hb:PE X b (tOf X.K B m2)):PE X (.BinOp a .Mult b pos) (tOf X.K B (mOp V9 m1 m2)):=(Wf a7d ha hb).imp fun σ H Q z9=>by
 obtain ⟨st,ps,S,as,R,t,aa,ev,q⟩:=z9;obtain ⟨t1,s1,t2,e1,e2,e3⟩:=Gg ev;refine ⟨st,ps,S,as,R,t1,s1,e1,fun v H1 S1 af R1=>⟨s1,_,S1,af,R1,t2,aa,e2,fun u H2 S2 az R2=>?_⟩⟩;have tp:=R2.top;have tq:=R2.top2;cases tq with
 | @tup p vs ts g1 g2 =>
  cases tp with
  | int j =>
   simp only [V9] at e3;split at e3
   ·rename_i hl;cases e3;obtain ⟨l1,l2,l3,l4⟩:=hl;obtain ⟨k,rfl⟩:∃ k:Nat,j=(k:Int):=⟨j.toNat,by omega⟩;rw [Int.toNat_natCast] at l4 q;refine ⟨p,k,vs,rfl,rfl,lq R2.sub g1,by omega,by omega,fun z=>l3 ?_,?_,fun p2 cQ=>?_⟩
    ·subst z; cases g2; rfl
    ·rw [g2.length]; exact Nat.le_of_lt (Nat.lt_of_lt_of_le l4 ju)
    ·have y:=Ext.laid R2.sub cQ (.tup (List.replicate k vs).flatten);exact q _ _ _ _ ((R2.drop.drop.ext y).push (.tup (SqT.of dz) ((g2.rep k).mono y.s nol)))
   ·cases e3
  | _=>exact ig e3
 | _=>exact ig e3
end
end C
end
section
namespace L2
open PySem PySem.Spec PyProof.Rows
section
variable {prog:Program} {w:World} {A:Around} {E:Value->Shared->Prop} {s:Shared} {a kS:Addr} {vs:List Value} {kz:List Int} {P:PySem.Fin->Shared->Prop} {keys:Array Value} {e e1:Nat}
end
section
variable {X:Cx} {pins:List (Addr × Obj)} {σ:St} {H:Hp} {s:Shared} {E:Value->Shared->Prop} {l:Addr} {Q:VK} {vs:List Value} {kz:List Int} {f:Value} {kw:List (Str × Value)}
end
end L2
end
section
namespace C
open PySem PySem.Spec PyProof.Rows L2
section
variable {X:Cx} {B:Bas} {e:Expr} {m:M T} {pos p q d5:Pos} {x y pn:Str} {F:Fn} {k:Nat}
end
section
variable {X:Cx} {B:Bas} {k o e:Expr} {mk mo mx:M T} {pos:Pos}
end
end C
end
section
namespace K
open C PySem
noncomputable def Bk:Fn:=uc 6
 (nq (sNew 2 (ao (.dic [])))
 (nq (S7 (Ub [3,4]) (Dj (bf 1))
 (Gb 2 (bf 3) (mOp j4 (G3 2 (bf 3) (ao (.int 0))) (bf 4))))
 (nq (jm 5 (uw 1 [2] (hName 0) (Dj (dg M6 (aj (bf 2) c7))) (d9 (mOp neO (mOp iz (bf 1) (bf 0)) (ao (.int 0)))) (dg (fun l=>some (.tup l)) (aj (bf 0) (aj (mOp iz (bf 1) (bf 0)) c7)))))
 (um (dg (fun l=>some (.tup l)) (aj (bf 0) (aj (dg Eu (aj (bf 5) c7)) c7)))))))
noncomputable def Q0:Fn:=uc 2
 (um (j8 Bk (aj (mOp j4 (mOp iz (bf 0) (ao (.int 0))) (mOp iz (bf 1) (ao (.int 0)))) (aj (mOp j4 (mOp iz (bf 0) (ao (.int 1))) (mOp iz (bf 1) (ao (.int 1)))) c7))))
noncomputable def abg:Fn:=uc 2
 (um (j8 Bk (aj (mOp Ie (mOp iz (bf 0) (ao (.int 0))) (bf 1)) (aj (uw 2 [1] (Ub [0,1]) (Dj (mOp iz (bf 0) (ao (.int 1)))) Bx (dg (fun l=>some (.tup l)) (aj (bf 0) (aj (mOp Ie (bf 1) (bf 2)) c7)))) c7))))
noncomputable def Lq:Fn:=uc 2
 (um (j8 Q0 (aj (bf 0) (aj (j8 abg (aj (bf 1) (aj (mUn Qf (ao (.int 1))) c7))) c7))))
noncomputable def vp:Fn:=uc 1
 (nq (sIf (d9 (mOp eqO (mOp iz (bf 0) (ao (.int 0))) (ao (.str "not"))))
 (um (dg (fun l=>some (.tup l)) (aj (mOp iz (bf 0) (ao (.int 1))) c7)))
 xr)
 (um (mIf (d9 (mOp inT (mOp iz (bf 0) (ao (.int 0))) (dg (fun l=>some (.tup l)) (aj (ao (.str "and")) (aj (ao (.str "or")) c7))))) (mOp iz (bf 0) (ao (.int 1))) (dg (fun l=>some (.tup l)) c7))))
noncomputable def Gd:Fn:=uc 4
 (nq (sNew 1 (dg (fun l=>some (.lst l)) c7))
 (nq (sNew 2 (dg (fun l=>some (.lst l)) (aj (bf 0) c7)))
 (nq (qw 1000 (d9 (mOp gtT (Iz 2) (ao (.int 0))))
 (nq (a5y 2 3)
 (nq (ud 1 (bf 3))
 (Bp 2 (mUn a7r (j8 vp (aj (bf 3) c7)))))))
 (um (bf 1)))))
def Dg:Fn:=uc 1
 (um (dg xg (aj (j8 Gd (aj (bf 0) c7)) c7)))
noncomputable def wu:Fn:=uc 1
 (um (Ak (Ld (d9 (Jo leT leT (ao (.int 1)) (dg xg (aj (bf 0) c7)) (ao (.int 8)))) (d9 (Ak (Ld (d9 (mOp inS (mOp iz (bf 0) (ao (.int 0))) (ao (.str "abcdefghijklmnopqrstuvwxyz")))) (d9 (Ak (Ld (d9 (dg a6c (aj (uw 1 [] (hName 0) (Es (bf 0)) Bx (mOp inS (bf 0) (ao (.str "abcdefghijklmnopqrstuvwxyz0123456789")))) c7))) (d9 (mOp Hy (bf 0) (ao (.tup [(.str "box"),(.str "lock"),(.str "hand"),(.str "own"),(.str "end"),(.str "set"),(.str "wait"),(.str "if"),(.str "else"),(.str "while"),(.str "rounds"),(.str "either"),(.str "or"),(.str "and"),(.str "not"),(.str "take"),(.str "give"),(.str "label"),(.str "say"),(.str "at"),(.str "divides"),(.str "true"),(.str "false")])))))))))))))
noncomputable def yr:Fn:=uc 1
 (nq (sIf (mOr (d9 (mOp eqO (bf 0) (ao (.str "")))) (Fx (d9 (dg a6c (aj (uw 1 [] (hName 0) (Es (bf 0)) Bx (mOp inS (bf 0) (ao (.str "0123456789")))) c7)))))
 (um (ao (.bl false)))
 xr)
 (um (Ak (mOr (d9 (mOp eqO (bf 0) (ao (.str "0")))) (d9 (mOp neO (mOp iz (bf 0) (ao (.int 0))) (ao (.str "0"))))))))
noncomputable def Cy:Fn:=uc 2
 (nq (qw 1000 (Ld (d9 (mOp ltT (bf 1) (dg xg (aj (bf 0) c7)))) (d9 (mOp inS (mOp iz (bf 0) (bf 1)) (ao (.str "abcdefghijklmnopqrstuvwxyz0123456789")))))
 (jm 1 (mOp j4 (bf 1) (ao (.int 1)))))
 (um (bf 1)))
noncomputable def Aj:FnX:=jw 3
 (o7 (lx (sIf (d9 (mOp inS (mOp iz (bf 0) (bf 1)) (ao (.str "abcdefghijklmnopqrstuvwxyz0123456789"))))
 (um (Br (bf 0) (Ay (bf 1)) (Ay (j8 Cy (aj (bf 0) (aj (bf 1) c7))))))
 xr))
 (o7 (lx (sIf (d9 (mOp inT (Br (bf 0) (Ay (bf 1)) (Ay (mOp j4 (bf 1) (ao (.int 2))))) (ao (.tup [(.str "<="),(.str ">=")]))))
 (um (Br (bf 0) (Ay (bf 1)) (Ay (mOp j4 (bf 1) (ao (.int 2))))))
 xr))
 (o7 (lx (sIf (mOr (d9 (mOp eqO (mOp iz (bf 0) (bf 1)) (ao (.str " ")))) (d9 (mOp inT (mOp iz (bf 0) (bf 1)) (ao (.tup [(.str "+"),(.str "-"),(.str "*"),(.str "<"),(.str ">"),(.str "="),(.str "["),(.str "]"),(.str ",")])))))
 (um (mOp iz (bf 0) (bf 1)))
 xr))
 (xu (bf 2)))))
noncomputable def Bm:FnX:=jw 5
 (o7 (lx (sNew 2 (dg (fun l=>some (.lst l)) c7)))
 (o7 (lx (jm 3 (ao (.int 0))))
 (o7 (ni 1000 (d9 (mOp ltT (bf 3) (dg xg (aj (bf 0) c7))))
 (o7 (Ei 4 (gj Aj (aj (bf 0) (aj (bf 3) (aj (bf 1) c7)))))
 (o7 (lx (sIf (d9 (mOp neO (bf 4) (ao (.str " "))))
 (ud 2 (bf 4))
 xr))
 (lx (jm 3 (mOp j4 (bf 3) (dg xg (aj (bf 4) c7))))))))
 (lx (um (bf 2))))))
noncomputable def Ao (cR cN:Nat):FnX:=jw 3
 (o7 (lx (jm 2 (mOp j4 (dg (fun l=>some (.lst l)) (aj (mOp iz (bf 1) (ao (.int 0))) c7)) (uw 2 [] (Ub [0,1]) (Dj (mOp iz (bf 1) (ao (.int 1)))) Bx (bf 1)))))
 (o7 (xIf (d9 (mOp gtT (dg a1v (aj (uw 1 [] (hName 0) (Dj (bf 2)) Bx (dg a97 (aj (bf 0) c7))) c7)) (ao (.int 999999999))))
 (xu (yx cR "row" (bf 0)))
 (lx xr))
 (lx (um (bf 1)))))
noncomputable def iw (cR cN:Nat):Fn:=uc 2
 (nq (sIf (d9 (mOp geT (mOp j4 (yx cR "spot" (bf 0)) (bf 1)) (dg xg (aj (yx cR "tokens" (bf 0)) c7))))
 (um (ao (.str "")))
 xr)
 (um (mOp iz (yx cR "tokens" (bf 0)) (mOp j4 (yx cR "spot" (bf 0)) (bf 1)))))
noncomputable def gn (cR cN:Nat):Fn:=uc 2
 (nq (sIf (d9 (mOp neO (m9 cR "seen" (iw cR cN) (bf 0) (aj (ao (.int 0)) c7)) (bf 1)))
 (um (ao (.bl false)))
 xr)
 (nq (vf cR "spot" (bf 0) (mOp j4 (yx cR "spot" (bf 0)) (ao (.int 1))))
 (um (ao (.bl true)))))
noncomputable def g8 (cR cN:Nat):Fn:=uc 2
 (nq (jm 1 (m9 cR "seen" (iw cR cN) (bf 0) (aj (ao (.int 0)) c7)))
 (nq (vf cR "spot" (bf 0) (mOp j4 (yx cR "spot" (bf 0)) (ao (.int 1))))
 (um (bf 1))))
noncomputable def fj (cR cN:Nat):FnX:=jw 5
 (o7 (lx (jm 3 (m9 cR "next_token" (g8 cR cN) (bf 0) c7)))
 (o7 (xIf (mOr (Fx (d9 (j8 yr (aj (bf 3) c7)))) (d9 (mOp gtT (dg xg (aj (bf 3) c7)) (dg xg (aj (dg a3d (aj (bf 2) c7)) c7)))))
 (xu (yx cR "row" (bf 0)))
 (lx xr))
 (o7 (lx (jm 4 (dg a7t (aj (bf 3) c7))))
 (o7 (xIf (mOr (d9 (mOp ltT (bf 4) (bf 1))) (d9 (mOp gtT (bf 4) (bf 2))))
 (xu (yx cR "row" (bf 0)))
 (lx xr))
 (lx (um (bf 4)))))))
noncomputable def j7 (cR cN:Nat):FnX:=jw 2
 (o7 (lx (jm 1 (m9 cR "next_token" (g8 cR cN) (bf 0) c7)))
 (o7 (xIf (Fx (d9 (j8 wu (aj (bf 1) c7))))
 (xu (yx cR "row" (bf 0)))
 (lx xr))
 (lx (um (bf 1)))))
noncomputable def pq (cR cN:Nat):FnX:=jw 3
 (o7 (xIf (d9 (j8 wu (aj (m9 cR "seen" (iw cR cN) (bf 0) (aj (ao (.int 0)) c7)) c7)))
 (Fw (Ef (fun l=>some (.tup l)) (gq (mq cR "next_name" (j7 cR cN) (bf 0) nu) (gq (Ah (bf 1)) nu))))
 (lx xr))
 (o7 (Ei 2 (a1b Ie (Ah (bf 1)) (mq cR "next_number" (fj cR cN) (bf 0) (gq (Ah (ao (.int 0))) (gq (Ah (ao (.int 999999999))) nu)))))
 (o7 (xIf (d9 (m9 cR "took" (gn cR cN) (bf 0) (aj (ao (.str "*")) c7)))
 (Fw (Ef (fun l=>some (.tup l)) (gq (mq cR "next_name" (j7 cR cN) (bf 0) nu) (gq (Ah (bf 2)) nu))))
 (lx xr))
 (lx (um (dg (fun l=>some (.tup l)) (aj (ao (.str "")) (aj (bf 2) c7))))))))
noncomputable def u5 (cR cN:Nat):FnX:=jw 5
 (o7 (Gs 1 (gq (gj (pq cR cN) (aj (bf 0) (aj (mIf (d9 (m9 cR "took" (gn cR cN) (bf 0) (aj (ao (.str "-")) c7))) (mUn Qf (ao (.int 1))) (ao (.int 1))) c7))) nu))
 (o7 (ni 1000 (d9 (mOp inT (m9 cR "seen" (iw cR cN) (bf 0) (aj (ao (.int 0)) c7)) (dg (fun l=>some (.tup l)) (aj (ao (.str "+")) (aj (ao (.str "-")) c7)))))
 (o7 (lx (jm 2 (mIf (d9 (mOp eqO (m9 cR "next_token" (g8 cR cN) (bf 0) c7) (ao (.str "+")))) (ao (.int 1)) (mUn Qf (ao (.int 1))))))
 (v7 1 (gj (pq cR cN) (aj (bf 0) (aj (bf 2) c7))))))
 (o7 (lx (jm 3 (dg aaj (aj (uw 2 [] (Ub [0,1]) (Dj (bf 1)) (d9 (mOp eqO (bf 0) (ao (.str "")))) (bf 1)) c7))))
 (o7 (lx (jm 4 (j8 Bk (aj (bf 3) (aj (uw 1 [] (hName 0) (Dj (bf 1)) (d9 (mOp neO (mOp iz (bf 0) (ao (.int 0))) (ao (.str "")))) (bf 0)) c7)))))
 (Fw (gj (Ao cR cN) (aj (bf 0) (aj (bf 4) c7))))))))
noncomputable def u6 (cR cN:Nat):FnX:=jw 3
 (o7 (Cw cR "tokens" (bf 0) (gj Bm (aj (bf 1) (aj (bf 2) c7))))
 (o7 (lx (vf cR "row" (bf 0) (bf 2)))
 (lx (vf cR "spot" (bf 0) (ao (.int 0))))))
noncomputable def Fq:Fn:=uc 2
 (um (mIf (d9 (mOp eqO (dg xg (aj (bf 1) c7)) (ao (.int 1)))) (mOp iz (bf 1) (ao (.int 0))) (dg (fun l=>some (.tup l)) (aj (bf 0) (aj (dg Eu (aj (bf 1) c7)) c7)))))
noncomputable def yu (cR cN:Nat):FnX:=jw 5
 (o7 (lx (jm 4 (j8 Q0 (aj (j8 Lq (aj (bf 1) (aj (bf 2) c7))) (aj (dg (fun l=>some (.tup l)) (aj (bf 3) (aj (dg (fun l=>some (.tup l)) c7) c7))) c7)))))
 (Fw (Ef (fun l=>some (.tup l)) (gq (Ah (ao (.str "most"))) (gq (gj (Ao cR cN) (aj (bf 0) (aj (bf 4) c7))) nu)))))
noncomputable def oh (cR cN:Nat):FnX:=jw 5
 (o7 (Ei 1 (gj (u5 cR cN) (aj (bf 0) c7)))
 (o7 (lx (jm 2 (m9 cR "next_token" (g8 cR cN) (bf 0) c7)))
 (o7 (xIf (d9 (mOp Hy (bf 2) (dg (fun l=>some (.tup l)) (yg ["<=","<",">=",">","="]))))
 (xu (yx cR "row" (bf 0)))
 (lx xr))
 (o7 (Ei 3 (gj (u5 cR cN) (aj (bf 0) c7)))
 (o7 (xIf (d9 (mOp eqO (bf 2) (ao (.str "="))))
 (Fw (Ef (fun l=>some (.tup l)) (gq (Ah (ao (.str "and"))) (gq (Ef (fun l=>some (.tup l)) (gq (gj (yu cR cN) (aj (bf 0) (aj (bf 1) (aj (bf 3) (aj (ao (.int 0)) c7))))) (gq (gj (yu cR cN) (aj (bf 0) (aj (bf 3) (aj (bf 1) (aj (ao (.int 0)) c7))))) nu))) nu))))
 (lx xr))
 (o7 (lx (jm 4 (mIf (d9 (mOp inT (bf 2) (dg (fun l=>some (.tup l)) (aj (ao (.str "<")) (aj (ao (.str ">")) c7))))) (ao (.int 1)) (ao (.int 0)))))
 (o7 (xIf (d9 (mOp inT (bf 2) (dg (fun l=>some (.tup l)) (aj (ao (.str "<=")) (aj (ao (.str "<")) c7)))))
 (Fw (gj (yu cR cN) (aj (bf 0) (aj (bf 1) (aj (bf 3) (aj (bf 4) c7))))))
 (lx xr))
 (Fw (gj (yu cR cN) (aj (bf 0) (aj (bf 3) (aj (bf 1) (aj (bf 4) c7)))))))))))))
noncomputable def Ai (cR cN:Nat):FnX:=jw 3
 (o7 (Ei 2 (mq cR "next_name" (j7 cR cN) (bf 0) nu))
 (o7 (xIf (Ld (d9 (bf 1)) (Fx (d9 (j8 wu (aj (m9 cR "seen" (iw cR cN) (bf 0) (aj (ao (.int 0)) c7)) c7)))))
 (Fw (Ef (fun l=>some (.tup l)) (gq (Ah (ao (.str "at"))) (gq (Ah (bf 2)) (gq (mq cR "next_number" (fj cR cN) (bf 0) (gq (Ah (ao (.int 0))) (gq (Ah (ao (.int 99))) nu))) nu)))))
 (lx xr))
 (Fw (Ef (fun l=>some (.tup l)) (gq (Ah (ao (.str "at"))) (gq (Ah (bf 2)) (gq (mq cR "next_name" (j7 cR cN) (bf 0) nu) nu)))))))
noncomputable def qe (cR cN:Nat):FnX:=jw 2
 (xIf (Fx (d9 (m9 cR "took" (gn cR cN) (bf 0) (aj (bf 1) c7))))
 (xu (yx cR "row" (bf 0)))
 (lx xr))
noncomputable def yp (cR cN:Nat):FnX:=jw 2
 (o7 (Ei 1 (mq cR "next_number" (fj cR cN) (bf 0) (gq (Ah (ao (.int 2))) (gq (Ah (ao (.int 12))) nu))))
 (o7 (Jy (mq cR "need" (qe cR cN) (bf 0) (gq (Ah (ao (.str "divides"))) nu)))
 (Fw (Ef (fun l=>some (.tup l)) (gq (Ah (ao (.str "rest"))) (gq (gj (u5 cR cN) (aj (bf 0) c7)) (gq (Ah (bf 1)) nu)))))))
mutual
def uh (cR cN:Nat):Nat->FnX
 | 0=>fun _ _=>none
 | n+1=>jw 4
   (o7 (Gs 3 (gq (gj (vm cR cN n) (aj (bf 0) (aj (bf 1) (aj (bf 2) c7)))) nu))
   (o7 (ni 1000 (d9 (m9 cR "took" (gn cR cN) (bf 0) (aj (ao (.str "or")) c7)))
   (v7 3 (gj (vm cR cN n) (aj (bf 0) (aj (bf 1) (aj (bf 2) c7))))))
   (lx (um (j8 Fq (aj (ao (.str "or")) (aj (bf 3) c7)))))))
def vm (cR cN:Nat):Nat->FnX
 | 0=>fun _ _=>none
 | n+1=>jw 4
   (o7 (Gs 3 (gq (gj (vg cR cN n) (aj (bf 0) (aj (bf 1) (aj (bf 2) c7)))) nu))
   (o7 (ni 1000 (d9 (m9 cR "took" (gn cR cN) (bf 0) (aj (ao (.str "and")) c7)))
   (v7 3 (gj (vg cR cN n) (aj (bf 0) (aj (bf 1) (aj (bf 2) c7))))))
   (lx (um (j8 Fq (aj (ao (.str "and")) (aj (bf 3) c7)))))))
def vg (cR cN:Nat):Nat->FnX
 | 0=>fun _ _=>none
 | n+1=>jw 6
   (o7 (lx (jm 3 (ao (.int 0))))
   (o7 (lx (qw 1000 (d9 (m9 cR "took" (gn cR cN) (bf 0) (aj (ao (.str "not")) c7)))
   (jm 3 (mOp j4 (bf 3) (ao (.int 1))))))
   (o7 (Ei 4 (gj (sy cR cN n) (aj (bf 0) (aj (bf 1) (aj (bf 2) c7)))))
   (o7 (lx (S7 (hName 5) (Bv (bf 3))
   (jm 4 (dg (fun l=>some (.tup l)) (aj (ao (.str "not")) (aj (bf 4) c7))))))
   (lx (um (bf 4)))))))
def sy (cR cN:Nat):Nat->FnX
 | 0=>fun _ _=>none
 | n+1=>jw 3
   (o7 (xIf (d9 (m9 cR "took" (gn cR cN) (bf 0) (aj (ao (.str "[")) c7)))
   (Fw (gj (mj cR cN n) (aj (bf 0) (aj (bf 1) (aj (mOp j4 (bf 2) (ao (.int 1))) c7)))))
   (lx xr))
   (o7 (lx (sIf (d9 (m9 cR "took" (gn cR cN) (bf 0) (aj (ao (.str "true")) c7)))
   (um (ao (.tup [(.str "and"),(.tup [])])))
   xr))
   (o7 (lx (sIf (d9 (m9 cR "took" (gn cR cN) (bf 0) (aj (ao (.str "false")) c7)))
   (um (ao (.tup [(.str "or"),(.tup [])])))
   xr))
   (o7 (xIf (d9 (m9 cR "took" (gn cR cN) (bf 0) (aj (ao (.str "at")) c7)))
   (Fw (gj (Ai cR cN) (aj (bf 0) (aj (bf 1) c7))))
   (lx xr))
   (o7 (xIf (d9 (mOp eqO (m9 cR "seen" (iw cR cN) (bf 0) (aj (ao (.int 1)) c7)) (ao (.str "divides"))))
   (Fw (gj (yp cR cN) (aj (bf 0) c7)))
   (lx xr))
   (Fw (gj (oh cR cN) (aj (bf 0) c7))))))))
def mj (cR cN:Nat):Nat->FnX
 | 0=>fun _ _=>none
 | n+1=>jw 4
   (o7 (xIf (d9 (mOp gtT (bf 2) (ao (.int 20))))
   (xu (yx cR "row" (bf 0)))
   (lx xr))
   (o7 (Ei 3 (gj (uh cR cN n) (aj (bf 0) (aj (bf 1) (aj (bf 2) c7)))))
   (o7 (Jy (mq cR "need" (qe cR cN) (bf 0) (gq (Ah (ao (.str "]"))) nu)))
   (lx (um (bf 3))))))
end
noncomputable def v9 (cR cN:Nat):FnX:=jw 3
 (o7 (Ei 2 (gj (uh cR cN 120) (aj (bf 0) (aj (bf 1) (aj (ao (.int 0)) c7)))))
 (o7 (xIf (d9 (mOp gtT (j8 Dg (aj (bf 2) c7)) (ao (.int 60))))
 (xu (yx cR "row" (bf 0)))
 (lx xr))
 (lx (um (bf 2)))))
noncomputable def rm (cR cN:Nat):FnX:=jw 1
 (xIf (d9 (mOp ltT (yx cR "spot" (bf 0)) (dg xg (aj (yx cR "tokens" (bf 0)) c7))))
 (xu (yx cR "row" (bf 0)))
 (lx xr))
noncomputable def uz (cR cN:Nat):FnX:=jw 3
 (o7 (Ei 1 (Ej cR (u6 cR cN) (aj (bf 0) (aj (ao (.int 1)) c7))))
 (o7 (Ei 2 (gj (v9 cR cN) (aj (bf 1) (aj (ao (.bl true)) c7))))
 (o7 (Jy (mq cR "need_end" (rm cR cN) (bf 1) nu))
 (lx (um (bf 2))))))
def qm (cR cN:Nat):Fn:=norm (uz cR cN)
noncomputable def lg:Fn:=uc 2
 (nq (sIf (d9 (mOp ltT (bf 1) (dg xg (aj (bf 0) c7))))
 (um (mOp iz (bf 0) (bf 1)))
 xr)
 (um (ao (.int 0))))
noncomputable def Fg:Fn:=uc 2
 (nq (jm 1 (dg (fun l=>some (.lst l)) (yg ["x","7","-x + 2","3 * x - y","0","x2 - 1","999999999","-1","-2 * abcdefgh","2 * x + y + 5"])))
 (um (mOp iz (bf 1) (mOp Qh (bf 0) (ao (.int 10))))))
noncomputable def qp:Fn:=uc 2
 (nq (jm 1 (dg (fun l=>some (.lst l)) (yg ["x <= 3","at h 0","[x = 1]","not y > 2","true","3 divides x","false","at h3 lab"])))
 (um (mOp iz (bf 1) (mOp Qh (bf 0) (ao (.int 8))))))
noncomputable def qt:Fn:=uc 4
 (nq (jm 3 (dg (fun l=>some (.lst l)) (aj (bf 1) (aj (mOp j4 (bf 1) (ao (.str " x <= 1"))) (aj (mOp j4 (bf 1) (ao (.str " <="))) (aj (mOp j4 (ao (.str "<= ")) (bf 1)) (aj (mOp j4 (mOp j4 (mOp j4 (mOp j4 (bf 1) (ao (.str " <= "))) (bf 2)) (ao (.str " <= "))) (bf 1)) c7)))))))
 (nq (jm 3 (mOp j4 (bf 3) (dg (fun l=>some (.lst l)) (aj (mOp j4 (bf 1) (ao (.str " < = 1"))) (aj (mOp j4 (bf 1) (ao (.str " =< 1"))) (aj (mOp j4 (bf 1) (ao (.str " == 1"))) (aj (mOp j4 (bf 1) (ao (.str " != 1"))) (aj (mOp j4 (bf 1) (ao (.str " <> 1"))) (aj (mOp j4 (bf 1) (ao (.str " + <= 1"))) c7)))))))))
 (nq (jm 3 (mOp j4 (bf 3) (dg (fun l=>some (.lst l)) (aj (mOp j4 (bf 1) (ao (.str " - - y <= 1"))) (aj (mOp j4 (bf 1) (ao (.str " + -1 <= 2"))) (aj (ao (.str "+ x <= 1")) (aj (ao (.str "x * 2 <= 1")) (aj (ao (.str "2 x <= 1")) (aj (ao (.str "2 * 3 <= 1")) c7)))))))))
 (nq (jm 3 (mOp j4 (bf 3) (dg (fun l=>some (.lst l)) (aj (mOp j4 (mOp j4 (ao (.str "(")) (bf 1)) (ao (.str ") <= 1"))) (aj (mOp j4 (mOp j4 (ao (.str "[")) (bf 1)) (ao (.str "] <= 1"))) (aj (mOp j4 (mOp j4 (ao (.str "[")) (bf 1)) (ao (.str " <= 1"))) (aj (mOp j4 (bf 1) (ao (.str " <= 1]"))) c7)))))))
 (nq (jm 3 (mOp j4 (bf 3) (dg (fun l=>some (.lst l)) (aj (mOp j4 (mOp j4 (ao (.str "[")) (bf 1)) (ao (.str "] = 1"))) c7))))
 (um (mOp iz (bf 3) (mOp Qh (bf 0) (ao (.int 22))))))))))
noncomputable def o9:Fn:=uc 4
 (nq (jm 2 (dg (fun l=>some (.lst l)) (yg [""," ","and","not","or true","true and","true or","true true","not and true","[]"])))
 (nq (jm 2 (mOp j4 (bf 2) (dg (fun l=>some (.lst l)) (aj (ao (.str "[true")) (aj (ao (.str "true]")) c7)))))
 (nq (jm 2 (mOp j4 (bf 2) (dg (fun l=>some (.lst l)) (yg ["1 divides x","13 divides x","0 divides x","02 divides x","divides x","3 divides"]))))
 (nq (jm 2 (mOp j4 (bf 2) (dg (fun l=>some (.lst l)) (aj (ao (.str "x divides 3")) c7))))
 (nq (jm 2 (mOp j4 (bf 2) (dg (fun l=>some (.lst l)) (yg ["3 divides x <= 1","-3 divides x","3 divide x","at","at h","at 3 h","at h 100"]))))
 (nq (jm 2 (mOp j4 (bf 2) (dg (fun l=>some (.lst l)) (aj (ao (.str "at h 01")) (aj (ao (.str "at h -1")) c7)))))
 (nq (jm 2 (mOp j4 (bf 2) (dg (fun l=>some (.lst l)) (yg ["at or lab","at h lab lab","at h at","true <= 1","True","x","if <= 1","X <= 1","x <= 1;"]))))
 (nq (jm 2 (mOp j4 (bf 2) (dg (fun l=>some (.lst l)) (yg ["1000000000 <= x","x <= 1000000000","x < -999999999","x + 1 >= 1000000000 * y"]))))
 (nq (jm 2 (mOp j4 (bf 2) (dg (fun l=>some (.lst l)) (aj (ao (.str "x <= 1, y <= 2")) c7))))
 (nq (jm 2 (mOp j4 (bf 2) (dg (fun l=>some (.lst l)) (yg ["999999999 * x >= -x","abcdefghi <= 1","x <= 1.5","x <= 1 {","x <= 01"]))))
 (nq (jm 2 (mOp j4 (bf 2) (dg (fun l=>some (.lst l)) (aj (ao (.str "xand <= 1 and")) (aj (ao (.str "7x <= 1")) c7)))))
 (nq (jm 2 (mOp j4 (bf 2) (dg (fun l=>some (.lst l)) (aj (mOp Dw (ao (.str " and ")) (mOp Ed (dg (fun l=>some (.lst l)) (aj (ao (.str "x <= 1")) c7)) (ao (.int 60)))) (aj (mOp j4 (mOp Ie (ao (.str "not ")) (ao (.int 60))) (ao (.str "true"))) (aj (mOp j4 (mOp j4 (mOp Ie (ao (.str "[")) (ao (.int 21))) (ao (.str "true"))) (mOp Ie (ao (.str "]")) (ao (.int 21)))) c7))))))
 (nq (jm 2 (mOp j4 (bf 2) (dg (fun l=>some (.lst l)) (aj (mOp Dw (ao (.str " or ")) (mOp Ed (dg (fun l=>some (.lst l)) (aj (ao (.str "x = 1")) c7)) (ao (.int 20)))) (aj (mOp j4 (mOp j4 (ao (.str "true and [")) (mOp Dw (ao (.str " or ")) (mOp Ed (dg (fun l=>some (.lst l)) (aj (ao (.str "x <= 1")) c7)) (ao (.int 58))))) (ao (.str "]"))) c7)))))
 (nq (jm 3 (dg (fun l=>some (.lst l)) (yg ["box","lock","hand","own","wait","else","while","rounds","either","not","take","give"])))
 (nq (jm 2 (mOp j4 (bf 2) (uw 1 [] (hName 0) (Dj (mOp j4 (bf 3) (dg (fun l=>some (.lst l)) (aj (ao (.str "label")) (aj (ao (.str "say")) (aj (ao (.str "false")) c7)))))) Bx (mOp j4 (bf 0) (ao (.str " <= 1"))))))
 (um (mOp iz (bf 2) (mOp Qh (bf 0) (ao (.int 69))))))))))))))))))))
noncomputable def uq:Fn:=uc 4
 (nq (jm 3 (dg (fun l=>some (.lst l)) (aj (bf 1) (aj (mOp j4 (mOp j4 (bf 2) (ao (.str " or "))) (bf 1)) (aj (mOp j4 (mOp j4 (ao (.str "[")) (bf 1)) (ao (.str "]"))) (aj (mOp j4 (mOp j4 (ao (.str "not [")) (bf 1)) (ao (.str "]"))) (aj (mOp j4 (mOp j4 (bf 1) (ao (.str " and "))) (bf 2)) (aj (bf 1) c7))))))))
 (um (mOp iz (bf 3) (mOp Qh (bf 0) (ao (.int 6))))))
noncomputable def G4:Fn:=uc 3
 (nq (jm 1 (dg (fun l=>some (.tup l)) (aj (ao (.str "and")) (aj (dg (fun l=>some (.tup l)) c7) c7))))
 (nq (S7 (hName 2) (Bv (bf 0))
 (jm 1 (dg (fun l=>some (.tup l)) (aj (ao (.str "not")) (aj (bf 1) c7)))))
 (um (bf 1))))
noncomputable def yj:Fn:=uc 5
 (nq (jm 1 (dg (fun l=>some (.tup l)) (aj (ao (.str "most")) (aj (dg (fun l=>some (.tup l)) (aj (mUn Qf (ao (.int 1))) (aj (dg (fun l=>some (.tup l)) (aj (dg (fun l=>some (.tup l)) (aj (ao (.str "x")) (aj (ao (.int 1)) c7))) c7)) c7))) c7))))
 (nq (jm 2 (dg (fun l=>some (.tup l)) (aj (ao (.str "and")) (aj (dg (fun l=>some (.tup l)) (aj (bf 1) (aj (dg (fun l=>some (.tup l)) (aj (ao (.str "most")) (aj (dg (fun l=>some (.tup l)) (aj (ao (.int 1)) (aj (dg (fun l=>some (.tup l)) (aj (dg (fun l=>some (.tup l)) (aj (ao (.str "x")) (aj (mUn Qf (ao (.int 1))) c7))) c7)) c7))) c7))) c7))) c7))))
 (nq (sNew 3 (dg (fun l=>some (.lst l)) (aj (dg (fun l=>some (.tup l)) (aj (mOp Dw (ao (.str " and ")) (mOp Ed (dg (fun l=>some (.lst l)) (aj (ao (.str "x <= 1")) c7)) (ao (.int 59)))) (aj (dg (fun l=>some (.tup l)) (aj (ao (.str "and")) (aj (mOp V9 (dg (fun l=>some (.tup l)) (aj (bf 1) c7)) (ao (.int 59))) c7))) c7))) (aj (dg (fun l=>some (.tup l)) (aj (mOp j4 (mOp Ie (ao (.str "not ")) (ao (.int 17))) (ao (.str "true"))) (aj (j8 G4 (aj (ao (.int 17)) c7)) c7))) c7))))
 (nq (sNew 3 (qb 3 (dg (fun l=>some (.lst l)) (aj (dg (fun l=>some (.tup l)) (aj (mOp j4 (mOp j4 (mOp Ie (ao (.str "[")) (ao (.int 20))) (ao (.str "true"))) (mOp Ie (ao (.str "]")) (ao (.int 20)))) (aj (dg (fun l=>some (.tup l)) (aj (ao (.str "and")) (aj (dg (fun l=>some (.tup l)) c7) c7))) c7))) c7))))
 (nq (sNew 3 (qb 3 (dg (fun l=>some (.lst l)) (aj (dg (fun l=>some (.tup l)) (aj (mOp Dw (ao (.str " or ")) (mOp Ed (dg (fun l=>some (.lst l)) (aj (ao (.str "x = 1")) c7)) (ao (.int 19)))) (aj (dg (fun l=>some (.tup l)) (aj (ao (.str "or")) (aj (mOp V9 (dg (fun l=>some (.tup l)) (aj (bf 2) c7)) (ao (.int 19))) c7))) c7))) c7))))
 (nq (sNew 3 (qb 3 (dg (fun l=>some (.lst l)) (aj (dg (fun l=>some (.tup l)) (aj (ao (.str "at h 99")) (aj (dg (fun l=>some (.tup l)) (aj (ao (.str "at")) (aj (ao (.str "h")) (aj (ao (.int 99)) c7)))) c7))) (aj (dg (fun l=>some (.tup l)) (aj (ao (.str "at h 0")) (aj (dg (fun l=>some (.tup l)) (aj (ao (.str "at")) (aj (ao (.str "h")) (aj (ao (.int 0)) c7)))) c7))) c7)))))
 (nq (sNew 3 (qb 3 (dg (fun l=>some (.lst l)) (aj (dg (fun l=>some (.tup l)) (aj (ao (.str "at abcdefgh z9")) (aj (dg (fun l=>some (.tup l)) (aj (ao (.str "at")) (aj (ao (.str "abcdefgh")) (aj (ao (.str "z9")) c7)))) c7))) c7))))
 (nq (sNew 3 (qb 3 (dg (fun l=>some (.lst l)) (aj (dg (fun l=>some (.tup l)) (aj (ao (.str "12 divides x")) (aj (dg (fun l=>some (.tup l)) (aj (ao (.str "rest")) (aj (dg (fun l=>some (.tup l)) (aj (ao (.int 0)) (aj (dg (fun l=>some (.tup l)) (aj (dg (fun l=>some (.tup l)) (aj (ao (.str "x")) (aj (ao (.int 1)) c7))) c7)) c7))) (aj (ao (.int 12)) c7)))) c7))) c7))))
 (nq (sNew 3 (qb 3 (dg (fun l=>some (.lst l)) (aj (dg (fun l=>some (.tup l)) (aj (ao (.str "x < 999999999")) (aj (dg (fun l=>some (.tup l)) (aj (ao (.str "most")) (aj (dg (fun l=>some (.tup l)) (aj (mUn Qf (ao (.int 999999998))) (aj (dg (fun l=>some (.tup l)) (aj (dg (fun l=>some (.tup l)) (aj (ao (.str "x")) (aj (ao (.int 1)) c7))) c7)) c7))) c7))) c7))) c7))))
 (nq (sNew 3 (qb 3 (dg (fun l=>some (.lst l)) (aj (dg (fun l=>some (.tup l)) (aj (ao (.str "not[x<=1]or x<=1 and not x<=1")) (aj (dg (fun l=>some (.tup l)) (aj (ao (.str "or")) (aj (dg (fun l=>some (.tup l)) (aj (dg (fun l=>some (.tup l)) (aj (ao (.str "not")) (aj (bf 1) c7))) (aj (dg (fun l=>some (.tup l)) (aj (ao (.str "and")) (aj (dg (fun l=>some (.tup l)) (aj (bf 1) (aj (dg (fun l=>some (.tup l)) (aj (ao (.str "not")) (aj (bf 1) c7))) c7))) c7))) c7))) c7))) c7))) c7))))
 (nq (jm 4 (dg (fun l=>some (.tup l)) (aj (ao (.str "and")) (aj (dg (fun l=>some (.tup l)) (aj (dg (fun l=>some (.tup l)) (aj (ao (.str "and")) (aj (dg (fun l=>some (.tup l)) c7) c7))) (aj (bf 2) (aj (dg (fun l=>some (.tup l)) (aj (ao (.str "not")) (aj (bf 2) c7))) c7)))) c7))))
 (nq (sNew 3 (qb 3 (dg (fun l=>some (.lst l)) (aj (dg (fun l=>some (.tup l)) (aj (ao (.str "not x = 1")) (aj (dg (fun l=>some (.tup l)) (aj (ao (.str "not")) (aj (bf 2) c7))) c7))) c7))))
 (nq (ud 3 (dg (fun l=>some (.tup l)) (aj (ao (.str "true and x = 1 and not x = 1 or x = 1")) (aj (dg (fun l=>some (.tup l)) (aj (ao (.str "or")) (aj (dg (fun l=>some (.tup l)) (aj (bf 4) (aj (bf 2) c7))) c7))) c7))))
 (nq (ud 3 (dg (fun l=>some (.tup l)) (aj (ao (.str "not [not x = 1]")) (aj (dg (fun l=>some (.tup l)) (aj (ao (.str "not")) (aj (dg (fun l=>some (.tup l)) (aj (ao (.str "not")) (aj (bf 2) c7))) c7))) c7))))
 (um (K5 3 (mOp Qh (bf 0) (ao (.int 13)))))))))))))))))))
mutual
def kh:Nat->Fn
 | 0=>fun _ _=>none
 | n+1=>uc 2
   (nq (sIf (d9 (dg isTup (aj (bf 1) c7)))
   (nq (sIf (mOr (Fx (d9 (dg isTup (aj (bf 0) c7)))) (d9 (mOp neO (dg xg (aj (bf 0) c7)) (dg xg (aj (bf 1) c7)))))
   (um (ao (.bl false)))
   xr)
   (um (dg a6c (aj (uw 1 [0,1] (hName 0) (Bv (dg xg (aj (bf 1) c7))) Bx (j8 (kh n) (aj (mOp iz (bf 1) (bf 0)) (aj (mOp iz (bf 2) (bf 0)) c7)))) c7))))
   xr)
   (nq (sIf (d9 (dg isStr (aj (bf 1) c7)))
   (um (Ak (Ld (d9 (dg isStr (aj (bf 0) c7))) (d9 (mOp eqO (bf 0) (bf 1))))))
   xr)
   (um (Ak (Ld (d9 (dg isInt (aj (bf 0) c7))) (d9 (Ak (Ld (d9 (Ak (Fx (d9 (dg aa1 (aj (bf 0) c7)))))) (d9 (mOp eqO (bf 0) (bf 1)))))))))))
end
noncomputable def qg (cR cN:Nat):Fn:=uc 4
 (nq (jm 1 (ao .non))
 (nq (Zi cN "row" (uz cR cN) (aj (bf 0) c7) 2 1)
 (nq (sIf (mOr (Fx (d9 (Qe [(cN,"row",true)] (bf 1)))) (mOr (Fx (d9 (Qe [(cN,"row",true)] (bf 1)))) (d9 (mOp neO (mXf cN "row" (bf 1)) (ao (.int 1))))))
 (um (ao (.bl false)))
 xr)
 (nq (jm 3 (dg (fun l=>some (.lst l)) (aj (Qe [(cN,"row",false)] (bf 1)) (aj (Qe [(cN,"row",false)] (bf 1)) (aj (Qe [(cN,"row",false)] (bf 1)) c7)))))
 (um (Ak (Fx (d9 (dg ach (aj (mOp j4 (bf 3) (dg (fun l=>some (.lst l)) (aj (Qe [(cN,"row",false)] (bf 1)) (aj (Qe [(cN,"row",false)] (bf 1)) c7)))) c7))))))))))
noncomputable def a2y (cR cN:Nat):Fn:=uc 7
 (nq (jm 1 (j8 Fg (aj (j8 lg (aj (bf 0) (aj (ao (.int 0)) c7))) c7)))
 (nq (jm 2 (j8 Fg (aj (j8 lg (aj (bf 0) (aj (ao (.int 1)) c7))) c7)))
 (nq (S7 (hName 3) (Dj (mOp j4 (dg (fun l=>some (.lst l)) (aj (j8 lg (aj (bf 0) (aj (ao (.int 2)) c7))) c7)) (J6 (bf 0) (Ay (ao (.int 3))) (Ay (ao (.int 33))))))
 (nq (jm 4 (j8 o9 (aj (mOp Al (bf 3) (ao (.int 3))) (aj (bf 1) c7))))
 (nq (sIf (d9 (mOp eqO (mOp Qh (bf 3) (ao (.int 3))) (ao (.int 1))))
 (jm 4 (j8 qt (aj (mOp Al (bf 3) (ao (.int 3))) (aj (bf 1) (aj (bf 2) c7)))))
 xr)
 (nq (jm 5 (j8 uq (aj (mOp Al (bf 3) (ao (.int 207))) (aj (bf 4) (aj (j8 qp (aj (mOp Al (bf 3) (ao (.int 1242))) c7)) c7)))))
 (nq (jm 6 (j8 yj (aj (mOp Al (bf 3) (ao (.int 7))) c7)))
 (sIf (mOr (Fx (d9 (j8 (qg cR cN) (aj (bf 5) c7)))) (Fx (d9 (j8 (kh 40) (aj (j8 (qm cR cN) (aj (mOp iz (bf 6) (ao (.int 0))) c7)) (aj (mOp iz (bf 6) (ao (.int 1))) c7))))))
 (um (ao (.bl false)))
 xr))))))
 (um (ao (.bl true))))))
end K
end
section
namespace D
open PySem PySem.Spec PyProof.Rows L2 C
def top (i:Nat):Stmt:=PySem.Challenge.pw_calm_k08_no_remark.main.body.getD i (.Pass ⟨0,0,0,0⟩)
noncomputable def Kq (i:Nat):Stmt->Stmt
 | .ClassDef _ _ _ b _ _ _ _ _ _ _=>b.getD i (.Pass ⟨0,0,0,0⟩)
 | s=>s
section
variable {P:Program} {w:World} {K:PySem.W.Frag} {mg:Str->Option Value} {base:Heap} {x q:Str} {st:Stmt} {N ps:List Str} {k:Nat}
def FA (K:PySem.W.Frag) (mg:Str->Option Value) (x:Str) (st:Stmt):Prop:=∃ f fd,Fun K x x st f fd/\mg x=some (.ref f)
def Bd (x q:Str) (st:Stmt) (ps:List Str):Prop:=∀ (kV doc pm:Value) (an:Option Addr) (ay ct:Value) (us:List Value),us.length=ps.length->bindArgs (PySem.W.fnOf x q (Eb st) (v8 st) (gw st) .none kV doc pm an ay ct) ⟨us,[]⟩=pure (ps.zip us)
abbrev GoB (P:Program) (w:World) (K:PySem.W.Frag) (mg:Str->Option Value) (base:Heap) (q:Str) (st:Stmt) (N:List Str) (k:Nat) (b:S):Prop:=∀ (ay:Value) (A:Around) (outer:List Env) (s:Shared) (H:Hp) (E:XK) (B:Bas) (f:Addr),yw k (A.deeper (envOfC q (gw st) s.heap.objs.size f ay))->(A.deeper (envOfC q (gw st) s.heap.objs.size f ay)).units+1<cLine->(A.deeper (envOfC q (gw st) s.heap.objs.size f ay)).units+64<cLine->N.Nodup ->
   PSs (Qg CX0 P w K mg base N q (gw st) f ay A outer s H E).nox (v8 st) (sOf K B b)
theorem go0 {b:S} {f:Addr} {fd:FuncData} (F:Fun K x q st f fd) (hb:GoB P w K mg base q st N k b)
  (Sc:Ag N ps (gw st):=by exact ⟨rfl,rfl,rfl,by decide +kernel,rfl,by decide +kernel,by decide +kernel⟩) (hN:ps.length<=N.length:=by decide):Bh P w K mg base CX0 (k+1) f fd ps (spF K ps.length (uc N.length b)) :=
 a4s F Sc hN fun ay A outer s H E B hr=>hb ay A outer s H E B f hr (a6e hr) hr.units Sc.nd
theorem go {b:S} (h:FA K mg x st) (hb:GoB P w K mg base x st N k b)
  (Sc:Ag N ps (gw st):=by exact ⟨rfl,rfl,rfl,by decide +kernel,rfl,by decide +kernel,by decide +kernel⟩) (hN:ps.length<=N.length:=by decide)
  (bd:Bd x x st ps:=by first | (exact fun _ _ _ _ _ _ us hl=>bd1 (fun _=>rfl) us hl) | (exact fun _ _ _ _ _ _ us hl=>bd2 (fun _ _=>rfl) us hl) | (exact fun _ _ _ _ _ _ us hl=>bd3 (fun _ _ _=>rfl) us hl) | (exact fun _ _ _ _ _ _ us hl=>bd4 (fun _ _ _ _=>rfl) us hl) | (exact fun _ _ _ _ _ _ us hl=>bd5 (fun _ _ _ _ _=>rfl) us hl)):u9 P w K mg base x (k+1) ps (uc N.length b):=by
 obtain ⟨f,fd,F,m⟩:=h;exact ⟨f,fd,go0 F hb Sc hN,F.binds bd,F.kp,m⟩
theorem goX {b:SX} {Cl:Addr} {fl:Str} (h:FA K mg x st)
  (hb:∀ (ay:Value) (A:Around) (outer:List Env) (s:Shared) (H:Hp) (E:XK) (B:Bas) (f:Addr),yw k (A.deeper (envOfC x (gw st) s.heap.objs.size f ay))->(A.deeper (envOfC x (gw st) s.heap.objs.size f ay)).units+1<cLine->(A.deeper (envOfC x (gw st) s.heap.objs.size f ay)).units+64<cLine->N.Nodup ->
   PSs (Qg (CXx P w) P w K mg base N x (gw st) f ay A outer s H E) (v8 st) (Jc K B Cl fl E b))
  (Sc:Ag N ps (gw st):=by exact ⟨rfl,rfl,rfl,by decide +kernel,rfl,by decide +kernel,by decide +kernel⟩) (hN:ps.length<=N.length:=by decide)
  (bd:Bd x x st ps:=by first | (exact fun _ _ _ _ _ _ us hl=>bd1 (fun _=>rfl) us hl) | (exact fun _ _ _ _ _ _ us hl=>bd2 (fun _ _=>rfl) us hl) | (exact fun _ _ _ _ _ _ us hl=>bd3 (fun _ _ _=>rfl) us hl) | (exact fun _ _ _ _ _ _ us hl=>bd4 (fun _ _ _ _=>rfl) us hl) | (exact fun _ _ _ _ _ _ us hl=>bd5 (fun _ _ _ _ _=>rfl) us hl)):jt P w K mg base x (k+1) ps Cl fl (jw N.length b):=by
 obtain ⟨f,fd,F,m⟩:=h;exact ⟨f,fd,Ua F Sc hN fun ay A outer s H E B hr=>hb ay A outer s H E B f hr (a6e hr) hr.units Sc.nd,F.binds bd,F.kp,m⟩
theorem zero (h:FA K mg x st)
  (bd:Bd x x st ps:=by first | (exact fun _ _ _ _ _ _ us hl=>bd1 (fun _=>rfl) us hl) | (exact fun _ _ _ _ _ _ us hl=>bd2 (fun _ _=>rfl) us hl)):u9 P w K mg base x k ps (fun _ _=>none):=by
 obtain ⟨f,fd,F,m⟩:=h;exact u9.zero F m (F.binds bd)
theorem X8 {Cl:Addr} {fl:Str} (h:FA K mg x st)
  (bd:Bd x x st ps:=by first | (exact fun _ _ _ _ _ _ us hl=>bd3 (fun _ _ _=>rfl) us hl) | (exact fun _ _ _ _ _ _ us hl=>bd4 (fun _ _ _ _=>rfl) us hl) | (exact fun _ _ _ _ _ _ us hl=>bd5 (fun _ _ _ _ _=>rfl) us hl)):jt P w K mg base x k ps Cl fl (fun _ _=>none):=by
 obtain ⟨f,fd,F,m⟩:=h;exact jt.zero F m (F.binds bd)
theorem jx {X:Cx} {B:Bas} {i:Nat} {y:Str} {e:Expr} {m:M T} {pos pos':Pos} (hN:X.N.Nodup) (he:PE X e (tOf X.K B m)) (hi:X.N[i]? = some y:=by rfl) (hx:Loc X.env.scope y:=by exact Or.inl rfl) (hs:swapsWith e (some (.Name y pos')) pos.line X.env=pure false:=by rfl) (hf:X.fn y=true\/X.env.scope.names.lookup y=some .local:=by first | exact .inl rfl | exact .inr rfl | assumption) :
  PS X (.Assign [.Name y pos'] e pos) (sOf X.K B (jm i m)):=a4d i (wz hN hi hx he hs hf) fun _ _ _ h=>h
theorem a99 {b:SX} {f Cl:Addr} {fl:Str} {fd:FuncData} (F:Fun K x q st f fd)
  (hb:∀ (ay:Value) (A:Around) (outer:List Env) (s:Shared) (H:Hp) (E:XK) (B:Bas) (f:Addr),yw k (A.deeper (envOfC q (gw st) s.heap.objs.size f ay))->(A.deeper (envOfC q (gw st) s.heap.objs.size f ay)).units+1<cLine->(A.deeper (envOfC q (gw st) s.heap.objs.size f ay)).units+64<cLine->N.Nodup ->
   PSs (Qg (CXx P w) P w K mg base N q (gw st) f ay A outer s H E) (v8 st) (Jc K B Cl fl E b))
  (Sc:Ag N ps (gw st):=by exact ⟨rfl,rfl,rfl,by decide +kernel,rfl,by decide +kernel,by decide +kernel⟩) (hN:ps.length<=N.length:=by decide):Bh P w K mg base (CXx P w) (k+1) f fd ps (spX K ps.length Cl fl (jw N.length b)) :=
 Ua F Sc hN fun ay A outer s H E B hr=>hb ay A outer s H E B f hr (a6e hr) hr.units Sc.nd
theorem uy:∀ st ts aa,nu st=some (.inl ts,aa)->ts.length=0:=fun st ts aa e=>by cases e; rfl
theorem je {m:MX} {l:MXs} {n:Nat} (h:∀ st ts aa,l st=some (.inl ts,aa)->ts.length=n):∀ st ts aa,gq m l st=some (.inl ts,aa)->ts.length=n+1:=fun st ts aa e=>by
 unfold gq at e;split at e
 ·split at e
  ·rename_i ts s2 e2; cases e; exact congrArg (· + 1) (h _ _ _ e2)
  ·cases e
  ·cases e
 ·cases e
 ·cases e
theorem yt {l:MXs} {n:Nat} (h:∀ st ts aa,l st=some (.inl ts,aa)->ts.length=n) (hn:n<=1000):∀ st ts aa,l st=some (.inl ts,aa)->ts.length<=1000:=fun st ts aa e=>by rw [h _ _ _ e]; exact hn
abbrev XE (K:PySem.W.Frag) (mg:Str->Option Value) (x f q:Str) (i:Nat) (Cl Ca:Addr):Prop:=∃ D I fd,XC K Cl D I f/\XCl K Cl (.ref D::My.vB)/\Fun K "__init__" q (Kq 0 (top i)) I fd/\(Value.ref Cl :: .ref D::My.vB).contains (.ref Ca)=true/\mg x=some (.ref Cl)
end
end D
end
section
namespace D
open PySem L2 C
abbrev MA (K:PySem.W.Frag) (cR:Addr) (x q:Str) (i:Nat):Prop:=∃ f fd,Meth K cR x f/\Fun K x q (Kq i (top 32)) f fd
structure Zk (K:PySem.W.Frag) (mg:Str->Option Value) (cR cN c1 c2 c3 c4 c5 Ca:Addr) (bm:List Value):Prop where
 cls:Cls K cR
 na_row:Bu K cR "row"
 na_spot:Bu K cR "spot"
 na_tokens:Bu K cR "tokens"
 e:XE K mg "NoText" "row" "NoText.__init__" 2 cN Ca
 g:XG K cN "row"
 t:PySem.W.kitOne K (.ref cN) (.ref cN)=some true
 kc:ae5 K mg "CalmError" Ca bm
 m1:mg "NoName" = some (.ref c1)
 t1:PySem.W.kitOne K (.ref cN) (.ref c1)=some false
 m2:mg "Twice" = some (.ref c2)
 t2:PySem.W.kitOne K (.ref cN) (.ref c2)=some false
 m3:mg "TooMany" = some (.ref c3)
 t3:PySem.W.kitOne K (.ref cN) (.ref c3)=some false
 m4:mg "NoStep" = some (.ref c4)
 t4:PySem.W.kitOne K (.ref cN) (.ref c4)=some false
 m5:mg "NoLock" = some (.ref c5)
 t5:PySem.W.kitOne K (.ref cN) (.ref c5)=some false
 hR:mg "Reader" = some (.ref cR)
 h0:FA K mg "sum_of" (top 9)
 h1:FA K mg "plus" (top 10)
 h2:FA K mg "by" (top 12)
 h3:FA K mg "minus" (top 11)
 h4:FA K mg "members_of" (top 16)
 h5:FA K mg "parts_of" (top 17)
 h6:FA K mg "parts_in" (top 18)
 h7:FA K mg "is_name" (top 27)
 h8:FA K mg "is_number" (top 28)
 h9:FA K mg "word_end" (top 29)
 h10:FA K mg "piece_at" (top 30)
 h11:FA K mg "tokens_of" (top 31)
 h12:FA K mg "bounded" (top 37)
 h13:MA K cR "seen" "Reader.seen" 1
 h14:MA K cR "took" "Reader.took" 3
 h15:MA K cR "next_token" "Reader.next_token" 2
 h16:MA K cR "next_number" "Reader.next_number" 7
 h17:MA K cR "next_name" "Reader.next_name" 6
 h18:FA K mg "next_piece" (top 36)
 h19:FA K mg "next_sum" (top 35)
 h20:∃ f fd,Mk K cR f/\Fun K "__init__" "Reader.__init__" (Kq 0 (top 32)) f fd
 h21:FA K mg "joined" (top 48)
 h22:FA K mg "most_of" (top 55)
 h23:FA K mg "next_comparison" (top 54)
 h24:FA K mg "next_at" (top 52)
 h25:MA K cR "need" "Reader.need" 4
 h26:FA K mg "next_rest" (top 53)
 h27:FA K mg "next_or" (top 46)
 h28:FA K mg "next_and" (top 47)
 h29:FA K mg "next_not" (top 49)
 h30:FA K mg "next_single" (top 50)
 h31:FA K mg "next_bracketed" (top 51)
 h32:FA K mg "next_remark" (top 45)
 h33:MA K cR "need_end" "Reader.need_end" 5
 h34:FA K mg "read_remark" (top 44)
 h35:FA K mg "_law_cell_at" (top 57)
 h36:FA K mg "_law_sum" (top 58)
 h37:FA K mg "_law_compared" (top 59)
 h38:FA K mg "_law_bad_sums" (top 60)
 h39:FA K mg "_law_bad_words" (top 61)
 h40:FA K mg "_law_within" (top 62)
 h41:FA K mg "_law_nots" (top 63)
 h42:FA K mg "_law_good" (top 64)
 h43:FA K mg "_law_alike" (top 65)
 h44:FA K mg "_law_refused" (top 66)
 h45:FA K mg "law" (top 67)
 b_ValueError:mg "ValueError" = none
 b_abs:mg "abs" = none
 b_all:mg "all" = none
 b_any:mg "any" = none
 b_bool:mg "bool" = none
 b_int:mg "int" = none
 b_isinstance:mg "isinstance" = none
 b_len:mg "len" = none
 b_max:mg "max" = none
 b_range:mg "range" = none
 b_sorted:mg "sorted" = none
 b_str:mg "str" = none
 b_sum:mg "sum" = none
 b_tuple:mg "tuple" = none
 c_FALSE_ONE:∃ u,mg "FALSE_ONE" = some u/\Held K u (.tup [(.str "or"),(.tup [])])
 c_FIGURES:∃ u,mg "FIGURES" = some u/\Held K u (.str "0123456789")
 c_GREATEST:∃ tk,mg "GREATEST" = some (.int 999999999 tk)
 c_GREATEST_PLACE:∃ tk,mg "GREATEST_PLACE" = some (.int 99 tk)
 c_GREATEST_REST:∃ tk,mg "GREATEST_REST" = some (.int 12 tk)
 c_KEY_WORDS:∃ u,mg "KEY_WORDS" = some u/\Held K u (.tup [(.str "box"),(.str "lock"),(.str "hand"),(.str "own"),(.str "end"),(.str "set"),(.str "wait"),(.str "if"),(.str "else"),(.str "while"),(.str "rounds"),(.str "either"),(.str "or"),(.str "and"),(.str "not"),(.str "take"),(.str "give"),(.str "label"),(.str "say"),(.str "at"),(.str "divides"),(.str "true"),(.str "false")])
 c_LEAST_REST:∃ tk,mg "LEAST_REST" = some (.int 2 tk)
 c_LETTERS:∃ u,mg "LETTERS" = some u/\Held K u (.str "abcdefghijklmnopqrstuvwxyz")
 c_LONGEST_NAME:∃ tk,mg "LONGEST_NAME" = some (.int 8 tk)
 c_LONG_SIGNS:∃ u,mg "LONG_SIGNS" = some u/\Held K u (.tup [(.str "<="),(.str ">=")])
 c_MOST_OPEN:∃ tk,mg "MOST_OPEN" = some (.int 20 tk)
 c_MOST_PARTS:∃ tk,mg "MOST_PARTS" = some (.int 60 tk)
 c_SHORT_SIGNS:∃ u,mg "SHORT_SIGNS" = some u/\Held K u (.tup [(.str "+"),(.str "-"),(.str "*"),(.str "<"),(.str ">"),(.str "="),(.str "["),(.str "]"),(.str ",")])
 c_TRUE_ONE:∃ u,mg "TRUE_ONE" = some u/\Held K u (.tup [(.str "and"),(.tup [])])
 c_WORD_SIGNS:∃ u,mg "WORD_SIGNS" = some u/\Held K u (.str "abcdefghijklmnopqrstuvwxyz0123456789")
section
variable {P:Program} {w:World} {K:PySem.W.Frag} {mg:Str->Option Value} {base:Heap} {cR cN c1 c2 c3 c4 c5 Ca:Addr} {bm:List Value} (Z:Zk K mg cR cN c1 c2 c3 c4 c5 Ca bm)
include Z
theorem Zk.r:XR P w K mg base "NoText" cN "row" "row" :=
 let ⟨_,_,_,c,_,F,_,m⟩:=Z.e; ⟨⟨_,_,_,c,Ss c F ⟨rfl,rfl,rfl,by decide +kernel,rfl,by decide +kernel,by decide +kernel⟩ rfl rfl rfl (by decide) (by decide) (by decide) (fun _=>rfl),F.binds (ps:=["self","row"]) fun _ _ _ _ _ _ us hl=>bd2 (fun _ _=>rfl) us hl⟩,m⟩
theorem Zk.em:mg "NoText" = some (.ref cN):=let ⟨_,_,_,_,_,_,_,m⟩:=Z.e; m
theorem Zk.k:∃ D:Addr,XCl K cN (.ref D::My.vB)/\(Value.ref cN :: .ref D::My.vB).contains (.ref Ca)=true:=let ⟨D,_,_,_,k,_,c,_⟩:=Z.e; ⟨D,k,c⟩
theorem htK:∀ p∈[(cN,("row" : Str),true)],XG K p.1 p.2.1/\PySem.W.kitOne K (.ref p.1) (.ref cN)=some p.2.2
 | _,.head _=>⟨Z.g,Z.t⟩
theorem htN {c:Addr} (t:PySem.W.kitOne K (.ref cN) (.ref c)=some false):∀ p∈[(cN,("row" : Str),false)],XG K p.1 p.2.1/\PySem.W.kitOne K (.ref p.1) (.ref c)=some p.2.2
 | _,.head _=>⟨Z.g,t⟩
theorem htV:∀ p∈[(cN,("row" : Str),true)],XG K p.1 p.2.1/\PySem.W.kitOne K (.ref p.1) (.type "ValueError")=some p.2.2
 | _,.head _=>⟨Z.g,Z.g.ve⟩
theorem J3:u9 P w K mg base "sum_of" 1 ["number","pairs"] (_root_.K.Bk):=by
 refine go (N:=["number","pairs","times","box","many","parts"]) Z.h0 fun _ _ _ _ _ _ _ _ hr hu hq nd=>?_;exact dw (Ax 2 (wz nd rfl (Or.inr rfl) a4y) (fun _ _ _ h=>h))   (dw (Uc PassesOwn.never rfl (Fi (aq 1 (pv 1))) (U0 (is:=[3,4]) (Uk rfl (zx (p7 nd rfl (Or.inl rfl)) (zx (p7 nd rfl (Or.inl rfl)) Ma))))   (j6 (Z0 2 hu (pv 2) (aq 3 (pv 3)) (gk dh (Ye 2 hu (pv 2) (aq 3 (pv 3)) dj ⟨rfl,rfl,rfl,rfl⟩) (aq 4 (pv 4))) rfl)) Eo)   (dw (a4d 5 (a5k (N:=["box","times"]) ⟨rfl,rfl,by decide +kernel,by decide +kernel⟩ rfl (Fi (jf (jg (Oh (by rfl)) (by rfl) Z.b_sorted PyProof.Rows.boot_sorted (ak (aq 2 (pv 2)) bh)))) (fun C s₀ H₀ ex pn=>pgE fun B=>(Ab 0 (p7 (show (["box","times"]:List Str).Nodup by decide +kernel) rfl (Or.inl rfl)))) (fun C s₀ H₀ ex pn=>(Lr fun B=>(jr (Ih hq) (tu hu (aq 1 (pv 1)) (aq 0 (pv 0)) (fun _ _=>rfl)) dj (m8 _)))) (fun C s₀ H₀ ex pn=>peE fun B=>(fu (ak (aq 0 (pv 0)) (ak (tu hu (aq 1 (pv 1)) (aq 0 (pv 0)) (fun _ _=>rfl)) bh)) (d8 (au (au d7)) (by decide)))) (p7 nd rfl (Or.inl rfl)) rfl) (fun σ H Q h=>a3t ⟨rfl,fun j k h=>match j,h with | 0,h=>(by cases h; exact ⟨_,rfl,rfl,⟨.inl rfl,.inr (.inl rfl),.inl rfl⟩⟩) | _+1,h=>(by cases h)⟩ Eo (a3z h)))   (j6 (j5 (fu (ak (aq 0 (pv 0)) (ak (jf (Fj Jh (by rfl) Z.b_tuple PyProof.Rows.boot_tuple (ak (aq 5 (pv 5)) bh))) bh)) (d8 (au (au d7)) (by decide)))))))
theorem Wh:u9 P w K mg base "plus" 2 ["one","other"] (_root_.K.Q0):=by
 refine go (N:=["one","other"]) Z.h1 fun _ _ _ _ _ _ _ _ hr hu hq nd=>?_;exact j6 (j5 (iy (J3 Z) (hr.mono (by decide)) (by rfl) (ak (gk dh (tu hu (aq 0 (pv 0)) dj (fun _ _=>rfl)) (tu hu (aq 1 (pv 1)) dj (fun _ _=>rfl))) (ak (gk dh (tu hu (aq 0 (pv 0)) dj (fun _ _=>rfl)) (tu hu (aq 1 (pv 1)) dj (fun _ _=>rfl))) bh)) (bw (bw eq_nil))))
theorem ac0:u9 P w K mg base "by" 2 ["one","times"] (_root_.K.abg):=by
 refine go (N:=["one","times"]) Z.h2 fun _ _ _ _ _ _ _ _ hr hu hq nd=>?_;exact j6 (j5 (iy (J3 Z) (hr.mono (by decide)) (by rfl) (ak (gk Bg (tu hu (aq 0 (pv 0)) dj (fun _ _=>rfl)) (aq 1 (pv 1))) (ak (yd (Bf (N:=["box","many","times"]) ⟨rfl,fun j k h=>match j,h with | 0,h=>(by cases h; exact ⟨_,rfl,rfl,⟨.inl rfl,.inr (.inl rfl),.inl rfl⟩⟩) | _+1,h=>(by cases h)⟩ ⟨rfl,rfl,by decide +kernel,by decide +kernel⟩ rfl (Fi (tu hu (aq 0 (pv 0)) dj (fun _ _=>rfl))) Eo (fun C s₀ H₀ ex pn=>pgE fun B=>(U0 (is:=[0,1]) (Uk rfl (zx (p7 (show (["box","many","times"]:List Str).Nodup by decide +kernel) rfl (Or.inl rfl)) (zx (p7 (show (["box","many","times"]:List Str).Nodup by decide +kernel) rfl (Or.inl rfl)) Ma))))) (fun C s₀ H₀ ex pn=>Ba) (fun C s₀ H₀ ex pn=>peE fun B=>(fu (ak (aq 0 (pv 0)) (ak (gk Bg (aq 1 (pv 1)) (aq 2 (pv 2))) bh)) (d8 (au (au d7)) (by decide)))))) bh)) (bw (bw eq_nil))))
theorem a0u:u9 P w K mg base "minus" 3 ["one","other"] (_root_.K.Lq):=by
 refine go (N:=["one","other"]) Z.h3 fun _ _ _ _ _ _ _ _ hr hu hq nd=>?_;exact j6 (j5 (iy (Wh Z) (hr.mono (by decide)) (by rfl) (ak (aq 0 (pv 0)) (ak (iy (ac0 Z) (hr.mono (by decide)) (by rfl) (ak (aq 1 (pv 1)) (ak (W7 Ge dj) bh)) (bw (bw eq_nil))) bh)) (bw (bw eq_nil))))
theorem M7:u9 P w K mg base "members_of" 1 ["remark"] (_root_.K.vp):=by
 refine go (N:=["remark"]) Z.h4 fun _ _ _ _ _ _ _ _ hr hu hq nd=>?_;exact dw (Cg (jr (Bs hq) (tu hu (aq 0 (pv 0)) dj (fun _ _=>rfl)) cu (m8 _))   (j6 (j5 (fu (ak (tu hu (aq 0 (pv 0)) dj (fun _ _=>rfl)) bh) (d8 (au d7) (by decide)))))   jz)   (j6 (j5 (Ez (jr (K6 hq) (tu hu (aq 0 (pv 0)) dj (fun _ _=>rfl)) (fu (ak cu (ak cu bh)) (d8 (au (au d7)) (by decide))) rfl) (tu hu (aq 0 (pv 0)) dj (fun _ _=>rfl)) (fu bh (d8 d7 (by decide))))))
theorem Rr:u9 P w K mg base "parts_of" 2 ["remark"] (_root_.K.Gd):=by
 refine go (N:=["remark","parts","waiting","part"]) Z.h5 fun _ _ _ _ _ _ _ _ hr hu hq nd=>?_;exact dw (Ax 1 (wz nd rfl (Or.inl rfl) (Ux bh (d8 d7 (by decide)))) (fun _ _ _ h=>h))   (dw (Ax 2 (wz nd rfl (Or.inl rfl) (Ux (ak (aq 0 (pv 0)) bh) (d8 (au d7) (by decide)))) (fun _ _ _ h=>h))   (dw (Mh 1000 PassesOwn.never (jr Kz (Yp 2 Z.b_len rfl (pv 2)) dj (m8 _))   (dw (a9h 2 3 (a8x (a8f PySem.F.plainAttrs_list PySem.F.slot_list_pop PySem.F.type_list_pop a8u (pv 2)) (p7 nd rfl (Or.inl rfl))))   (dw (Et 1 (Bo (Mg PySem.F.plainAttrs_list PySem.F.slot_list_append PySem.F.type_list_append wj (pv 1) (ql (aq 3 (pv 3)) w6))))   (j6 (Yz 2 (Bo (Mg PySem.F.plainAttrs_list PySem.F.slot_list_extend PySem.F.type_list_extend Vn (pv 2) (ql (a68 (iy (M7 Z) (hr.mono (by decide)) (by rfl) (ak (aq 3 (pv 3)) bh) (bw eq_nil))) w6))))))))   (j6 (j5 (aq 1 (pv 1))))))
theorem S8:u9 P w K mg base "parts_in" 3 ["remark"] (_root_.K.Dg):=by
 refine go (N:=["remark"]) Z.h6 fun _ _ _ _ _ _ _ _ hr hu hq nd=>?_;exact j6 (j5 (jf (jg mz (by rfl) Z.b_len PySem.boot_len (ak (iy (Rr Z) (hr.mono (by decide)) (by rfl) (ak (aq 0 (pv 0)) bh) (bw eq_nil)) bh))))
theorem G6:u9 P w K mg base "is_name" 1 ["word"] (_root_.K.wu):=by
 refine go (N:=["word"]) Z.h7 fun _ _ _ _ _ _ _ _ hr hu hq nd=>?_;exact j6 (j5 (K7 (a3g a3j a3j dj (jf (jg mz (by rfl) Z.b_len PySem.boot_len (ak (aq 0 (pv 0)) bh))) (zj (by rfl) Z.c_LONGEST_NAME)) (K7 (Gp J4 (tu hu (aq 0 (pv 0)) dj (fun _ _=>rfl)) (vo (by rfl) Z.c_LETTERS) rfl) (K7 (jf (jg (Ir (by rfl)) (by rfl) Z.b_all PyProof.Rows.boot_all (ak (yd (Bf (N:=["sign"]) ⟨rfl,fun j k h=>match j,h with | _+0,h=>(by cases h)⟩ ⟨rfl,rfl,by decide +kernel,by decide +kernel⟩ rfl (Tq (aq 0 (pv 0))) T7 (fun C s₀ H₀ ex pn=>pgE fun B=>(Ab 0 (p7 (show (["sign"]:List Str).Nodup by decide +kernel) rfl (Or.inl rfl)))) (fun C s₀ H₀ ex pn=>Ba) (fun C s₀ H₀ ex pn=>peE fun B=>(Gp J4 (aq 0 (pv 0)) (vo (by rfl) Z.c_WORD_SIGNS) rfl)))) bh))) (V1 (Gp (O6 hq) (aq 0 (pv 0)) (vo (by rfl) Z.c_KEY_WORDS) rfl))))))
theorem Oc:u9 P w K mg base "is_number" 1 ["word"] (_root_.K.yr):=by
 refine go (N:=["word"]) Z.h8 fun _ _ _ _ _ _ _ _ hr hu hq nd=>?_;exact dw (Cg (PW.pt (Pq (jr (Bs hq) (aq 0 (pv 0)) cu (m8 _)) (J1 (Ds (qz (jf (jg (Ir (by rfl)) (by rfl) Z.b_all PyProof.Rows.boot_all (ak (yd (Bf (N:=["sign"]) ⟨rfl,fun j k h=>match j,h with | _+0,h=>(by cases h)⟩ ⟨rfl,rfl,by decide +kernel,by decide +kernel⟩ rfl (Tq (aq 0 (pv 0))) T7 (fun C s₀ H₀ ex pn=>pgE fun B=>(Ab 0 (p7 (show (["sign"]:List Str).Nodup by decide +kernel) rfl (Or.inl rfl)))) (fun C s₀ H₀ ex pn=>Ba) (fun C s₀ H₀ ex pn=>peE fun B=>(Gp J4 (aq 0 (pv 0)) (vo (by rfl) Z.c_FIGURES) rfl)))) bh))))))))   (j6 (j5 Om))   jz)   (j6 (j5 (abe (Gp (Bs hq) (aq 0 (pv 0)) cu (m8 _)) (V1 (Gp (Ih hq) (tu hu (aq 0 (pv 0)) dj (fun _ _=>rfl)) cu (m8 _))))))
theorem Sy:u9 P w K mg base "word_end" 1 ["text","spot"] (_root_.K.Cy):=by
 refine go (N:=["text","spot"]) Z.h9 fun _ _ _ _ _ _ _ _ hr hu hq nd=>?_;exact dw (Mh 1000 PassesOwn.never (PW.pt (a4n (jr Oe (aq 1 (pv 1)) (jf (jg mz (by rfl) Z.b_len PySem.boot_len (ak (aq 0 (pv 0)) bh))) (m8 _)) (Wo (jr J4 (tu hu (aq 0 (pv 0)) (aq 1 (pv 1)) (fun _ _=>rfl)) (vo (by rfl) Z.c_WORD_SIGNS) rfl))))   (j6 (jx (i:=1) nd (gk dh (aq 1 (pv 1)) dj))))   (j6 (j5 (aq 1 (pv 1))))
theorem Rt:jt P w K mg base "piece_at" 3 ["text","spot","row"] cN "row" (_root_.K.Aj):=by
 refine goX (N:=["text","spot","row"]) Z.h10 fun _ _ _ _ _ _ _ _ hr hu hq nd=>?_;exact f9 (j9 (Cg (jr J4 (tu hu (aq 0 (pv 0)) (aq 1 (pv 1)) (fun _ _=>rfl)) (vo (by rfl) Z.c_WORD_SIGNS) rfl)   (j6 (j5 (Ip (aq 0 (pv 0)) (Cd (aq 1 (pv 1))) (Cd (iy (Sy Z) (hr.mono (by decide)) (by rfl) (ak (aq 0 (pv 0)) (ak (aq 1 (pv 1)) bh)) (bw (bw eq_nil)))))))   jz))   (f9 (j9 (Cg (jr (K6 hq) (Ip (aq 0 (pv 0)) (Cd (aq 1 (pv 1))) (Cd (gk dh (aq 1 (pv 1)) dj))) (vo (by rfl) Z.c_LONG_SIGNS) rfl)   (j6 (j5 (Ip (aq 0 (pv 0)) (Cd (aq 1 (pv 1))) (Cd (gk dh (aq 1 (pv 1)) dj)))))   jz))   (f9 (j9 (Cg (PW.pt (Pq (jr (Bs hq) (tu hu (aq 0 (pv 0)) (aq 1 (pv 1)) (fun _ _=>rfl)) cu (m8 _)) (J1 (jr (K6 hq) (tu hu (aq 0 (pv 0)) (aq 1 (pv 1)) (fun _ _=>rfl)) (vo (by rfl) Z.c_SHORT_SIGNS) rfl))))   (j6 (j5 (tu hu (aq 0 (pv 0)) (aq 1 (pv 1)) (fun _ _=>rfl))))   jz))   (ji (ug Z.r Jw (hr.mono (by decide)) (by rfl) (aq 2 (pv 2))))))
theorem Ov:jt P w K mg base "tokens_of" 4 ["text","row"] cN "row" (_root_.K.Bm):=by
 refine goX (N:=["text","row","tokens","spot","piece"]) Z.h11 fun _ _ _ _ _ _ _ _ hr hu hq nd=>?_;exact f9 (j9 (Ax 2 (wz nd rfl (Or.inl rfl) (Ux bh (d8 d7 (by decide)))) (fun _ _ _ h=>h)))   (f9 (j9 (jx (i:=3) nd dj))   (f9 (Hx 1000 PassesOwn.leaving (jr Oe (aq 3 (pv 3)) (jf (jg mz (by rfl) Z.b_len PySem.boot_len (ak (aq 0 (pv 0)) bh))) (m8 _))   (f9 (Ck (i:=4) nd rfl (Or.inl rfl) (kj jq (Rt Z) (hr.mono (by decide)) (by rfl) (ak (aq 0 (pv 0)) (ak (aq 3 (pv 3)) (ak (aq 1 (pv 1)) bh))) (bw (bw (bw eq_nil)))))   (f9 (j9 (Cg (jr (Ih hq) (aq 4 (pv 4)) cu (m8 _))   (j6 (Et 2 (Bo (Mg PySem.F.plainAttrs_list PySem.F.slot_list_append PySem.F.type_list_append wj (pv 2) (ql (aq 4 (pv 4)) w6)))))   jz))   (ji (j9 (jx (i:=3) nd (gk dh (aq 3 (pv 3)) (jf (jg mz (by rfl) Z.b_len PySem.boot_len (ak (aq 4 (pv 4)) bh))))))))))   (ji (j9 (j5 (aq 2 (pv 2)))))))
theorem Ko:jt P w K mg base "bounded" 3 ["reader","one"] cN "row" (_root_.K.Ao cR cN):=by
 refine goX (N:=["reader","one","numbers"]) Z.h12 fun _ _ _ _ _ _ _ _ hr hu hq nd=>?_;exact f9 (j9 (jx (i:=2) nd (gk dh (jy (ak (tu hu (aq 1 (pv 1)) dj (fun _ _=>rfl)) bh) (d8 (au d7) (by decide))) (yd (Bf (N:=["box","times"]) ⟨rfl,fun j k h=>match j,h with | _+0,h=>(by cases h)⟩ ⟨rfl,rfl,by decide +kernel,by decide +kernel⟩ rfl (Fi (tu hu (aq 1 (pv 1)) dj (fun _ _=>rfl))) Eo (fun C s₀ H₀ ex pn=>pgE fun B=>(U0 (is:=[0,1]) (Uk rfl (zx (p7 (show (["box","times"]:List Str).Nodup by decide +kernel) rfl (Or.inl rfl)) (zx (p7 (show (["box","times"]:List Str).Nodup by decide +kernel) rfl (Or.inl rfl)) Ma))))) (fun C s₀ H₀ ex pn=>Ba) (fun C s₀ H₀ ex pn=>peE fun B=>(aq 1 (pv 1))))))))   (f9 (Cp (jr Kz (jf (jg (Wa (by rfl)) (by rfl) Z.b_max PyProof.Rows.boot_max (ak (yd (Bf (N:=["number"]) ⟨rfl,fun j k h=>match j,h with | _+0,h=>(by cases h)⟩ ⟨rfl,rfl,by decide +kernel,by decide +kernel⟩ rfl (Fi (aq 2 (pv 2))) Eo (fun C s₀ H₀ ex pn=>pgE fun B=>(Ab 0 (p7 (show (["number"]:List Str).Nodup by decide +kernel) rfl (Or.inl rfl)))) (fun C s₀ H₀ ex pn=>Ba) (fun C s₀ H₀ ex pn=>peE fun B=>(jf (jg Wn (by rfl) Z.b_abs PyProof.Rows.boot_abs (ak (aq 0 (pv 0)) bh)))))) bh))) (zj (by rfl) Z.c_GREATEST) (m8 _))   (ji (ug Z.r Jw (hr.mono (by decide)) (by rfl) (wk Z.cls Z.na_row (aq 0 (pv 0)))))   (n6 jz))   (ji (j9 (j5 (aq 1 (pv 1))))))
theorem qu:Ob P w K mg base cR "seen" 1 ["self","far"] (_root_.K.iw cR cN):=by
 obtain ⟨f,fd,M,F⟩:=Z.h13;refine ⟨⟨f,fd,M,go0 (N:=["self","far"]) F fun _ _ _ _ _ _ _ _ hr hu hq nd=>?_,F.binds fun _ _ _ _ _ _ us hl=>bd2 (fun _ _=>rfl) us hl⟩,Z.cls⟩;exact dw (Cg (jr a8n (gk dh (wk Z.cls Z.na_spot (aq 0 (pv 0))) (aq 1 (pv 1))) (jf (jg mz (by rfl) Z.b_len PySem.boot_len (ak (wk Z.cls Z.na_tokens (aq 0 (pv 0))) bh))) (m8 _))   (j6 (j5 cu))   jz)   (j6 (j5 (tu hu (wk Z.cls Z.na_tokens (aq 0 (pv 0))) (gk dh (wk Z.cls Z.na_spot (aq 0 (pv 0))) (aq 1 (pv 1))) (fun _ _=>rfl))))
theorem jk:Ob P w K mg base cR "took" 2 ["self","token"] (_root_.K.gn cR cN):=by
 obtain ⟨f,fd,M,F⟩:=Z.h14;refine ⟨⟨f,fd,M,go0 (N:=["self","token"]) F fun _ _ _ _ _ _ _ _ hr hu hq nd=>?_,F.binds fun _ _ _ _ _ _ us hl=>bd2 (fun _ _=>rfl) us hl⟩,Z.cls⟩;exact dw (Cg (jr (Ih hq) (uf (qu Z) (hr.mono (by decide)) (aq 0 (pv 0)) (ak dj bh) (qy (bw eq_nil))) (aq 1 (pv 1)) (m8 _))   (j6 (j5 Om))   jz)   (dw (Ft Z.cls Z.na_spot (aq 0 (pv 0)) (gk dh (wk Z.cls Z.na_spot (aq 0 (pv 0))) dj))   (j6 (j5 Om)))
theorem o8:Ob P w K mg base cR "next_token" 2 ["self"] (_root_.K.g8 cR cN):=by
 obtain ⟨f,fd,M,F⟩:=Z.h15;refine ⟨⟨f,fd,M,go0 (N:=["self","token"]) F fun _ _ _ _ _ _ _ _ hr hu hq nd=>?_,F.binds fun _ _ _ _ _ _ us hl=>bd1 (fun _=>rfl) us hl⟩,Z.cls⟩;exact dw (jx (i:=1) nd (uf (qu Z) (hr.mono (by decide)) (aq 0 (pv 0)) (ak dj bh) (qy (bw eq_nil))))   (dw (Ft Z.cls Z.na_spot (aq 0 (pv 0)) (gk dh (wk Z.cls Z.na_spot (aq 0 (pv 0))) dj))   (j6 (j5 (aq 1 (pv 1)))))
theorem qx:K8 P w K mg base cR "next_number" 3 ["self","least","greatest"] cN "row" (_root_.K.fj cR cN):=by
 obtain ⟨f,fd,M,F⟩:=Z.h16;refine ⟨⟨f,fd,M,a99 (N:=["self","least","greatest","word","number"]) F fun _ _ _ _ _ _ _ _ hr hu hq nd=>?_,F.binds fun _ _ _ _ _ _ us hl=>bd3 (fun _ _ _=>rfl) us hl⟩,Z.cls⟩;exact f9 (j9 (jx (i:=3) nd (Hu (o8 Z) (hr.mono (by decide)) (aq 0 (pv 0)) rfl)))   (f9 (Cp (PW.pt (Pq (Ds (qz (iy (Oc Z) (hr.mono (by decide)) (by rfl) (ak (aq 3 (pv 3)) bh) (bw eq_nil)))) (J1 (jr Kz (jf (jg mz (by rfl) Z.b_len PySem.boot_len (ak (aq 3 (pv 3)) bh))) (jf (jg mz (by rfl) Z.b_len PySem.boot_len (ak (a4w (by rfl) Z.b_str (aq 2 (pv 2))) bh))) (m8 _)))))   (ji (ug Z.r Jw (hr.mono (by decide)) (by rfl) (wk Z.cls Z.na_row (aq 0 (pv 0)))))   (n6 jz))   (f9 (j9 (jx (i:=4) nd (jf (Fj Vk (by rfl) Z.b_int PyProof.Rows.boot_int (ak (aq 3 (pv 3)) bh)))))   (f9 (Cp (PW.pt (Pq (jr Oe (aq 4 (pv 4)) (aq 1 (pv 1)) (m8 _)) (J1 (jr Kz (aq 4 (pv 4)) (aq 2 (pv 2)) (m8 _)))))   (ji (ug Z.r Jw (hr.mono (by decide)) (by rfl) (wk Z.cls Z.na_row (aq 0 (pv 0)))))   (n6 jz))   (ji (j9 (j5 (aq 4 (pv 4))))))))
theorem qd:K8 P w K mg base cR "next_name" 3 ["self"] cN "row" (_root_.K.j7 cR cN):=by
 obtain ⟨f,fd,M,F⟩:=Z.h17;refine ⟨⟨f,fd,M,a99 (N:=["self","word"]) F fun _ _ _ _ _ _ _ _ hr hu hq nd=>?_,F.binds fun _ _ _ _ _ _ us hl=>bd1 (fun _=>rfl) us hl⟩,Z.cls⟩;exact f9 (j9 (jx (i:=1) nd (Hu (o8 Z) (hr.mono (by decide)) (aq 0 (pv 0)) rfl)))   (f9 (Cp (Ds (qz (iy (G6 Z) (hr.mono (by decide)) (by rfl) (ak (aq 1 (pv 1)) bh) (bw eq_nil))))   (ji (ug Z.r Jw (hr.mono (by decide)) (by rfl) (wk Z.cls Z.na_row (aq 0 (pv 0)))))   (n6 jz))   (ji (j9 (j5 (aq 1 (pv 1))))))
theorem Em:jt P w K mg base "next_piece" 4 ["reader","sign"] cN "row" (_root_.K.pq cR cN):=by
 refine goX (N:=["reader","sign","times"]) Z.h18 fun _ _ _ _ _ _ _ _ hr hu hq nd=>?_;exact f9 (Cp (qz (iy (G6 Z) (hr.mono (by decide)) (by rfl) (ak (uf (qu Z) (hr.mono (by decide)) (aq 0 (pv 0)) (ak dj bh) (qy (bw eq_nil))) bh) (bw eq_nil)))   (ji (zy (Gi (jj (Fp (qd Z) jq (hr.mono (by decide)) (aq 0 (pv 0)) rfl rfl) (jj (Bl (aq 1 (pv 1))) yc)) (yt (je (je uy)) (by decide)))))   (n6 jz))   (f9 (Ck (i:=2) nd rfl (Or.inl rfl) (abv Bg (Bl (aq 1 (pv 1))) (Ig (qx Z) jq (hr.mono (by decide)) (aq 0 (pv 0)) (jj (Bl dj) (jj (Bl (zj (by rfl) Z.c_GREATEST)) yc)) (Fd (zu (zu Jb))))))   (f9 (Cp (qz (uf (jk Z) (hr.mono (by decide)) (aq 0 (pv 0)) (ak cu bh) (qy (bw eq_nil))))   (ji (zy (Gi (jj (Fp (qd Z) jq (hr.mono (by decide)) (aq 0 (pv 0)) rfl rfl) (jj (Bl (aq 2 (pv 2))) yc)) (yt (je (je uy)) (by decide)))))   (n6 jz))   (ji (j9 (j5 (fu (ak cu (ak (aq 2 (pv 2)) bh)) (d8 (au (au d7)) (by decide))))))))
theorem Ea:jt P w K mg base "next_sum" 5 ["reader"] cN "row" (_root_.K.u5 cR cN):=by
 refine goX (N:=["reader","pieces","sign","number","one"]) Z.h19 fun _ _ _ _ _ _ _ _ hr hu hq nd=>?_;exact f9 (Sv (i:=1) nd rfl (Or.inl rfl) (jj (kj jq (Em Z) (hr.mono (by decide)) (by rfl) (ak (aq 0 (pv 0)) (ak (Ez (qz (uf (jk Z) (hr.mono (by decide)) (aq 0 (pv 0)) (ak cu bh) (qy (bw eq_nil)))) (W7 Ge dj) dj) bh)) (bw (bw eq_nil))) yc) (yt (je uy) (by decide)))   (f9 (Hx 1000 PassesOwn.leaving (jr (K6 hq) (uf (qu Z) (hr.mono (by decide)) (aq 0 (pv 0)) (ak dj bh) (qy (bw eq_nil))) (fu (ak cu (ak cu bh)) (d8 (au (au d7)) (by decide))) rfl)   (f9 (j9 (jx (i:=2) nd (Ez (jr (Bs hq) (Hu (o8 Z) (hr.mono (by decide)) (aq 0 (pv 0)) rfl) cu (m8 _)) dj (W7 Ge dj))))   (ji (Ji 1 (Bo (Mg PySem.F.plainAttrs_list PySem.F.slot_list_append PySem.F.type_list_append wj (pv 1) (ql (kj jq (Em Z) (hr.mono (by decide)) (by rfl) (ak (aq 0 (pv 0)) (ak (aq 2 (pv 2)) bh)) (bw (bw eq_nil))) w6)))))))   (f9 (j9 (jx (i:=3) nd (jf (jg (Wi (by rfl)) (by rfl) Z.b_sum PyProof.Rows.boot_sum (ak (yd (Bf (N:=["box","times"]) ⟨rfl,fun j k h=>match j,h with | _+0,h=>(by cases h)⟩ ⟨rfl,rfl,by decide +kernel,by decide +kernel⟩ rfl (Fi (aq 1 (pv 1))) Eo (fun C s₀ H₀ ex pn=>pgE fun B=>(U0 (is:=[0,1]) (Uk rfl (zx (p7 (show (["box","times"]:List Str).Nodup by decide +kernel) rfl (Or.inl rfl)) (zx (p7 (show (["box","times"]:List Str).Nodup by decide +kernel) rfl (Or.inl rfl)) Ma))))) (fun C s₀ H₀ ex pn=>(Lr fun B=>(jr (Bs hq) (aq 0 (pv 0)) cu (m8 _)))) (fun C s₀ H₀ ex pn=>peE fun B=>(aq 1 (pv 1))))) bh)))))   (f9 (j9 (jx (i:=4) nd (iy (J3 Z) (hr.mono (by decide)) (by rfl) (ak (aq 3 (pv 3)) (ak (yd (Bf (N:=["piece"]) ⟨rfl,fun j k h=>match j,h with | _+0,h=>(by cases h)⟩ ⟨rfl,rfl,by decide +kernel,by decide +kernel⟩ rfl (Fi (aq 1 (pv 1))) Eo (fun C s₀ H₀ ex pn=>pgE fun B=>(Ab 0 (p7 (show (["piece"]:List Str).Nodup by decide +kernel) rfl (Or.inl rfl)))) (fun C s₀ H₀ ex pn=>(Lr fun B=>(jr (Ih hq) (tu hu (aq 0 (pv 0)) dj (fun _ _=>rfl)) cu (m8 _)))) (fun C s₀ H₀ ex pn=>peE fun B=>(aq 0 (pv 0))))) bh)) (bw (bw eq_nil)))))   (ji (zy (kj jq (Ko Z) (hr.mono (by decide)) (by rfl) (ak (aq 0 (pv 0)) (ak (aq 4 (pv 4)) bh)) (bw (bw eq_nil))))))))
theorem Jx:aa4 P w K mg base "Reader" cR 5 ["self","text","row"] cN "row" (_root_.K.u6 cR cN):=by
 obtain ⟨f,fd,M,F⟩:=Z.h20;refine ⟨⟨f,fd,M,a99 (N:=["self","text","row"]) F fun _ _ _ _ _ _ _ _ hr hu hq nd=>?_,F.binds fun _ _ _ _ _ _ us hl=>bd3 (fun _ _ _=>rfl) us hl⟩,Z.hR⟩;exact f9 (Z6 Z.cls Z.na_tokens (aq 0 (pv 0)) (kj jq (Ov Z) (hr.mono (by decide)) (by rfl) (ak (aq 1 (pv 1)) (ak (aq 2 (pv 2)) bh)) (bw (bw eq_nil))))   (f9 (j9 (Ft Z.cls Z.na_row (aq 0 (pv 0)) (aq 2 (pv 2))))   (ji (j9 (Ft Z.cls Z.na_spot (aq 0 (pv 0)) dj))))
theorem Nr:u9 P w K mg base "joined" 1 ["kind","members"] (_root_.K.Fq):=by
 refine go (N:=["kind","members"]) Z.h21 fun _ _ _ _ _ _ _ _ hr hu hq nd=>?_;exact j6 (j5 (Ez (jr (Bs hq) (jf (jg mz (by rfl) Z.b_len PySem.boot_len (ak (aq 1 (pv 1)) bh))) dj (m8 _)) (tu hu (aq 1 (pv 1)) dj (fun _ _=>rfl)) (fu (ak (aq 0 (pv 0)) (ak (jf (Fj Jh (by rfl) Z.b_tuple PyProof.Rows.boot_tuple (ak (aq 1 (pv 1)) bh))) bh)) (d8 (au (au d7)) (by decide)))))
theorem Dh:jt P w K mg base "most_of" 4 ["reader","less","more","beyond"] cN "row" (_root_.K.yu cR cN):=by
 refine goX (N:=["reader","less","more","beyond","one"]) Z.h22 fun _ _ _ _ _ _ _ _ hr hu hq nd=>?_;exact f9 (j9 (jx (i:=4) nd (iy (Wh Z) (hr.mono (by decide)) (by rfl) (ak (iy (a0u Z) (hr.mono (by decide)) (by rfl) (ak (aq 1 (pv 1)) (ak (aq 2 (pv 2)) bh)) (bw (bw eq_nil))) (ak (fu (ak (aq 3 (pv 3)) (ak (fu bh (d8 d7 (by decide))) bh)) (d8 (au (au d7)) (by decide))) bh)) (bw (bw eq_nil)))))   (ji (zy (Gi (jj (Bl cu) (jj (kj jq (Ko Z) (hr.mono (by decide)) (by rfl) (ak (aq 0 (pv 0)) (ak (aq 4 (pv 4)) bh)) (bw (bw eq_nil))) yc)) (yt (je (je uy)) (by decide)))))
theorem En:jt P w K mg base "next_comparison" 6 ["reader"] cN "row" (_root_.K.oh cR cN):=by
 refine goX (N:=["reader","left","sign","right","beyond"]) Z.h23 fun _ _ _ _ _ _ _ _ hr hu hq nd=>?_;exact f9 (Ck (i:=1) nd rfl (Or.inl rfl) (kj jq (Ea Z) (hr.mono (by decide)) (by rfl) (ak (aq 0 (pv 0)) bh) (bw eq_nil)))   (f9 (j9 (jx (i:=2) nd (Hu (o8 Z) (hr.mono (by decide)) (aq 0 (pv 0)) rfl)))   (f9 (Cp (jr (O6 hq) (aq 2 (pv 2)) (fu (yq (.cons (.cons (.cons (.cons (.cons .nil)))))) (d8 (len_strs _) (by decide))) rfl)   (ji (ug Z.r Jw (hr.mono (by decide)) (by rfl) (wk Z.cls Z.na_row (aq 0 (pv 0)))))   (n6 jz))   (f9 (Ck (i:=3) nd rfl (Or.inl rfl) (kj jq (Ea Z) (hr.mono (by decide)) (by rfl) (ak (aq 0 (pv 0)) bh) (bw eq_nil)))   (f9 (Cp (jr (Bs hq) (aq 2 (pv 2)) cu (m8 _))   (ji (zy (Gi (jj (Bl cu) (jj (Gi (jj (kj jq (Dh Z) (hr.mono (by decide)) (by rfl) (ak (aq 0 (pv 0)) (ak (aq 1 (pv 1)) (ak (aq 3 (pv 3)) (ak dj bh)))) (bw (bw (bw (bw eq_nil))))) (jj (kj jq (Dh Z) (hr.mono (by decide)) (by rfl) (ak (aq 0 (pv 0)) (ak (aq 3 (pv 3)) (ak (aq 1 (pv 1)) (ak dj bh)))) (bw (bw (bw (bw eq_nil))))) yc)) (yt (je (je uy)) (by decide))) yc)) (yt (je (je uy)) (by decide)))))   (n6 jz))   (f9 (j9 (jx (i:=4) nd (Ez (jr (K6 hq) (aq 2 (pv 2)) (fu (ak cu (ak cu bh)) (d8 (au (au d7)) (by decide))) rfl) dj dj)))   (f9 (Cp (jr (K6 hq) (aq 2 (pv 2)) (fu (ak cu (ak cu bh)) (d8 (au (au d7)) (by decide))) rfl)   (ji (zy (kj jq (Dh Z) (hr.mono (by decide)) (by rfl) (ak (aq 0 (pv 0)) (ak (aq 1 (pv 1)) (ak (aq 3 (pv 3)) (ak (aq 4 (pv 4)) bh)))) (bw (bw (bw (bw eq_nil)))))))   (n6 jz))   (ji (zy (kj jq (Dh Z) (hr.mono (by decide)) (by rfl) (ak (aq 0 (pv 0)) (ak (aq 3 (pv 3)) (ak (aq 1 (pv 1)) (ak (aq 4 (pv 4)) bh)))) (bw (bw (bw (bw eq_nil)))))))))))))
theorem Vg:jt P w K mg base "next_at" 4 ["reader","numbered"] cN "row" (_root_.K.Ai cR cN):=by
 refine goX (N:=["reader","numbered","hand"]) Z.h24 fun _ _ _ _ _ _ _ _ hr hu hq nd=>?_;exact f9 (Ck (i:=2) nd rfl (Or.inl rfl) (Fp (qd Z) jq (hr.mono (by decide)) (aq 0 (pv 0)) rfl rfl))   (f9 (Cp (PW.pt (a4n (qz (aq 1 (pv 1))) (Wo (Ds (qz (iy (G6 Z) (hr.mono (by decide)) (by rfl) (ak (uf (qu Z) (hr.mono (by decide)) (aq 0 (pv 0)) (ak dj bh) (qy (bw eq_nil))) bh) (bw eq_nil)))))))   (ji (zy (Gi (jj (Bl cu) (jj (Bl (aq 2 (pv 2))) (jj (Ig (qx Z) jq (hr.mono (by decide)) (aq 0 (pv 0)) (jj (Bl dj) (jj (Bl (zj (by rfl) Z.c_GREATEST_PLACE)) yc)) (Fd (zu (zu Jb)))) yc))) (yt (je (je (je uy))) (by decide)))))   (n6 jz))   (ji (zy (Gi (jj (Bl cu) (jj (Bl (aq 2 (pv 2))) (jj (Fp (qd Z) jq (hr.mono (by decide)) (aq 0 (pv 0)) rfl rfl) yc))) (yt (je (je (je uy))) (by decide))))))
theorem Dt:K8 P w K mg base cR "need" 3 ["self","token"] cN "row" (_root_.K.qe cR cN):=by
 obtain ⟨f,fd,M,F⟩:=Z.h25;refine ⟨⟨f,fd,M,a99 (N:=["self","token"]) F fun _ _ _ _ _ _ _ _ hr hu hq nd=>?_,F.binds fun _ _ _ _ _ _ us hl=>bd2 (fun _ _=>rfl) us hl⟩,Z.cls⟩;exact ji (Cp (Ds (qz (uf (jk Z) (hr.mono (by decide)) (aq 0 (pv 0)) (ak (aq 1 (pv 1)) bh) (qy (bw eq_nil)))))   (ji (ug Z.r Jw (hr.mono (by decide)) (by rfl) (wk Z.cls Z.na_row (aq 0 (pv 0)))))   (n6 jz))
theorem O4:jt P w K mg base "next_rest" 6 ["reader"] cN "row" (_root_.K.yp cR cN):=by
 refine goX (N:=["reader","divisor"]) Z.h26 fun _ _ _ _ _ _ _ _ hr hu hq nd=>?_;exact f9 (Ck (i:=1) nd rfl (Or.inl rfl) (Ig (qx Z) jq (hr.mono (by decide)) (aq 0 (pv 0)) (jj (Bl (zj (by rfl) Z.c_LEAST_REST)) (jj (Bl (zj (by rfl) Z.c_GREATEST_REST)) yc)) (Fd (zu (zu Jb)))))   (f9 (Ql (Ig (Dt Z) jq (hr.mono (by decide)) (aq 0 (pv 0)) (jj (Bl cu) yc) (Fd (zu Jb))))   (ji (zy (Gi (jj (Bl cu) (jj (kj jq (Ea Z) (hr.mono (by decide)) (by rfl) (ak (aq 0 (pv 0)) bh) (bw eq_nil)) (jj (Bl (aq 1 (pv 1))) yc))) (yt (je (je (je uy))) (by decide))))))
theorem Sg {nn:Nat} (aN:jt P w K mg base "next_and" (6+nn) ["reader","numbered","opened"] cN "row" (_root_.K.vm cR cN nn)):jt P w K mg base "next_or" (6+nn+1) ["reader","numbered","opened"] cN "row" (_root_.K.uh cR cN (nn+1)):=by
 refine goX (N:=["reader","numbered","opened","members"]) Z.h27 fun _ _ _ _ _ _ _ _ hr hu hq nd=>?_;exact f9 (Sv (i:=3) nd rfl (Or.inl rfl) (jj (kj jq aN (hr.mono (by omega)) (by rfl) (ak (aq 0 (pv 0)) (ak (aq 1 (pv 1)) (ak (aq 2 (pv 2)) bh))) (bw (bw (bw eq_nil)))) yc) (yt (je uy) (by decide)))   (f9 (Hx 1000 PassesOwn.leaving (qz (uf (jk Z) (hr.mono (by omega)) (aq 0 (pv 0)) (ak cu bh) (qy (bw eq_nil))))   (ji (Ji 3 (Bo (Mg PySem.F.plainAttrs_list PySem.F.slot_list_append PySem.F.type_list_append wj (pv 3) (ql (kj jq aN (hr.mono (by omega)) (by rfl) (ak (aq 0 (pv 0)) (ak (aq 1 (pv 1)) (ak (aq 2 (pv 2)) bh))) (bw (bw (bw eq_nil)))) w6))))))   (ji (j9 (j5 (iy (Nr Z) (hr.mono (by omega)) (by rfl) (ak cu (ak (aq 3 (pv 3)) bh)) (bw (bw eq_nil)))))))
theorem Px {nn:Nat} (aO:jt P w K mg base "next_not" (6+nn) ["reader","numbered","opened"] cN "row" (_root_.K.vg cR cN nn)):jt P w K mg base "next_and" (6+nn+1) ["reader","numbered","opened"] cN "row" (_root_.K.vm cR cN (nn+1)):=by
 refine goX (N:=["reader","numbered","opened","members"]) Z.h28 fun _ _ _ _ _ _ _ _ hr hu hq nd=>?_;exact f9 (Sv (i:=3) nd rfl (Or.inl rfl) (jj (kj jq aO (hr.mono (by omega)) (by rfl) (ak (aq 0 (pv 0)) (ak (aq 1 (pv 1)) (ak (aq 2 (pv 2)) bh))) (bw (bw (bw eq_nil)))) yc) (yt (je uy) (by decide)))   (f9 (Hx 1000 PassesOwn.leaving (qz (uf (jk Z) (hr.mono (by omega)) (aq 0 (pv 0)) (ak cu bh) (qy (bw eq_nil))))   (ji (Ji 3 (Bo (Mg PySem.F.plainAttrs_list PySem.F.slot_list_append PySem.F.type_list_append wj (pv 3) (ql (kj jq aO (hr.mono (by omega)) (by rfl) (ak (aq 0 (pv 0)) (ak (aq 1 (pv 1)) (ak (aq 2 (pv 2)) bh))) (bw (bw (bw eq_nil)))) w6))))))   (ji (j9 (j5 (iy (Nr Z) (hr.mono (by omega)) (by rfl) (ak cu (ak (aq 3 (pv 3)) bh)) (bw (bw eq_nil)))))))
theorem O5 {nn:Nat} (aS:jt P w K mg base "next_single" (6+nn) ["reader","numbered","opened"] cN "row" (_root_.K.sy cR cN nn)):jt P w K mg base "next_not" (6+nn+1) ["reader","numbered","opened"] cN "row" (_root_.K.vg cR cN (nn+1)):=by
 refine goX (N:=["reader","numbered","opened","many","remark","turn"]) Z.h29 fun _ _ _ _ _ _ _ _ hr hu hq nd=>?_;exact f9 (j9 (jx (i:=3) nd dj))   (f9 (j9 (Mh 1000 PassesOwn.leaving (qz (uf (jk Z) (hr.mono (by omega)) (aq 0 (pv 0)) (ak cu bh) (qy (bw eq_nil))))   (j6 (jx (i:=3) nd (gk dh (aq 3 (pv 3)) dj)))))   (f9 (Ck (i:=4) nd rfl (Or.inl rfl) (kj jq aS (hr.mono (by omega)) (by rfl) (ak (aq 0 (pv 0)) (ak (aq 1 (pv 1)) (ak (aq 2 (pv 2)) bh))) (bw (bw (bw eq_nil)))))   (f9 (j9 (Uc PassesOwn.leaving rfl (M8 (by rfl) Z.b_range (aq 3 (pv 3))) (Ab 5 (p7 nd rfl (Or.inl rfl)))   (j6 (jx (i:=4) nd (fu (ak cu (ak (aq 4 (pv 4)) bh)) (d8 (au (au d7)) (by decide))))) Lg))   (ji (j9 (j5 (aq 4 (pv 4))))))))
theorem Jl {nn:Nat} (aM:jt P w K mg base "next_bracketed" (6+nn) ["reader","numbered","opened"] cN "row" (_root_.K.mj cR cN nn)):jt P w K mg base "next_single" (6+nn+1) ["reader","numbered","opened"] cN "row" (_root_.K.sy cR cN (nn+1)):=by
 refine goX (N:=["reader","numbered","opened"]) Z.h30 fun _ _ _ _ _ _ _ _ hr hu hq nd=>?_;exact f9 (Cp (qz (uf (jk Z) (hr.mono (by omega)) (aq 0 (pv 0)) (ak cu bh) (qy (bw eq_nil))))   (ji (zy (kj jq aM (hr.mono (by omega)) (by rfl) (ak (aq 0 (pv 0)) (ak (aq 1 (pv 1)) (ak (gk dh (aq 2 (pv 2)) dj) bh))) (bw (bw (bw eq_nil))))))   (n6 jz))   (f9 (j9 (Cg (qz (uf (jk Z) (hr.mono (by omega)) (aq 0 (pv 0)) (ak cu bh) (qy (bw eq_nil))))   (j6 (j5 (vo (by rfl) Z.c_TRUE_ONE)))   jz))   (f9 (j9 (Cg (qz (uf (jk Z) (hr.mono (by omega)) (aq 0 (pv 0)) (ak cu bh) (qy (bw eq_nil))))   (j6 (j5 (vo (by rfl) Z.c_FALSE_ONE)))   jz))   (f9 (Cp (qz (uf (jk Z) (hr.mono (by omega)) (aq 0 (pv 0)) (ak cu bh) (qy (bw eq_nil))))   (ji (zy (kj jq (Vg Z) (hr.mono (by omega)) (by rfl) (ak (aq 0 (pv 0)) (ak (aq 1 (pv 1)) bh)) (bw (bw eq_nil)))))   (n6 jz))   (f9 (Cp (jr (Bs hq) (uf (qu Z) (hr.mono (by omega)) (aq 0 (pv 0)) (ak dj bh) (qy (bw eq_nil))) cu (m8 _))   (ji (zy (kj jq (O4 Z) (hr.mono (by omega)) (by rfl) (ak (aq 0 (pv 0)) bh) (bw eq_nil))))   (n6 jz))   (ji (zy (kj jq (En Z) (hr.mono (by omega)) (by rfl) (ak (aq 0 (pv 0)) bh) (bw eq_nil))))))))
theorem Ey {nn:Nat} (bF:jt P w K mg base "next_or" (6+nn) ["reader","numbered","opened"] cN "row" (_root_.K.uh cR cN nn)):jt P w K mg base "next_bracketed" (6+nn+1) ["reader","numbered","opened"] cN "row" (_root_.K.mj cR cN (nn+1)):=by
 refine goX (N:=["reader","numbered","opened","remark"]) Z.h31 fun _ _ _ _ _ _ _ _ hr hu hq nd=>?_;exact f9 (Cp (jr Kz (aq 2 (pv 2)) (zj (by rfl) Z.c_MOST_OPEN) (m8 _))   (ji (ug Z.r Jw (hr.mono (by omega)) (by rfl) (wk Z.cls Z.na_row (aq 0 (pv 0)))))   (n6 jz))   (f9 (Ck (i:=3) nd rfl (Or.inl rfl) (kj jq bF (hr.mono (by omega)) (by rfl) (ak (aq 0 (pv 0)) (ak (aq 1 (pv 1)) (ak (aq 2 (pv 2)) bh))) (bw (bw (bw eq_nil)))))   (f9 (Ql (Ig (Dt Z) jq (hr.mono (by omega)) (aq 0 (pv 0)) (jj (Bl cu) yc) (Fd (zu Jb))))   (ji (j9 (j5 (aq 3 (pv 3)))))))
theorem Jg:∀ nn:Nat,jt P w K mg base "next_or" (6+nn) ["reader","numbered","opened"] cN "row" (_root_.K.uh cR cN nn)/\jt P w K mg base "next_and" (6+nn) ["reader","numbered","opened"] cN "row" (_root_.K.vm cR cN nn)/\jt P w K mg base "next_not" (6+nn) ["reader","numbered","opened"] cN "row" (_root_.K.vg cR cN nn)/\jt P w K mg base "next_single" (6+nn) ["reader","numbered","opened"] cN "row" (_root_.K.sy cR cN nn)/\jt P w K mg base "next_bracketed" (6+nn) ["reader","numbered","opened"] cN "row" (_root_.K.mj cR cN nn)
 | 0=>⟨X8 Z.h27,X8 Z.h28,X8 Z.h29,X8 Z.h30,X8 Z.h31⟩
 | nn+1=>by
  have ih:=Jg nn;obtain ⟨h_next_or,h_next_and,h_next_not,h_next_single,h_next_bracketed⟩:=ih;exact ⟨Sg Z h_next_and,Px Z h_next_not,O5 Z h_next_single,Jl Z h_next_bracketed,Ey Z h_next_or⟩
theorem Vl:jt P w K mg base "next_or" 126 ["reader","numbered","opened"] cN "row" (_root_.K.uh cR cN 120):=(Jg Z 120).1
theorem Ju:jt P w K mg base "next_remark" 127 ["reader","numbered"] cN "row" (_root_.K.v9 cR cN):=by
 refine goX (N:=["reader","numbered","remark"]) Z.h32 fun _ _ _ _ _ _ _ _ hr hu hq nd=>?_;exact f9 (Ck (i:=2) nd rfl (Or.inl rfl) (kj jq (Vl Z) (hr.mono (by decide)) (by rfl) (ak (aq 0 (pv 0)) (ak (aq 1 (pv 1)) (ak dj bh))) (bw (bw (bw eq_nil)))))   (f9 (Cp (jr Kz (iy (S8 Z) (hr.mono (by decide)) (by rfl) (ak (aq 2 (pv 2)) bh) (bw eq_nil)) (zj (by rfl) Z.c_MOST_PARTS) (m8 _))   (ji (ug Z.r Jw (hr.mono (by decide)) (by rfl) (wk Z.cls Z.na_row (aq 0 (pv 0)))))   (n6 jz))   (ji (j9 (j5 (aq 2 (pv 2))))))
theorem Ek:K8 P w K mg base cR "need_end" 3 ["self"] cN "row" (_root_.K.rm cR cN):=by
 obtain ⟨f,fd,M,F⟩:=Z.h33;refine ⟨⟨f,fd,M,a99 (N:=["self"]) F fun _ _ _ _ _ _ _ _ hr hu hq nd=>?_,F.binds fun _ _ _ _ _ _ us hl=>bd1 (fun _=>rfl) us hl⟩,Z.cls⟩;exact ji (Cp (jr Oe (wk Z.cls Z.na_spot (aq 0 (pv 0))) (jf (jg mz (by rfl) Z.b_len PySem.boot_len (ak (wk Z.cls Z.na_tokens (aq 0 (pv 0))) bh))) (m8 _))   (ji (ug Z.r Jw (hr.mono (by decide)) (by rfl) (wk Z.cls Z.na_row (aq 0 (pv 0)))))   (n6 jz))
theorem Dr:jt P w K mg base "read_remark" 128 ["text"] cN "row" (_root_.K.uz cR cN):=by
 refine goX (N:=["text","reader","remark"]) Z.h34 fun _ _ _ _ _ _ _ _ hr hu hq nd=>?_;exact f9 (Ck (i:=1) nd rfl (Or.inl rfl) (a6s (Jx Z) jq (hr.mono (by decide)) (by rfl) (ak (aq 0 (pv 0)) (ak dj bh)) (qy (bw (bw eq_nil)))))   (f9 (Ck (i:=2) nd rfl (Or.inl rfl) (kj jq (Ju Z) (hr.mono (by decide)) (by rfl) (ak (aq 1 (pv 1)) (ak Om bh)) (bw (bw eq_nil))))   (f9 (Ql (Fp (Ek Z) jq (hr.mono (by decide)) (aq 1 (pv 1)) rfl rfl))   (ji (j9 (j5 (aq 2 (pv 2)))))))
theorem Ae:u9 P w K mg base "_law_cell_at" 1 ["_law_script","_law_k"] (_root_.K.lg):=by
 refine go (N:=["_law_script","_law_k"]) Z.h35 fun _ _ _ _ _ _ _ _ hr hu hq nd=>?_;exact dw (Cg (jr Oe (aq 1 (pv 1)) (jf (jg mz (by rfl) Z.b_len PySem.boot_len (ak (aq 0 (pv 0)) bh))) (m8 _))   (j6 (j5 (tu hu (aq 0 (pv 0)) (aq 1 (pv 1)) (fun _ _=>rfl))))   jz)   (j6 (j5 dj))
theorem Kf:u9 P w K mg base "_law_sum" 1 ["_law_cell"] (_root_.K.Fg):=by
 refine go (N:=["_law_cell","_law_some"]) Z.h36 fun _ _ _ _ _ _ _ _ hr hu hq nd=>?_;refine dw ?_ ?_
 ·refine jx (i:=1) ?_ ?_
  ·exact nd
  ·refine jy ?_ ?_
   ·exact yq (.cons (.cons (.cons (.cons (.cons (.cons (.cons (.cons (.cons (.cons .nil))))))))))
   ·exact d8 (len_strs _) (by decide)
 ·exact j6 (j5 (tu hu (aq 1 (pv 1)) (gk Du (aq 0 (pv 0)) dj) (fun _ _=>rfl)))
theorem Jr:u9 P w K mg base "_law_compared" 1 ["_law_cell"] (_root_.K.qp):=by
 refine go (N:=["_law_cell","_law_some"]) Z.h37 fun _ _ _ _ _ _ _ _ hr hu hq nd=>?_;refine dw ?_ ?_
 ·refine jx (i:=1) ?_ ?_
  ·exact nd
  ·refine jy ?_ ?_
   ·exact yq (.cons (.cons (.cons (.cons (.cons (.cons (.cons (.cons .nil))))))))
   ·exact d8 (len_strs _) (by decide)
 ·exact j6 (j5 (tu hu (aq 1 (pv 1)) (gk Du (aq 0 (pv 0)) dj) (fun _ _=>rfl)))
theorem J5:u9 P w K mg base "_law_bad_sums" 1 ["_law_cell","_law_one","_law_other"] (_root_.K.qt):=by
 refine go (N:=["_law_cell","_law_one","_law_other","_law_some"]) Z.h38 fun _ _ _ _ _ _ _ _ hr hu hq nd=>?_;exact dw (jx (i:=3) nd (jy (ak (aq 1 (pv 1)) (ak (gk dh (aq 1 (pv 1)) cu) (ak (gk dh (aq 1 (pv 1)) cu) (ak (gk dh cu (aq 1 (pv 1))) (ak (gk dh (gk dh (gk dh (gk dh (aq 1 (pv 1)) cu) (aq 2 (pv 2))) cu) (aq 1 (pv 1))) bh))))) (d8 (au (au (au (au (au d7))))) (by decide))))   (dw (jx (i:=3) nd (gk dh (aq 3 (pv 3)) (jy (ak (gk dh (aq 1 (pv 1)) cu) (ak (gk dh (aq 1 (pv 1)) cu) (ak (gk dh (aq 1 (pv 1)) cu) (ak (gk dh (aq 1 (pv 1)) cu) (ak (gk dh (aq 1 (pv 1)) cu) (ak (gk dh (aq 1 (pv 1)) cu) bh)))))) (d8 (au (au (au (au (au (au d7)))))) (by decide)))))   (dw (jx (i:=3) nd (gk dh (aq 3 (pv 3)) (jy (ak (gk dh (aq 1 (pv 1)) cu) (ak (gk dh (aq 1 (pv 1)) cu) (ak cu (ak cu (ak cu (ak cu bh)))))) (d8 (au (au (au (au (au (au d7)))))) (by decide)))))   (dw (jx (i:=3) nd (gk dh (aq 3 (pv 3)) (jy (ak (gk dh (gk dh cu (aq 1 (pv 1))) cu) (ak (gk dh (gk dh cu (aq 1 (pv 1))) cu) (ak (gk dh (gk dh cu (aq 1 (pv 1))) cu) (ak (gk dh (aq 1 (pv 1)) cu) bh)))) (d8 (au (au (au (au d7)))) (by decide)))))   (dw (jx (i:=3) nd (gk dh (aq 3 (pv 3)) (jy (ak (gk dh (gk dh cu (aq 1 (pv 1))) cu) bh) (d8 (au d7) (by decide)))))   (j6 (j5 (tu hu (aq 3 (pv 3)) (gk Du (aq 0 (pv 0)) dj) (fun _ _=>rfl))))))))
theorem Gu:u9 P w K mg base "_law_bad_words" 1 ["_law_cell","_law_one"] (_root_.K.o9):=by
 refine go (N:=["_law_cell","_law_one","_law_some","_law_words"]) Z.h39 fun _ _ _ _ _ _ _ _ hr hu hq nd=>?_;refine dw ?_ ?_
 ·refine jx (i:=2) ?_ ?_
  ·exact nd
  ·refine jy ?_ ?_
   ·exact yq (.cons (.cons (.cons (.cons (.cons (.cons (.cons (.cons (.cons (.cons .nil))))))))))
   ·exact d8 (len_strs _) (by decide)
 ·refine dw ?_ ?_
  ·refine jx (i:=2) ?_ ?_
   ·exact nd
   ·exact gk dh (aq 2 (pv 2)) (jy (ak cu (ak cu bh)) (d8 (au (au d7)) (by decide)))
  ·refine dw ?_ ?_
   ·refine jx (i:=2) ?_ ?_
    ·exact nd
    ·refine gk ?_ ?_ ?_
     ·exact dh
     ·exact aq 2 (pv 2)
     ·refine jy ?_ ?_
      ·exact yq (.cons (.cons (.cons (.cons (.cons (.cons .nil))))))
      ·exact d8 (len_strs _) (by decide)
   ·refine dw ?_ ?_
    ·exact jx (i:=2) nd (gk dh (aq 2 (pv 2)) (jy (ak cu bh) (d8 (au d7) (by decide))))
    ·refine dw ?_ ?_
     ·refine jx (i:=2) ?_ ?_
      ·exact nd
      ·refine gk ?_ ?_ ?_
       ·exact dh
       ·exact aq 2 (pv 2)
       ·refine jy ?_ ?_
        ·exact yq (.cons (.cons (.cons (.cons (.cons (.cons (.cons .nil)))))))
        ·exact d8 (len_strs _) (by decide)
     ·refine dw ?_ ?_
      ·refine jx (i:=2) ?_ ?_
       ·exact nd
       ·exact gk dh (aq 2 (pv 2)) (jy (ak cu (ak cu bh)) (d8 (au (au d7)) (by decide)))
      ·refine dw ?_ ?_
       ·refine jx (i:=2) ?_ ?_
        ·exact nd
        ·refine gk ?_ ?_ ?_
         ·exact dh
         ·exact aq 2 (pv 2)
         ·refine jy ?_ ?_
          ·exact yq (.cons (.cons (.cons (.cons (.cons (.cons (.cons (.cons (.cons .nil)))))))))
          ·exact d8 (len_strs _) (by decide)
       ·refine dw ?_ ?_
        ·exact jx (i:=2) nd (gk dh (aq 2 (pv 2)) (jy (yq (.cons (.cons (.cons (.cons .nil))))) (d8 (len_strs _) (by decide))))
        ·refine dw ?_ ?_
         ·exact jx (i:=2) nd (gk dh (aq 2 (pv 2)) (jy (ak cu bh) (d8 (au d7) (by decide))))
         ·refine dw ?_ ?_
          ·exact jx (i:=2) nd (gk dh (aq 2 (pv 2)) (jy (yq (.cons (.cons (.cons (.cons (.cons .nil)))))) (d8 (len_strs _) (by decide))))
          ·refine dw ?_ ?_
           ·refine jx (i:=2) ?_ ?_
            ·exact nd
            ·exact gk dh (aq 2 (pv 2)) (jy (ak cu (ak cu bh)) (d8 (au (au d7)) (by decide)))
           ·refine dw ?_ ?_
            ·refine jx (i:=2) ?_ ?_
             ·exact nd
             ·refine gk ?_ ?_ ?_
              ·exact dh
              ·exact aq 2 (pv 2)
              ·refine jy ?_ ?_
               ·refine ak ?_ ?_
                ·exact Ij cu (Iu (ak cu bh) (d8 (au d7) (by decide)) (fun B=>dj))
                ·refine ak ?_ ?_
                 ·exact gk dh (gk Bg cu dj) cu
                 ·exact ak (gk dh (gk dh (gk Bg cu dj) cu) (gk Bg cu dj)) bh
               ·exact d8 (au (au (au d7))) (by decide)
            ·refine dw ?_ ?_
             ·refine jx (i:=2) ?_ ?_
              ·exact nd
              ·refine gk ?_ ?_ ?_
               ·exact dh
               ·exact aq 2 (pv 2)
               ·refine jy ?_ ?_
                ·refine ak ?_ ?_
                 ·exact Ij cu (Iu (ak cu bh) (d8 (au d7) (by decide)) (fun B=>dj))
                 ·refine ak ?_ ?_
                  ·refine gk ?_ ?_ ?_
                   ·exact dh
                   ·exact gk dh cu (Ij cu (Iu (ak cu bh) (d8 (au d7) (by decide)) (fun B=>dj)))
                   ·exact cu
                  ·exact bh
                ·exact d8 (au (au d7)) (by decide)
             ·refine dw ?_ ?_
              ·refine jx (i:=3) ?_ ?_
               ·exact nd
               ·refine jy ?_ ?_
                ·exact yq (.cons (.cons (.cons (.cons (.cons (.cons (.cons (.cons (.cons (.cons (.cons (.cons .nil))))))))))))
                ·exact d8 (len_strs _) (by decide)
              ·refine dw ?_ ?_
               ·refine jx (i:=2) ?_ ?_
                ·exact nd
                ·refine gk ?_ ?_ ?_
                 ·exact dh
                 ·exact aq 2 (pv 2)
                 ·refine yd ?_
                  ·refine Bf (N:=["_law_word"]) ?_ ?_ ?_ ?_ ?_ ?_ ?_ ?_
                   ·exact ⟨rfl,fun j k h=>match j,h with | _+0,h=>(by cases h)⟩
                   ·exact ⟨rfl,rfl,by decide +kernel,by decide +kernel⟩
                   ·exact rfl
                   ·refine Fi ?_
                    ·refine gk ?_ ?_ ?_
                     ·exact dh
                     ·exact aq 3 (pv 3)
                     ·exact jy (ak cu (ak cu (ak cu bh))) (d8 (au (au (au d7))) (by decide))
                   ·exact Eo
                   ·exact fun C s₀ H₀ ex pn=>pgE fun B=>(Ab 0 (p7 (show (["_law_word"]:List Str).Nodup by decide +kernel) rfl (Or.inl rfl)))
                   ·exact fun C s₀ H₀ ex pn=>Ba
                   ·exact fun C s₀ H₀ ex pn=>peE fun B=>(gk dh (aq 0 (pv 0)) cu)
               ·exact j6 (j5 (tu hu (aq 2 (pv 2)) (gk Du (aq 0 (pv 0)) dj) (fun _ _=>rfl)))
theorem Lp:u9 P w K mg base "_law_within" 1 ["_law_cell","_law_bad","_law_good_here"] (_root_.K.uq):=by
 refine go (N:=["_law_cell","_law_bad","_law_good_here","_law_some"]) Z.h40 fun _ _ _ _ _ _ _ _ hr hu hq nd=>?_;exact dw (jx (i:=3) nd (jy (ak (aq 1 (pv 1)) (ak (gk dh (gk dh (aq 2 (pv 2)) cu) (aq 1 (pv 1))) (ak (gk dh (gk dh cu (aq 1 (pv 1))) cu) (ak (gk dh (gk dh cu (aq 1 (pv 1))) cu) (ak (gk dh (gk dh (aq 1 (pv 1)) cu) (aq 2 (pv 2))) (ak (aq 1 (pv 1)) bh)))))) (d8 (au (au (au (au (au (au d7)))))) (by decide))))   (j6 (j5 (tu hu (aq 3 (pv 3)) (gk Du (aq 0 (pv 0)) dj) (fun _ _=>rfl))))
theorem Sx:u9 P w K mg base "_law_nots" 1 ["_law_many"] (_root_.K.G4):=by
 refine go (N:=["_law_many","_law_due","_law_k"]) Z.h41 fun _ _ _ _ _ _ _ _ hr hu hq nd=>?_;exact dw (jx (i:=1) nd (fu (ak cu (ak (fu bh (d8 d7 (by decide))) bh)) (d8 (au (au d7)) (by decide))))   (dw (Uc PassesOwn.never rfl (M8 (by rfl) Z.b_range (aq 0 (pv 0))) (Ab 2 (p7 nd rfl (Or.inl rfl)))   (j6 (jx (i:=1) nd (fu (ak cu (ak (aq 1 (pv 1)) bh)) (d8 (au (au d7)) (by decide))))) Lg)   (j6 (j5 (aq 1 (pv 1)))))
theorem Sw:u9 P w K mg base "_law_good" 2 ["_law_cell"] (_root_.K.yj):=by
 refine go (N:=["_law_cell","_law_one","_law_twice_one","_law_some","_law_both"]) Z.h42 fun _ _ _ _ _ _ _ _ hr hu hq nd=>?_;refine dw ?_ ?_
 ·refine jx (i:=1) ?_ ?_
  ·exact nd
  ·refine fu ?_ ?_
   ·refine ak ?_ ?_
    ·exact cu
    ·refine ak ?_ ?_
     ·refine fu ?_ ?_
      ·refine ak ?_ ?_
       ·exact W7 Ge dj
       ·refine ak ?_ ?_
        ·refine fu ?_ ?_
         ·exact ak (fu (ak cu (ak dj bh)) (d8 (au (au d7)) (by decide))) bh
         ·exact d8 (au d7) (by decide)
        ·exact bh
      ·exact d8 (au (au d7)) (by decide)
     ·exact bh
   ·exact d8 (au (au d7)) (by decide)
 ·refine dw ?_ ?_
  ·refine jx (i:=2) ?_ ?_
   ·exact nd
   ·refine fu ?_ ?_
    ·refine ak ?_ ?_
     ·exact cu
     ·refine ak ?_ ?_
      ·refine fu ?_ ?_
       ·refine ak ?_ ?_
        ·exact aq 1 (pv 1)
        ·refine ak ?_ ?_
         ·refine fu ?_ ?_
          ·refine ak ?_ ?_
           ·exact cu
           ·refine ak ?_ ?_
            ·refine fu ?_ ?_
             ·refine ak ?_ ?_
              ·exact dj
              ·refine ak ?_ ?_
               ·refine fu ?_ ?_
                ·exact ak (fu (ak cu (ak (W7 Ge dj) bh)) (d8 (au (au d7)) (by decide))) bh
                ·exact d8 (au d7) (by decide)
               ·exact bh
             ·exact d8 (au (au d7)) (by decide)
            ·exact bh
          ·exact d8 (au (au d7)) (by decide)
         ·exact bh
       ·exact d8 (au (au d7)) (by decide)
      ·exact bh
    ·exact d8 (au (au d7)) (by decide)
  ·refine dw ?_ ?_
   ·refine @Ax _ _ _ _ (fOf _ _ _) _ ?_ (fun _ _ _ h=>h)
    ·refine wz ?_ ?_ ?_ ?_
     ·exact nd
     ·exact rfl
     ·exact Or.inl rfl
     ·refine Ux ?_ ?_
      ·refine ak ?_ ?_
       ·refine fu ?_ ?_
        ·refine ak ?_ ?_
         ·exact Ij cu (Iu (ak cu bh) (d8 (au d7) (by decide)) (fun B=>dj))
         ·refine ak ?_ ?_
          ·refine fu ?_ ?_
           ·exact ak cu (ak (U9 (fu (ak (aq 1 (pv 1)) bh) (d8 (au d7) (by decide))) dj) bh)
           ·exact d8 (au (au d7)) (by decide)
          ·exact bh
        ·exact d8 (au (au d7)) (by decide)
       ·refine ak ?_ ?_
        ·refine fu ?_ ?_
         ·refine ak ?_ ?_
          ·exact gk dh (gk Bg cu dj) cu
          ·exact ak (iy (Sx Z) (hr.mono (by decide)) (by rfl) (ak dj bh) (bw eq_nil)) bh
         ·exact d8 (au (au d7)) (by decide)
        ·exact bh
      ·exact d8 (au (au d7)) (by decide)
   ·refine dw ?_ ?_
    ·refine @Ax _ _ _ _ (fOf _ _ _) _ ?_ (fun _ _ _ h=>h)
     ·refine wz ?_ ?_ ?_ ?_
      ·exact nd
      ·exact rfl
      ·exact Or.inl rfl
      ·refine vq _ ?_ ?_
       ·exact pv 3
       ·refine jy ?_ ?_
        ·refine ak ?_ ?_
         ·refine fu ?_ ?_
          ·refine ak ?_ ?_
           ·exact gk dh (gk dh (gk Bg cu dj) cu) (gk Bg cu dj)
           ·refine ak ?_ ?_
            ·exact fu (ak cu (ak (fu bh (d8 d7 (by decide))) bh)) (d8 (au (au d7)) (by decide))
            ·exact bh
          ·exact d8 (au (au d7)) (by decide)
         ·exact bh
        ·exact d8 (au d7) (by decide)
    ·refine dw ?_ ?_
     ·refine @Ax _ _ _ _ (fOf _ _ _) _ ?_ (fun _ _ _ h=>h)
      ·refine wz ?_ ?_ ?_ ?_
       ·exact nd
       ·exact rfl
       ·exact Or.inl rfl
       ·refine vq _ ?_ ?_
        ·exact pv 3
        ·refine jy ?_ ?_
         ·refine ak ?_ ?_
          ·refine fu ?_ ?_
           ·refine ak ?_ ?_
            ·exact Ij cu (Iu (ak cu bh) (d8 (au d7) (by decide)) (fun B=>dj))
            ·refine ak ?_ ?_
             ·refine fu ?_ ?_
              ·exact ak cu (ak (U9 (fu (ak (aq 2 (pv 2)) bh) (d8 (au d7) (by decide))) dj) bh)
              ·exact d8 (au (au d7)) (by decide)
             ·exact bh
           ·exact d8 (au (au d7)) (by decide)
          ·exact bh
         ·exact d8 (au d7) (by decide)
     ·refine dw ?_ ?_
      ·refine @Ax _ _ _ _ (fOf _ _ _) _ ?_ (fun _ _ _ h=>h)
       ·refine wz ?_ ?_ ?_ ?_
        ·exact nd
        ·exact rfl
        ·exact Or.inl rfl
        ·refine vq _ ?_ ?_
         ·exact pv 3
         ·refine jy ?_ ?_
          ·refine ak ?_ ?_
           ·refine fu ?_ ?_
            ·refine ak ?_ ?_
             ·exact cu
             ·exact ak (fu (ak cu (ak cu (ak dj bh))) (d8 (au (au (au d7))) (by decide))) bh
            ·exact d8 (au (au d7)) (by decide)
           ·refine ak ?_ ?_
            ·refine fu ?_ ?_
             ·refine ak ?_ ?_
              ·exact cu
              ·exact ak (fu (ak cu (ak cu (ak dj bh))) (d8 (au (au (au d7))) (by decide))) bh
             ·exact d8 (au (au d7)) (by decide)
            ·exact bh
          ·exact d8 (au (au d7)) (by decide)
      ·refine dw ?_ ?_
       ·refine @Ax _ _ _ _ (fOf _ _ _) _ ?_ (fun _ _ _ h=>h)
        ·refine wz ?_ ?_ ?_ ?_
         ·exact nd
         ·exact rfl
         ·exact Or.inl rfl
         ·refine vq _ ?_ ?_
          ·exact pv 3
          ·refine jy ?_ ?_
           ·refine ak ?_ ?_
            ·refine fu ?_ ?_
             ·refine ak ?_ ?_
              ·exact cu
              ·exact ak (fu (ak cu (ak cu (ak cu bh))) (d8 (au (au (au d7))) (by decide))) bh
             ·exact d8 (au (au d7)) (by decide)
            ·exact bh
           ·exact d8 (au d7) (by decide)
       ·refine dw ?_ ?_
        ·refine @Ax _ _ _ _ (fOf _ _ _) _ ?_ (fun _ _ _ h=>h)
         ·refine wz ?_ ?_ ?_ ?_
          ·exact nd
          ·exact rfl
          ·exact Or.inl rfl
          ·refine vq _ ?_ ?_
           ·exact pv 3
           ·refine jy ?_ ?_
            ·refine ak ?_ ?_
             ·refine fu ?_ ?_
              ·refine ak ?_ ?_
               ·exact cu
               ·refine ak ?_ ?_
                ·refine fu ?_ ?_
                 ·refine ak ?_ ?_
                  ·exact cu
                  ·refine ak ?_ ?_
                   ·refine fu ?_ ?_
                    ·refine ak ?_ ?_
                     ·exact dj
                     ·refine ak ?_ ?_
                      ·refine fu ?_ ?_
                       ·exact ak (fu (ak cu (ak dj bh)) (d8 (au (au d7)) (by decide))) bh
                       ·exact d8 (au d7) (by decide)
                      ·exact bh
                    ·exact d8 (au (au d7)) (by decide)
                   ·exact ak dj bh
                 ·exact d8 (au (au (au d7))) (by decide)
                ·exact bh
              ·exact d8 (au (au d7)) (by decide)
             ·exact bh
            ·exact d8 (au d7) (by decide)
        ·refine dw ?_ ?_
         ·refine @Ax _ _ _ _ (fOf _ _ _) _ ?_ (fun _ _ _ h=>h)
          ·refine wz ?_ ?_ ?_ ?_
           ·exact nd
           ·exact rfl
           ·exact Or.inl rfl
           ·refine vq _ ?_ ?_
            ·exact pv 3
            ·refine jy ?_ ?_
             ·refine ak ?_ ?_
              ·refine fu ?_ ?_
               ·refine ak ?_ ?_
                ·exact cu
                ·refine ak ?_ ?_
                 ·refine fu ?_ ?_
                  ·refine ak ?_ ?_
                   ·exact cu
                   ·refine ak ?_ ?_
                    ·refine fu ?_ ?_
                     ·refine ak ?_ ?_
                      ·exact W7 Ge dj
                      ·refine ak ?_ ?_
                       ·refine fu ?_ ?_
                        ·exact ak (fu (ak cu (ak dj bh)) (d8 (au (au d7)) (by decide))) bh
                        ·exact d8 (au d7) (by decide)
                       ·exact bh
                     ·exact d8 (au (au d7)) (by decide)
                    ·exact bh
                  ·exact d8 (au (au d7)) (by decide)
                 ·exact bh
               ·exact d8 (au (au d7)) (by decide)
              ·exact bh
             ·exact d8 (au d7) (by decide)
         ·refine dw ?_ ?_
          ·refine @Ax _ _ _ _ (fOf _ _ _) _ ?_ (fun _ _ _ h=>h)
           ·refine wz ?_ ?_ ?_ ?_
            ·exact nd
            ·exact rfl
            ·exact Or.inl rfl
            ·refine vq _ ?_ ?_
             ·exact pv 3
             ·refine jy ?_ ?_
              ·refine ak ?_ ?_
               ·refine fu ?_ ?_
                ·refine ak ?_ ?_
                 ·exact cu
                 ·refine ak ?_ ?_
                  ·refine fu ?_ ?_
                   ·refine ak ?_ ?_
                    ·exact cu
                    ·refine ak ?_ ?_
                     ·refine fu ?_ ?_
                      ·refine ak ?_ ?_
                       ·exact fu (ak cu (ak (aq 1 (pv 1)) bh)) (d8 (au (au d7)) (by decide))
                       ·refine ak ?_ ?_
                        ·refine fu ?_ ?_
                         ·refine ak ?_ ?_
                          ·exact cu
                          ·refine ak ?_ ?_
                           ·refine fu ?_ ?_
                            ·refine ak ?_ ?_
                             ·exact aq 1 (pv 1)
                             ·exact ak (fu (ak cu (ak (aq 1 (pv 1)) bh)) (d8 (au (au d7)) (by decide))) bh
                            ·exact d8 (au (au d7)) (by decide)
                           ·exact bh
                         ·exact d8 (au (au d7)) (by decide)
                        ·exact bh
                      ·exact d8 (au (au d7)) (by decide)
                     ·exact bh
                   ·exact d8 (au (au d7)) (by decide)
                  ·exact bh
                ·exact d8 (au (au d7)) (by decide)
               ·exact bh
              ·exact d8 (au d7) (by decide)
          ·refine dw ?_ ?_
           ·refine jx (i:=4) ?_ ?_
            ·exact nd
            ·refine fu ?_ ?_
             ·refine ak ?_ ?_
              ·exact cu
              ·refine ak ?_ ?_
               ·refine fu ?_ ?_
                ·refine ak ?_ ?_
                 ·exact fu (ak cu (ak (fu bh (d8 d7 (by decide))) bh)) (d8 (au (au d7)) (by decide))
                 ·refine ak ?_ ?_
                  ·exact aq 2 (pv 2)
                  ·exact ak (fu (ak cu (ak (aq 2 (pv 2)) bh)) (d8 (au (au d7)) (by decide))) bh
                ·exact d8 (au (au (au d7))) (by decide)
               ·exact bh
             ·exact d8 (au (au d7)) (by decide)
           ·refine dw ?_ ?_
            ·refine @Ax _ _ _ _ (fOf _ _ _) _ ?_ (fun _ _ _ h=>h)
             ·refine wz ?_ ?_ ?_ ?_
              ·exact nd
              ·exact rfl
              ·exact Or.inl rfl
              ·refine vq _ ?_ ?_
               ·exact pv 3
               ·refine jy ?_ ?_
                ·refine ak ?_ ?_
                 ·refine fu ?_ ?_
                  ·exact ak cu (ak (fu (ak cu (ak (aq 2 (pv 2)) bh)) (d8 (au (au d7)) (by decide))) bh)
                  ·exact d8 (au (au d7)) (by decide)
                 ·exact bh
                ·exact d8 (au d7) (by decide)
            ·refine dw ?_ ?_
             ·refine Et _ ?_
              ·refine Bo ?_
               ·refine Mg PySem.F.plainAttrs_list PySem.F.slot_list_append PySem.F.type_list_append wj ?_ ?_
                ·exact pv 3
                ·refine ql ?_ ?_
                 ·refine fu ?_ ?_
                  ·refine ak ?_ ?_
                   ·exact cu
                   ·refine ak ?_ ?_
                    ·refine fu ?_ ?_
                     ·refine ak ?_ ?_
                      ·exact cu
                      ·exact ak (fu (ak (aq 4 (pv 4)) (ak (aq 2 (pv 2)) bh)) (d8 (au (au d7)) (by decide))) bh
                     ·exact d8 (au (au d7)) (by decide)
                    ·exact bh
                  ·exact d8 (au (au d7)) (by decide)
                 ·exact w6
             ·refine dw ?_ ?_
              ·refine Et _ ?_
               ·refine Bo ?_
                ·refine Mg PySem.F.plainAttrs_list PySem.F.slot_list_append PySem.F.type_list_append wj ?_ ?_
                 ·exact pv 3
                 ·refine ql ?_ ?_
                  ·refine fu ?_ ?_
                   ·refine ak ?_ ?_
                    ·exact cu
                    ·refine ak ?_ ?_
                     ·refine fu ?_ ?_
                      ·exact ak cu (ak (fu (ak cu (ak (aq 2 (pv 2)) bh)) (d8 (au (au d7)) (by decide))) bh)
                      ·exact d8 (au (au d7)) (by decide)
                     ·exact bh
                   ·exact d8 (au (au d7)) (by decide)
                  ·exact w6
              ·exact j6 (j5 (a2n 3 (pv 3) (gk Du (aq 0 (pv 0)) dj) (fun _ _=>rfl)))
theorem Mj {nn:Nat} (aX:u9 P w K mg base "_law_alike" (2+nn) ["_law_found","_law_due"] (_root_.K.kh nn)):u9 P w K mg base "_law_alike" (2+nn+1) ["_law_found","_law_due"] (_root_.K.kh (nn+1)):=by
 refine go (N:=["_law_found","_law_due"]) Z.h43 fun _ _ _ _ _ _ _ _ hr hu hq nd=>?_;exact dw (Cg (qz (Gk (by rfl) Z.b_isinstance (by rfl) Z.b_tuple (aq 1 (pv 1))))   (dw (Cg (PW.pt (Pq (Ds (qz (Gk (by rfl) Z.b_isinstance (by rfl) Z.b_tuple (aq 0 (pv 0))))) (J1 (jr (Ih hq) (jf (jg mz (by rfl) Z.b_len PySem.boot_len (ak (aq 0 (pv 0)) bh))) (jf (jg mz (by rfl) Z.b_len PySem.boot_len (ak (aq 1 (pv 1)) bh))) (m8 _)))))   (j6 (j5 Om))   jz)   (j6 (j5 (jf (jg (Ir (by rfl)) (by rfl) Z.b_all PyProof.Rows.boot_all (ak (yd (Bf (N:=["_law_k","_law_found","_law_due"]) ⟨rfl,fun j k h=>match j,h with | 0,h=>(by cases h; exact ⟨_,rfl,rfl,⟨.inl rfl,.inr (.inl rfl),.inl rfl⟩⟩) | 1,h=>(by cases h; exact ⟨_,rfl,rfl,⟨.inl rfl,.inr (.inl rfl),.inl rfl⟩⟩) | _+2,h=>(by cases h)⟩ ⟨rfl,rfl,by decide +kernel,by decide +kernel⟩ rfl (M8 (by rfl) Z.b_range (jf (jg mz (by rfl) Z.b_len PySem.boot_len (ak (aq 1 (pv 1)) bh)))) Lg (fun C s₀ H₀ ex pn=>pgE fun B=>(Ab 0 (p7 (show (["_law_k","_law_found","_law_due"]:List Str).Nodup by decide +kernel) rfl (Or.inl rfl)))) (fun C s₀ H₀ ex pn=>Ba) (fun C s₀ H₀ ex pn=>peE fun B=>(iy aX (hr.mono (by omega)) (by rfl) (ak (tu hu (aq 1 (pv 1)) (aq 0 (pv 0)) (fun _ _=>rfl)) (ak (tu hu (aq 2 (pv 2)) (aq 0 (pv 0)) (fun _ _=>rfl)) bh)) (bw (bw eq_nil)))))) bh))))))   jz)   (dw (Cg (qz (Lb (by rfl) Z.b_isinstance (by rfl) Z.b_str (aq 1 (pv 1))))   (j6 (j5 (K7 (Lb (by rfl) Z.b_isinstance (by rfl) Z.b_str (aq 0 (pv 0))) (V1 (Gp (Bs hq) (aq 0 (pv 0)) (aq 1 (pv 1)) (m8 _))))))   jz)   (j6 (j5 (K7 (V6 (by rfl) Z.b_isinstance (by rfl) Z.b_int (aq 0 (pv 0))) (K7 (a3l (Rz (by rfl) Z.b_isinstance (by rfl) Z.b_bool (aq 0 (pv 0)))) (V1 (Gp (Bs hq) (aq 0 (pv 0)) (aq 1 (pv 1)) (m8 _))))))))
theorem El:∀ nn:Nat,u9 P w K mg base "_law_alike" (2+nn) ["_law_found","_law_due"] (_root_.K.kh nn)
 | 0=>zero Z.h43
 | nn+1=>by
  have ih:=El nn;have aZ:=ih;exact Mj Z aZ
theorem Oq:u9 P w K mg base "_law_alike" 42 ["_law_found","_law_due"] (_root_.K.kh 40):=(El Z 40)
theorem Jz:u9 P w K mg base "_law_refused" 129 ["_law_text"] (_root_.K.qg cR cN):=by
 obtain ⟨Dx,kx,cx⟩:=Z.k;refine go (N:=["_law_text","_law_caught","e","_law_some"]) Z.h44 fun _ _ _ _ _ _ _ _ hr hu hq nd=>?_;exact dw (jx (i:=1) nd a8e)   (dw (a6h (Dr Z) rfl rfl (hr.mono (by decide)) (by rfl) (ak (aq 0 (pv 0)) bh) (bw eq_nil) (a4x (fun _=>hr.hd) nd rfl rfl kx Z.kc.1 cx (by rfl) Z.kc.2 (fun a=>Ln (wz nd rfl (Or.inl rfl) (pv 2)))) a2m)   (dw (Cg (PW.pt (Pq (Ds (qz (Jm (cv:=.ref cN) (cw:=.ref cN) (fun u r=>r) (Bq (by rfl) Z.em rfl) (by rfl) Z.b_isinstance (aq 1 (pv 1)) (htK Z)))) (Pq (Ds (qz (Jm (cv:=.ty "ValueError") (cw:=.type "ValueError") (fun u r=>r) (Xx (v:=.ty "ValueError") (by rfl) Z.b_ValueError PyProof.Rows.Boot.«ValueError» rfl) (by rfl) Z.b_isinstance (aq 1 (pv 1)) (htV Z)))) (J1 (jr (Ih hq) (abw Z.g (aq 1 (pv 1))) dj (m8 _))))))   (j6 (j5 Om))   jz)   (dw (jx (i:=3) nd (jy (ak (Jm (cv:=.ref c1) (cw:=.ref c1) (fun u r=>r) (Bq (by rfl) Z.m1 rfl) (by rfl) Z.b_isinstance (aq 1 (pv 1)) (htN Z Z.t1)) (ak (Jm (cv:=.ref c2) (cw:=.ref c2) (fun u r=>r) (Bq (by rfl) Z.m2 rfl) (by rfl) Z.b_isinstance (aq 1 (pv 1)) (htN Z Z.t2)) (ak (Jm (cv:=.ref c3) (cw:=.ref c3) (fun u r=>r) (Bq (by rfl) Z.m3 rfl) (by rfl) Z.b_isinstance (aq 1 (pv 1)) (htN Z Z.t3)) bh))) (d8 (au (au (au d7))) (by decide))))   (j6 (j5 (a3l (jf (jg (Ze (by rfl)) (by rfl) Z.b_any PyProof.Rows.boot_any (ak (gk dh (aq 3 (pv 3)) (jy (ak (Jm (cv:=.ref c4) (cw:=.ref c4) (fun u r=>r) (Bq (by rfl) Z.m4 rfl) (by rfl) Z.b_isinstance (aq 1 (pv 1)) (htN Z Z.t4)) (ak (Jm (cv:=.ref c5) (cw:=.ref c5) (fun u r=>r) (Bq (by rfl) Z.m5 rfl) (by rfl) Z.b_isinstance (aq 1 (pv 1)) (htN Z Z.t5)) bh)) (d8 (au (au d7)) (by decide)))) bh)))))))))
theorem a8v {f:Addr} {fd:FuncData} (F:Fun K "law" "law" (top 67) f fd):Bh P w K mg base CX0 130 f fd ["_law_script"] (spF K (["_law_script"]:List Str).length (_root_.K.a2y cR cN)):=by
 refine go0 (N:=["_law_script","_law_one","_law_other","_law_cell","_law_bad","_law_text","_law_good_here"]) F fun _ _ _ _ _ _ _ _ hr hu hq nd=>?_;exact dw (jx (i:=1) nd (iy (Kf Z) (hr.mono (by decide)) (by rfl) (ak (iy (Ae Z) (hr.mono (by decide)) (by rfl) (ak (aq 0 (pv 0)) (ak dj bh)) (bw (bw eq_nil))) bh) (bw eq_nil)))   (dw (jx (i:=2) nd (iy (Kf Z) (hr.mono (by decide)) (by rfl) (ak (iy (Ae Z) (hr.mono (by decide)) (by rfl) (ak (aq 0 (pv 0)) (ak dj bh)) (bw (bw eq_nil))) bh) (bw eq_nil)))   (dw (Uc PassesOwn.never rfl (Fi (gk dh (jy (ak (iy (Ae Z) (hr.mono (by decide)) (by rfl) (ak (aq 0 (pv 0)) (ak dj bh)) (bw (bw eq_nil))) bh) (d8 (au d7) (by decide))) (a0x (aq 0 (pv 0)) (Cd dj) (Cd dj)))) (Ab 3 (p7 nd rfl (Or.inl rfl)))   (dw (jx (i:=4) nd (iy (Gu Z) (hr.mono (by decide)) (by rfl) (ak (gk Fo (aq 3 (pv 3)) dj) (ak (aq 1 (pv 1)) bh)) (bw (bw eq_nil))))   (dw (Cg (jr (Bs hq) (gk Du (aq 3 (pv 3)) dj) dj (m8 _))   (j6 (jx (i:=4) nd (iy (J5 Z) (hr.mono (by decide)) (by rfl) (ak (gk Fo (aq 3 (pv 3)) dj) (ak (aq 1 (pv 1)) (ak (aq 2 (pv 2)) bh))) (bw (bw (bw eq_nil))))))   jz)   (dw (jx (i:=5) nd (iy (Lp Z) (hr.mono (by decide)) (by rfl) (ak (gk Fo (aq 3 (pv 3)) dj) (ak (aq 4 (pv 4)) (ak (iy (Jr Z) (hr.mono (by decide)) (by rfl) (ak (gk Fo (aq 3 (pv 3)) dj) bh) (bw eq_nil)) bh))) (bw (bw (bw eq_nil)))))   (dw (jx (i:=6) nd (iy (Sw Z) (hr.mono (by decide)) (by rfl) (ak (gk Fo (aq 3 (pv 3)) dj) bh) (bw eq_nil)))   (j6 (Cg (PW.pt (Pq (Ds (qz (iy (Jz Z) (hr.mono (by decide)) (by rfl) (ak (aq 5 (pv 5)) bh) (bw eq_nil)))) (J1 (Ds (qz (iy (Oq Z) (hr.mono (by decide)) (by rfl) (ak (iy (Dr Z).norm (hr.mono (by decide)) (by rfl) (ak (tu hu (aq 6 (pv 6)) dj (fun _ _=>rfl)) bh) (bw eq_nil)) (ak (tu hu (aq 6 (pv 6)) dj (fun _ _=>rfl)) bh)) (bw (bw eq_nil))))))))   (j6 (j5 Om))   jz)))))) Eo)   (j6 (j5 Om))))
end
end D
end
section
namespace C
open PySem
theorem Pu {α:Type} {h f:α->T} {g:G} {c:M Bool} {e:M T} {nv:Nat} {ai:List Slot} {sto:List SO} (aG:ai.map Vc=ai) :
  ∀ (l:List α) (acc:List T) (pre:List Slot),pre.length=nv->acc.length+l.length<=lim ->
   (∀ a∈l,∀ pre:List Slot,pre.length=nv->∃ pre',pre'.length=nv/\g (h a) ⟨pre++ai,sto⟩=some ⟨pre'++ai,sto⟩/\c ⟨pre'++ai,sto⟩=some (true,⟨pre'++ai,sto⟩)/\e ⟨pre'++ai,sto⟩=some (f a,⟨pre'++ai,sto⟩)) ->
   ∃ s',Dp g c e (l.map h) ⟨pre++ai,sto⟩ acc=some (acc++l.map f,s')/\s'.sto=sto
 | [],acc,pre,hp,hl,H=>⟨⟨pre++ai,sto⟩,by simp [Dp],rfl⟩
 | a::l,acc,pre,hp,hl,H=>by
  obtain ⟨pre',p1,p2,p3,p4⟩:=H a List.mem_cons_self pre hp;have hlen:acc.length<lim:=by simp at hl ⊢; omega
  obtain ⟨s',q1,q2⟩:=Pu aG l (acc++[f a]) (pre'.map Vc) (by simpa using p1) (by simp at hl ⊢; omega) fun b hb=>H b (List.mem_cons_of_mem _ hb);refine ⟨s',?_,q2⟩;rw [List.map_cons,Dp,p2];dsimp only;rw [p3];dsimp only;rw [p4];dsimp only;rw [if_pos hlen,jo];dsimp only;rw [List.map_append,aG,q1];simp
theorem Cq {α:Type} (h f:α->T) (l:List α) {g:G} {c:M Bool} {e:M T} {nv:Nat} {ci:List Nat} {it:M (List T)} {s s1:Sta} (env:List Slot) (ai:List Slot) (hit:it s=some (l.map h,s1)) (cz:lu ci s1.env=env) (ez:ci.map (fun i=>(env[i]?).getD none)=ai) (aG:ai.map Vc=ai) (hl:l.length<=lim)
  (H:∀ a∈l,∀ pre:List Slot,pre.length=nv->∃ pre',pre'.length=nv/\g (h a) ⟨pre++ai,s1.sto⟩=some ⟨pre'++ai,s1.sto⟩/\c ⟨pre'++ai,s1.sto⟩=some (true,⟨pre'++ai,s1.sto⟩)/\e ⟨pre'++ai,s1.sto⟩=some (f a,⟨pre'++ai,s1.sto⟩)) :
  uw nv ci g it c e s=some (.lst (l.map f),⟨env,s1.sto⟩):=by
 obtain ⟨s',q1,q2⟩:=Pu aG l [] (List.replicate nv none) (by simp) (by simpa using hl) H;unfold uw;rw [hit];dsimp only;rw [cz,ez,q1];dsimp only;rw [q2]; rfl
def okS (x:Str):Prop:=PyData.canLay0 (.str x)=true
theorem Ec {x:Str} (h:okS x):dat (.str x)=some (.str x):=by
 unfold okS at h;simp [dat,h]
theorem Lx {a b:Str} (ha:okS a) (hb:okS b):neO (.str a) (.str b)=some (.bl (!(a==b))):=by
 simp [neO,eqT,eqD,Ec ha,Ec hb,PyData.depth,PyData.eqv]
end C
namespace C
open PySem
theorem Z7 {g:G} {b:S} (P:List T->Sta->Prop) (H:∀ t r s,P (t::r) s->∃ s1 s2,g t s=some s1/\b s1=some (.next,s2)/\P r s2):∀ (ts:List T) (s:Sta),P ts s->∃ s',forL g b ts s=some (.next,s')/\P [] s'
 | [],s,h=>⟨s,by simp [forL],h⟩
 | t::r,s,h=>by
  obtain ⟨s1,s2,h1,h2,h3⟩:=H t r s h;obtain ⟨s',e,p⟩:=Z7 P H r s2 h3;refine ⟨s',?_,p⟩;rw [forL]; dsimp only; rw [h1]; dsimp only; rw [h2]; dsimp only; exact e
theorem a6u {g:G} {b:S} {ts:List T} {s:Sta} {r:Option (Flow × Sta)} (hF:forL g b ts s=r) (P:List T->Sta->Prop) (hP:P ts s) (H:∀ t r s,P (t::r) s->∃ s1 s2,g t s=some s1/\b s1=some (.next,s2)/\P r s2):∃ s',r=some (.next,s')/\P [] s':=by
 obtain ⟨s',e,p⟩:=Z7 P H ts s hP;exact ⟨s',hF.symm.trans e,p⟩
end C
namespace C
open PySem
theorem Gz {α:Type} (h:α->T) (l:List α) {k:Nat} (hk:k<l.length):iz (.lst (l.map h)) (.int (k:Int))=some (h l[k]):=by
 have h1:(k:Int)<(l.length:Int):=by omega
 simp [iz,ixI,h1,List.getElem?_eq_getElem hk]
end C
end
open C
local macro_rules | `(tactic| simp! [$ls,*])=>`(tactic| simp [uc,nq,sIf,jm,sNew,um,xr,sGo,S7,ud,Bp,Ac,d9,Fx,Ld,mOr,Ak,mIf,mOp,mUn,bf,dg,aj,c7,ao,yg,j8,iu,hName,Ub,Bv,Dj,ltT,leT,xg,j4,aec,Qh,Al,Qf,a97,a1m,Bx,lu,Vc,$ls,*])
section
namespace C
open PySem
theorem O7 {α σ:Type} {g:G} {b:S} (h:α->T) (R:σ->Sta) (step:σ->α->σ) (P:List α->σ->Prop)
  (H:∀ a r x,P (a::r) x->(∃ s1,g (h a) (R x)=some s1/\b s1=some (.next,R (step x a)))/\P r (step x a)) :
  ∀ (l:List α) (x:σ),P l x->forL g b (l.map h) (R x)=some (.next,R (l.foldl step x))/\P [] (l.foldl step x)
 | [],x,p=>⟨by simp [forL],p⟩
 | a::l,x,p=>by
  obtain ⟨⟨s1,h1,h2⟩,h3⟩:=H a l x p;obtain ⟨e,q⟩:=O7 h R step P H l (step x a) h3;refine ⟨?_,q⟩;rw [List.map_cons,forL]; dsimp only; rw [h1]; dsimp only; rw [h2]; dsimp only; exact e
theorem a2t {α σ:Type} {g:G} {b:S} {ts:List T} {s:Sta} {r:Option (Flow × Sta)} (hF:forL g b ts s=r) (h:α->T) (l:List α) (R:σ->Sta) (x0:σ) (step:σ->α->σ) (P:List α->σ->Prop) (ht:ts=l.map h) (hs:s=R x0) (hP:P l x0)
  (H:∀ a r x,P (a::r) x->(∃ s1,g (h a) (R x)=some s1/\b s1=some (.next,R (step x a)))/\P r (step x a)) :
  r=some (.next,R (l.foldl step x0))/\P [] (l.foldl step x0):=by
 subst ht hs;obtain ⟨e,p⟩:=O7 h R step P H l x0 hP;exact ⟨hF.symm.trans e,p⟩
theorem Ce {α:Type} {h f:α->T} {q:α->Bool} {g:G} {c:M Bool} {e:M T} {nv:Nat} {ai:List Slot} {sto:List SO} (aG:ai.map Vc=ai) :
  ∀ (l:List α) (acc:List T) (pre:List Slot),pre.length=nv->acc.length+l.length<=lim ->
   (∀ a∈l,∀ pre:List Slot,pre.length=nv->∃ pre',pre'.length=nv/\g (h a) ⟨pre++ai,sto⟩=some ⟨pre'++ai,sto⟩/\c ⟨pre'++ai,sto⟩=some (q a,⟨pre'++ai,sto⟩)/\(q a=true->e ⟨pre'++ai,sto⟩=some (f a,⟨pre'++ai,sto⟩))) ->
   ∃ s',Dp g c e (l.map h) ⟨pre++ai,sto⟩ acc=some (acc++(l.filter q).map f,s')/\s'.sto=sto
 | [],acc,pre,hp,hl,H=>⟨⟨pre++ai,sto⟩,by simp [Dp],rfl⟩
 | a::l,acc,pre,hp,hl,H=>by
  obtain ⟨pre',p1,p2,p3,p4⟩:=H a List.mem_cons_self pre hp;have hlen:acc.length<lim:=by simp at hl ⊢; omega
  rw [List.map_cons,Dp,p2];dsimp only;rw [p3];cases hq:q a with
  | true =>
   obtain ⟨s',q1,q2⟩:=Ce aG l (acc++[f a]) (pre'.map Vc) (by simpa using p1) (by simp at hl ⊢; omega) fun b hb=>H b (List.mem_cons_of_mem _ hb);refine ⟨s',?_,q2⟩;dsimp only;rw [p4 hq];dsimp only;rw [if_pos hlen,jo];dsimp only;rw [List.map_append,aG,q1];simp [hq]
  | false =>
   obtain ⟨s',q1,q2⟩:=Ce aG l acc (pre'.map Vc) (by simpa using p1) (by simp at hl ⊢; omega) fun b hb=>H b (List.mem_cons_of_mem _ hb);refine ⟨s',?_,q2⟩;dsimp only;rw [jo];dsimp only;rw [List.map_append,aG,q1];simp [hq]
theorem Iv {α:Type} {g:G} {c:M Bool} {e:M T} {nv:Nat} {ci:List Nat} {it:M (List T)} {s:Sta} {r:Option (T × Sta)} (hF:uw nv ci g it c e s=r) (h f:α->T) (q:α->Bool) (l:List α) (s1:Sta) (env ai:List Slot) (hit:it s=some (l.map h,s1)) (cz:lu ci s1.env=env) (ez:ci.map (fun i=>(env[i]?).getD none)=ai) (aG:ai.map Vc=ai) (hl:l.length<=lim)
  (H:∀ a∈l,∀ pre:List Slot,pre.length=nv->∃ pre',pre'.length=nv/\g (h a) ⟨pre++ai,s1.sto⟩=some ⟨pre'++ai,s1.sto⟩/\c ⟨pre'++ai,s1.sto⟩=some (q a,⟨pre'++ai,s1.sto⟩)/\(q a=true->e ⟨pre'++ai,s1.sto⟩=some (f a,⟨pre'++ai,s1.sto⟩))) :
  r=some (.lst ((l.filter q).map f),⟨env,s1.sto⟩):=by
 obtain ⟨s',q1,q2⟩:=Ce aG l [] (List.replicate nv none) (by simp) (by simpa using hl) H;rw [<- hF];unfold uw;rw [hit];dsimp only;rw [cz,ez,q1];dsimp only;rw [q2]; rfl
theorem Ra {a b:Int}:eqO (.int a) (.int b)=some (.bl (a==b)):=rfl
theorem Sd {a b:Int}:neO (.int a) (.int b)=some (.bl (!(a==b))):=by simp [neO,eqT,eqD,dat,PyData.depth,PyData.eqv]
theorem Az {a b:Str} (ha:okS a) (hb:okS b):eqO (.str a) (.str b)=some (.bl (a==b)):=by
 simp [eqO,eqT,eqD,Ec ha,Ec hb,PyData.depth,PyData.eqv]
theorem Zj {xs:List T} {k:Nat} {t:T} (h:xs[k]? = some t):iz (.tup xs) (.int (k:Int))=some t:=by
 have hk:k<xs.length:=(List.getElem?_eq_some_iff.mp h).1;have h1:(k:Int)<(xs.length:Int):=by omega
 simp [iz,ixI,h1,h]
theorem Ud {a:T} {r:List T}:iz (.tup (a::r)) (.int 0)=some a:=Zj (k:=0) rfl
theorem Yc {a b:T} {r:List T}:iz (.tup (a::b::r)) (.int 1)=some b:=Zj (k:=1) rfl
theorem a1u {i j:Nat} {x y:T} {s:Sta}:Ub [i,j] (.tup [x,y]) s=some (iu j y false (iu i x false s)):=by simp [Ub]
theorem Us {a b:S} {s s':Sta} (h:a s=some (.next,s')):nq a b s=b s':=by unfold nq; rw [h]
end C
end
section
namespace K
open C PySem
section
variable {a b:M T} {l r:M (List T)} {s s1 s2:Sta} {t u v:T} {ts:List T} {i:Nat} {F:Fn} {z:List SO} {x y:S}
theorem zo {f:T->T->Option T} (h1:a s=some (t,s1)) (h2:b s1=some (u,s2)) (h3:f t u=some v):mOp f a b s=some (v,s2):=by
 unfold mOp; rw [h1]; dsimp only; rw [h2]; dsimp only; rw [h3]
theorem zm {f:List T->Option T} (h:l s=some (ts,s1)) (h2:f ts=some u):dg f l s=some (u,s1):=by
 unfold dg; rw [h]; dsimp only; rw [h2]
theorem zc (h:a s=some (t,s1)) (h2:l s1=some (ts,s2)):aj a l s=some (t::ts,s2):=by
 unfold aj; rw [h]; dsimp only; rw [h2]
theorem zf (h:l s=some (ts,s1)) (h2:F ts s1.sto=some (t,z)):j8 F l s=some (t,⟨s1.env,z⟩):=by
 unfold j8; rw [h]; dsimp only; rw [h2]
theorem zs (h:a s=some (t,s1)):jm i a s=some (.next,iu i t false s1):=by unfold jm; rw [h]
theorem zr (h:a s=some (t,s1)):um a s=some (.ret t,s1):=by unfold um; rw [h]
theorem zq {q:Option (C.Flow × Sta)} (h:x s=some (.next,s1)) (h2:y s1=q):nq x y s=q:=by unfold nq; rw [h]; exact h2
theorem zt {k:Bool} (h:a s=some (.bl k,s1)):d9 a s=some (k,s1):=by unfold d9; rw [h]
theorem zk {c:M Bool} (h:c s=some (true,s1)) {q:Option (C.Flow × Sta)} (h2:x s1=q):sIf c x y s=q:=by unfold sIf; rw [h]; exact h2
theorem ze {c:M Bool} (h:c s=some (false,s1)) {q:Option (C.Flow × Sta)} (h2:y s1=q):sIf c x y s=q:=by unfold sIf; rw [h]; exact h2
theorem ys {s':Sta} (h:a s=some (t,s1)) (e:iu i t false s1=s'):jm i a s=some (.next,s'):=by unfold jm; rw [h,<- e]
theorem yn {s':Sta} (h:a s=some (t,s1)) (e:iu i t true s1=s'):sNew i a s=some (.next,s'):=by unfold sNew; rw [h,<- e]
theorem md {i j:Int} (h:0<j):Qh (.int i) (.int j)=some (.int (i%j)):=if_pos h
theorem acu {α:Type} {f:α->T} {l:List α}:xg [.lst (l.map f)]=some (.int l.length):=by show some (T.int ((l.map f).length:Int))=_; rw [List.length_map]
theorem ad {p q:Str} (h:p.length+q.length<lim):j4 (.str p) (.str q)=some (.str (p++q)):=if_pos h
theorem zun {f:T->Option T} (h:a s=some (t,s1)) (h2:f t=some u):mUn f a s=some (u,s1):=by unfold mUn; rw [h]; dsimp only; rw [h2]
theorem zis {α:Type} {f:α->T} {k:List α} (h:a s=some (.lst (k.map f),s1)) (hl:k.length<lim):Dj a s=some (k.map f,s1):=by
 unfold Dj; rw [h]; dsimp only; rw [List.length_map,if_pos hl]
theorem zqr (h:x s=some (.ret t,s1)):nq x y s=some (.ret t,s1):=by unfold nq; rw [h]
theorem Vq {c:M Bool} {k:Bool} (h:c s=some (k,s1)):Fx c s=some (!k,s1):=by unfold Fx; rw [h]
theorem a7n {c d:M Bool} (h:c s=some (true,s1)):mOr c d s=some (true,s1):=by unfold mOr; rw [h]
theorem Lw {c d:M Bool} {q:Option (Bool × Sta)} (h:c s=some (false,s1)) (h2:d s1=q):mOr c d s=q:=by unfold mOr; rw [h]; exact h2
theorem zb {c:M Bool} {k:Bool} (h:c s=some (k,s1)):Ak c s=some (.bl k,s1):=by unfold Ak; rw [h]
theorem za {s':Sta} {xs:List T} (h:a s=some (t,s1)) (hx:s1.env[i]? = some (some (.lst xs,true))) (hl:xs.length<lim) (hs:Ac i s=true) (e:iu i (.lst (xs++[t])) true s1=s'):ud i a s=some (.next,s'):=by
 unfold ud; rw [if_pos hs,h]; dsimp only; rw [hx]; dsimp only; rw [if_pos hl,e]
theorem a80 {α:Type} {f:α->Bool}:∀ {l:List α},a6c [.lst (l.map fun r=>.bl (f r))]=some (.bl (l.all f))/\ach [.lst (l.map fun r=>.bl (f r))]=some (.bl (l.any f)):=fun {l}=>by
 have q:∀ l:List α,Gn (l.map fun r=>.bl (f r))=some (l.map f):=fun l=>by
  induction l with
  | nil=>rfl
  | cons a l ih=>rw [List.map_cons,Gn,ih]; rfl
 refine ⟨?_,?_⟩
 ·show (Gn (l.map fun r=>.bl (f r))).map _=_;rw [q]; simp
 ·show (Gn (l.map fun r=>.bl (f r))).map _=_;rw [q]; simp
theorem acq {p q:Int} (h:p<q):ltT (.int p) (.int q)=some (.bl true):=by show some (T.bl (decide (p<q)))=_; rw [decide_eq_true h]
theorem aar {p q:Int} (h:¬ p<q):ltT (.int p) (.int q)=some (.bl false):=by show some (T.bl (decide (p<q)))=_; rw [decide_eq_false h]
theorem a9o {c d:M Bool} {j k:Bool} (h1:c s=some (j,s)) (h2:d s=some (k,s)):Ld c d s=some (j&&k,s):=by
 unfold Ld; rw [h1];cases j
 ·rfl
 ·exact h2
theorem eq_i {p q:Int} {k:Bool} (h:(p==q)=k):eqO (.int p) (.int q)=some (.bl k):=by rw [Ra,h]
theorem mu {p q:Int} (h:Dz p=true):Ie (.int p) (.int q)=some (.int (p * q)):=if_pos (by rw [h]; rfl)
theorem mu2 {p q:Int} (h:Dz q=true):Ie (.int p) (.int q)=some (.int (p * q)):=if_pos (by rw [h]; simp)
theorem zf0 (h:l s=some (ts,s1)) (h2:F ts s1.sto=some (t,s1.sto)):j8 F l s=some (t,s1):=by
 unfold j8; rw [h]; dsimp only; rw [h2]
theorem zex {s':Sta} {xs zs:List T} (h:a s=some (t,s1)) (hq:a1m t=some zs) (hx:s1.env[i]? = some (some (.lst xs,true))) (hl:xs.length+zs.length<lim) (hs:Ac i s=true) (e:iu i (.lst (xs++zs)) true s1=s'):Bp i a s=some (.next,s'):=by
 unfold Bp; rw [if_pos hs,h]; dsimp only; rw [hq,hx]; dsimp only; rw [if_pos hl,e]
theorem abb {g:G} {q:S} {w:List T} (h:g t s=some s1) (hb:q s1=some (.next,s2)):forL g q (t::w) s=forL g q w s2:=by
 rw [forL]; dsimp only; rw [h]; dsimp only; rw [hb]
theorem aen {g:G} {q:S} {m:M (List T)} {r0:Option (C.Flow × Sta)} (h:m s=some (ts,s1)) (h2:forL g q ts s1=r0):S7 g m q s=r0:=by
 unfold S7; rw [h]; exact h2
theorem zos {p:Int} (h:a s=some (.int p,s1)):Ay a s=some (some p,s1):=by unfold Ay; rw [h]
theorem zrun {n:Nat} {A:List T} {z0:List SO} (h:x ⟨A.map (fun t=>some (t,false))++List.replicate (n - A.length) none,z0⟩=some (.ret t,s1)) (h2:s1.sto=z):uc n x A z0=some (t,z):=by
 unfold uc; rw [h]; dsimp only; rw [h2]
end
section
variable {a b:SX} {u:S} {s s1 s2:Sta} {q:Option ((C.Flow ⊕ T) × Sta)} {t x:T} {fl:C.Flow} {c:M Bool} {ms:M (List T)} {F:FnX} {ts:List T} {z z0:List SO} {m:M T} {n i:Nat} {A:List T} {r:T ⊕ T} {mx:MX} {l:MXs}
theorem xq (h:a s=some (.inl .next,s1)) (h2:b s1=q):o7 a b s=q:=by unfold o7; rw [h]; exact h2
theorem xqr (h:a s=some (.inr t,s1)):o7 a b s=some (.inr t,s1):=by unfold o7; rw [h]
theorem xqt (h:a s=some (.inl (.ret t),s1)):o7 a b s=some (.inl (.ret t),s1):=by unfold o7; rw [h]
theorem xl (h:u s=some (fl,s1)):lx u s=some (.inl fl,s1):=by unfold lx; rw [h]
theorem xik (h:c s=some (true,s1)) (h2:a s1=q):xIf c a b s=q:=by unfold xIf; rw [h]; exact h2
theorem xie (h:c s=some (false,s1)) (h2:b s1=q):xIf c a b s=q:=by unfold xIf; rw [h]; exact h2
theorem xra (h:m s=some (t,s1)):xu m s=some (.inr t,s1):=by unfold xu; rw [h]
theorem ac3 (h:a ⟨A.map (fun t=>some (t,false))++List.replicate (n - A.length) none,z0⟩=some (.inl .next,s1)) (e:s1.sto=z):jw n a A z0=some (.inl .non,z):=by unfold jw; rw [h]; dsimp only; rw [e]
theorem ux (h:a ⟨A.map (fun t=>some (t,false))++List.replicate (n - A.length) none,z0⟩=some (.inl (.ret t),s1)) (e:s1.sto=z):jw n a A z0=some (.inl t,z):=by unfold jw; rw [h]; dsimp only; rw [e]
theorem m6 (h:a ⟨A.map (fun t=>some (t,false))++List.replicate (n - A.length) none,z0⟩=some (.inr t,s1)) (e:s1.sto=z):jw n a A z0=some (.inr t,z):=by unfold jw; rw [h]; dsimp only; rw [e]
theorem xup (h:m s=some (t,s1)):Ah m s=some (.inl t,s1):=by unfold Ah; rw [h]
theorem xmc (h:ms s=some (ts,s1)) (h2:F ts s1.sto=some (r,z)):gj F ms s=some (r,⟨s1.env,z⟩):=by unfold gj; rw [h]; dsimp only; rw [h2]
theorem xcs (h:mx s=some (.inl t,s1)) (h2:l s1=some (.inl ts,s2)):gq mx l s=some (.inl (t::ts),s2):=by unfold gq; rw [h]; dsimp only; rw [h2]
theorem a05 (h:mx s=some (.inr x,s1)):gq mx l s=some (.inr x,s1):=by unfold gq; rw [h]
theorem xst (h:mx s=some (.inl t,s1)) (e:iu i t false s1=s2):Ei i mx s=some (.inl .next,s2):=by unfold Ei; rw [h]; dsimp only; rw [e]
theorem xsr (h:mx s=some (.inr x,s1)):Ei i mx s=some (.inr x,s1):=by unfold Ei; rw [h]
theorem xrt (h:mx s=some (.inl t,s1)):Fw mx s=some (.inl (.ret t),s1):=by unfold Fw; rw [h]
theorem xrr (h:mx s=some (.inr x,s1)):Fw mx s=some (.inr x,s1):=by unfold Fw; rw [h]
theorem xdt (h:mx s=some (.inl t,s1)):Jy mx s=some (.inl .next,s1):=by unfold Jy; rw [h]
theorem xdr (h:mx s=some (.inr x,s1)):Jy mx s=some (.inr x,s1):=by unfold Jy; rw [h]
theorem xtu (h:l s=some (.inl ts,s1)):Ef (fun l=>some (.tup l)) l s=some (.inl (.tup ts),s1):=by unfold Ef; rw [h]
theorem xtr (h:l s=some (.inr x,s1)):Ef (fun l=>some (.tup l)) l s=some (.inr x,s1):=by unfold Ef; rw [h]
theorem a84 {c:M Bool} {m1 m2:M T} {q:Option (T × Sta)} (h:c s=some (true,s1)) (h2:m1 s1=q):mIf c m1 m2 s=q:=by unfold mIf; rw [h]; exact h2
theorem a9u {c:M Bool} {m1 m2:M T} {q:Option (T × Sta)} (h:c s=some (false,s1)) (h2:m2 s1=q):mIf c m1 m2 s=q:=by unfold mIf; rw [h]; exact h2
theorem wxf {k:Nat} (h:c s=some (false,s1)):ni (k+1) c a s=some (.inl .next,s1):=by rw [ni]; dsimp only; rw [h]
theorem wxt {k:Nat} (h:c s=some (true,s1)) (h1:a s1=some (.inl .next,s2)) (h2:ni k c a s2=q):ni (k+1) c a s=q:=by rw [ni]; dsimp only; rw [h]; dsimp only; rw [h1]; exact h2
theorem wxr {k:Nat} (h:c s=some (true,s1)) (h1:a s1=some (.inr x,s2)):ni (k+1) c a s=some (.inr x,s2):=by rw [ni]; dsimp only; rw [h]; dsimp only; rw [h1]
theorem zsl {e:M T} {y:Str} {i j:Int} (hl:y.length<lim) (h0:bf 0 s=some (.str y,s)) (h1:bf 1 s=some (.int i,s)) (he:e s=some (.int j,s)):Br (bf 0) (Ay (bf 1)) (Ay e) s=some (.str (Ve y (some i) (some j)),s):=by
 unfold Br;rw [h0]; dsimp only;rw [zos h1]; dsimp only;rw [zos he]; dsimp only;unfold a0n;dsimp only;rw [if_pos hl]
end
abbrev cs (x:Str):List Nat:=x.cps.toList
def a7h (c:Nat):Bool:=decide (97<=c)&&decide (c<=122)
def a4e (c:Nat):Bool:=decide (48<=c)&&decide (c<=57)
def Mt (c:Nat):Bool:=a7h c||a4e c
def st (l:List Nat):Str:=⟨l.toArray⟩
theorem a8a (x:Str):st (cs x)=x:=by cases x; simp [st,cs]
theorem zp (x:Str):x.length=(cs x).length:=by show x.cps.size=_; simp [cs]
theorem Qo (c:Nat) (y:Str):inS (.str ⟨#[c]⟩) (.str y)=some (.bl (decide (c∈cs y))):=by
 show some (T.bl _)=_;rw [StrLaws.found_one]
theorem Wz (c:Nat):decide (c∈cs "abcdefghijklmnopqrstuvwxyz")=a7h c:=by
 have e:cs "abcdefghijklmnopqrstuvwxyz" = [97,98,99,100,101,102,103,104,105,106,107,108,109,110,111,112,113,114,115,116,117,118,119,120,121,122]:=by decide +kernel
 rw [e,Bool.eq_iff_iff,decide_eq_true_eq];simp only [List.mem_cons,List.not_mem_nil,or_false,a7h,Bool.and_eq_true,decide_eq_true_eq];omega
theorem Wy (c:Nat):decide (c∈cs "0123456789")=a4e c:=by
 have e:cs "0123456789" = [48,49,50,51,52,53,54,55,56,57]:=by decide +kernel
 rw [e,Bool.eq_iff_iff,decide_eq_true_eq];simp only [List.mem_cons,List.not_mem_nil,or_false,a4e,Bool.and_eq_true,decide_eq_true_eq];omega
theorem a7c (c:Nat):decide (c∈cs "abcdefghijklmnopqrstuvwxyz0123456789")=Mt c:=by
 have e:cs "abcdefghijklmnopqrstuvwxyz0123456789" = cs "abcdefghijklmnopqrstuvwxyz" ++ cs "0123456789" := by decide +kernel
 have h1:=Wz c;have h2:=Wy c;rw [Bool.eq_iff_iff,decide_eq_true_eq] at h1 h2 ⊢;rw [e,List.mem_append,h1,h2,Mt,Bool.or_eq_true]
theorem a9t (c:Nat):inS (.str ⟨#[c]⟩) (.str "abcdefghijklmnopqrstuvwxyz")=some (.bl (a7h c)):=by rw [Qo,Wz]
theorem a9j (c:Nat):inS (.str ⟨#[c]⟩) (.str "0123456789")=some (.bl (a4e c)):=by rw [Qo,Wy]
theorem X7 (c:Nat):inS (.str ⟨#[c]⟩) (.str "abcdefghijklmnopqrstuvwxyz0123456789")=some (.bl (Mt c)):=by rw [Qo,a7c]
def Pn (x:Str):Prop:=(∀ c∈cs x,c<128)/\(cs x).length<1000
theorem Pn.okS {x:Str} (h:Pn x):okS x:=by
 unfold C.okS PyData.canLay0 PyData.strOk;rw [<- Array.all_toList,List.all_eq_true];intro c hc;have:=h.1 c hc;simp only [decide_eq_true_eq];omega
theorem Pn.lt {x:Str} (h:Pn x):x.length<lim:=by have:=h.2; rw [zp]; show _<1000000; omega
theorem Pn.all {x:Str} (h:Pn x):x.cps.all (· < 128)=true:=by
 rw [<- Array.all_toList,List.all_eq_true];intro c hc;exact decide_eq_true (h.1 c hc)
theorem Wx {c:Nat} (h:c<128):okS (⟨#[c]⟩:Str):=by
 unfold C.okS PyData.canLay0 PyData.strOk;simp; omega
theorem item_at {x:Str} {k:Nat} (hl:x.length<lim) (hk:k<(cs x).length):iz (.str x) (.int (k:Int))=some (.str ⟨#[(cs x)[k]]⟩):=by
 have h1:(k:Int)<((cs x).length:Int):=by omega
 simp only [iz,hl,if_true,ixI,Int.natCast_nonneg,h1,Int.toNat_natCast,Option.bind_some];rw [List.getElem?_eq_getElem hk];rfl
variable {sto:List SO}
theorem N7 {x:Str} (h:Pn x) {y:Str} {p:Nat->Bool} (hp:∀ c,inS (.str ⟨#[c]⟩) (.str y)=some (.bl (p c))) :
  dg a6c (aj (uw 1 [] (hName 0) (Es (bf 0)) Bx (mOp inS (bf 0) (ao (.str y)))) c7) ⟨[some (.str x,false)],sto⟩=some (.bl ((cs x).all p),⟨[some (.str x,false)],sto⟩):=by
 have e:uw 1 [] (hName 0) (Es (bf 0)) Bx (mOp inS (bf 0) (ao (.str y))) ⟨[some (.str x,false)],sto⟩=some (.lst ((cs x).map fun c=>.bl (p c)),⟨[some (.str x,false)],sto⟩):=by
  refine Cq (fun c=>T.str ⟨#[c]⟩) (fun c=>.bl (p c)) (cs x) (s1:=⟨[some (.str x,false)],sto⟩) _ [] ?_ rfl rfl rfl (by have:=h.2; show _<=1000000; omega) ?_
  ·unfold Es;dsimp only [bf,List.getElem?_cons_zero];rw [if_pos ⟨h.lt,h.all⟩];rfl
  ·intro c hc pre aF
   obtain ⟨a,rfl⟩:∃ a,pre=[a]:=by
    match pre,aF with
    | [a],_=>exact ⟨a,rfl⟩
   exact ⟨[some (.str ⟨#[c]⟩,false)],rfl,rfl,rfl,zo rfl rfl (hp c)⟩
 exact zm (zc e rfl) a80.1
noncomputable def aam:List Str:=["box","lock","hand","own","end","set","wait","if","else","while","rounds","either","or","and","not","take","give","label","say","at","divides","true","false"]
noncomputable def nameB (x:Str):Bool:=decide (1<=(cs x).length)&&(decide ((cs x).length<=8)&&((cs x).headD 0 |> a7h)&&(cs x).all Mt && !(aam.contains x))
noncomputable def Vs (x:Str):Bool:=!(cs x).isEmpty&&(cs x).all a4e&&(decide (cs x=[48])||decide ((cs x).headD 48≠48))
theorem Uj {x:Str} (hx:okS x):∀ l:List Str,(∀ y∈l,okS y)->inL (.str x) (l.map T.str)=some (l.contains x)
 | [],_=>rfl
 | y::l,h=>by
  have hy:=h y List.mem_cons_self;have ih:=Uj hx l fun z hz=>h z (List.mem_cons_of_mem _ hz);have e:eqD (.str y) (.str x)=some (y==x):=by simp [eqD,Ec hx,Ec hy,PyData.depth,PyData.eqv]
  have c:(x==y)=(y==x):=by rw [Bool.eq_iff_iff,beq_iff_eq,beq_iff_eq]; exact eq_comm
  rw [List.map_cons,inL,e];dsimp only;rw [ih,List.contains_cons,c];rfl
theorem Dv {x:Str} (hx:okS x) {l:List Str} (h:∀ y∈l,okS y):inT (.str x) (.tup (l.map T.str))=some (.bl (l.contains x)):=by
 unfold inT;dsimp only;rw [Ec hx];dsimp only [Option.isSome];rw [if_pos rfl,Uj hx l h];rfl
theorem Kw {x:Str} (hx:okS x) {l:List Str} (h:∀ y∈l,okS y):Hy (.str x) (.tup (l.map T.str))=some (.bl (!l.contains x)):=by
 unfold Hy; rw [Dv hx h]
theorem a66:∀ y∈aam,okS y:=by
 unfold aam okS
 decide +kernel
theorem len_str {x:Str} (h:Pn x):xg [.str x]=some (.int ((cs x).length:Int)):=by
 show (if x.length<lim then some (T.int (x.length:Int)) else none)=_;rw [if_pos h.lt,zp]
theorem zba {a b:M T} {s:Sta} {j k:Bool} (h1:a s=some (.bl j,s)) (h2:j=true->b s=some (.bl k,s)):Ak (Ld (d9 a) (d9 b)) s=some (.bl (j&&k),s):=by
 unfold Ak Ld;rw [zt h1];cases j with
 | true=>dsimp only; rw [zt (h2 rfl)]; rfl
 | false=>rfl
theorem a8t {l:List Nat} {d:Nat} (h:0<l.length):l.headD d=l[0]:=by
 cases l with
 | nil=>cases h
 | cons a l=>rfl
theorem Qu {x:Str} (h:Pn x):wu [.str x] sto=some (.bl (nameB x),sto):=by
 have hl:=h.lt;refine zrun (s1:=⟨[some (.str x,false)],sto⟩) (zr ?_) rfl
 have e1:Jo leT leT (ao (.int 1)) (dg xg (aj (bf 0) c7)) (ao (.int 8)) ⟨[some (.str x,false)],sto⟩=some (.bl (decide (1<=(cs x).length)&&decide ((cs x).length<=8)),⟨[some (.str x,false)],sto⟩):=by
  unfold Jo ao;dsimp only;rw [show dg xg (aj (bf 0) c7) ⟨[some (.str x,false)],sto⟩=some (.int ((cs x).length:Int),⟨[some (.str x,false)],sto⟩) from zm (zc rfl rfl) (len_str h)];dsimp only [leT]
  by_cases h1:1<=(cs x).length
  ·rw [decide_eq_true (show (1:Int)<=((cs x).length:Int) by omega),decide_eq_true h1];dsimp only;rw [Bool.true_and]
   by_cases h2:(cs x).length<=8
   ·rw [decide_eq_true (show ((cs x).length:Int)<=8 by omega),decide_eq_true h2]
   ·rw [decide_eq_false (show ¬ ((cs x).length:Int)<=8 by omega),decide_eq_false h2]
  ·rw [decide_eq_false (show ¬ (1:Int)<=((cs x).length:Int) by omega),decide_eq_false h1];rfl
 have e:nameB x=((decide (1<=(cs x).length)&&decide ((cs x).length<=8))&&(a7h ((cs x).headD 0)&&((cs x).all Mt && !(aam.contains x)))):=by
  unfold nameB;simp only [Bool.and_assoc]
 rw [e];refine zba e1 fun g1=>?_
 have g2:0<(cs x).length:=by
  rw [Bool.and_eq_true,decide_eq_true_eq] at g1;omega
 refine zba ?_ fun _=>?_
 ·have i0:=item_at (k:=0) hl g2;rw [a8t g2];exact zo (zo rfl rfl i0) rfl (a9t _)
 ·refine zba (N7 h X7) fun _=>?_;exact zo rfl rfl (Kw h.okS a66)
theorem Ng {x:Str} (h:Pn x):yr [.str x] sto=some (.bl (Vs x),sto):=by
 have hl:=h.lt;have e0:eqO (.str x) (.str "")=some (.bl (x == "")):=Az h.okS (by unfold okS; decide +kernel)
 have ee:(x==("" : Str))=(cs x).isEmpty:=by
  rw [Bool.eq_iff_iff,beq_iff_eq,List.isEmpty_iff];constructor
  ·intro z; rw [z]; rfl
  ·intro z; rw [<- a8a x,z]; rfl
 have ha:=N7 (sto:=sto) h a9j
 by_cases z:(!(cs x).isEmpty&&(cs x).all a4e)=true
 ·obtain ⟨z1,z2⟩:=(Bool.and_eq_true _ _).mp z;have dZ:(cs x).isEmpty=false:=by simpa using z1
  have ne:cs x≠[]:=fun q=>by rw [q] at dZ; cases dZ
  have g2:0<(cs x).length:=List.length_pos_iff.mpr ne;have i0:=item_at (k:=0) hl g2;have q0:okS (⟨#[(cs x)[0]]⟩:Str):=Wx (h.1 _ (List.getElem_mem g2));have k0:okS ("0" : Str):=by unfold okS; decide +kernel
  have a1:=Az h.okS k0;have a2:=Lx q0 k0
  have b1:(x==("0" : Str))=decide (cs x=[48]):=by
   rw [Bool.eq_iff_iff,beq_iff_eq,decide_eq_true_eq];constructor
   ·intro z; rw [z]; decide +kernel
   ·intro z; rw [<- a8a x,z]; decide +kernel
  have b2:(!((⟨#[(cs x)[0]]⟩:Str)==("0" : Str)))=decide ((cs x).headD 48≠48):=by
   rw [a8t g2];have k:(("0" : Str))=⟨#[48]⟩:=by decide +kernel
   rw [k]
   by_cases y:(cs x)[0]=48
   ·rw [y]; decide +kernel
   ·have:((⟨#[(cs x)[0]]⟩:Str)==⟨#[48]⟩)=false:=beq_eq_false_iff_ne.mpr fun q=>y (by injection q with q; injection q with q; injection q);rw [this,decide_eq_true y]; rfl
  rw [z2] at ha;have r:Vs x=(decide (cs x=[48])||decide ((cs x).headD 48≠48)):=by unfold Vs; rw [z,Bool.true_and]
  rw [r,<- b1,<- b2];refine zrun (s1:=⟨[some (.str x,false)],sto⟩) (zq (ze (Lw (zt (zo rfl rfl (by rw [e0,ee,dZ]))) (Vq (k:=true) (zt ha))) rfl) (zr (zb ?_))) rfl;cases y:(x==("0" : Str)) with
  | true=>exact a7n (zt (zo rfl rfl (by rw [a1,y])))
  | false=>exact Lw (zt (zo rfl rfl (by rw [a1,y]))) (zt (zo (zo rfl rfl i0) rfl a2))
 ·have r:Vs x=false:=by unfold Vs; rw [Bool.eq_false_iff.mpr z,Bool.false_and]
  rw [r];refine zrun (s1:=⟨[some (.str x,false)],sto⟩) (zqr (zk ?_ (zr rfl))) rfl;cases y:(cs x).isEmpty with
  | true=>exact a7n (zt (zo rfl rfl (by rw [e0,ee,y])))
  | false =>
   have:(cs x).all a4e=false:=by
    rw [y] at z;simpa using z
   rw [this] at ha;exact Lw (zt (zo rfl rfl (by rw [e0,ee,y]))) (Vq (k:=false) (zt ha))
end K
end
section
namespace K
open C PySem
variable {sto:List SO}
def Ur (l:List Nat) (k:Nat):Nat:=((l.drop k).takeWhile Mt).length
theorem a5v (l:List Nat) (k:Nat):k+Ur l k<=max k l.length:=by
 unfold Ur;have h:=(List.takeWhile_prefix (p:=Mt) (l:=l.drop k)).length_le;rw [List.length_drop] at h;omega
theorem a5n {l:List Nat} {k:Nat} (h:k<l.length) (hw:Mt l[k]=false):Ur l k=0:=by
 unfold Ur;rw [List.drop_eq_getElem_cons h,List.takeWhile_cons,hw]; rfl
theorem a1n {l:List Nat} {k:Nat} (h:k<l.length) (hw:Mt l[k]=true):Ur l k=Ur l (k+1)+1:=by
 unfold Ur;rw [List.drop_eq_getElem_cons h,List.takeWhile_cons,hw]; rfl
abbrev weC:M Bool:=Ld (d9 (mOp ltT (bf 1) (dg xg (aj (bf 0) c7)))) (d9 (mOp inS (mOp iz (bf 0) (bf 1)) (ao (.str "abcdefghijklmnopqrstuvwxyz0123456789"))))
abbrev weB:S:=jm 1 (mOp j4 (bf 1) (ao (.int 1)))
abbrev weS (x:Str) (k:Nat) (sto:List SO):Sta:=⟨[some (.str x,false),some (.int (k:Int),false)],sto⟩
theorem a8z {x:Str} (h:Pn x) (k:Nat):d9 (mOp ltT (bf 1) (dg xg (aj (bf 0) c7))) (weS x k sto)=some (decide (k<(cs x).length),weS x k sto):=by
 refine zt (zo rfl (zm (zc rfl rfl) (len_str h)) ?_)
 by_cases z:k<(cs x).length
 ·rw [decide_eq_true z]; exact acq (by omega)
 ·rw [decide_eq_false z]; exact aar (by omega)
theorem Zf {x:Str} (h:Pn x):∀ (n k:Nat),(cs x).length - k<n->k<=(cs x).length->qw n weC weB (weS x k sto)=some (.next,weS x (k+Ur (cs x) k) sto)
 | 0,_,h0,_=>absurd h0 (by omega)
 | n+1,k,hn,hk=>by
  rw [qw];dsimp only
  by_cases z:k<(cs x).length
  ·have c1:d9 (mOp inS (mOp iz (bf 0) (bf 1)) (ao (.str "abcdefghijklmnopqrstuvwxyz0123456789"))) (weS x k sto)=some (Mt (cs x)[k],weS x k sto):=zt (zo (zo rfl rfl (item_at h.lt z)) rfl (X7 _))
   have c:weC (weS x k sto)=some (Mt (cs x)[k],weS x k sto):=by
    have:=a9o (a8z h k) c1;rw [decide_eq_true z,Bool.true_and] at this;exact this
   rw [c];cases w:Mt (cs x)[k] with
   | true =>
    have b:weB (weS x k sto)=some (.next,weS x (k+1) sto):=rfl;dsimp only;rw [b];dsimp only;rw [Zf h n (k+1) (by omega) (by omega),a1n z w];rw [Nat.add_assoc,Nat.add_comm 1]
   | false=>rw [a5n z w]; rfl
  ·have c:weC (weS x k sto)=some (false,weS x k sto):=by
    unfold weC Ld;rw [a8z h k,decide_eq_false z]
   rw [c]
   have:Ur (cs x) k=0:=by
    unfold Ur;rw [List.drop_eq_nil_of_le (by omega)]; rfl
   rw [this]; rfl
theorem a1h {x:Str} (h:Pn x) {k:Nat} (hk:k<=(cs x).length):Cy [.str x,.int (k:Int)] sto=some (.int ((k+Ur (cs x) k:Nat):Int),sto) :=
 zrun (s1:=weS x (k+Ur (cs x) k) sto) (zq (Zf h 1000 k (by have:=h.2; omega) hk) (zr rfl)) rfl
noncomputable def pieceAt:List Nat->Option (List Nat)
 | []=>none
 | c::r=>if Mt c then some ((c::r).takeWhile Mt) else if (c=60\/c=62)/\r.head? = some 61 then some [c,61] else if c∈[32,43,45,42,60,62,61,91,93,44] then some [c] else none
theorem Rj {x:Str} {a b:Nat} (ha:a<=b) (hb:b<=(cs x).length):Ve x (some (a:Int)) (some (b:Int))=st (((cs x).drop a).take (b - a)):=by
 have e:x.length=(cs x).length:=zp x;have i1:HT.sIx x.length 0 (some (a:Int))=a:=by simp only [HT.sIx]; rw [if_neg (by omega),e]; omega
 have i2:HT.sIx x.length x.length (some (b:Int))=b:=by simp only [HT.sIx]; rw [if_neg (by omega),e]; omega
 unfold Ve;rw [i1,i2]; rfl
theorem a2j {x:Str} {a b:Nat} (ha:a<=(cs x).length) (hb:(cs x).length<=b):Ve x (some (a:Int)) (some (b:Int))=st ((cs x).drop a):=by
 have e:x.length=(cs x).length:=zp x;have i1:HT.sIx x.length 0 (some (a:Int))=a:=by simp only [HT.sIx]; rw [if_neg (by omega),e]; omega
 have i2:HT.sIx x.length x.length (some (b:Int))=(cs x).length:=by simp only [HT.sIx]; rw [if_neg (by omega),e]; omega
 unfold Ve;rw [i1,i2];exact congrArg st (List.take_of_length_le (by rw [List.length_drop]; exact Nat.le_refl _))
end K
end
section
namespace K
open C PySem
variable {sto:List SO}
abbrev paS (x:Str) (k:Nat) (row:Int) (sto:List SO):Sta:=⟨[some (.str x,false),some (.int (k:Int),false),some (.int row,false)],sto⟩
theorem a3f:∀ y∈(["<=",">="]:List Str),okS y:=by unfold okS; decide +kernel
theorem Zq:∀ y∈(["+","-","*","<",">","=","[","]",","]:List Str),okS y:=by unfold okS; decide +kernel
theorem Pn.sub {x:Str} (h:Pn x) {l:List Nat} (hs:∀ c∈l,c∈cs x) (hl:l.length<=(cs x).length):Pn (st l):=⟨fun c hc=>h.1 c (hs c hc),Nat.lt_of_le_of_lt hl h.2⟩
theorem a73 {c:Nat} {y:Str} {d:Nat} (hy:y=st [d]):((⟨#[c]⟩:Str)==y)=decide (c=d):=by
 subst hy
 by_cases e:c=d
 ·subst e; rw [decide_eq_true rfl]; exact beq_self_eq_true _
 ·rw [decide_eq_false e];exact beq_eq_false_iff_ne.mpr fun q=>e (by injection q with q; injection q with q; injection q)
theorem Zm {a b:List Nat}:st a=st b↔a=b:=⟨fun h=>by have:=congrArg cs h; exact this,fun h=>by rw [h]⟩
theorem a5e (c:Nat) (r:List Nat):(["<=",">="]:List Str).contains (st ((c::r).take 2))=decide ((c=60\/c=62)/\r.head? = some 61):=by
 have e1:("<=" : Str)=st [60,61]:=by decide +kernel
 have e2:(">=" : Str)=st [62,61]:=by decide +kernel
 rw [Bool.eq_iff_iff,List.contains_iff_mem,decide_eq_true_eq,List.mem_cons,List.mem_cons,e1,e2,Zm,Zm];cases r with
 | nil=>simp
 | cons d r=>simp [or_and_right]
theorem a1z (c:Nat):(["+","-","*","<",">","=","[","]",","]:List Str).contains (⟨#[c]⟩:Str)=decide (c∈[43,45,42,60,62,61,91,93,44]):=by
 have e:(["+","-","*","<",">","=","[","]",","]:List Str)=[43,45,42,60,62,61,91,93,44].map fun d=>st [d]:=by decide +kernel
 rw [e,Bool.eq_iff_iff,List.contains_iff_mem,decide_eq_true_eq,List.mem_map];constructor
 ·rintro ⟨d,hd,q⟩;injection q with q; injection q with q; injection q with q;subst q; exact hd
 ·exact fun h=>⟨c,h,rfl⟩
theorem a2f {x:Str} (h:Pn x) {k:Nat} (hk:k<(cs x).length) {row:Int} :
  Aj [.str x,.int (k:Int),.int row] sto=some ((match pieceAt ((cs x).drop k) with | some w=>.inl (.str (st w)) | none=>.inr (.int row)),sto):=by
 have hd:(cs x).drop k=(cs x)[k]::(cs x).drop (k+1):=List.drop_eq_getElem_cons hk;have it:=item_at h.lt hk;have c1:d9 (mOp inS (mOp iz (bf 0) (bf 1)) (ao (.str "abcdefghijklmnopqrstuvwxyz0123456789"))) (paS x k row sto)=some (Mt (cs x)[k],paS x k row sto):=zt (zo (zo rfl rfl it) rfl (X7 _));unfold pieceAt;rw [hd];dsimp only
 by_cases w:Mt (cs x)[k]=true
 ·rw [w] at c1;rw [if_pos w];have sl:=zsl (s:=paS x k row sto) (e:=j8 Cy (aj (bf 0) (aj (bf 1) c7))) h.lt rfl rfl (zf0 (zc rfl (zc rfl rfl)) (a1h h (Nat.le_of_lt hk)))
  have e:Ve x (some (k:Int)) (some ((k+Ur (cs x) k:Nat):Int))=st (((cs x)[k]::(cs x).drop (k+1)).takeWhile Mt):=by
   rw [Rj (Nat.le_add_right _ _) (by have:=a5v (cs x) k; omega),<- hd,Nat.add_sub_cancel_left];unfold Ur;exact congrArg st (List.prefix_iff_eq_take.mp (List.takeWhile_prefix _)).symm
  rw [e] at sl;exact ux (s1:=paS x k row sto) (xqt (xl (zk c1 (zr sl)))) rfl
 have w':Mt (cs x)[k]=false:=Bool.eq_false_iff.mpr w;rw [w'] at c1;rw [if_neg w];have sl:=zsl (s:=paS x k row sto) (e:=mOp j4 (bf 1) (ao (.int 2))) (y:=x) (i:=k) (j:=(k:Int)+2) h.lt rfl rfl rfl
 have e:Ve x (some (k:Int)) (some ((k:Int)+2))=st (((cs x)[k]::(cs x).drop (k+1)).take 2):=by
  rw [<- hd]
  by_cases z:k+2<=(cs x).length
  ·have:=Rj (x:=x) (a:=k) (b:=k+2) (by omega) z;rw [Nat.add_sub_cancel_left] at this;exact this
  ·have:=a2j (x:=x) (a:=k) (b:=k+2) (by omega) (by omega);rw [List.take_of_length_le (by rw [List.length_drop]; omega)];exact this
 rw [e] at sl;have ft:okS (st (((cs x)[k]::(cs x).drop (k+1)).take 2)):=(h.sub (l:=((cs x)[k]::(cs x).drop (k+1)).take 2) (fun c hc=>by rw [<- hd] at hc; exact List.mem_of_mem_drop (List.mem_of_mem_take hc)) (by rw [<- hd,List.length_take,List.length_drop]; omega)).okS;have c2:=Dv ft a3f;rw [a5e] at c2;have t2:d9 (mOp inT (Br (bf 0) (Ay (bf 1)) (Ay (mOp j4 (bf 1) (ao (.int 2))))) (ao (.tup [(.str "<="),(.str ">=")]))) (paS x k row sto)=some (decide (((cs x)[k]=60\/(cs x)[k]=62)/\((cs x).drop (k+1)).head? = some 61),paS x k row sto):=zt (zo sl rfl c2)
 by_cases l:((cs x)[k]=60\/(cs x)[k]=62)/\((cs x).drop (k+1)).head? = some 61
 ·rw [decide_eq_true l] at t2;rw [if_pos l]
  have e2:((cs x)[k]::(cs x).drop (k+1)).take 2=[(cs x)[k],61]:=by
   cases hr:(cs x).drop (k+1) with
   | nil=>rw [hr] at l; cases l.2
   | cons d r=>rw [hr] at l; injection l.2 with l2; rw [l2]; rfl
  rw [e2] at sl;exact ux (s1:=paS x k row sto) (xq (xl (ze c1 rfl)) (xqt (xl (zk t2 (zr sl))))) rfl
 rw [decide_eq_false l] at t2;rw [if_neg l];have fg:okS (⟨#[(cs x)[k]]⟩:Str):=Wx (h.1 _ (List.getElem_mem hk));have e3:=Az fg (show okS (" " : Str) by unfold okS; decide +kernel);rw [a73 (d:=32) (by decide +kernel)] at e3;have c3:=Dv fg Zq;rw [a1z] at c3
 have t3:mOr (d9 (mOp eqO (mOp iz (bf 0) (bf 1)) (ao (.str " ")))) (d9 (mOp inT (mOp iz (bf 0) (bf 1)) (ao (.tup [(.str "+"),(.str "-"),(.str "*"),(.str "<"),(.str ">"),(.str "="),(.str "["),(.str "]"),(.str ",")])))) (paS x k row sto)=some (decide ((cs x)[k]∈[32,43,45,42,60,62,61,91,93,44]),paS x k row sto):=by
  have e:decide ((cs x)[k]∈[32,43,45,42,60,62,61,91,93,44])=(decide ((cs x)[k]=32)||decide ((cs x)[k]∈[43,45,42,60,62,61,91,93,44])):=by
   rw [Bool.eq_iff_iff,Bool.or_eq_true,decide_eq_true_eq,decide_eq_true_eq,decide_eq_true_eq,List.mem_cons]
  rw [e]
  by_cases y:(cs x)[k]=32
  ·rw [decide_eq_true y] at e3 ⊢;exact a7n (zt (zo (zo rfl rfl it) rfl e3))
  ·rw [decide_eq_false y] at e3 ⊢;rw [Bool.false_or];exact Lw (zt (zo (zo rfl rfl it) rfl e3)) (zt (zo (zo rfl rfl it) rfl c3))
 by_cases m:(cs x)[k]∈[32,43,45,42,60,62,61,91,93,44]
 ·rw [decide_eq_true m] at t3;rw [if_pos m];exact ux (s1:=paS x k row sto) (xq (xl (ze c1 rfl)) (xq (xl (ze t2 rfl)) (xqt (xl (zk t3 (zr (zo rfl rfl it))))))) rfl
 ·rw [decide_eq_false m] at t3;rw [if_neg m];exact m6 (s1:=paS x k row sto) (xq (xl (ze c1 rfl)) (xq (xl (ze t2 rfl)) (xq (xl (ze t3 rfl)) (xra rfl)))) rfl
end K
end
section
namespace K
open C PySem
variable {sto:List SO}
noncomputable def toks:Nat->List Nat->Option (List Str)
 | 0,_=>none
 | n+1,l=>if l=[] then some [] else match pieceAt l with
  | none=>none
  | some w=>(toks n (l.drop w.length)).map fun ts=>if w=[32] then ts else st w::ts
theorem Tt {l w:List Nat} (h:pieceAt l=some w):0<w.length/\w.length<=l.length/\∀ c∈w,c∈l:=by
 unfold pieceAt at h;split at h
 ·cases h
 ·rename_i c r;split at h
  ·rename_i hw;cases h;refine ⟨?_,(List.takeWhile_prefix _).length_le,fun d hd=>(List.takeWhile_prefix _).subset hd⟩;rw [List.takeWhile_cons,hw]; exact Nat.succ_pos _
  ·split at h
   ·rename_i hc;cases h;cases r with
    | nil=>cases hc.2
    | cons d r =>
     injection hc.2 with e;subst e;refine ⟨Nat.succ_pos _,by simp,fun x hx=>?_⟩;rcases List.mem_cons.mp hx with rfl | hx
     ·exact List.mem_cons_self
     ·rw [List.mem_singleton] at hx;subst hx;exact List.mem_cons_of_mem _ List.mem_cons_self
   ·split at h
    ·cases h;refine ⟨Nat.succ_pos _,by simp,fun x hx=>?_⟩;rw [List.mem_singleton] at hx;subst hx;exact List.mem_cons_self
    ·cases h
abbrev tkS (x:Str) (row:Int) (acc:List Str) (k:Nat) (p:C.Slot) (sto:List SO):Sta:=⟨[some (.str x,false),some (.int row,false),some (.lst (acc.map T.str),true),some (.int (k:Int),false),p],sto⟩
abbrev tkC:M Bool:=d9 (mOp ltT (bf 3) (dg xg (aj (bf 0) c7)))
abbrev tkB:SX:=o7 (Ei 4 (gj Aj (aj (bf 0) (aj (bf 3) (aj (bf 1) c7)))))
 (o7 (lx (sIf (d9 (mOp neO (bf 4) (ao (.str " "))))
 (ud 2 (bf 4))
 xr))
 (lx (jm 3 (mOp j4 (bf 3) (dg xg (aj (bf 4) c7))))))
theorem aes {x:Str} (h:Pn x) {row:Int} {acc:List Str} (k:Nat) {p:C.Slot}:tkC (tkS x row acc k p sto)=some (decide (k<(cs x).length),tkS x row acc k p sto):=by
 refine zt (zo rfl (zm (zc rfl rfl) (len_str h)) ?_)
 by_cases z:k<(cs x).length
 ·rw [decide_eq_true z]; exact acq (by omega)
 ·rw [decide_eq_false z]; exact aar (by omega)
theorem R8 {x:Str} (h:Pn x) {row:Int}:∀ (n k:Nat) (acc:List Str) (p:C.Slot),(cs x).length - k<n->k<=(cs x).length->acc.length<=k ->
  (∃ ts q,toks n ((cs x).drop k)=some ts/\ni n tkC tkB (tkS x row acc k p sto)=some (.inl .next,tkS x row (acc++ts) (cs x).length q sto)) \/
  (toks n ((cs x).drop k)=none/\∃ s',s'.sto=sto/\ni n tkC tkB (tkS x row acc k p sto)=some (.inr (.int row),s'))
 | 0,_,_,_,h0,_,_=>absurd h0 (by omega)
 | n+1,k,acc,p,hn,hk,ha=>by
  have hc:=aes (sto:=sto) h (row:=row) (acc:=acc) k (p:=p)
  by_cases z:k<(cs x).length
  ·rw [decide_eq_true z] at hc;have ne:(cs x).drop k≠[]:=fun e=>by have:=List.drop_eq_nil_iff.mp e; omega
   have pa:=a2f (sto:=sto) h z (row:=row);rw [toks,if_neg ne];cases hp:pieceAt ((cs x).drop k) with
   | none =>
    rw [hp] at pa;exact .inr ⟨rfl,_,rfl,wxr (s2:=tkS x row acc k p sto) hc (xqr (xsr (xmc (s1:=tkS x row acc k p sto) (zc rfl (zc rfl (zc rfl rfl))) pa)))⟩
   | some w =>
    rw [hp] at pa;dsimp only;obtain ⟨w1,w2,w3⟩:=Tt hp;rw [List.length_drop] at w2;have pw:Pn (st w):=h.sub (fun c hc=>List.mem_of_mem_drop (w3 c hc)) (by omega);have ne2:=Lx pw.okS (show okS (" " : Str) by unfold okS; decide +kernel);have gC:(" " : Str)=st [32]:=by decide +kernel
    have eb:((st w==(" " : Str)))=decide (w=[32]):=by
     rw [gC,Bool.eq_iff_iff,beq_iff_eq,decide_eq_true_eq,Zm]
    rw [eb] at ne2;have lw:xg [.str (st w)]=some (.int (w.length:Int)):=len_str pw;have al:acc.length<lim:=by have:=h.2; show _<1000000; omega
    have fx:(acc.map T.str).length<lim:=by rw [List.length_map]; exact al
    have A:Ei 4 (gj Aj (aj (bf 0) (aj (bf 3) (aj (bf 1) c7)))) (tkS x row acc k p sto)=some (.inl .next,tkS x row acc k (some (.str (st w),false)) sto):=xst (xmc (zc rfl (zc rfl (zc rfl rfl))) pa) rfl;have C':∀ ac:List Str,jm 3 (mOp j4 (bf 3) (dg xg (aj (bf 4) c7))) (tkS x row ac k (some (.str (st w),false)) sto)=some (.next,tkS x row ac (k+w.length) (some (.str (st w),false)) sto):=fun ac=>ys (zo rfl (zm (zc rfl rfl) lw) rfl) rfl;rw [List.drop_drop]
    by_cases b:w=[32]
    ·rw [decide_eq_true b] at ne2;have B:tkB (tkS x row acc k p sto)=some (.inl .next,tkS x row acc (k+w.length) (some (.str (st w),false)) sto):=xq A (xq (xl (ze (zt (zo rfl rfl ne2)) rfl)) (xl (C' acc)));rcases R8 h n (k+w.length) acc (some (.str (st w),false)) (by omega) (by omega) (by omega) with ⟨ts,q,g1,g2⟩ | ⟨g1,s',g2,g3⟩
     ·exact .inl ⟨ts,q,by rw [g1]; simp [b],wxt hc B g2⟩
     ·exact .inr ⟨by rw [g1]; rfl,s',g2,wxt hc B g3⟩
    ·rw [decide_eq_false b] at ne2;have D:ud 2 (bf 4) (tkS x row acc k (some (.str (st w),false)) sto)=some (.next,tkS x row (acc++[st w]) k (some (.str (st w),false)) sto):=za rfl rfl fx rfl (by unfold tkS iu; simp);have B:tkB (tkS x row acc k p sto)=some (.inl .next,tkS x row (acc++[st w]) (k+w.length) (some (.str (st w),false)) sto):=xq A (xq (xl (zk (zt (zo rfl rfl ne2)) D)) (xl (C' _)));rcases R8 h n (k+w.length) (acc++[st w]) (some (.str (st w),false)) (by omega) (by omega) (by rw [List.length_append,List.length_singleton]; omega) with ⟨ts,q,g1,g2⟩ | ⟨g1,s',g2,g3⟩
     ·rw [List.append_assoc] at g2;exact .inl ⟨st w::ts,q,by rw [g1]; simp [b],wxt hc B g2⟩
     ·exact .inr ⟨by rw [g1]; rfl,s',g2,wxt hc B g3⟩
  ·rw [decide_eq_false z] at hc;have e:k=(cs x).length:=by omega
   have d:(cs x).drop k=[]:=List.drop_eq_nil_of_le (by omega);rw [d];refine .inl ⟨[],p,by rw [toks,if_pos rfl],?_⟩;rw [List.append_nil,<- e];exact wxf hc
abbrev tsT (ts:List Str):T:=.lst (ts.map T.str)
theorem Mx {x:Str} (h:Pn x) {row:Int}:Bm [.str x,.int row] sto=some ((match toks 1000 (cs x) with | some ts=>.inl (tsT ts) | none=>.inr (.int row)),sto):=by
 have A:lx (sNew 2 (dg (fun l=>some (.lst l)) c7)) ⟨[some (.str x,false),some (.int row,false),none,none,none],sto⟩=some (.inl .next,⟨[some (.str x,false),some (.int row,false),some (.lst [],true),none,none],sto⟩):=rfl;have B:lx (jm 3 (ao (.int 0))) ⟨[some (.str x,false),some (.int row,false),some (.lst [],true),none,none],sto⟩=some (.inl .next,tkS x row [] 0 none sto):=rfl;rcases R8 (sto:=sto) h (row:=row) 1000 0 [] none (by have:=h.2; omega) (Nat.zero_le _) (Nat.le_refl _) with ⟨ts,q,g1,g2⟩ | ⟨g1,s',g2,g3⟩
 ·rw [List.drop_zero] at g1;rw [g1];rw [List.nil_append] at g2;exact ux (xq A (xq B (xq g2 (xl (zr rfl))))) rfl
 ·rw [List.drop_zero] at g1;rw [g1];exact m6 (xq A (xq B (xqr g3))) g2
end K
end
section
namespace K
open C PySem
variable {cR cN:Nat} {st0:List SO}
abbrev f3 (a b c:T):List (Str × T):=[("tokens",a),("row",b),("spot",c)]
abbrev rdF (ts:List Str) (k:Nat):List (Str × T):=f3 (tsT ts) (.int 1) (.int (k:Int))
abbrev rdS (cR:Nat) (st0:List SO) (ts:List Str) (k:Nat):List SO:=st0++[.ins cR (rdF ts k)]
theorem O9 {fs:List (Str × T)}:Mi cR st0.length (st0++[.ins cR fs])=some fs:=by
 unfold Mi;rw [List.getElem?_append_right (Nat.le_refl _),Nat.sub_self];exact if_pos rfl
theorem Xm {a b:SO}:(st0++[a]).set st0.length b=st0++[b]:=by
 rw [List.set_append_right _ _ (Nat.le_refl _),Nat.sub_self]; rfl
section
variable {s:Sta} {o:M T} {v:M T} {e:List C.Slot} {fs:List (Str × T)} {t:T} {f:Str}
theorem fld {s1:Sta} (h:o s=some (.obj st0.length,s1)) (hs:s1.sto=st0++[.ins cR fs]) (hf:fs.lookup f=some t):yx cR f o s=some (t,s1):=by
 unfold yx;rw [h]; dsimp only;rw [hs,O9]; dsimp only;rw [hf]
theorem V0 {s1 s2:Sta} (hv:v s=some (t,s1)) (h:o s1=some (.obj st0.length,s2)) (hs:s2.sto=st0++[.ins cR fs]) (hl:fs.length<100):vf cR f o v s=some (.next,⟨s2.env,st0++[.ins cR (a0w f t fs)]⟩):=by
 unfold vf;rw [hv]; dsimp only;rw [h]; dsimp only;rw [hs,O9]; dsimp only;rw [if_pos hl,Xm]
end
theorem a5c {a b c:T}:(f3 a b c).lookup ("tokens" : Str)=some a:=by rfl
theorem Mr {a b c:T}:(f3 a b c).lookup ("row" : Str)=some b:=by rfl
theorem Ph {a b c:T}:(f3 a b c).lookup ("spot" : Str)=some c:=by rfl
def see (ts:List Str) (k:Nat):Str:=ts.getD k ""
theorem meth {m:Str} {F:Fn} {o:M T} {a:M (List T)} {s s1 s2:Sta} {ts:List Str} {k:Nat} {us:List T} {t:T} {z:List SO} (h:o s=some (.obj st0.length,s1)) (hs:s1.sto=rdS cR st0 ts k) (ha:a s1=some (us,s2)) (hF:F (.obj st0.length::us) s2.sto=some (t,z)) (hm:∀ a b c:T,(f3 a b c).lookup m=none):m9 cR m F o a s=some (t,⟨s2.env,z⟩):=by
 unfold m9;rw [h]; dsimp only;rw [hs,O9]; dsimp only;rw [if_pos (hm _ _ _),ha]; dsimp only;rw [hF]
theorem Nt {m:Str} {F:FnX} {o:M T} {a:MXs} {s s1 s2:Sta} {ts:List Str} {k:Nat} {us:List T} {r:T ⊕ T} {z:List SO} (h:o s=some (.obj st0.length,s1)) (hs:s1.sto=rdS cR st0 ts k) (ha:a s1=some (.inl us,s2)) (hF:F (.obj st0.length::us) s2.sto=some (r,z)) (hm:∀ a b c:T,(f3 a b c).lookup m=none):mq cR m F o a s=some (r,⟨s2.env,z⟩):=by
 unfold mq;rw [h]; dsimp only;rw [hs,O9]; dsimp only;rw [if_pos (hm _ _ _),ha]; dsimp only;rw [hF]
theorem Kh:∀ a b c:T,(f3 a b c).lookup ("seen" : Str)=none:=fun _ _ _=>rfl
theorem Ka:∀ a b c:T,(f3 a b c).lookup ("took" : Str)=none:=fun _ _ _=>rfl
theorem aae:∀ a b c:T,(f3 a b c).lookup ("next_token" : Str)=none:=fun _ _ _=>rfl
theorem ada:∀ a b c:T,(f3 a b c).lookup ("next_name" : Str)=none:=fun _ _ _=>rfl
theorem acg:∀ a b c:T,(f3 a b c).lookup ("next_number" : Str)=none:=fun _ _ _=>rfl
theorem aey:∀ a b c:T,(f3 a b c).lookup ("need_end" : Str)=none:=fun _ _ _=>rfl
theorem seen {ts:List Str} {k:Nat} (hl:ts.length<1000):iw cR cN [.obj st0.length,.int 0] (rdS cR st0 ts k)=some (.str (see ts k),rdS cR st0 ts k):=by
 have a1:yx cR "spot" (bf 0) ⟨[some (.obj st0.length,false),some (.int 0,false)],rdS cR st0 ts k⟩=some (.int (k:Int),⟨[some (.obj st0.length,false),some (.int 0,false)],rdS cR st0 ts k⟩):=fld rfl rfl Ph;have a2:yx cR "tokens" (bf 0) ⟨[some (.obj st0.length,false),some (.int 0,false)],rdS cR st0 ts k⟩=some (tsT ts,⟨[some (.obj st0.length,false),some (.int 0,false)],rdS cR st0 ts k⟩):=fld rfl rfl a5c;have a3:=zo (f:=j4) a1 (show bf 1 ⟨[some (.obj st0.length,false),some (.int 0,false)],rdS cR st0 ts k⟩=some (.int 0,⟨[some (.obj st0.length,false),some (.int 0,false)],rdS cR st0 ts k⟩) from rfl) (show j4 (.int (k:Int)) (.int 0)=some (.int (k:Int)) by show some (T.int ((k:Int)+0))=_; rw [Int.add_zero]);have a4:dg xg (aj (yx cR "tokens" (bf 0)) c7) ⟨[some (.obj st0.length,false),some (.int 0,false)],rdS cR st0 ts k⟩=some (.int (ts.length:Int),⟨[some (.obj st0.length,false),some (.int 0,false)],rdS cR st0 ts k⟩):=zm (zc a2 rfl) acu
 by_cases z:k<ts.length
 ·have e:see ts k=ts[k]:=by unfold see; rw [List.getD_eq_getElem?_getD,List.getElem?_eq_getElem z]; rfl
  rw [e]
  have c:d9 (mOp geT (mOp j4 (yx cR "spot" (bf 0)) (bf 1)) (dg xg (aj (yx cR "tokens" (bf 0)) c7))) ⟨[some (.obj st0.length,false),some (.int 0,false)],rdS cR st0 ts k⟩=some (false,⟨[some (.obj st0.length,false),some (.int 0,false)],rdS cR st0 ts k⟩) :=
   zt (zo a3 a4 (by show some (T.bl (decide ((ts.length:Int)<=(k:Int))))=_; rw [decide_eq_false (by omega)]))
  exact zrun (zq (ze c rfl) (zr (zo a2 a3 (Gz T.str ts z)))) rfl
 ·have e:see ts k = "" := by unfold see; rw [List.getD_eq_getElem?_getD,List.getElem?_eq_none_iff.mpr (by omega)]; rfl
  rw [e]
  have c:d9 (mOp geT (mOp j4 (yx cR "spot" (bf 0)) (bf 1)) (dg xg (aj (yx cR "tokens" (bf 0)) c7))) ⟨[some (.obj st0.length,false),some (.int 0,false)],rdS cR st0 ts k⟩=some (true,⟨[some (.obj st0.length,false),some (.int 0,false)],rdS cR st0 ts k⟩) :=
   zt (zo a3 a4 (by show some (T.bl (decide ((ts.length:Int)<=(k:Int))))=_; rw [decide_eq_true (by omega)]))
  exact zrun (zqr (zk c (zr rfl))) rfl
end K
end
section
namespace K
open C PySem PySem.W PySem.NumText
variable {cR cN:Nat} {st0:List SO} {ts:List Str} {k:Nat}
def Pts (ts:List Str):Prop:=ts.length<1000/\∀ t∈ts,Pn t
theorem Yg:Pn ("" : Str):=⟨fun c h=>absurd h (show ¬ c∈([]:List Nat) from List.not_mem_nil),show (0:Nat)<1000 by decide⟩
theorem Pts.see (h:Pts ts) (k:Nat):Pn (see ts k):=by
 unfold K.see
 by_cases z:k<ts.length
 ·rw [List.getD_eq_getElem?_getD,List.getElem?_eq_getElem z]; exact h.2 _ (List.getElem_mem z)
 ·rw [List.getD_eq_getElem?_getD,List.getElem?_eq_none_iff.mpr (by omega)]; exact Yg
theorem Aw (h:Pts ts):g8 cR cN [.obj st0.length] (rdS cR st0 ts k)=some (.str (see ts k),rdS cR st0 ts (k+1)):=by
 have A:jm 1 (m9 cR "seen" (iw cR cN) (bf 0) (aj (ao (.int 0)) c7)) ⟨[some (.obj st0.length,false),none],rdS cR st0 ts k⟩=some (.next,⟨[some (.obj st0.length,false),some (.str (see ts k),false)],rdS cR st0 ts k⟩) :=
  ys (meth (s1:=⟨[some (.obj st0.length,false),none],rdS cR st0 ts k⟩) (s2:=⟨[some (.obj st0.length,false),none],rdS cR st0 ts k⟩) rfl rfl rfl (seen h.1) Kh) rfl
 have B:vf cR "spot" (bf 0) (mOp j4 (yx cR "spot" (bf 0)) (ao (.int 1))) ⟨[some (.obj st0.length,false),some (.str (see ts k),false)],rdS cR st0 ts k⟩=some (.next,⟨[some (.obj st0.length,false),some (.str (see ts k),false)],rdS cR st0 ts (k+1)⟩) :=
  V0 (s1:=⟨[some (.obj st0.length,false),some (.str (see ts k),false)],rdS cR st0 ts k⟩) (s2:=⟨[some (.obj st0.length,false),some (.str (see ts k),false)],rdS cR st0 ts k⟩) (t:=.int ((k+1:Nat):Int)) (zo (fld rfl rfl Ph) rfl rfl) rfl rfl (show 3<100 by decide)
 exact zrun (zq A (zq B (zr rfl))) rfl
theorem took {x:Str} (h:Pts ts) (hx:okS x):gn cR cN [.obj st0.length,.str x] (rdS cR st0 ts k)=some (.bl (see ts k==x),rdS cR st0 ts (if (see ts k==x)=true then k+1 else k)):=by
 have A:d9 (mOp neO (m9 cR "seen" (iw cR cN) (bf 0) (aj (ao (.int 0)) c7)) (bf 1)) ⟨[some (.obj st0.length,false),some (.str x,false)],rdS cR st0 ts k⟩=some (!(see ts k==x),⟨[some (.obj st0.length,false),some (.str x,false)],rdS cR st0 ts k⟩) :=
  zt (zo (meth (s1:=⟨[some (.obj st0.length,false),some (.str x,false)],rdS cR st0 ts k⟩) (s2:=⟨[some (.obj st0.length,false),some (.str x,false)],rdS cR st0 ts k⟩) rfl rfl rfl (seen h.1) Kh) rfl (Lx (h.see k).okS hx))
 have B:vf cR "spot" (bf 0) (mOp j4 (yx cR "spot" (bf 0)) (ao (.int 1))) ⟨[some (.obj st0.length,false),some (.str x,false)],rdS cR st0 ts k⟩=some (.next,⟨[some (.obj st0.length,false),some (.str x,false)],rdS cR st0 ts (k+1)⟩) :=
  V0 (s1:=⟨[some (.obj st0.length,false),some (.str x,false)],rdS cR st0 ts k⟩) (s2:=⟨[some (.obj st0.length,false),some (.str x,false)],rdS cR st0 ts k⟩) (t:=.int ((k+1:Nat):Int)) (zo (fld rfl rfl Ph) rfl rfl) rfl rfl (show 3<100 by decide)
 cases e:(see ts k==x) with
 | true =>
  rw [e] at A;exact zrun (zq (ze A rfl) (zq B (zr rfl))) rfl
 | false =>
  rw [e] at A;exact zrun (zqr (zk A (zr rfl))) rfl
theorem Nm (h:Pts ts):j7 cR cN [.obj st0.length] (rdS cR st0 ts k)=some (if nameB (see ts k)=true then .inl (.str (see ts k)) else .inr (.int 1),rdS cR st0 ts (k+1)):=by
 have A:lx (jm 1 (m9 cR "next_token" (g8 cR cN) (bf 0) c7)) ⟨[some (.obj st0.length,false),none],rdS cR st0 ts k⟩=some (.inl .next,⟨[some (.obj st0.length,false),some (.str (see ts k),false)],rdS cR st0 ts (k+1)⟩) :=
  xl (ys (meth (s1:=⟨[some (.obj st0.length,false),none],rdS cR st0 ts k⟩) (s2:=⟨[some (.obj st0.length,false),none],rdS cR st0 ts k⟩) rfl rfl rfl (Aw h) aae) rfl)
 have B:Fx (d9 (j8 wu (aj (bf 1) c7))) ⟨[some (.obj st0.length,false),some (.str (see ts k),false)],rdS cR st0 ts (k+1)⟩=some (!nameB (see ts k),⟨[some (.obj st0.length,false),some (.str (see ts k),false)],rdS cR st0 ts (k+1)⟩) :=
  Vq (zt (zf0 (zc rfl rfl) (Qu (h.see k))))
 cases e:nameB (see ts k) with
 | true =>
  rw [e] at B;rw [if_pos rfl];exact ux (xq A (xq (xie B (xl rfl)) (xl (zr rfl)))) rfl
 | false =>
  rw [e] at B;rw [if_neg (by decide)];exact m6 (xq A (xqr (xik B (xra (fld rfl rfl Mr))))) rfl
def val (x:Str):Nat:=digitsVal (cs x)
def G9 (x:Str):Bool:=Vs x&&decide ((cs x).length<=9)&&decide (val x<=999999999)
theorem Y7 {x:Str} (h:Vs x=true) (hl:(cs x).length<=9):a7t [.str x]=some (.int (val x:Int)):=by
 unfold Vs at h;simp only [Bool.and_eq_true,Bool.not_eq_true',List.isEmpty_eq_false_iff,List.all_eq_true] at h;obtain ⟨⟨h1,h2⟩,_⟩:=h
 have hd:AllDigits (cs x):=fun c hc=>by
  have:=h2 c hc;simp only [a4e,Bool.and_eq_true,decide_eq_true_eq] at this;exact this
 unfold a7t;dsimp only;rw [if_pos (by rw [zp]; omega),intText_digits hd h1 (by rw [zp]; omega)];rfl
theorem Y8:a3d [.int 999999999]=some (.str (Str.ofString (toString (999999999:Int)))):=by
 show (if Dz 999999999=true then some (T.str (Str.ofString (toString (999999999:Int)))) else none)=_;rw [if_pos (by decide)]
theorem a00:xg [.str (Str.ofString (toString (999999999:Int)))]=some (.int 9):=by
 have e:(Str.ofString (toString (999999999:Int))).length=9:=by decide +kernel
 show (if (Str.ofString (toString (999999999:Int))).length<lim then some (T.int ((Str.ofString (toString (999999999:Int))).length:Int)) else none)=_;rw [e]; rfl
theorem Rv (h:Pts ts):fj cR cN [.obj st0.length,.int 0,.int 999999999] (rdS cR st0 ts k)=some (if G9 (see ts k)=true then .inl (.int (val (see ts k):Int)) else .inr (.int 1),rdS cR st0 ts (k+1)):=by
 have hp:=h.see k
 have A:lx (jm 3 (m9 cR "next_token" (g8 cR cN) (bf 0) c7)) ⟨[some (.obj st0.length,false),some (.int 0,false),some (.int 999999999,false),none,none],rdS cR st0 ts k⟩=some (.inl .next,⟨[some (.obj st0.length,false),some (.int 0,false),some (.int 999999999,false),some (.str (see ts k),false),none],rdS cR st0 ts (k+1)⟩) :=
  xl (ys (meth (s1:=⟨[some (.obj st0.length,false),some (.int 0,false),some (.int 999999999,false),none,none],rdS cR st0 ts k⟩) (s2:=⟨[some (.obj st0.length,false),some (.int 0,false),some (.int 999999999,false),none,none],rdS cR st0 ts k⟩) rfl rfl rfl (Aw h) aae) rfl)
 have B1:Fx (d9 (j8 yr (aj (bf 3) c7))) ⟨[some (.obj st0.length,false),some (.int 0,false),some (.int 999999999,false),some (.str (see ts k),false),none],rdS cR st0 ts (k+1)⟩=some (!Vs (see ts k),⟨[some (.obj st0.length,false),some (.int 0,false),some (.int 999999999,false),some (.str (see ts k),false),none],rdS cR st0 ts (k+1)⟩) :=
  Vq (zt (zf0 (zc rfl rfl) (Ng hp)))
 have B2:d9 (mOp gtT (dg xg (aj (bf 3) c7)) (dg xg (aj (dg a3d (aj (bf 2) c7)) c7))) ⟨[some (.obj st0.length,false),some (.int 0,false),some (.int 999999999,false),some (.str (see ts k),false),none],rdS cR st0 ts (k+1)⟩=some (decide (9<(cs (see ts k)).length),⟨[some (.obj st0.length,false),some (.int 0,false),some (.int 999999999,false),some (.str (see ts k),false),none],rdS cR st0 ts (k+1)⟩):=by
  refine zt (zo (zm (zc rfl rfl) (len_str hp)) (zm (zc (zm (zc rfl rfl) Y8) rfl) a00) ?_);show some (T.bl (decide ((9:Int)<((cs (see ts k)).length:Int))))=_
  by_cases z:9<(cs (see ts k)).length
  ·rw [decide_eq_true z,decide_eq_true (by omega)]
  ·rw [decide_eq_false z,decide_eq_false (by omega)]
 have R:∀ (e:List C.Slot),yx cR "row" (bf 0) ⟨some (.obj st0.length,false)::e,rdS cR st0 ts (k+1)⟩=some (.int 1,⟨some (.obj st0.length,false)::e,rdS cR st0 ts (k+1)⟩):=fun e=>fld rfl rfl Mr;cases e1:Vs (see ts k) with
 | false =>
  rw [e1] at B1;have n:G9 (see ts k)=false:=by unfold G9; rw [e1]; rfl
  rw [n,if_neg (by decide)];exact m6 (xq A (xqr (xik (a7n B1) (xra (R _))))) rfl
 | true =>
  rw [e1] at B1
  by_cases z:9<(cs (see ts k)).length
  ·rw [decide_eq_true z] at B2;have n:G9 (see ts k)=false:=by unfold G9; rw [decide_eq_false (show ¬ (cs (see ts k)).length<=9 by omega)]; simp
   rw [n,if_neg (by decide)];exact m6 (xq A (xqr (xik (Lw B1 B2) (xra (R _))))) rfl
  ·rw [decide_eq_false z] at B2;have iv:=Y7 e1 (by omega)
   have C':lx (jm 4 (dg a7t (aj (bf 3) c7))) ⟨[some (.obj st0.length,false),some (.int 0,false),some (.int 999999999,false),some (.str (see ts k),false),none],rdS cR st0 ts (k+1)⟩=some (.inl .next,⟨[some (.obj st0.length,false),some (.int 0,false),some (.int 999999999,false),some (.str (see ts k),false),some (.int (val (see ts k):Int),false)],rdS cR st0 ts (k+1)⟩) :=
    xl (ys (zm (zc rfl rfl) iv) rfl)
   have D1:d9 (mOp ltT (bf 4) (bf 1)) ⟨[some (.obj st0.length,false),some (.int 0,false),some (.int 999999999,false),some (.str (see ts k),false),some (.int (val (see ts k):Int),false)],rdS cR st0 ts (k+1)⟩=some (false,⟨[some (.obj st0.length,false),some (.int 0,false),some (.int 999999999,false),some (.str (see ts k),false),some (.int (val (see ts k):Int),false)],rdS cR st0 ts (k+1)⟩) :=
    zt (zo rfl rfl (aar (by omega)))
   have D2:d9 (mOp gtT (bf 4) (bf 2)) ⟨[some (.obj st0.length,false),some (.int 0,false),some (.int 999999999,false),some (.str (see ts k),false),some (.int (val (see ts k):Int),false)],rdS cR st0 ts (k+1)⟩=some (!decide (val (see ts k)<=999999999),⟨[some (.obj st0.length,false),some (.int 0,false),some (.int 999999999,false),some (.str (see ts k),false),some (.int (val (see ts k):Int),false)],rdS cR st0 ts (k+1)⟩):=by
    refine zt (zo rfl rfl ?_);show some (T.bl (decide ((999999999:Int)<(val (see ts k):Int))))=_
    by_cases y:val (see ts k)<=999999999
    ·rw [decide_eq_true y,decide_eq_false (by omega)]; rfl
    ·rw [decide_eq_false y,decide_eq_true (by omega)]; rfl
   by_cases y:val (see ts k)<=999999999
   ·rw [decide_eq_true y] at D2;have n:G9 (see ts k)=true:=by unfold G9; rw [e1,decide_eq_true y,decide_eq_true (show (cs (see ts k)).length<=9 by omega)]; rfl
    rw [n,if_pos rfl];exact ux (xq A (xq (xie (Lw B1 B2) (xl rfl)) (xq C' (xq (xie (Lw D1 D2) (xl rfl)) (xl (zr rfl)))))) rfl
   ·rw [decide_eq_false y] at D2;have n:G9 (see ts k)=false:=by unfold G9; rw [decide_eq_false y]; simp
    rw [n,if_neg (by decide)];exact m6 (xq A (xq (xie (Lw B1 B2) (xl rfl)) (xq C' (xqr (xik (Lw D1 D2) (xra (R _))))))) rfl
end K
end
section
namespace K
open C PySem
variable {cR cN:Nat} {st0:List SO} {ts:List Str} {k:Nat}
def pT (p:Str × Int):T:=.tup [.str p.1,.int p.2]
noncomputable def Gj (ts:List Str) (k:Nat) (sg:Int):Option ((Str × Int) × Nat) :=
 if nameB (see ts k)=true then some ((see ts k,sg),k+1)
 else if G9 (see ts k)=true then
  if (see ts (k+1)==("*" : Str))=true then
   if nameB (see ts (k+2))=true then some ((see ts (k+2),sg * (val (see ts k):Int)),k+3) else none
  else some (("",sg * (val (see ts k):Int)),k+1)
 else none
def Ans (F:Option ((T ⊕ T) × List SO)) (cR:Nat) (st0:List SO) (ts:List Str) (o:Option (T × Nat)):Prop :=
 (∃ t j,o=some (t,j)/\F=some (.inl t,rdS cR st0 ts j))\/(o=none/\∃ j,F=some (.inr (.int 1),rdS cR st0 ts j))
theorem a6d:okS ("*" : Str):=by unfold okS; decide +kernel
theorem a4r (h:Pts ts) {sg:Int} (hs:Dz sg=true):Ans (pq cR cN [.obj st0.length,.int sg] (rdS cR st0 ts k)) cR st0 ts ((Gj ts k sg).map fun q=>(pT q.1,q.2)):=by
 have A:d9 (j8 wu (aj (m9 cR "seen" (iw cR cN) (bf 0) (aj (ao (.int 0)) c7)) c7)) ⟨[some (.obj st0.length,false),some (.int sg,false),none],rdS cR st0 ts k⟩=some (nameB (see ts k),⟨[some (.obj st0.length,false),some (.int sg,false),none],rdS cR st0 ts k⟩) :=
  zt (zf0 (s1:=⟨[some (.obj st0.length,false),some (.int sg,false),none],rdS cR st0 ts k⟩) (zc (meth (s1:=⟨[some (.obj st0.length,false),some (.int sg,false),none],rdS cR st0 ts k⟩) (s2:=⟨[some (.obj st0.length,false),some (.int sg,false),none],rdS cR st0 ts k⟩) rfl rfl rfl (seen h.1) Kh) rfl) (Qu (h.see k)))
 have N:∀ (j:Nat) (o:C.Slot),mq cR "next_name" (j7 cR cN) (bf 0) nu ⟨[some (.obj st0.length,false),some (.int sg,false),o],rdS cR st0 ts j⟩=some (if nameB (see ts j)=true then .inl (.str (see ts j)) else .inr (.int 1),⟨[some (.obj st0.length,false),some (.int sg,false),o],rdS cR st0 ts (j+1)⟩):=fun j o =>
  Nt (s1:=⟨[some (.obj st0.length,false),some (.int sg,false),o],rdS cR st0 ts j⟩) (s2:=⟨[some (.obj st0.length,false),some (.int sg,false),o],rdS cR st0 ts j⟩) rfl rfl rfl (Nm h) ada
 have U:mq cR "next_number" (fj cR cN) (bf 0) (gq (Ah (ao (.int 0))) (gq (Ah (ao (.int 999999999))) nu)) ⟨[some (.obj st0.length,false),some (.int sg,false),none],rdS cR st0 ts k⟩=some (if G9 (see ts k)=true then .inl (.int (val (see ts k):Int)) else .inr (.int 1),⟨[some (.obj st0.length,false),some (.int sg,false),none],rdS cR st0 ts (k+1)⟩) :=
  Nt (s1:=⟨[some (.obj st0.length,false),some (.int sg,false),none],rdS cR st0 ts k⟩) (s2:=⟨[some (.obj st0.length,false),some (.int sg,false),none],rdS cR st0 ts k⟩) rfl rfl rfl (Rv h) acg
 unfold Gj;cases e1:nameB (see ts k) with
 | true =>
  rw [e1] at A;have N1:=N k none;rw [e1,if_pos rfl] at N1;refine .inl ⟨_,_,rfl,?_⟩;exact ux (s1:=⟨[some (.obj st0.length,false),some (.int sg,false),none],rdS cR st0 ts (k+1)⟩) (xqt (xik A (xrt (xtu (xcs N1 (xcs (xup rfl) rfl)))))) rfl
 | false =>
  rw [e1] at A;rw [if_neg (show ¬ false=true by decide)];cases e2:G9 (see ts k) with
  | false =>
   rw [e2,if_neg (by decide)] at U;refine .inr ⟨rfl,k+1,?_⟩
   have O:a1b Ie (Ah (bf 1)) (mq cR "next_number" (fj cR cN) (bf 0) (gq (Ah (ao (.int 0))) (gq (Ah (ao (.int 999999999))) nu))) ⟨[some (.obj st0.length,false),some (.int sg,false),none],rdS cR st0 ts k⟩=some (.inr (.int 1),⟨[some (.obj st0.length,false),some (.int sg,false),none],rdS cR st0 ts (k+1)⟩):=by
    unfold a1b;rw [xup (t:=.int sg) (s1:=⟨[some (.obj st0.length,false),some (.int sg,false),none],rdS cR st0 ts k⟩) rfl];dsimp only;rw [U]
   exact m6 (xq (xie A (xl rfl)) (xqr (xsr O))) rfl
  | true =>
   rw [e2,if_pos rfl] at U;rw [if_pos rfl]
   have O:a1b Ie (Ah (bf 1)) (mq cR "next_number" (fj cR cN) (bf 0) (gq (Ah (ao (.int 0))) (gq (Ah (ao (.int 999999999))) nu))) ⟨[some (.obj st0.length,false),some (.int sg,false),none],rdS cR st0 ts k⟩=some (.inl (.int (sg * (val (see ts k):Int))),⟨[some (.obj st0.length,false),some (.int sg,false),none],rdS cR st0 ts (k+1)⟩):=by
    unfold a1b;rw [xup (t:=.int sg) (s1:=⟨[some (.obj st0.length,false),some (.int sg,false),none],rdS cR st0 ts k⟩) rfl];dsimp only;rw [U];dsimp only;rw [mu hs]
   generalize sg * (val (see ts k):Int)=m at O ⊢;have S:Ei 2 (a1b Ie (Ah (bf 1)) (mq cR "next_number" (fj cR cN) (bf 0) (gq (Ah (ao (.int 0))) (gq (Ah (ao (.int 999999999))) nu)))) ⟨[some (.obj st0.length,false),some (.int sg,false),none],rdS cR st0 ts k⟩=some (.inl .next,⟨[some (.obj st0.length,false),some (.int sg,false),some (.int m,false)],rdS cR st0 ts (k+1)⟩):=xst O rfl;have T1:=took (cR:=cR) (cN:=cN) (st0:=st0) (k:=k+1) h a6d
   have W:d9 (m9 cR "took" (gn cR cN) (bf 0) (aj (ao (.str "*")) c7)) ⟨[some (.obj st0.length,false),some (.int sg,false),some (.int m,false)],rdS cR st0 ts (k+1)⟩=some (see ts (k+1) == "*",⟨[some (.obj st0.length,false),some (.int sg,false),some (.int m,false)],rdS cR st0 ts (if (see ts (k+1) == "*")=true then k+1+1 else k+1)⟩) :=
    zt (meth (s1:=⟨[some (.obj st0.length,false),some (.int sg,false),some (.int m,false)],rdS cR st0 ts (k+1)⟩) (s2:=⟨[some (.obj st0.length,false),some (.int sg,false),some (.int m,false)],rdS cR st0 ts (k+1)⟩) rfl rfl rfl T1 Ka)
   cases e3:(see ts (k+1)==("*" : Str)) with
   | false =>
    rw [e3,if_neg (by decide)] at W;rw [if_neg (show ¬ false=true by decide)];refine .inl ⟨_,_,rfl,?_⟩;exact ux (s1:=⟨[some (.obj st0.length,false),some (.int sg,false),some (.int m,false)],rdS cR st0 ts (k+1)⟩) (xq (xie A (xl rfl)) (xq S (xq (xie W (xl rfl)) (xl (zr rfl))))) rfl
   | true =>
    rw [e3,if_pos rfl] at W;rw [if_pos rfl];have N2:=N (k+2) (some (.int m,false));cases e4:nameB (see ts (k+2)) with
    | true =>
     rw [e4,if_pos rfl] at N2;rw [if_pos rfl];refine .inl ⟨_,_,rfl,?_⟩;exact ux (s1:=⟨[some (.obj st0.length,false),some (.int sg,false),some (.int m,false)],rdS cR st0 ts (k+2+1)⟩) (xq (xie A (xl rfl)) (xq S (xqt (xik W (xrt (xtu (xcs N2 (xcs (xup rfl) rfl)))))))) rfl
    | false =>
     rw [e4,if_neg (by decide)] at N2;rw [if_neg (show ¬ false=true by decide)];refine .inr ⟨rfl,k+2+1,?_⟩;exact m6 (xq (xie A (xl rfl)) (xq S (xqr (xik W (xrr (xtr (a05 N2))))))) rfl
end K
end
section
namespace K
open C PySem
abbrev Sm:=Int × List (Str × Int)
def smT (s:Sm):T:=.tup [.int s.1,.tup (s.2.map pT)]
theorem Tv {x y:Str}:∀ {l:List Str},y∈Mw x l->y=x\/y∈l
 | [],h=>by simp [Mw] at h; exact .inl h
 | z::l,h=>by
  unfold Mw at h;split at h
  ·rcases List.mem_cons.mp h with rfl | h
   ·exact .inl rfl
   ·exact .inr h
  ·rcases List.mem_cons.mp h with rfl | h
   ·exact .inr List.mem_cons_self
   ·rcases Tv h with h | h
    ·exact .inl h
    ·exact .inr (List.mem_cons_of_mem _ h)
theorem Tf {x:Str}:∀ {l:List Str},(Mw x l).length=l.length+1
 | []=>rfl
 | z::l=>by unfold Mw; split <;> simp [Tf]
theorem yh (l:List Str):∀ acc:List Str,(∀ y∈l.foldl (fun acc x=>Mw x acc) acc,y∈l\/y∈acc)/\(l.foldl (fun acc x=>Mw x acc) acc).length=l.length+acc.length:=by
 induction l with
 | nil=>intro acc; exact ⟨fun y h=>.inr h,by simp⟩
 | cons x l ih =>
  intro acc;obtain ⟨h1,h2⟩:=ih (Mw x acc);refine ⟨fun y hy=>?_,by rw [List.foldl_cons,h2,Tf,List.length_cons]; omega⟩;rcases h1 y hy with h | h
  ·exact .inl (List.mem_cons_of_mem _ h)
  ·rcases Tv h with rfl | h
   ·exact .inl List.mem_cons_self
   ·exact .inr h
theorem Yi {l:List Str} {y:Str} (h:y∈Af l):y∈l:=by
 rcases (yh l []).1 y h with h | h
 ·exact h
 ·cases h
theorem Pa {l:List Str}:(Af l).length=l.length:=by have:=(yh l []).2; unfold Af; simpa using this
abbrev Pr:=Str × Int
def dd (d:List Pr):List (C.Key × T):=d.map fun p=>(.inr p.1,.int p.2)
def gt:List Pr->Str->Int
 | [],_=>0
 | (k,v)::r,b=>if k=b then v else gt r b
def ks (d:List Pr):List Str:=d.map (·.1)
noncomputable def pt (d:List Pr) (b:Str) (v:Int):List Pr:=if b∈ks d then d.map fun p=>if p.1=b then (p.1,v) else p else d++[(b,v)]
theorem Wq (b:Str):∀ d:List Pr,(Qd (.inr b) (dd d)).getD (.int 0)=.int (gt d b)
 | []=>rfl
 | (k,v)::r=>by
  have ih:=Wq b r;unfold dd at ih ⊢;simp only [List.map_cons,Qd,gt]
  by_cases h:k=b
  ·simp [h]
  ·rw [if_neg (by simpa using h),if_neg h,ih]
theorem Uv {b:Str}:∀ {d:List Pr},b∈ks d->Qd (.inr b) (dd d)=some (.int (gt d b))
 | [],h=>by simp [ks] at h
 | (k,v)::r,h=>by
  unfold dd;simp only [List.map_cons,Qd,gt]
  by_cases e:k=b
  ·simp [e]
  ·rw [if_neg (by simpa using e),if_neg e];simp only [ks,List.map_cons,List.mem_cons] at h;rcases h with h | h
   ·exact absurd h.symm e
   ·exact Uv (d:=r) h
theorem a4o {b:Str}:∀ {d:List Pr},b∉ks d->gt d b=0
 | [],_=>rfl
 | (k,v)::r,h=>by
  simp only [ks,List.map_cons,List.mem_cons,not_or] at h;rw [gt,if_neg (fun e=>h.1 e.symm)];exact a4o (d:=r) h.2
theorem a6p (b:Str) (v:Int) (d:List Pr):a5w (.inr b) (.int v) (dd d)=dd (pt d b v):=by
 have any:((dd d).any fun p=>decide (p.1=Sum.inr b))=decide (b∈ks d):=by
  rw [Bool.eq_iff_iff];simp only [List.any_eq_true,decide_eq_true_eq,dd,ks,List.mem_map];constructor
  ·rintro ⟨x,⟨p,hp,rfl⟩,h⟩;simp only [Sum.inr.injEq] at h;exact ⟨p,hp,h⟩
  ·rintro ⟨p,hp,h⟩;exact ⟨_,⟨p,hp,rfl⟩,by simp [h]⟩
 unfold a5w pt;rw [any]
 by_cases h:b∈ks d
 ·rw [if_pos (by simpa using h),if_pos h];unfold dd;rw [List.map_map,List.map_map];apply List.map_congr_left;intro p _;simp only [Function.comp,Sum.inr.injEq];split <;> rfl
 ·rw [if_neg (by simpa using h),if_neg h];unfold dd;rw [List.map_append]; rfl
theorem a8m (d:List Pr) (b:Str) (v:Int):ks (pt d b v)=if b∈ks d then ks d else ks d++[b]:=by
 unfold pt;split
 ·unfold ks;rw [List.map_map];apply List.map_congr_left;intro p _;simp only [Function.comp];split <;> rfl
 ·unfold ks; rw [List.map_append]; rfl
theorem Nf {b k:Str} {v:Int} {r:List Pr}:b∈ks ((k,v)::r)↔b=k\/b∈ks r:=by simp [ks]
theorem a4h {b:Str} {e:List Pr}:∀ {d:List Pr},gt (d++e) b=if b∈ks d then gt d b else gt e b
 | []=>by simp [ks]
 | (k,v)::r=>by
  simp only [List.cons_append,gt]
  by_cases h:k=b
  ·rw [if_pos h,if_pos h,if_pos (Nf.mpr (.inl h.symm))]
  ·rw [if_neg h,if_neg h,a4h (d:=r)];have bR:(b∈ks ((k,v)::r))↔b∈ks r:=Nf.trans ⟨fun z=>z.resolve_left fun z=>h z.symm,.inr⟩
   by_cases hr:b∈ks r
   ·rw [if_pos hr,if_pos (bR.mpr hr)]
   ·rw [if_neg hr,if_neg (fun z=>hr (bR.mp z))]
theorem a4b {b c:Str} {v:Int}:∀ {d:List Pr},gt (d.map fun p=>if p.1=b then (p.1,v) else p) c=if c=b/\c∈ks d then v else gt d c
 | []=>by simp [ks,gt]
 | (k,w)::r=>by
  have ih:=a4b (b:=b) (c:=c) (v:=v) (d:=r);rw [List.map_cons]
  by_cases h:k=b
  ·rw [if_pos h];simp only [gt]
   by_cases hc:k=c
   ·rw [if_pos hc,if_pos ⟨by rw [<- hc,h],Nf.mpr (.inl hc.symm)⟩]
   ·rw [if_neg hc,if_neg hc,ih];have hb:¬ c=b:=fun z=>hc (by rw [h,z]);rw [if_neg (fun z=>hb z.1),if_neg (fun z=>hb z.1)]
  ·rw [if_neg h];simp only [gt]
   by_cases hc:k=c
   ·rw [if_pos hc,if_pos hc];have hb:¬ c=b:=fun z=>h (by rw [hc,z]);rw [if_neg (fun z=>hb z.1)]
   ·rw [if_neg hc,if_neg hc,ih];have bR:(c∈ks ((k,w)::r))↔c∈ks r:=Nf.trans ⟨fun z=>z.resolve_left fun z=>hc z.symm,.inr⟩
    by_cases hr:c=b/\c∈ks r
    ·rw [if_pos hr,if_pos ⟨hr.1,bR.mpr hr.2⟩]
    ·rw [if_neg hr,if_neg (fun z=>hr ⟨z.1,bR.mp z.2⟩)]
theorem abu {d:List Pr} {b c:Str} {v:Int}:gt (pt d b v) c=if c=b then v else gt d c:=by
 unfold pt;split
 ·rename_i h;rw [a4b]
  by_cases e:c=b
  ·rw [if_pos ⟨e,by rw [e]; exact h⟩,if_pos e]
  ·rw [if_neg (fun z=>e z.1),if_neg e]
 ·rename_i h;rw [a4h]
  by_cases e:c=b
  ·subst e;rw [if_neg h,if_pos rfl]; simp [gt]
  ·rw [if_neg e];split
   ·rfl
   ·rename_i h2;have:¬ b=c:=fun z=>e z.symm;rw [a4o h2];simp [gt,this]
def tot:List Pr->Str->Int
 | [],_=>0
 | (k,v)::r,b=>(if k=b then v else 0)+tot r b
def Qi (l:List Pr) (d:List Pr):List Pr:=l.foldl (fun d p=>pt d p.1 (gt d p.1+p.2)) d
theorem a01 (b:Str):∀ (l d:List Pr),gt (Qi l d) b=gt d b+tot l b
 | [],d=>by simp [Qi,tot]
 | (k,v)::r,d=>by
  have ih:=a01 b r (pt d k (gt d k+v));unfold Qi at ih ⊢;rw [List.foldl_cons,ih,abu,tot]
  by_cases h:b=k
  ·subst h; simp; omega
  ·have h2:¬ k=b:=fun z=>h z.symm;rw [if_neg h,if_neg h2]; omega
theorem Zo:∀ (l d:List Pr),(ks d).Nodup->(ks (Qi l d)).Nodup/\(∀ b,b∈ks (Qi l d)↔b∈ks d\/b∈ks l)
 | [],d,h=>⟨h,fun b=>by simp [Qi,ks]⟩
 | (k,v)::r,d,h=>by
  have h1:(ks (pt d k (gt d k+v))).Nodup:=by
   rw [a8m];split
   ·exact h
   ·rename_i hn;rw [List.nodup_append];exact ⟨h,by simp,fun a ha b hb=>by simp at hb; subst hb; exact fun z=>hn (by rw [<- z]; exact ha)⟩
  obtain ⟨a1,a2⟩:=Zo r (pt d k (gt d k+v)) h1;unfold Qi at a1 a2 ⊢;rw [List.foldl_cons];refine ⟨a1,fun b=>?_⟩;rw [a2 b,a8m,Nf]
  by_cases hk:k∈ks d
  ·rw [if_pos hk];constructor
   ·rintro (z | z)
    ·exact .inl z
    ·exact .inr (.inr z)
   ·rintro (z | z | z)
    ·exact .inl z
    ·subst z; exact .inl hk
    ·exact .inr z
  ·rw [if_neg hk];constructor
   ·rintro (z | z)
    ·rcases List.mem_append.mp z with z | z
     ·exact .inl z
     ·simp at z; exact .inr (.inl z)
    ·exact .inr (.inr z)
   ·rintro (z | z | z)
    ·exact .inl (List.mem_append_left _ z)
    ·subst z; exact .inl (List.mem_append_right _ (by simp))
    ·exact .inr z
noncomputable def prt (l:List Pr):List Pr:=((Af (ks (Qi l []))).filter fun b=>tot l b != 0).map fun b=>(b,tot l b)
section
variable {sto:List SO}
theorem keys_str:∀ d:List Pr,Eh ((dd d).map fun p=>Vw p.1)=some (ks d)
 | []=>rfl
 | (k,v)::r=>by
  have ih:=keys_str r;show (Eh ((dd r).map fun p=>Vw p.1)).map (k :: ·)=_;rw [ih]; rfl
theorem Xl {d:List Pr} (h:d.length<64):M6 [.dic (dd d)]=some (.lst ((Af (ks d)).map T.str)):=by
 have h2:(dd d).length<64:=by simpa [dd] using h
 simp only [M6,if_pos h2,keys_str,Option.map_some]
def prs (l:List Pr) (s:T):Prop:=s=.lst (l.map pT)\/s=.tup (l.map pT)
theorem a65 {l:List Pr} {s:T} (h:prs l s) (hl:l.length<1000000) {m:M T} {st aa:Sta} (e:m st=some (s,aa)):Dj m st=some (l.map pT,aa):=by
 have h1:l.length<lim:=hl;rcases h with rfl | rfl <;> simp [Dj,e,h1]
theorem aa5 {b:Str} {v:Int} {d:List Pr}:a5w (.inr b) (.int v) (dd d)=dd (pt d b v):=a6p b v d
theorem a5t {v:Int}:neO (.int v) (.int 0)=some (.bl (v != 0)):=by
 rw [Sd]; rfl
theorem Z9 {n:Int} {l:List Pr} {s:T} (hs:prs l s) (hl:l.length<1000) (bG:(ks (Qi l [])).length<64):Bk [.int n,s] sto=some (smT (n,prt l),sto):=by
 have e1:bf 1 ⟨[some (.int n,false),some (s,false),some (.dic (dd []),true),none,none,none],sto⟩=some (s,⟨[some (.int n,false),some (s,false),some (.dic (dd []),true),none,none,none],sto⟩):=rfl;have is:=a65 hs (by omega) e1;obtain ⟨hn,hk⟩:=Zo l [] (by simp [ks]);unfold Bk uc;rw [show ([T.int n,s].map (fun t=>some (t,false))++List.replicate (6 - [T.int n,s].length) none:List Slot)=[some (.int n,false),some (s,false),none,none,none,none] from rfl];rw [Us (s':=⟨[some (.int n,false),some (s,false),some (.dic (dd []),true),none,none,none],sto⟩) rfl]
 have loop:(S7 (Ub [3,4]) (Dj (bf 1)) (Gb 2 (bf 3) (mOp j4 (G3 2 (bf 3) (ao (.int 0))) (bf 4)))) ⟨[some (.int n,false),some (s,false),some (.dic (dd []),true),none,none,none],sto⟩
   = some (.next,⟨[some (.int n,false),some (s,false),some (.dic (dd (Qi l [])),true),(l.foldl (fun (x:List Pr × Slot × Slot) p=>(pt x.1 p.1 (gt x.1 p.1+p.2),some (.str p.1,false),some (.int p.2,false))) ([],none,none)).2.1,(l.foldl (fun (x:List Pr × Slot × Slot) p=>(pt x.1 p.1 (gt x.1 p.1+p.2),some (.str p.1,false),some (.int p.2,false))) ([],none,none)).2.2,none],sto⟩):=by
  unfold S7;rw [is];dsimp only;generalize hF:forL _ _ _ _=r
  obtain ⟨rfl,_⟩:=a2t hF pT l (fun (x:List Pr × Slot × Slot)=>(⟨[some (.int n,false),some (s,false),some (.dic (dd x.1),true),x.2.1,x.2.2,none],sto⟩:Sta)) ([],none,none)
   (fun x p=>(pt x.1 p.1 (gt x.1 p.1+p.2),some (.str p.1,false),some (.int p.2,false))) (fun r x=>x.1.length+r.length<=l.length) rfl rfl (by simp) (by
    rintro p r x h1;simp only [List.length_cons] at h1;have aQ:(dd x.1).length<lim:=by simp only [dd,List.length_map]; show _<1000000; omega
    refine ⟨⟨_,by unfold pT; exact a1u,?_⟩,?_⟩
    ·simp! [Gb,G3,Qz,keyOf,Wq,aQ,aa5]
    ·have:(pt x.1 p.1 (gt x.1 p.1+p.2)).length<=x.1.length+1:=by
      unfold pt;split
      ·rw [List.length_map]; omega
      ·rw [List.length_append,List.length_singleton]; exact Nat.le_refl _
     dsimp only;omega)
  have fst:∀ (l:List Pr) (x:List Pr × Slot × Slot),(l.foldl (fun (x:List Pr × Slot × Slot) p=>(pt x.1 p.1 (gt x.1 p.1+p.2),some (T.str p.1,false),some (T.int p.2,false))) x).1=Qi l x.1:=fun l=>by
   induction l with
   | nil=>intro x; rfl
   | cons p l ih=>intro x; rw [List.foldl_cons,ih]; rfl
  rw [fst]
 rw [Us loop];generalize (l.foldl (fun (x:List Pr × Slot × Slot) p=>(pt x.1 p.1 (gt x.1 p.1+p.2),some (T.str p.1,false),some (T.int p.2,false))) ([],none,none)).2.1=o3;generalize (l.foldl (fun (x:List Pr × Slot × Slot) p=>(pt x.1 p.1 (gt x.1 p.1+p.2),some (T.str p.1,false),some (T.int p.2,false))) ([],none,none)).2.2=o4;generalize hd:Qi l []=d at *;have gM:=Xl (d:=d) (by simpa [ks] using bG);have il:(Af (ks d)).length<lim:=by rw [Pa]; show _<1000000; omega
 simp! [];generalize hF:uw 1 _ _ _ _ _ _=r
 have e:=Iv hF T.str (fun b=>pT (b,gt d b)) (fun b=>gt d b != 0) (Af (ks d)) ⟨[some (.int n,false),some (s,false),some (.dic (dd d),false),o3,o4,none],sto⟩ [some (.int n,false),some (s,false),some (.dic (dd d),false),o3,o4,none] [some (.dic (dd d),false)] (by first | exact rfl | simp! [gM,il]) rfl rfl rfl (Nat.le_of_lt il) (fun b hb pre hp=>by
  have gy:b∈ks d:=Yi hb;have hg:=Uv gy
  match pre,hp with
  | [p0],_=>exact ⟨[some (.str b,false)],rfl,by first | exact rfl | simp! [],by first | exact rfl | simp! [iz,keyOf,hg,a5t],fun _=>by first | exact rfl | simp! [iz,keyOf,hg,pT]⟩)
 subst e;have hg:∀ b,gt d b=tot l b:=fun b=>by rw [<- hd,a01]; simp [gt]
 simp! [Eu,smT,prt,hd];simp only [hg];rfl
end
theorem Td (l:List Pr):(ks (Qi l [])).length<=l.length:=by
 have go:∀ (l d:List Pr),(Qi l d).length<=d.length+l.length:=by
  intro l
  induction l with
  | nil=>intro d; simp [Qi]
  | cons p l ih =>
   intro d;have h1:=ih (pt d p.1 (gt d p.1+p.2))
   have h2:(pt d p.1 (gt d p.1+p.2)).length<=d.length+1:=by
    unfold pt;split
    ·rw [List.length_map]; omega
    ·rw [List.length_append,List.length_singleton]; exact Nat.le_refl _
   unfold Qi at h1 ⊢;rw [List.foldl_cons,List.length_cons];omega
 have:=go l [];simpa [ks] using this
variable {cR cN:Nat} {st0:List SO} {ts:List Str} {k:Nat}
def ab (i:Int):Int:=if i<0 then -i else i
def vd (s:Sm):Bool:=(s.1::s.2.map (·.2)).all fun i=>decide (ab i<=999999999)
theorem ints_map {α:Type} (f:α->Int):∀ l:List α,Ox (l.map fun a=>T.int (f a))=some (l.map f)
 | []=>rfl
 | a::l=>by simp [Ox,ints_map f l]
theorem a8o (l:List Int) (hl:l≠[]):∃ m,aaf (l.map ab)=some m/\decide (999999999<m)=!l.all fun i=>decide (ab i<=999999999):=by
 obtain ⟨m,hm⟩:∃ m,aaf (l.map ab)=some m:=by
  cases l with
  | nil=>exact absurd rfl hl
  | cons a l=>exact ⟨_,rfl⟩
 refine ⟨m,hm,?_⟩;obtain ⟨h1,h2⟩:=Ni hm;rw [Bool.eq_iff_iff,decide_eq_true_eq,Bool.not_eq_true',<- Bool.not_eq_true,List.all_eq_true];constructor
 ·intro h h3;obtain ⟨i,hi,e⟩:=List.mem_map.mp h1;have:=h3 i hi;rw [decide_eq_true_eq] at this;omega
 ·intro h
  by_cases z:999999999<m
  ·exact z
  ·exact absurd (fun i hi=>decide_eq_true (by have:=h2 _ (List.mem_map_of_mem hi); omega)) h
theorem bounded {s:Sm} (hl:s.2.length<1000):Ao cR cN [.obj st0.length,smT s] (rdS cR st0 ts k)=some (if vd s=true then .inl (smT s) else .inr (.int 1),rdS cR st0 ts k):=by
 have bW:s.2.length<lim:=by show _<1000000; omega
 have c1:uw 2 [] (Ub [0,1]) (Dj (mOp iz (bf 1) (ao (.int 1)))) Bx (bf 1) ⟨[some (.obj st0.length,false),some (smT s,false),none],rdS cR st0 ts k⟩=some (.lst (s.2.map fun p=>.int p.2),⟨[some (.obj st0.length,false),some (smT s,false),none],rdS cR st0 ts k⟩):=by
  refine Cq pT (fun p=>.int p.2) s.2 (s1:=⟨[some (.obj st0.length,false),some (smT s,false),none],rdS cR st0 ts k⟩) _ [] ?_ rfl rfl rfl (Nat.le_of_lt bW) ?_
  ·have:mOp iz (bf 1) (ao (.int 1)) ⟨[some (.obj st0.length,false),some (smT s,false),none],rdS cR st0 ts k⟩=some (.tup (s.2.map pT),⟨[some (.obj st0.length,false),some (smT s,false),none],rdS cR st0 ts k⟩):=zo rfl rfl Yc;unfold Dj;rw [this];dsimp only;rw [if_pos (by rw [List.length_map]; exact bW)]
  ·intro p hp pre aF
   obtain ⟨a,b,rfl⟩:∃ a b,pre=[a,b]:=by
    match pre,aF with
    | [a,b],_=>exact ⟨a,b,rfl⟩
   exact ⟨[some (.str p.1,false),some (.int p.2,false)],rfl,by unfold pT; rw [a1u]; rfl,rfl,rfl⟩
 have L:(s.2.map fun p=>T.int p.2)=(s.2.map (·.2)).map T.int:=by rw [List.map_map]; rfl
 have A:lx (jm 2 (mOp j4 (dg (fun l=>some (.lst l)) (aj (mOp iz (bf 1) (ao (.int 0))) c7)) (uw 2 [] (Ub [0,1]) (Dj (mOp iz (bf 1) (ao (.int 1)))) Bx (bf 1)))) ⟨[some (.obj st0.length,false),some (smT s,false),none],rdS cR st0 ts k⟩=some (.inl .next,⟨[some (.obj st0.length,false),some (smT s,false),some (.lst ((s.1::s.2.map (·.2)).map T.int),false)],rdS cR st0 ts k⟩):=by
  refine xl (ys (zo (zm (zc (zo rfl rfl Ud) rfl) rfl) c1 (v:=.lst ((s.1::s.2.map (·.2)).map T.int)) ?_) rfl);rw [L];show (if [T.int s.1].length+((s.2.map (·.2)).map T.int).length<lim then some (T.lst ([T.int s.1]++(s.2.map (·.2)).map T.int)) else none)=_;rw [if_pos (by rw [List.length_map,List.length_map]; show 1+_<1000000; omega)];rfl
 have dN:(s.1::s.2.map (·.2)).length<lim:=by rw [List.length_cons,List.length_map]; show _<1000000; omega
 have eS:vd s=(s.1::s.2.map (·.2)).all fun i=>decide (ab i<=999999999):=rfl;generalize hg:(s.1::s.2.map (·.2))=l at A dN eS;have cm:l≠[]:=by rw [<- hg]; exact List.cons_ne_nil _ _
 obtain ⟨m,m1,m2⟩:=a8o l cm
 have c2:uw 1 [] (hName 0) (Dj (bf 2)) Bx (dg a97 (aj (bf 0) c7)) ⟨[some (.obj st0.length,false),some (smT s,false),some (.lst (l.map T.int),false)],rdS cR st0 ts k⟩=some (.lst (l.map fun i=>.int (ab i)),⟨[some (.obj st0.length,false),some (smT s,false),some (.lst (l.map T.int),false)],rdS cR st0 ts k⟩):=by
  refine Cq T.int (fun i=>.int (ab i)) l (s1:=⟨[some (.obj st0.length,false),some (smT s,false),some (.lst (l.map T.int),false)],rdS cR st0 ts k⟩) _ [] (zis rfl dN) rfl rfl rfl (Nat.le_of_lt dN) ?_;intro i hi pre aF
  obtain ⟨a,rfl⟩:∃ a,pre=[a]:=by
   match pre,aF with
   | [a],_=>exact ⟨a,rfl⟩
  exact ⟨[some (.int i,false)],rfl,rfl,rfl,rfl⟩
 have mx:a1v [.lst (l.map fun i=>.int (ab i))]=some (.int m):=by
  show (Ox (l.map fun i=>T.int (ab i))).bind (fun l=>(aaf l).map T.int)=_;rw [ints_map,Option.bind_some,m1]; rfl
 have B:d9 (mOp gtT (dg a1v (aj (uw 1 [] (hName 0) (Dj (bf 2)) Bx (dg a97 (aj (bf 0) c7))) c7)) (ao (.int 999999999))) ⟨[some (.obj st0.length,false),some (smT s,false),some (.lst (l.map T.int),false)],rdS cR st0 ts k⟩=some (!vd s,⟨[some (.obj st0.length,false),some (smT s,false),some (.lst (l.map T.int),false)],rdS cR st0 ts k⟩):=by
  refine zt (zo (zm (zc c2 rfl) mx) rfl ?_);show some (T.bl (decide ((999999999:Int)<m)))=_;rw [m2,eS]
 cases e:vd s with
 | true =>
  rw [e] at B;rw [if_pos rfl];exact ux (xq A (xq (xie B (xl rfl)) (xl (zr rfl)))) rfl
 | false =>
  rw [e] at B;rw [if_neg (by decide)];exact m6 (xq A (xqr (xik B (xra (fld rfl rfl Mr))))) rfl
theorem U7 (h:nameB (see ts k)=true):k<ts.length:=by
 by_cases z:k<ts.length
 ·exact z
 ·have:see ts k = "" := by unfold see; rw [List.getD_eq_getElem?_getD,List.getElem?_eq_none_iff.mpr (by omega)]; rfl
  rw [this] at h;exact absurd h (by decide +kernel)
theorem a6z (h:G9 (see ts k)=true):k<ts.length:=by
 by_cases z:k<ts.length
 ·exact z
 ·have:see ts k = "" := by unfold see; rw [List.getD_eq_getElem?_getD,List.getElem?_eq_none_iff.mpr (by omega)]; rfl
  rw [this] at h;exact absurd h (by decide +kernel)
theorem Ug (h:Pts ts) {sg:Int} {p:Str × Int} {j:Nat} (e:Gj ts k sg=some (p,j)):k<j/\j<=ts.length/\Pn p.1:=by
 unfold Gj at e;split at e
 ·rename_i h1;cases e;have:=U7 h1;exact ⟨by omega,by omega,h.see k⟩
 ·split at e
  ·rename_i h2;have:=a6z h2;split at e
   ·split at e
    ·rename_i h4;cases e;have:=U7 h4;exact ⟨by omega,by omega,h.see _⟩
    ·cases e
   ·cases e;exact ⟨by omega,by omega,Yg⟩
  ·cases e
end K
end
section
namespace K
open C PySem
variable {cR cN:Nat} {st0:List SO} {ts:List Str} {k:Nat}
def Oo:List Str:=["+","-"]
def sgn (x:Str):Int:=if (x==("+" : Str))=true then 1 else -1
noncomputable def Yd:Nat->List Str->Nat->List (Str × Int)->Option (List (Str × Int) × Nat)
 | 0,_,_,_=>none
 | n+1,ts,k,acc=>if Oo.contains (see ts k)=true then (match Gj ts (k+1) (sgn (see ts k)) with
   | some (p,j)=>Yd n ts j (acc++[p])
   | none=>none) else some (acc,k)
theorem Ls:∀ y∈Oo,okS y:=by unfold Oo okS; decide +kernel
theorem a74 (x:Str):Dz (sgn x)=true:=by unfold sgn; split <;> decide
abbrev nsS (cR:Nat) (st0:List SO) (ts:List Str) (k:Nat) (acc:List (Str × Int)) (o:C.Slot):Sta:=⟨[some (.obj st0.length,false),some (.lst (acc.map pT),true),o,none,none],rdS cR st0 ts k⟩
abbrev nsC (cR cN:Nat):M Bool:=d9 (mOp inT (m9 cR "seen" (iw cR cN) (bf 0) (aj (ao (.int 0)) c7)) (dg (fun l=>some (.tup l)) (aj (ao (.str "+")) (aj (ao (.str "-")) c7))))
abbrev nsB (cR cN:Nat):SX:=o7 (lx (jm 2 (mIf (d9 (mOp eqO (m9 cR "next_token" (g8 cR cN) (bf 0) c7) (ao (.str "+")))) (ao (.int 1)) (mUn Qf (ao (.int 1))))))
 (v7 1 (gj (pq cR cN) (aj (bf 0) (aj (bf 2) c7))))
theorem xap {i:Nat} {e:MX} {s s1 s2:Sta} {xs:List T} {t:T} (hs:Ac i s=true) (h:e s=some (.inl t,s1)) (hx:s1.env[i]? = some (some (.lst xs,true))) (hl:xs.length<lim) (e2:iu i (.lst (xs++[t])) true s1=s2):v7 i e s=some (.inl .next,s2):=by
 unfold v7; rw [if_pos hs,h]; dsimp only; rw [hx]; dsimp only; rw [if_pos hl,e2]
theorem adb {i:Nat} {e:MX} {s s1:Sta} {x:T} (hs:Ac i s=true) (h:e s=some (.inr x,s1)):v7 i e s=some (.inr x,s1):=by
 unfold v7; rw [if_pos hs,h]
theorem af6 (h:Pts ts) {acc:List (Str × Int)} {o:C.Slot}:nsC cR cN (nsS cR st0 ts k acc o)=some (Oo.contains (see ts k),nsS cR st0 ts k acc o) :=
 zt (zo (meth (s1:=nsS cR st0 ts k acc o) (s2:=nsS cR st0 ts k acc o) rfl rfl rfl (seen h.1) Kh) rfl (Dv (h.see k).okS Ls))
theorem a4p (h:Pts ts) {acc:List (Str × Int)} {o:C.Slot}:jm 2 (mIf (d9 (mOp eqO (m9 cR "next_token" (g8 cR cN) (bf 0) c7) (ao (.str "+")))) (ao (.int 1)) (mUn Qf (ao (.int 1)))) (nsS cR st0 ts k acc o)=some (.next,nsS cR st0 ts (k+1) acc (some (.int (sgn (see ts k)),false))):=by
 have c:d9 (mOp eqO (m9 cR "next_token" (g8 cR cN) (bf 0) c7) (ao (.str "+"))) (nsS cR st0 ts k acc o)=some (see ts k == "+",nsS cR st0 ts (k+1) acc o) :=
  zt (zo (meth (s1:=nsS cR st0 ts k acc o) (s2:=nsS cR st0 ts k acc o) rfl rfl rfl (Aw h) aae) rfl (Az (h.see k).okS (Ls _ List.mem_cons_self)))
 unfold sgn;cases e:(see ts k==("+" : Str)) with
 | true=>rw [e] at c; exact ys (a84 c rfl) rfl
 | false=>rw [e] at c; exact ys (a9u c rfl) rfl
theorem Kv (h:Pts ts) {sg:Int} (hs:Dz sg=true) {e:List C.Slot} {ms:M (List T)} {s0:Sta} (hm:ms s0=some ([.obj st0.length,.int sg],⟨e,rdS cR st0 ts k⟩)) :
  (∃ p j,Gj ts k sg=some (p,j)/\gj (pq cR cN) ms s0=some (.inl (pT p),⟨e,rdS cR st0 ts j⟩))\/(Gj ts k sg=none/\∃ j,gj (pq cR cN) ms s0=some (.inr (.int 1),⟨e,rdS cR st0 ts j⟩)):=by
 rcases a4r (cR:=cR) (cN:=cN) (st0:=st0) (k:=k) h hs with ⟨t,j,g1,g2⟩ | ⟨g1,j,g2⟩
 ·obtain ⟨⟨p,j'⟩,g3,g4⟩:=Option.map_eq_some_iff.mp g1;cases g4;exact .inl ⟨p,j',g3,xmc hm g2⟩
 ·exact .inr ⟨Option.map_eq_none_iff.mp g1,j,xmc hm g2⟩
theorem Xy (h:Pts ts):∀ (n k:Nat) (acc:List (Str × Int)) (o:C.Slot),ts.length - k<n->acc.length<=k->k<=ts.length->(∀ p∈acc,Pn p.1) ->
  (∃ acc' j o',Yd n ts k acc=some (acc',j)/\ni n (nsC cR cN) (nsB cR cN) (nsS cR st0 ts k acc o)=some (.inl .next,nsS cR st0 ts j acc' o')/\acc'.length<=j/\j<=ts.length/\∀ p∈acc',Pn p.1) \/
  (Yd n ts k acc=none/\∃ s' j,ni n (nsC cR cN) (nsB cR cN) (nsS cR st0 ts k acc o)=some (.inr (.int 1),s')/\s'.sto=rdS cR st0 ts j)
 | 0,_,_,_,h0,_,_,_=>absurd h0 (by omega)
 | n+1,k,acc,o,hn,ha,hk,hp=>by
  have c:=af6 (cR:=cR) (cN:=cN) (st0:=st0) (k:=k) h (acc:=acc) (o:=o);rw [Yd];cases e:Oo.contains (see ts k) with
  | false =>
   rw [e] at c;rw [if_neg (by decide)];exact .inl ⟨acc,k,o,rfl,wxf c,ha,hk,hp⟩
  | true =>
   rw [e] at c;rw [if_pos rfl]
   have zk:k<ts.length:=by
    by_cases z:k<ts.length
    ·exact z
    ·have:see ts k = "" := by unfold see; rw [List.getD_eq_getElem?_getD,List.getElem?_eq_none_iff.mpr (by omega)]; rfl
     rw [this] at e;exact absurd e (by decide +kernel)
   have S:=a4p (cR:=cR) (cN:=cN) (st0:=st0) (k:=k) h (acc:=acc) (o:=o);have al:(acc.map pT).length<lim:=by rw [List.length_map]; have:=h.1; show _<1000000; omega
   rcases Kv (cR:=cR) (cN:=cN) (st0:=st0) (k:=k+1) h (a74 (see ts k)) (ms:=aj (bf 0) (aj (bf 2) c7)) (s0:=nsS cR st0 ts (k+1) acc (some (.int (sgn (see ts k)),false))) (e:=[some (.obj st0.length,false),some (.lst (acc.map pT),true),some (.int (sgn (see ts k)),false),none,none]) rfl with ⟨p,j,g1,g2⟩ | ⟨g1,j,g2⟩
   ·obtain ⟨h1,h2,h3⟩:=Ug h g1;rw [g1];dsimp only;have B:nsB cR cN (nsS cR st0 ts k acc o)=some (.inl .next,nsS cR st0 ts j (acc++[p]) (some (.int (sgn (see ts k)),false))):=xq (xl S) (xap rfl g2 rfl al (by unfold iu nsS; simp))
    rcases Xy h n j (acc++[p]) (some (.int (sgn (see ts k)),false)) (by omega) (by rw [List.length_append,List.length_singleton]; omega) h2 (fun q hq=>by
     rcases List.mem_append.mp hq with z | z
     ·exact hp q z
     ·rw [List.mem_singleton] at z; subst z; exact h3) with ⟨acc',j',o',f1,f2,f3⟩ | ⟨f1,s',j',f2,f3⟩
    ·exact .inl ⟨acc',j',o',f1,wxt c B f2,f3⟩
    ·exact .inr ⟨f1,s',j',wxt c B f2,f3⟩
   ·rw [g1];exact .inr ⟨rfl,_,j,wxr c (xq (xl S) (adb rfl g2)),rfl⟩
theorem Od (l:List Pr):(prt l).length<=l.length:=by
 unfold prt;rw [List.length_map];refine Nat.le_trans (List.length_filter_le _ _) ?_;rw [Pa];exact Td l
theorem xnl {i:Nat} {a:MXs} {s s1 s2:Sta} {us:List T} (h:a s=some (.inl us,s1)) (e:iu i (.lst us) true s1=s2):Gs i a s=some (.inl .next,s2):=by unfold Gs; rw [h]; dsimp only; rw [e]
theorem xnr {i:Nat} {a:MXs} {s s1:Sta} {x:T} (h:a s=some (.inr x,s1)):Gs i a s=some (.inr x,s1):=by unfold Gs; rw [h]
end K
end
section
namespace K
open C PySem
variable {cR cN:Nat} {sto:List SO}
theorem Xh:∀ (n:Nat) (l:List Nat) (ts:List Str),toks n l=some ts->(∀ c∈l,c<128)->ts.length<=l.length/\∀ t∈ts,(∀ c∈cs t,c<128)/\(cs t).length<=l.length
 | 0,_,_,h,_=>nomatch h
 | n+1,l,ts,h,hl=>by
  rw [toks] at h;split at h
  ·cases h; exact ⟨Nat.zero_le _,fun t ht=>by cases ht⟩
  ·cases hp:pieceAt l with
   | none=>rw [hp] at h; cases h
   | some w =>
    rw [hp] at h;obtain ⟨us,e1,e2⟩:=Option.map_eq_some_iff.mp h;obtain ⟨w1,w2,w3⟩:=Tt hp;obtain ⟨a,b⟩:=Xh n (l.drop w.length) us e1 fun c hc=>hl c (List.mem_of_mem_drop hc);rw [List.length_drop] at a b;have b':∀ t∈us,(∀ c∈cs t,c<128)/\(cs t).length<=l.length:=fun t ht=>⟨(b t ht).1,by have:=(b t ht).2; omega⟩;split at e2
    ·subst e2; exact ⟨by omega,b'⟩
    ·subst e2;refine ⟨by rw [List.length_cons]; omega,fun t ht=>?_⟩;rcases List.mem_cons.mp ht with rfl | ht
     ·exact ⟨fun c hc=>hl c (w3 c hc),w2⟩
     ·exact b' t ht
theorem a2w {st0:List SO} {ts:List Str} {k:Nat}:rm cR cN [.obj st0.length] (rdS cR st0 ts k)=some (if k<ts.length then .inr (.int 1) else .inl .non,rdS cR st0 ts k):=by
 have a1:yx cR "spot" (bf 0) ⟨[some (.obj st0.length,false)],rdS cR st0 ts k⟩=some (.int (k:Int),⟨[some (.obj st0.length,false)],rdS cR st0 ts k⟩):=fld rfl rfl Ph;have a2:yx cR "tokens" (bf 0) ⟨[some (.obj st0.length,false)],rdS cR st0 ts k⟩=some (tsT ts,⟨[some (.obj st0.length,false)],rdS cR st0 ts k⟩):=fld rfl rfl a5c
 have c:d9 (mOp ltT (yx cR "spot" (bf 0)) (dg xg (aj (yx cR "tokens" (bf 0)) c7))) ⟨[some (.obj st0.length,false)],rdS cR st0 ts k⟩=some (decide (k<ts.length),⟨[some (.obj st0.length,false)],rdS cR st0 ts k⟩):=by
  refine zt (zo a1 (zm (zc a2 rfl) acu) ?_)
  by_cases z:k<ts.length
  ·rw [decide_eq_true z]; exact acq (by omega)
  ·rw [decide_eq_false z]; exact aar (by omega)
 by_cases z:k<ts.length
 ·rw [decide_eq_true z] at c;rw [if_pos z];exact m6 (xik c (xra (fld rfl rfl Mr))) rfl
 ·rw [decide_eq_false z] at c;rw [if_neg z];exact ac3 (xie c (xl rfl)) rfl
theorem xmk {c:Nat} {F:FnX} {a:M (List T)} {s s1:Sta} {us:List T} {z:List SO} (h:a s=some (us,s1)) (hF:F (.obj s1.sto.length::us) (s1.sto++[.ins c []])=some (.inl .non,z)):Ej c F a s=some (.inl (.obj s1.sto.length),⟨s1.env,z⟩):=by
 unfold Ej; rw [h]; dsimp only; rw [hF]
theorem adg {c:Nat} {F:FnX} {a:M (List T)} {s s1:Sta} {us:List T} {z:List SO} {x:T} (h:a s=some (us,s1)) (hF:F (.obj s1.sto.length::us) (s1.sto++[.ins c []])=some (.inr x,z)):Ej c F a s=some (.inr x,⟨s1.env,z⟩):=by
 unfold Ej; rw [h]; dsimp only; rw [hF]
theorem xfs {c:Nat} {f:Str} {o:M T} {v:MX} {s s1 s2:Sta} {st0:List SO} {fs:List (Str × T)} {t:T} (hv:v s=some (.inl t,s1)) (h:o s1=some (.obj st0.length,s2)) (hs:s2.sto=st0++[.ins c fs]) (hl:fs.length<100):Cw c f o v s=some (.inl .next,⟨s2.env,st0++[.ins c (a0w f t fs)]⟩):=by
 unfold Cw;rw [hv]; dsimp only;rw [h]; dsimp only;rw [hs,O9]; dsimp only;rw [if_pos hl,Xm]
theorem xfr {c:Nat} {f:Str} {o:M T} {v:MX} {s s1:Sta} {x:T} (hv:v s=some (.inr x,s1)):Cw c f o v s=some (.inr x,s1):=by
 unfold Cw;rw [hv]
theorem Ss {x:Str} (h:Pn x) {st0:List SO} {ts:List Str} (ht:toks 1000 (cs x)=some ts):u6 cR cN [.obj st0.length,.str x,.int 1] (st0++[.ins cR []])=some (.inl .non,rdS cR st0 ts 0):=by
 have tk:=Mx (sto:=st0++[.ins cR []]) h (row:=1);rw [ht] at tk
 have A:Cw cR "tokens" (bf 0) (gj Bm (aj (bf 1) (aj (bf 2) c7))) ⟨[some (.obj st0.length,false),some (.str x,false),some (.int 1,false)],st0++[.ins cR []]⟩=some (.inl .next,⟨[some (.obj st0.length,false),some (.str x,false),some (.int 1,false)],st0++[.ins cR [("tokens",tsT ts)]]⟩) :=
  xfs (fs:=[]) (s2:=⟨[some (.obj st0.length,false),some (.str x,false),some (.int 1,false)],st0++[.ins cR []]⟩) (xmc (s1:=⟨[some (.obj st0.length,false),some (.str x,false),some (.int 1,false)],st0++[.ins cR []]⟩) (zc rfl (zc rfl rfl)) tk) rfl rfl (by decide)
 have B:lx (vf cR "row" (bf 0) (bf 2)) ⟨[some (.obj st0.length,false),some (.str x,false),some (.int 1,false)],st0++[.ins cR [("tokens",tsT ts)]]⟩=some (.inl .next,⟨[some (.obj st0.length,false),some (.str x,false),some (.int 1,false)],st0++[.ins cR [("tokens",tsT ts),("row",.int 1)]]⟩) :=
  xl (V0 (fs:=[("tokens",tsT ts)]) (s2:=⟨[some (.obj st0.length,false),some (.str x,false),some (.int 1,false)],st0++[.ins cR [("tokens",tsT ts)]]⟩) rfl rfl rfl (show 1<100 by decide))
 have C':lx (vf cR "spot" (bf 0) (ao (.int 0))) ⟨[some (.obj st0.length,false),some (.str x,false),some (.int 1,false)],st0++[.ins cR [("tokens",tsT ts),("row",.int 1)]]⟩=some (.inl .next,⟨[some (.obj st0.length,false),some (.str x,false),some (.int 1,false)],rdS cR st0 ts 0⟩) :=
  xl (V0 (fs:=[("tokens",tsT ts),("row",.int 1)]) (s2:=⟨[some (.obj st0.length,false),some (.str x,false),some (.int 1,false)],st0++[.ins cR [("tokens",tsT ts),("row",.int 1)]]⟩) rfl rfl rfl (show 2<100 by decide))
 exact ac3 (xq A (xq B C')) rfl
theorem a6y {x:Str} (h:Pn x) {st0:List SO} (ht:toks 1000 (cs x)=none):u6 cR cN [.obj st0.length,.str x,.int 1] (st0++[.ins cR []])=some (.inr (.int 1),st0++[.ins cR []]):=by
 have tk:=Mx (sto:=st0++[.ins cR []]) h (row:=1);rw [ht] at tk;exact m6 (xqr (xfr (xmc (s1:=⟨[some (.obj st0.length,false),some (.str x,false),some (.int 1,false)],st0++[.ins cR []]⟩) (zc rfl (zc rfl rfl)) tk))) rfl
end K
end
section
namespace K
open C PySem
variable {cR cN:Nat} {st0:List SO} {ts:List Str} {k:Nat}
noncomputable def Mz (ts:List Str) (z:Nat):Option (Option (Sm × Nat)) :=
 match Gj ts (if (see ts z==("-" : Str))=true then z+1 else z) (if (see ts z==("-" : Str))=true then -1 else 1) with
 | none=>some none
 | some (p,j)=>match Yd 1000 ts j [p] with
  | none=>some none
  | some (l,k)=>if l.length<60 then
    (if vd (((l.filter fun p=>p.1==("" : Str)).map (·.2)).sum,prt (l.filter fun p=>!(p.1==("" : Str))))=true then some (some ((((l.filter fun p=>p.1==("" : Str)).map (·.2)).sum,prt (l.filter fun p=>!(p.1==("" : Str)))),k)) else some none)
   else none
theorem Zw (h:Pts ts) {z:Nat} {r:Option (Sm × Nat)} (hr:Mz ts z=some r):Ans (u5 cR cN [.obj st0.length] (rdS cR st0 ts z)) cR st0 ts (r.map fun q=>(smT q.1,q.2)):=by
 unfold Mz at hr;have T1:=took (cR:=cR) (cN:=cN) (st0:=st0) (k:=z) h (Ls "-" (List.mem_cons_of_mem _ List.mem_cons_self))
 have W:d9 (m9 cR "took" (gn cR cN) (bf 0) (aj (ao (.str "-")) c7)) ⟨[some (.obj st0.length,false),none,none,none,none],rdS cR st0 ts z⟩=some (see ts z == "-",⟨[some (.obj st0.length,false),none,none,none,none],rdS cR st0 ts (if (see ts z == "-")=true then z+1 else z)⟩) :=
  zt (meth (s1:=⟨[some (.obj st0.length,false),none,none,none,none],rdS cR st0 ts z⟩) (s2:=⟨[some (.obj st0.length,false),none,none,none,none],rdS cR st0 ts z⟩) rfl rfl rfl T1 Ka)
 have A0:aj (bf 0) (aj (mIf (d9 (m9 cR "took" (gn cR cN) (bf 0) (aj (ao (.str "-")) c7))) (mUn Qf (ao (.int 1))) (ao (.int 1))) c7) ⟨[some (.obj st0.length,false),none,none,none,none],rdS cR st0 ts z⟩=some ([.obj st0.length,.int (if (see ts z==("-" : Str))=true then -1 else 1)],⟨[some (.obj st0.length,false),none,none,none,none],rdS cR st0 ts (if (see ts z == "-")=true then z+1 else z)⟩):=by
  refine zc rfl (zc ?_ rfl);cases e:(see ts z==("-" : Str)) with
  | true=>rw [e] at W; exact a84 W rfl
  | false=>rw [e] at W; exact a9u W rfl
 rcases Kv (cR:=cR) (cN:=cN) (st0:=st0) h (show Dz (if (see ts z==("-" : Str))=true then -1 else 1)=true by split <;> decide) A0 with ⟨p,j,g1,g2⟩ | ⟨g1,j,g2⟩
 ·obtain ⟨h1,h2,h3⟩:=Ug h g1;rw [g1] at hr;dsimp only at hr;have N:Gs 1 (gq (gj (pq cR cN) (aj (bf 0) (aj (mIf (d9 (m9 cR "took" (gn cR cN) (bf 0) (aj (ao (.str "-")) c7))) (mUn Qf (ao (.int 1))) (ao (.int 1))) c7))) nu) ⟨[some (.obj st0.length,false),none,none,none,none],rdS cR st0 ts z⟩=some (.inl .next,nsS cR st0 ts j [p] none):=xnl (xcs g2 rfl) rfl;rcases Xy (cR:=cR) (cN:=cN) (st0:=st0) h 1000 j [p] none (by have:=h.1; omega) (by show 1<=j; omega) h2 (fun q hq=>by rw [List.mem_singleton] at hq; subst hq; exact h3) with ⟨l,k,o,f1,f2,f3,f4,f5⟩ | ⟨f1,s',k,f2,f3⟩
  ·rw [f1] at hr;dsimp only at hr;rw [Option.ite_none_right_eq_some] at hr;obtain ⟨h60,hr⟩:=hr;have ll:l.length<lim:=by show _<1000000; omega
   have fi:okS ("" : Str):=Yg.okS
   have is:∀ (b:Bool) (r:List C.Slot),Dj (bf 1) ⟨some (.obj st0.length,false)::some (.lst (l.map pT),b)::r,rdS cR st0 ts k⟩=some (l.map pT,⟨some (.obj st0.length,false)::some (.lst (l.map pT),false)::r,rdS cR st0 ts k⟩):=fun b r=>by
    cases b <;> (unfold Dj; dsimp only [bf,List.getElem?_cons_succ,List.getElem?_cons_zero,List.set]; rw [if_pos (by rw [List.length_map]; exact ll)])
   have c1:uw 2 [] (Ub [0,1]) (Dj (bf 1)) (d9 (mOp eqO (bf 0) (ao (.str "")))) (bf 1) (nsS cR st0 ts k l o)=some (.lst ((l.filter fun p=>p.1==("" : Str)).map fun p=>.int p.2),⟨[some (.obj st0.length,false),some (.lst (l.map pT),false),o,none,none],rdS cR st0 ts k⟩) :=
    Iv rfl pT (fun p=>.int p.2) (fun p=>p.1==("" : Str)) l ⟨[some (.obj st0.length,false),some (.lst (l.map pT),false),o,none,none],rdS cR st0 ts k⟩ _ [] (is true _) rfl rfl rfl (Nat.le_of_lt ll) (by
     intro p hp pre aF
     obtain ⟨a,b,rfl⟩:∃ a b,pre=[a,b]:=by
      match pre,aF with
      | [a,b],_=>exact ⟨a,b,rfl⟩
     exact ⟨[some (.str p.1,false),some (.int p.2,false)],rfl,by unfold pT; rw [a1u]; rfl,zt (zo rfl rfl (Az (f5 p hp).okS fi)),fun _=>rfl⟩)
   have su:aaj [.lst ((l.filter fun p=>p.1==("" : Str)).map fun p=>T.int p.2)]=some (.int ((l.filter fun p=>p.1==("" : Str)).map (·.2)).sum):=by
    show (Ox ((l.filter fun p=>p.1==("" : Str)).map fun p=>T.int p.2)).map (fun l=>T.int l.sum)=_;rw [ints_map]; rfl
   have S3:jm 3 (dg aaj (aj (uw 2 [] (Ub [0,1]) (Dj (bf 1)) (d9 (mOp eqO (bf 0) (ao (.str "")))) (bf 1)) c7)) (nsS cR st0 ts k l o)=some (.next,⟨[some (.obj st0.length,false),some (.lst (l.map pT),false),o,some (.int ((l.filter fun p=>p.1==("" : Str)).map (·.2)).sum,false),none],rdS cR st0 ts k⟩):=ys (zm (zc c1 rfl) su) rfl;generalize ((l.filter fun p=>p.1==("" : Str)).map (·.2)).sum=m at S3 hr
   have c2:uw 1 [] (hName 0) (Dj (bf 1)) (d9 (mOp neO (mOp iz (bf 0) (ao (.int 0))) (ao (.str "")))) (bf 0) ⟨[some (.obj st0.length,false),some (.lst (l.map pT),false),o,some (.int m,false),none],rdS cR st0 ts k⟩=some (.lst ((l.filter fun p=>!(p.1==("" : Str))).map pT),⟨[some (.obj st0.length,false),some (.lst (l.map pT),false),o,some (.int m,false),none],rdS cR st0 ts k⟩) :=
    Iv rfl pT pT (fun p=>!(p.1==("" : Str))) l ⟨[some (.obj st0.length,false),some (.lst (l.map pT),false),o,some (.int m,false),none],rdS cR st0 ts k⟩ _ [] (is false _) rfl rfl rfl (Nat.le_of_lt ll) (by
     intro p hp pre aF
     obtain ⟨a,rfl⟩:∃ a,pre=[a]:=by
      match pre,aF with
      | [a],_=>exact ⟨a,rfl⟩
     exact ⟨[some (pT p,false)],rfl,rfl,zt (zo (zo rfl rfl Ud) rfl (Lx (f5 p hp).okS fi)),fun _=>rfl⟩)
   have fl:(l.filter fun p=>!(p.1==("" : Str))).length<=l.length:=List.length_filter_le _ _;generalize (l.filter fun p=>!(p.1==("" : Str)))=q at c2 fl hr;have so:=Z9 (sto:=rdS cR st0 ts k) (n:=m) (l:=q) (.inl rfl) (by omega) (Nat.lt_of_le_of_lt (Td q) (by omega));have S4:jm 4 (j8 Bk (aj (bf 3) (aj (uw 1 [] (hName 0) (Dj (bf 1)) (d9 (mOp neO (mOp iz (bf 0) (ao (.int 0))) (ao (.str "")))) (bf 0)) c7))) ⟨[some (.obj st0.length,false),some (.lst (l.map pT),false),o,some (.int m,false),none],rdS cR st0 ts k⟩=some (.next,⟨[some (.obj st0.length,false),some (.lst (l.map pT),false),o,some (.int m,false),some (smT (m,prt q),false)],rdS cR st0 ts k⟩):=ys (zf0 (s1:=⟨[some (.obj st0.length,false),some (.lst (l.map pT),false),o,some (.int m,false),none],rdS cR st0 ts k⟩) (zc rfl (zc c2 rfl)) so) rfl;have bo:=bounded (cR:=cR) (cN:=cN) (st0:=st0) (ts:=ts) (k:=k) (s:=(m,prt q)) (by have:=Od q; show (prt q).length<1000; omega)
   have BC:gj (Ao cR cN) (aj (bf 0) (aj (bf 4) c7)) ⟨[some (.obj st0.length,false),some (.lst (l.map pT),false),o,some (.int m,false),some (smT (m,prt q),false)],rdS cR st0 ts k⟩=some (if vd (m,prt q)=true then .inl (smT (m,prt q)) else .inr (.int 1),⟨[some (.obj st0.length,false),some (.lst (l.map pT),false),o,some (.int m,false),some (smT (m,prt q),false)],rdS cR st0 ts k⟩) :=
    xmc (s1:=⟨[some (.obj st0.length,false),some (.lst (l.map pT),false),o,some (.int m,false),some (smT (m,prt q),false)],rdS cR st0 ts k⟩) (zc rfl (zc rfl rfl)) bo
   cases e:vd (m,prt q) with
   | true =>
    rw [e,if_pos rfl] at BC;rw [e,if_pos rfl] at hr;cases hr;exact .inl ⟨_,_,rfl,ux (xq N (xq f2 (xq (xl S3) (xq (xl S4) (xrt BC))))) rfl⟩
   | false =>
    rw [e,if_neg (by decide)] at BC;rw [e,if_neg (by decide)] at hr;cases hr;exact .inr ⟨rfl,k,m6 (xq N (xq f2 (xq (xl S3) (xq (xl S4) (xrr BC))))) rfl⟩
  ·rw [f1] at hr;cases hr;exact .inr ⟨rfl,k,m6 (xq N (xqr f2)) f3⟩
 ·rw [g1] at hr;cases hr;exact .inr ⟨rfl,j,m6 (xqr (xnr (a05 g2))) rfl⟩
end K
end
section
namespace K
open C PySem PySem.W PySem.NumText
section
variable {cR cN:Nat} {st0:List SO}
theorem ab4 {ts:List Str} {k:Nat} (hl:ts.length<1000):iw cR cN [.obj st0.length,.int 1] (rdS cR st0 ts k)=some (.str (see ts (k+1)),rdS cR st0 ts k):=by
 have a1:yx cR "spot" (bf 0) ⟨[some (.obj st0.length,false),some (.int 1,false)],rdS cR st0 ts k⟩=some (.int (k:Int),⟨[some (.obj st0.length,false),some (.int 1,false)],rdS cR st0 ts k⟩):=fld rfl rfl Ph;have a2:yx cR "tokens" (bf 0) ⟨[some (.obj st0.length,false),some (.int 1,false)],rdS cR st0 ts k⟩=some (tsT ts,⟨[some (.obj st0.length,false),some (.int 1,false)],rdS cR st0 ts k⟩):=fld rfl rfl a5c;have a3:=zo (f:=j4) a1 (show bf 1 ⟨[some (.obj st0.length,false),some (.int 1,false)],rdS cR st0 ts k⟩=some (.int 1,⟨[some (.obj st0.length,false),some (.int 1,false)],rdS cR st0 ts k⟩) from rfl) (show j4 (.int (k:Int)) (.int 1)=some (.int ((k+1:Nat):Int)) by rfl);have a4:dg xg (aj (yx cR "tokens" (bf 0)) c7) ⟨[some (.obj st0.length,false),some (.int 1,false)],rdS cR st0 ts k⟩=some (.int (ts.length:Int),⟨[some (.obj st0.length,false),some (.int 1,false)],rdS cR st0 ts k⟩):=zm (zc a2 rfl) acu
 by_cases z:k+1<ts.length
 ·have e:see ts (k+1)=ts[k+1]:=by unfold see; rw [List.getD_eq_getElem?_getD,List.getElem?_eq_getElem z]; rfl
  rw [e]
  have c:d9 (mOp geT (mOp j4 (yx cR "spot" (bf 0)) (bf 1)) (dg xg (aj (yx cR "tokens" (bf 0)) c7))) ⟨[some (.obj st0.length,false),some (.int 1,false)],rdS cR st0 ts k⟩=some (false,⟨[some (.obj st0.length,false),some (.int 1,false)],rdS cR st0 ts k⟩) :=
   zt (zo a3 a4 (by show some (T.bl (decide ((ts.length:Int)<=((k+1:Nat):Int))))=_; rw [decide_eq_false (by omega)]))
  exact zrun (zq (ze c rfl) (zr (zo a2 a3 (Gz T.str ts z)))) rfl
 ·have e:see ts (k+1) = "" := by unfold see; rw [List.getD_eq_getElem?_getD,List.getElem?_eq_none_iff.mpr (by omega)]; rfl
  rw [e]
  have c:d9 (mOp geT (mOp j4 (yx cR "spot" (bf 0)) (bf 1)) (dg xg (aj (yx cR "tokens" (bf 0)) c7))) ⟨[some (.obj st0.length,false),some (.int 1,false)],rdS cR st0 ts k⟩=some (true,⟨[some (.obj st0.length,false),some (.int 1,false)],rdS cR st0 ts k⟩) :=
   zt (zo a3 a4 (by show some (T.bl (decide ((ts.length:Int)<=((k+1:Nat):Int))))=_; rw [decide_eq_true (by omega)]))
  exact zrun (zqr (zk c (zr rfl))) rfl
end
variable {cR cN:Nat} {st0:List SO} {ts:List Str} {k:Nat}
noncomputable def Ci (lo hi d:Nat) (x:Str):Bool:=Vs x&&decide ((cs x).length<=d)&&decide (lo<=val x)&&decide (val x<=hi)
theorem a3m:∀ a b c:T,(f3 a b c).lookup ("need" : Str)=none:=fun _ _ _=>rfl
theorem need {x:Str} (h:Pts ts) (hx:okS x):qe cR cN [.obj st0.length,.str x] (rdS cR st0 ts k)=some (if (see ts k==x)=true then .inl .non else .inr (.int 1),rdS cR st0 ts (if (see ts k==x)=true then k+1 else k)):=by
 have W:Fx (d9 (m9 cR "took" (gn cR cN) (bf 0) (aj (bf 1) c7))) ⟨[some (.obj st0.length,false),some (.str x,false)],rdS cR st0 ts k⟩=some (!(see ts k==x),⟨[some (.obj st0.length,false),some (.str x,false)],rdS cR st0 ts (if (see ts k==x)=true then k+1 else k)⟩) :=
  Vq (zt (meth (s1:=⟨[some (.obj st0.length,false),some (.str x,false)],rdS cR st0 ts k⟩) (s2:=⟨[some (.obj st0.length,false),some (.str x,false)],rdS cR st0 ts k⟩) rfl rfl rfl (took h hx) Ka))
 cases e:(see ts k==x) with
 | true=>rw [e] at W; exact ac3 (xie W (xl rfl)) rfl
 | false=>rw [e] at W; exact m6 (xik W (xra (fld rfl rfl Mr))) rfl
theorem a8j:a3d [.int ((99:Nat):Int)]=some (.str (Str.ofString (toString (99:Int)))):=by
 show (if Dz 99=true then some (T.str (Str.ofString (toString (99:Int)))) else none)=_;rw [if_pos (by decide)]
theorem a9y:xg [.str (Str.ofString (toString (99:Int)))]=some (.int ((2:Nat):Int)):=by
 have e:(Str.ofString (toString (99:Int))).length=2:=by decide +kernel
 show (if (Str.ofString (toString (99:Int))).length<lim then some (T.int ((Str.ofString (toString (99:Int))).length:Int)) else none)=_;rw [e]; rfl
theorem a8s:a3d [.int ((12:Nat):Int)]=some (.str (Str.ofString (toString (12:Int)))):=by
 show (if Dz 12=true then some (T.str (Str.ofString (toString (12:Int)))) else none)=_;rw [if_pos (by decide)]
theorem aa3:xg [.str (Str.ofString (toString (12:Int)))]=some (.int ((2:Nat):Int)):=by
 have e:(Str.ofString (toString (12:Int))).length=2:=by decide +kernel
 show (if (Str.ofString (toString (12:Int))).length<lim then some (T.int ((Str.ofString (toString (12:Int))).length:Int)) else none)=_;rw [e]; rfl
theorem Gm (h:Pts ts) {lo hi d:Nat} {y:Str} (bG:hi<=999999999) (hy:a3d [.int (hi:Int)]=some (.str y)) (fS:xg [.str y]=some (.int (d:Int))) (hd:d<=9):fj cR cN [.obj st0.length,.int (lo:Int),.int (hi:Int)] (rdS cR st0 ts k)=some (if Ci lo hi d (see ts k)=true then .inl (.int (val (see ts k):Int)) else .inr (.int 1),rdS cR st0 ts (k+1)):=by
 have hp:=h.see k
 have A:lx (jm 3 (m9 cR "next_token" (g8 cR cN) (bf 0) c7)) ⟨[some (.obj st0.length,false),some (.int (lo:Int),false),some (.int (hi:Int),false),none,none],rdS cR st0 ts k⟩=some (.inl .next,⟨[some (.obj st0.length,false),some (.int (lo:Int),false),some (.int (hi:Int),false),some (.str (see ts k),false),none],rdS cR st0 ts (k+1)⟩) :=
  xl (ys (meth (s1:=⟨[some (.obj st0.length,false),some (.int (lo:Int),false),some (.int (hi:Int),false),none,none],rdS cR st0 ts k⟩) (s2:=⟨[some (.obj st0.length,false),some (.int (lo:Int),false),some (.int (hi:Int),false),none,none],rdS cR st0 ts k⟩) rfl rfl rfl (Aw h) aae) rfl)
 have B1:Fx (d9 (j8 yr (aj (bf 3) c7))) ⟨[some (.obj st0.length,false),some (.int (lo:Int),false),some (.int (hi:Int),false),some (.str (see ts k),false),none],rdS cR st0 ts (k+1)⟩=some (!Vs (see ts k),⟨[some (.obj st0.length,false),some (.int (lo:Int),false),some (.int (hi:Int),false),some (.str (see ts k),false),none],rdS cR st0 ts (k+1)⟩) :=
  Vq (zt (zf0 (zc rfl rfl) (Ng hp)))
 have B2:d9 (mOp gtT (dg xg (aj (bf 3) c7)) (dg xg (aj (dg a3d (aj (bf 2) c7)) c7))) ⟨[some (.obj st0.length,false),some (.int (lo:Int),false),some (.int (hi:Int),false),some (.str (see ts k),false),none],rdS cR st0 ts (k+1)⟩=some (decide (d<(cs (see ts k)).length),⟨[some (.obj st0.length,false),some (.int (lo:Int),false),some (.int (hi:Int),false),some (.str (see ts k),false),none],rdS cR st0 ts (k+1)⟩):=by
  refine zt (zo (zm (zc rfl rfl) (len_str hp)) (zm (zc (zm (zc rfl rfl) hy) rfl) fS) ?_);show some (T.bl (decide ((d:Int)<((cs (see ts k)).length:Int))))=_
  by_cases z:d<(cs (see ts k)).length
  ·rw [decide_eq_true z,decide_eq_true (by omega)]
  ·rw [decide_eq_false z,decide_eq_false (by omega)]
 have R:∀ (e:List C.Slot),yx cR "row" (bf 0) ⟨some (.obj st0.length,false)::e,rdS cR st0 ts (k+1)⟩=some (.int 1,⟨some (.obj st0.length,false)::e,rdS cR st0 ts (k+1)⟩):=fun e=>fld rfl rfl Mr;cases e1:Vs (see ts k) with
 | false =>
  rw [e1] at B1;have n:Ci lo hi d (see ts k)=false:=by unfold Ci; rw [e1]; rfl
  rw [n,if_neg (by decide)];exact m6 (xq A (xqr (xik (a7n B1) (xra (R _))))) rfl
 | true =>
  rw [e1] at B1
  by_cases z:d<(cs (see ts k)).length
  ·rw [decide_eq_true z] at B2;have n:Ci lo hi d (see ts k)=false:=by unfold Ci; rw [decide_eq_false (show ¬ (cs (see ts k)).length<=d by omega)]; simp
   rw [n,if_neg (by decide)];exact m6 (xq A (xqr (xik (Lw B1 B2) (xra (R _))))) rfl
  ·rw [decide_eq_false z] at B2;have iv:=Y7 e1 (by omega)
   have C':lx (jm 4 (dg a7t (aj (bf 3) c7))) ⟨[some (.obj st0.length,false),some (.int (lo:Int),false),some (.int (hi:Int),false),some (.str (see ts k),false),none],rdS cR st0 ts (k+1)⟩=some (.inl .next,⟨[some (.obj st0.length,false),some (.int (lo:Int),false),some (.int (hi:Int),false),some (.str (see ts k),false),some (.int (val (see ts k):Int),false)],rdS cR st0 ts (k+1)⟩) :=
    xl (ys (zm (zc rfl rfl) iv) rfl)
   have D1:d9 (mOp ltT (bf 4) (bf 1)) ⟨[some (.obj st0.length,false),some (.int (lo:Int),false),some (.int (hi:Int),false),some (.str (see ts k),false),some (.int (val (see ts k):Int),false)],rdS cR st0 ts (k+1)⟩=some (!decide (lo<=val (see ts k)),⟨[some (.obj st0.length,false),some (.int (lo:Int),false),some (.int (hi:Int),false),some (.str (see ts k),false),some (.int (val (see ts k):Int),false)],rdS cR st0 ts (k+1)⟩):=by
    refine zt (zo rfl rfl ?_);show some (T.bl (decide ((val (see ts k):Int)<(lo:Int))))=_
    by_cases y:lo<=val (see ts k)
    ·rw [decide_eq_true y,decide_eq_false (by omega)]; rfl
    ·rw [decide_eq_false y,decide_eq_true (by omega)]; rfl
   have D2:d9 (mOp gtT (bf 4) (bf 2)) ⟨[some (.obj st0.length,false),some (.int (lo:Int),false),some (.int (hi:Int),false),some (.str (see ts k),false),some (.int (val (see ts k):Int),false)],rdS cR st0 ts (k+1)⟩=some (!decide (val (see ts k)<=hi),⟨[some (.obj st0.length,false),some (.int (lo:Int),false),some (.int (hi:Int),false),some (.str (see ts k),false),some (.int (val (see ts k):Int),false)],rdS cR st0 ts (k+1)⟩):=by
    refine zt (zo rfl rfl ?_);show some (T.bl (decide ((hi:Int)<(val (see ts k):Int))))=_
    by_cases y:val (see ts k)<=hi
    ·rw [decide_eq_true y,decide_eq_false (by omega)]; rfl
    ·rw [decide_eq_false y,decide_eq_true (by omega)]; rfl
   by_cases yl:lo<=val (see ts k)
   ·rw [decide_eq_true yl] at D1
    by_cases y:val (see ts k)<=hi
    ·rw [decide_eq_true y] at D2;have n:Ci lo hi d (see ts k)=true:=by unfold Ci; rw [e1,decide_eq_true y,decide_eq_true yl,decide_eq_true (show (cs (see ts k)).length<=d by omega)]; rfl
     rw [n,if_pos rfl];exact ux (xq A (xq (xie (Lw B1 B2) (xl rfl)) (xq C' (xq (xie (Lw D1 D2) (xl rfl)) (xl (zr rfl)))))) rfl
    ·rw [decide_eq_false y] at D2;have n:Ci lo hi d (see ts k)=false:=by unfold Ci; rw [decide_eq_false y]; simp
     rw [n,if_neg (by decide)];exact m6 (xq A (xq (xie (Lw B1 B2) (xl rfl)) (xq C' (xqr (xik (Lw D1 D2) (xra (R _))))))) rfl
   ·rw [decide_eq_false yl] at D1;have n:Ci lo hi d (see ts k)=false:=by unfold Ci; rw [decide_eq_false yl]; simp
    rw [n,if_neg (by decide)];exact m6 (xq A (xq (xie (Lw B1 B2) (xl rfl)) (xq C' (xqr (xik (a7n D1) (xra (R _))))))) rfl
end K
end
section
namespace K
open C PySem PySem.W PySem.NumText
variable {cR cN:Nat} {st0:List SO} {ts:List Str} {k:Nat}
def atT (x:Str) (t:T):T:=.tup [.str "at",.str x,t]
noncomputable def pAt (ts:List Str) (k:Nat):Option (T × Nat) :=
 if nameB (see ts k)=true then
  if nameB (see ts (k+1))=true then some (atT (see ts k) (.str (see ts (k+1))),k+2)
  else if Ci 0 99 2 (see ts (k+1))=true then some (atT (see ts k) (.int (val (see ts (k+1)):Int)),k+2) else none
 else none
theorem a6m {mx:MX} {l:MXs} {s s1 s2:Sta} {t x:T} (h:mx s=some (.inl t,s1)) (h2:l s1=some (.inr x,s2)):gq mx l s=some (.inr x,s2):=by unfold gq; rw [h]; dsimp only; rw [h2]
abbrev atS (cR:Nat) (st0:List SO) (ts:List Str) (k:Nat) (o:C.Slot):Sta:=⟨[some (.obj st0.length,false),some (.bl true,false),o],rdS cR st0 ts k⟩
theorem af0 (h:Pts ts):Ans (Ai cR cN [.obj st0.length,.bl true] (rdS cR st0 ts k)) cR st0 ts (pAt ts k):=by
 have N:∀ (j:Nat) (o:C.Slot),mq cR "next_name" (j7 cR cN) (bf 0) nu (atS cR st0 ts j o)=some (if nameB (see ts j)=true then .inl (.str (see ts j)) else .inr (.int 1),atS cR st0 ts (j+1) o):=fun j o =>
  Nt (s1:=atS cR st0 ts j o) (s2:=atS cR st0 ts j o) rfl rfl rfl (Nm h) ada
 have U:∀ (o:C.Slot),mq cR "next_number" (fj cR cN) (bf 0) (gq (Ah (ao (.int 0))) (gq (Ah (ao (.int 99))) nu)) (atS cR st0 ts (k+1) o)=some (if Ci 0 99 2 (see ts (k+1))=true then .inl (.int (val (see ts (k+1)):Int)) else .inr (.int 1),atS cR st0 ts (k+1+1) o):=fun o =>
  Nt (s1:=atS cR st0 ts (k+1) o) (s2:=atS cR st0 ts (k+1) o) rfl rfl rfl (Gm (lo:=0) (hi:=99) h (by omega) a8j a9y (by omega)) acg
 have I:∀ (o:C.Slot),Ld (d9 (bf 1)) (Fx (d9 (j8 wu (aj (m9 cR "seen" (iw cR cN) (bf 0) (aj (ao (.int 0)) c7)) c7)))) (atS cR st0 ts (k+1) o)=some (true && !nameB (see ts (k+1)),atS cR st0 ts (k+1) o):=fun o =>
  a9o (zt rfl) (Vq (zt (zf0 (s1:=atS cR st0 ts (k+1) o) (zc (meth (s1:=atS cR st0 ts (k+1) o) (s2:=atS cR st0 ts (k+1) o) rfl rfl rfl (seen h.1) Kh) rfl) (Qu (h.see (k+1))))))
 unfold pAt;cases e1:nameB (see ts k) with
 | false =>
  have N1:=N k none;rw [e1,if_neg (by decide)] at N1;rw [if_neg (by decide)];exact .inr ⟨rfl,k+1,m6 (xqr (xsr N1)) rfl⟩
 | true =>
  have N1:=N k none;rw [e1,if_pos rfl] at N1;rw [if_pos rfl];have A:Ei 2 (mq cR "next_name" (j7 cR cN) (bf 0) nu) (atS cR st0 ts k none)=some (.inl .next,atS cR st0 ts (k+1) (some (.str (see ts k),false))):=xst N1 rfl;have I1:=I (some (.str (see ts k),false));cases e2:nameB (see ts (k+1)) with
  | true =>
   rw [e2] at I1;have N2:=N (k+1) (some (.str (see ts k),false));rw [e2,if_pos rfl] at N2;rw [if_pos rfl];exact .inl ⟨_,_,rfl,ux (s1:=atS cR st0 ts (k+1+1) (some (.str (see ts k),false))) (xq A (xq (xie I1 (xl rfl)) (xrt (xtu (xcs (xup rfl) (xcs (xup rfl) (xcs N2 rfl))))))) rfl⟩
  | false =>
   rw [e2] at I1;have U1:=U (some (.str (see ts k),false));rw [if_neg (show ¬ false=true by decide)];cases e3:Ci 0 99 2 (see ts (k+1)) with
   | true =>
    rw [e3,if_pos rfl] at U1;rw [if_pos rfl];exact .inl ⟨_,_,rfl,ux (s1:=atS cR st0 ts (k+1+1) (some (.str (see ts k),false))) (xq A (xqt (xik I1 (xrt (xtu (xcs (xup rfl) (xcs (xup rfl) (xcs U1 rfl)))))))) rfl⟩
   | false =>
    rw [e3,if_neg (by decide)] at U1;rw [if_neg (show ¬ false=true by decide)];exact .inr ⟨rfl,k+1+1,m6 (xq A (xqr (xik I1 (xrr (xtr (a6m (xup rfl) (a6m (xup rfl) (a05 U1)))))))) rfl⟩
noncomputable def abn (ts:List Str) (k:Nat):Option (Option (T × Nat)) :=
 if Ci 2 12 2 (see ts k)=true then
  if (see ts (k+1)==("divides" : Str))=true then (Mz ts (k+2)).map (Option.map fun q=>(.tup [.str "rest",smT q.1,.int (val (see ts k):Int)],q.2))
  else some none
 else some none
theorem Kc:okS ("divides" : Str):=by unfold okS; decide +kernel
abbrev diS (cR:Nat) (st0:List SO) (ts:List Str) (k:Nat) (o:C.Slot):Sta:=⟨[some (.obj st0.length,false),o],rdS cR st0 ts k⟩
theorem Mf (h:Pts ts) {z:Nat} {r:Option (Sm × Nat)} (hr:Mz ts z=some r) {e:List C.Slot} {ms:M (List T)} {s0:Sta} (hm:ms s0=some ([.obj st0.length],⟨e,rdS cR st0 ts z⟩)) :
  (∃ q j,r=some (q,j)/\gj (u5 cR cN) ms s0=some (.inl (smT q),⟨e,rdS cR st0 ts j⟩))\/(r=none/\∃ j,gj (u5 cR cN) ms s0=some (.inr (.int 1),⟨e,rdS cR st0 ts j⟩)):=by
 rcases Zw (cR:=cR) (cN:=cN) (st0:=st0) h hr with ⟨t,j,g1,g2⟩ | ⟨g1,j,g2⟩
 ·obtain ⟨⟨p,j'⟩,g3,g4⟩:=Option.map_eq_some_iff.mp g1;cases g4;exact .inl ⟨p,j',g3,xmc hm g2⟩
 ·exact .inr ⟨Option.map_eq_none_iff.mp g1,j,xmc hm g2⟩
theorem ac2 (h:Pts ts) {r:Option (T × Nat)} (hr:abn ts k=some r):Ans (yp cR cN [.obj st0.length] (rdS cR st0 ts k)) cR st0 ts r:=by
 have U:mq cR "next_number" (fj cR cN) (bf 0) (gq (Ah (ao (.int 2))) (gq (Ah (ao (.int 12))) nu)) (diS cR st0 ts k none)=some (if Ci 2 12 2 (see ts k)=true then .inl (.int (val (see ts k):Int)) else .inr (.int 1),diS cR st0 ts (k+1) none) :=
  Nt (s1:=diS cR st0 ts k none) (s2:=diS cR st0 ts k none) rfl rfl rfl (Gm (lo:=2) (hi:=12) h (by omega) a8s aa3 (by omega)) acg
 have D:∀ (o:C.Slot),mq cR "need" (qe cR cN) (bf 0) (gq (Ah (ao (.str "divides"))) nu) (diS cR st0 ts (k+1) o)=some (if (see ts (k+1)==("divides" : Str))=true then .inl .non else .inr (.int 1),diS cR st0 ts (if (see ts (k+1)==("divides" : Str))=true then k+1+1 else k+1) o):=fun o =>
  Nt (s1:=diS cR st0 ts (k+1) o) (s2:=diS cR st0 ts (k+1) o) rfl rfl rfl (need h Kc) a3m
 unfold abn at hr;cases e1:Ci 2 12 2 (see ts k) with
 | false =>
  rw [e1,if_neg (by decide)] at U;rw [e1,if_neg (by decide)] at hr;cases hr;exact .inr ⟨rfl,k+1,m6 (xqr (xsr U)) rfl⟩
 | true =>
  rw [e1,if_pos rfl] at U;rw [e1,if_pos rfl] at hr;have A:Ei 1 (mq cR "next_number" (fj cR cN) (bf 0) (gq (Ah (ao (.int 2))) (gq (Ah (ao (.int 12))) nu))) (diS cR st0 ts k none)=some (.inl .next,diS cR st0 ts (k+1) (some (.int (val (see ts k):Int),false))):=xst U rfl;have D1:=D (some (.int (val (see ts k):Int),false));cases e2:(see ts (k+1)==("divides" : Str)) with
  | false =>
   rw [e2,if_neg (by decide),if_neg (by decide)] at D1;rw [e2,if_neg (by decide)] at hr;cases hr;exact .inr ⟨rfl,k+1,m6 (xq A (xqr (xdr D1))) rfl⟩
  | true =>
   rw [e2,if_pos rfl,if_pos rfl] at D1;rw [e2,if_pos rfl] at hr;obtain ⟨r',e3,e4⟩:=Option.map_eq_some_iff.mp hr;rcases Mf (cR:=cR) (cN:=cN) (st0:=st0) h e3 (ms:=aj (bf 0) c7) (s0:=diS cR st0 ts (k+2) (some (.int (val (see ts k):Int),false))) (e:=[some (.obj st0.length,false),some (.int (val (see ts k):Int),false)]) rfl with ⟨q,j,g1,g2⟩ | ⟨g1,j,g2⟩
   ·rw [g1] at e4;rw [<- e4];exact .inl ⟨_,_,rfl,ux (xq A (xq (xdt D1) (xrt (xtu (xcs (xup rfl) (xcs g2 (xcs (xup rfl) rfl))))))) rfl⟩
   ·rw [g1] at e4;rw [<- e4];exact .inr ⟨rfl,j,m6 (xq A (xq (xdt D1) (xrr (xtr (a6m (xup rfl) (a05 g2)))))) rfl⟩
end K
end
section
namespace K
open C PySem
section
variable {sto:List SO}
def scN (l:List Pr):List Pr:=l.map fun p=>(p.1,p.2 * -1)
theorem aah {s:Sm} (hl:s.2.length<60):abg [smT s,.int (-1)] sto=some (smT (s.1 * -1,prt (scN s.2)),sto):=by
 have ll:s.2.length<lim:=by show _<1000000; omega
 have bt:Dz (-1)=true:=by decide
 have e:=Cq pT (fun p=>pT (p.1,p.2 * -1)) s.2 (g:=Ub [0,1]) (nv:=2) (ci:=[1]) (c:=Bx) (it:=Dj (mOp iz (bf 0) (ao (.int 1)))) (e:=dg (fun l=>some (.tup l)) (aj (bf 0) (aj (mOp Ie (bf 1) (bf 2)) c7))) (s:=⟨[some (smT s,false),some (.int (-1),false)],sto⟩) (s1:=⟨[some (smT s,false),some (.int (-1),false)],sto⟩) [some (smT s,false),some (.int (-1),false)] [some (.int (-1),false)]
  (by unfold smT; simp! [Yc,ll]) rfl rfl rfl (Nat.le_of_lt ll) (by
   intro p hp pre aF
   obtain ⟨a,b,rfl⟩:∃ a b,pre=[a,b]:=by
    match pre,aF with
    | [a,b],_=>exact ⟨a,b,rfl⟩
   exact ⟨[some (.str p.1,false),some (.int p.2,false)],rfl,by unfold pT; rw [a1u]; rfl,rfl,zm (zc rfl (zc (zo rfl rfl (mu2 bt)) rfl)) rfl⟩)
 have so:=Z9 (sto:=sto) (n:=s.1 * -1) (l:=scN s.2) (s:=.lst ((scN s.2).map pT)) (.inl rfl) (by simp [scN]; omega) (Nat.lt_of_le_of_lt (Td _) (by simp [scN]; omega));have e2:s.2.map (fun p=>pT (p.1,p.2 * -1))=(scN s.2).map pT:=by simp [scN]
 rw [e2] at e;have i0:iz (smT s) (.int 0)=some (.int s.1):=Ud;exact zrun (zr (zf0 (s1:=⟨[some (smT s,false),some (.int (-1),false)],sto⟩) (zc (zo (zo rfl rfl i0) rfl (mu2 bt)) (zc e rfl)) so)) rfl
theorem U3 {a b:Sm} (hl:a.2.length+b.2.length<60):Q0 [smT a,smT b] sto=some (smT (a.1+b.1,prt (a.2++b.2)),sto):=by
 have i0:∀ x:Sm,iz (smT x) (.int 0)=some (.int x.1):=fun x=>Ud;have i1:∀ x:Sm,iz (smT x) (.int 1)=some (.tup (x.2.map pT)):=fun x=>Yc;have so:=Z9 (sto:=sto) (n:=a.1+b.1) (l:=a.2++b.2) (s:=.tup ((a.2++b.2).map pT)) (.inr rfl) (by rw [List.length_append]; omega) (Nat.lt_of_le_of_lt (Td _) (by rw [List.length_append]; omega));have l2:a.2.length+b.2.length<lim:=by show _<1000000; omega
 rw [List.map_append] at so
 have ad:j4 (.tup (a.2.map pT)) (.tup (b.2.map pT))=some (.tup (a.2.map pT++b.2.map pT)):=by
  show (if (a.2.map pT).length+(b.2.map pT).length<lim then some (T.tup (a.2.map pT++b.2.map pT)) else none)=_;rw [List.length_map,List.length_map,if_pos l2]
 exact zrun (zr (zf0 (s1:=⟨[some (smT a,false),some (smT b,false)],sto⟩) (zc (zo (zo rfl rfl (i0 a)) (zo rfl rfl (i0 b)) rfl) (zc (zo (zo rfl rfl (i1 a)) (zo rfl rfl (i1 b)) ad) rfl)) so)) rfl
def mnS (a b:Sm):Sm:=(a.1+b.1 * -1,prt (a.2++prt (scN b.2)))
theorem Yy {a b:Sm} (ha:a.2.length<30) (hb:b.2.length<30):Lq [smT a,smT b] sto=some (smT (mnS a b),sto):=by
 have e:=aah (sto:=sto) (s:=b) (by omega);have l3:(prt (scN b.2)).length<=b.2.length:=Nat.le_trans (Od _) (by simp [scN]);have p:=U3 (sto:=sto) (a:=a) (b:=(b.1 * -1,prt (scN b.2))) (by simp only; omega);exact zrun (zr (zf0 (s1:=⟨[some (smT a,false),some (smT b,false)],sto⟩) (zc rfl (zc (zf0 (s1:=⟨[some (smT a,false),some (smT b,false)],sto⟩) (zc rfl (zc rfl rfl)) e) rfl)) p)) rfl
def moS (a b:Sm) (d:Int):Sm:=((mnS a b).1+d,prt ((mnS a b).2++[]))
theorem Zu (a b:Sm):(mnS a b).2.length<=a.2.length+b.2.length:=by
 unfold mnS;refine Nat.le_trans (Od _) ?_;rw [List.length_append];have:=Od (scN b.2);have e:(scN b.2).length=b.2.length:=by simp [scN]
 omega
theorem a5z (a b:Sm) (d:Int):(moS a b d).2.length<=a.2.length+b.2.length:=by
 unfold moS;refine Nat.le_trans (Od _) ?_;rw [List.append_nil];exact Zu a b
end
variable {cR cN:Nat} {st0:List SO} {ts:List Str} {k:Nat}
def moT (s:Sm):T:=.tup [.str "most",smT s]
theorem a6r {a b:Sm} {d:Int} (ha:a.2.length<30) (hb:b.2.length<30):yu cR cN [.obj st0.length,smT a,smT b,.int d] (rdS cR st0 ts k)=some (if vd (moS a b d)=true then .inl (moT (moS a b d)) else .inr (.int 1),rdS cR st0 ts k):=by
 have mi:=Yy (sto:=rdS cR st0 ts k) ha hb;have ml:=Zu a b;have pl:=U3 (sto:=rdS cR st0 ts k) (a:=mnS a b) (b:=(d,[])) (by show _+0<60; omega)
 have A:lx (jm 4 (j8 Q0 (aj (j8 Lq (aj (bf 1) (aj (bf 2) c7))) (aj (dg (fun l=>some (.tup l)) (aj (bf 3) (aj (dg (fun l=>some (.tup l)) c7) c7))) c7)))) ⟨[some (.obj st0.length,false),some (smT a,false),some (smT b,false),some (.int d,false),none],rdS cR st0 ts k⟩=some (.inl .next,⟨[some (.obj st0.length,false),some (smT a,false),some (smT b,false),some (.int d,false),some (smT (moS a b d),false)],rdS cR st0 ts k⟩) :=
  xl (ys (zf0 (s1:=⟨[some (.obj st0.length,false),some (smT a,false),some (smT b,false),some (.int d,false),none],rdS cR st0 ts k⟩) (zc (zf0 (s1:=⟨[some (.obj st0.length,false),some (smT a,false),some (smT b,false),some (.int d,false),none],rdS cR st0 ts k⟩) (zc rfl (zc rfl rfl)) mi) (zc (zm (zc rfl (zc (zm rfl rfl) rfl)) rfl) rfl)) pl) rfl)
 have bo:=bounded (cR:=cR) (cN:=cN) (st0:=st0) (ts:=ts) (k:=k) (s:=moS a b d) (by have:=a5z a b d; omega)
 have BC:gj (Ao cR cN) (aj (bf 0) (aj (bf 4) c7)) ⟨[some (.obj st0.length,false),some (smT a,false),some (smT b,false),some (.int d,false),some (smT (moS a b d),false)],rdS cR st0 ts k⟩=some (if vd (moS a b d)=true then .inl (smT (moS a b d)) else .inr (.int 1),⟨[some (.obj st0.length,false),some (smT a,false),some (smT b,false),some (.int d,false),some (smT (moS a b d),false)],rdS cR st0 ts k⟩) :=
  xmc (s1:=⟨[some (.obj st0.length,false),some (smT a,false),some (smT b,false),some (.int d,false),some (smT (moS a b d),false)],rdS cR st0 ts k⟩) (zc rfl (zc rfl rfl)) bo
 cases e:vd (moS a b d) with
 | true =>
  rw [e,if_pos rfl] at BC;rw [if_pos rfl];exact ux (xq A (xrt (xtu (xcs (xup rfl) (xcs BC rfl))))) rfl
 | false =>
  rw [e,if_neg (by decide)] at BC;rw [if_neg (by decide)];exact m6 (xq A (xrr (xtr (a6m (xup rfl) (a05 BC))))) rfl
end K
end
section
namespace K
open C PySem
variable {cR cN:Nat} {st0:List SO} {ts:List Str} {k:Nat}
def a93:List Str:=["<=","<",">=",">","="]
def Qt:List Str:=["<",">"]
def Q8:List Str:=["<=","<"]
theorem a5d:∀ y∈a93,okS y:=by unfold a93 okS; decide +kernel
theorem W6:∀ y∈Qt,okS y:=by unfold Qt okS; decide +kernel
theorem Yl:∀ y∈Q8,okS y:=by unfold Q8 okS; decide +kernel
theorem abl:okS ("=" : Str):=by unfold okS; decide +kernel
def a7i (sg:Str):Bool:=Qt.contains sg
def aas (b:Bool):Int:=if b=true then 1 else 0
noncomputable def a4z (a b:Sm) (d:Int) (i:Nat):Option (T × Nat):=if vd (moS a b d)=true then some (moT (moS a b d),i) else none
noncomputable def ad4 (sg:Str) (a b:Sm) (i:Nat):Option (T × Nat) :=
 if (sg==("=" : Str))=true then
  if vd (moS a b 0)=true then
   if vd (moS b a 0)=true then some (.tup [.str "and",.tup [moT (moS a b 0),moT (moS b a 0)]],i) else none
  else none
 else if Q8.contains sg=true then a4z a b (aas (a7i sg)) i
 else a4z b a (aas (a7i sg)) i
noncomputable def acp (ts:List Str) (k:Nat):Option (Option (T × Nat)) :=
 match Mz ts k with
 | none=>none
 | some none=>some none
 | some (some (a,j))=>if a93.contains (see ts j)=true then
   match Mz ts (j+1) with
   | none=>none
   | some none=>some none
   | some (some (b,i))=>if a.2.length<30 then (if b.2.length<30 then some (ad4 (see ts j) a b i) else none) else none
  else some none
abbrev cpS (cR:Nat) (st0:List SO) (ts:List Str) (k:Nat) (o1 o2 o3 o4:C.Slot):Sta:=⟨[some (.obj st0.length,false),o1,o2,o3,o4],rdS cR st0 ts k⟩
abbrev sl (t:T):C.Slot:=some (t,false)
theorem Fb {a b:Sm} {d:Int} (ha:a.2.length<30) (hb:b.2.length<30) {e:List C.Slot} {ms:M (List T)} {s0:Sta} (hm:ms s0=some ([.obj st0.length,smT a,smT b,.int d],⟨e,rdS cR st0 ts k⟩)) :
  gj (yu cR cN) ms s0=some (if vd (moS a b d)=true then .inl (moT (moS a b d)) else .inr (.int 1),⟨e,rdS cR st0 ts k⟩):=xmc hm (a6r ha hb)
theorem abj (h:Pts ts) {r:Option (T × Nat)} (hr:acp ts k=some r):Ans (oh cR cN [.obj st0.length] (rdS cR st0 ts k)) cR st0 ts r:=by
 unfold acp at hr;cases e1:Mz ts k with
 | none=>rw [e1] at hr; cases hr
 | some r1 =>
 rcases Mf (cR:=cR) (cN:=cN) (st0:=st0) h e1 (ms:=aj (bf 0) c7) (s0:=cpS cR st0 ts k none none none none) (e:=[sl (.obj st0.length),none,none,none,none]) rfl with ⟨a,j,g1,g2⟩ | ⟨g1,j,g2⟩
 case inr =>
  rw [e1,g1] at hr;cases hr;exact .inr ⟨rfl,j,m6 (xqr (xsr g2)) rfl⟩
 rw [e1,g1] at hr;dsimp only at hr;have A:Ei 1 (gj (u5 cR cN) (aj (bf 0) c7)) (cpS cR st0 ts k none none none none)=some (.inl .next,cpS cR st0 ts j (sl (smT a)) none none none):=xst g2 rfl
 have B:lx (jm 2 (m9 cR "next_token" (g8 cR cN) (bf 0) c7)) (cpS cR st0 ts j (sl (smT a)) none none none)=some (.inl .next,cpS cR st0 ts (j+1) (sl (smT a)) (sl (.str (see ts j))) none none) :=
  xl (ys (meth (s1:=cpS cR st0 ts j (sl (smT a)) none none none) (s2:=cpS cR st0 ts j (sl (smT a)) none none none) rfl rfl rfl (Aw h) aae) rfl)
 have ok:=(h.see j).okS;generalize see ts j=sg at hr B ok
 have C1:d9 (mOp Hy (bf 2) (dg (fun l=>some (.tup l)) (yg ["<=","<",">=",">","="]))) (cpS cR st0 ts (j+1) (sl (smT a)) (sl (.str sg)) none none)=some (!a93.contains sg,cpS cR st0 ts (j+1) (sl (smT a)) (sl (.str sg)) none none) :=
  zt (zo rfl rfl (Kw ok a5d))
 cases e2:a93.contains sg with
 | false =>
  rw [e2] at C1;rw [e2,if_neg (by decide)] at hr;cases hr;exact .inr ⟨rfl,j+1,m6 (xq A (xq B (xqr (xik C1 (xra (fld rfl rfl Mr)))))) rfl⟩
 | true =>
 rw [e2] at C1;rw [e2,if_pos rfl] at hr;cases e3:Mz ts (j+1) with
 | none=>rw [e3] at hr; cases hr
 | some r2 =>
 rcases Mf (cR:=cR) (cN:=cN) (st0:=st0) h e3 (ms:=aj (bf 0) c7) (s0:=cpS cR st0 ts (j+1) (sl (smT a)) (sl (.str sg)) none none) (e:=[sl (.obj st0.length),sl (smT a),sl (.str sg),none,none]) rfl with ⟨b,i,f1,f2⟩ | ⟨f1,i,f2⟩
 case inr =>
  rw [e3,f1] at hr;cases hr;exact .inr ⟨rfl,i,m6 (xq A (xq B (xq (xie C1 (xl rfl)) (xqr (xsr f2))))) rfl⟩
 rw [e3,f1] at hr;dsimp only at hr;rw [Option.ite_none_right_eq_some,Option.ite_none_right_eq_some] at hr;obtain ⟨ha,hb,hr⟩:=hr;cases hr;have D:Ei 3 (gj (u5 cR cN) (aj (bf 0) c7)) (cpS cR st0 ts (j+1) (sl (smT a)) (sl (.str sg)) none none)=some (.inl .next,cpS cR st0 ts i (sl (smT a)) (sl (.str sg)) (sl (smT b)) none):=xst f2 rfl;have E:d9 (mOp eqO (bf 2) (ao (.str "="))) (cpS cR st0 ts i (sl (smT a)) (sl (.str sg)) (sl (smT b)) none)=some (sg == "=",cpS cR st0 ts i (sl (smT a)) (sl (.str sg)) (sl (smT b)) none):=zt (zo rfl rfl (Az ok abl));unfold ad4;cases e4:(sg==("=" : Str)) with
 | true =>
  rw [e4] at E;rw [if_pos rfl];have M1:=Fb (cR:=cR) (cN:=cN) (st0:=st0) (ts:=ts) (k:=i) (d:=0) ha hb (ms:=aj (bf 0) (aj (bf 1) (aj (bf 3) (aj (ao (.int 0)) c7)))) (s0:=cpS cR st0 ts i (sl (smT a)) (sl (.str sg)) (sl (smT b)) none) rfl;have M2:=Fb (cR:=cR) (cN:=cN) (st0:=st0) (ts:=ts) (k:=i) (d:=0) hb ha (ms:=aj (bf 0) (aj (bf 3) (aj (bf 1) (aj (ao (.int 0)) c7)))) (s0:=cpS cR st0 ts i (sl (smT a)) (sl (.str sg)) (sl (smT b)) none) rfl;cases e5:vd (moS a b 0) with
  | false =>
   rw [e5,if_neg (by decide)] at M1;rw [if_neg (by decide)];exact .inr ⟨rfl,i,m6 (xq A (xq B (xq (xie C1 (xl rfl)) (xq D (xqr (xik E (xrr (xtr (a6m (xup rfl) (a05 (xtr (a05 M1))))))))))) ) rfl⟩
  | true =>
   rw [e5,if_pos rfl] at M1;rw [if_pos rfl];cases e6:vd (moS b a 0) with
   | false =>
    rw [e6,if_neg (by decide)] at M2;rw [if_neg (by decide)];exact .inr ⟨rfl,i,m6 (xq A (xq B (xq (xie C1 (xl rfl)) (xq D (xqr (xik E (xrr (xtr (a6m (xup rfl) (a05 (xtr (a6m M1 (a05 M2)))))))))))) ) rfl⟩
   | true =>
    rw [e6,if_pos rfl] at M2;rw [if_pos rfl];exact .inl ⟨_,_,rfl,ux (xq A (xq B (xq (xie C1 (xl rfl)) (xq D (xqt (xik E (xrt (xtu (xcs (xup rfl) (xcs (xtu (xcs M1 (xcs M2 rfl))) rfl)))))))))) rfl⟩
 | false =>
  rw [e4] at E;rw [if_neg (show ¬ false=true by decide)]
  have F:lx (jm 4 (mIf (d9 (mOp inT (bf 2) (dg (fun l=>some (.tup l)) (aj (ao (.str "<")) (aj (ao (.str ">")) c7))))) (ao (.int 1)) (ao (.int 0)))) (cpS cR st0 ts i (sl (smT a)) (sl (.str sg)) (sl (smT b)) none)=some (.inl .next,cpS cR st0 ts i (sl (smT a)) (sl (.str sg)) (sl (smT b)) (sl (.int (aas (a7i sg))))):=by
   have c:d9 (mOp inT (bf 2) (dg (fun l=>some (.tup l)) (aj (ao (.str "<")) (aj (ao (.str ">")) c7)))) (cpS cR st0 ts i (sl (smT a)) (sl (.str sg)) (sl (smT b)) none)=some (a7i sg,cpS cR st0 ts i (sl (smT a)) (sl (.str sg)) (sl (smT b)) none):=zt (zo rfl rfl (Dv ok W6));refine xl ?_;cases e:a7i sg with
   | true=>rw [e] at c; exact ys (a84 c rfl) rfl
   | false=>rw [e] at c; exact ys (a9u c rfl) rfl
  generalize aas (a7i sg)=d at F;have G:d9 (mOp inT (bf 2) (dg (fun l=>some (.tup l)) (aj (ao (.str "<=")) (aj (ao (.str "<")) c7)))) (cpS cR st0 ts i (sl (smT a)) (sl (.str sg)) (sl (smT b)) (sl (.int d)))=some (Q8.contains sg,cpS cR st0 ts i (sl (smT a)) (sl (.str sg)) (sl (smT b)) (sl (.int d))):=zt (zo rfl rfl (Dv ok Yl));have M1:=Fb (cR:=cR) (cN:=cN) (st0:=st0) (ts:=ts) (k:=i) (d:=d) ha hb (ms:=aj (bf 0) (aj (bf 1) (aj (bf 3) (aj (bf 4) c7)))) (s0:=cpS cR st0 ts i (sl (smT a)) (sl (.str sg)) (sl (smT b)) (sl (.int d))) rfl;have M2:=Fb (cR:=cR) (cN:=cN) (st0:=st0) (ts:=ts) (k:=i) (d:=d) hb ha (ms:=aj (bf 0) (aj (bf 3) (aj (bf 1) (aj (bf 4) c7)))) (s0:=cpS cR st0 ts i (sl (smT a)) (sl (.str sg)) (sl (smT b)) (sl (.int d))) rfl;unfold a4z;cases e5:Q8.contains sg with
  | true =>
   rw [e5] at G;rw [if_pos rfl];cases e6:vd (moS a b d) with
   | false =>
    rw [e6,if_neg (by decide)] at M1;rw [if_neg (by decide)];exact .inr ⟨rfl,i,m6 (xq A (xq B (xq (xie C1 (xl rfl)) (xq D (xq (xie E (xl rfl)) (xq F (xqr (xik G (xrr M1))))))))) rfl⟩
   | true =>
    rw [e6,if_pos rfl] at M1;rw [if_pos rfl];exact .inl ⟨_,_,rfl,ux (xq A (xq B (xq (xie C1 (xl rfl)) (xq D (xq (xie E (xl rfl)) (xq F (xqt (xik G (xrt M1))))))))) rfl⟩
  | false =>
   rw [e5] at G;rw [if_neg (show ¬ false=true by decide)];cases e6:vd (moS b a d) with
   | false =>
    rw [e6,if_neg (by decide)] at M2;rw [if_neg (by decide)];exact .inr ⟨rfl,i,m6 (xq A (xq B (xq (xie C1 (xl rfl)) (xq D (xq (xie E (xl rfl)) (xq F (xq (xie G (xl rfl)) (xrr M2)))))))) rfl⟩
   | true =>
    rw [e6,if_pos rfl] at M2;rw [if_pos rfl];exact .inl ⟨_,_,rfl,ux (xq A (xq B (xq (xie C1 (xl rfl)) (xq D (xq (xie E (xl rfl)) (xq F (xq (xie G (xl rfl)) (xrt M2)))))))) rfl⟩
end K
end
section
namespace K
open C PySem
variable {cR cN:Nat} {st0:List SO} {ts:List Str} {k:Nat}
theorem zrg {a:M T} {s s1:Sta} {m:Nat} (h:a s=some (.int (m:Int),s1)) (hl:m<lim):Bv a s=some ((List.range m).map (fun (k:Nat)=>T.int (k:Int)),s1):=by
 unfold Bv; rw [h]; dsimp only; unfold rangeT; simp [hl]
abbrev RT:=Option (Option (T × Nat))
theorem Bc {F:FnX} {us:List T} {r:Option (T × Nat)} (hA:Ans (F us (rdS cR st0 ts k)) cR st0 ts r) {e:List C.Slot} {ms:M (List T)} {s0:Sta} (hm:ms s0=some (us,⟨e,rdS cR st0 ts k⟩)) :
  (∃ t j,r=some (t,j)/\gj F ms s0=some (.inl t,⟨e,rdS cR st0 ts j⟩))\/(r=none/\∃ j,gj F ms s0=some (.inr (.int 1),⟨e,rdS cR st0 ts j⟩)):=by
 rcases hA with ⟨t,j,g1,g2⟩ | ⟨g1,j,g2⟩
 ·exact .inl ⟨t,j,g1,xmc hm g2⟩
 ·exact .inr ⟨g1,j,xmc hm g2⟩
noncomputable def Zr (w:Str) (f:Nat->RT) (ts:List Str):Nat->Nat->List T->Option (Option (List T × Nat))
 | 0,_,_=>none
 | m+1,k,acc=>if (see ts k==w)=true then
   match f (k+1) with
   | none=>none
   | some none=>some none
   | some (some (t,j))=>if acc.length<1000 then Zr w f ts m j (acc++[t]) else none
  else some (some (acc,k))
def jnT (w:Str) (l:List T):T:=if l.length=1 then l.headD (.int 0) else .tup [.str w,.tup l]
noncomputable def a1e (w:Str) (f:Nat->RT) (ts:List Str) (k:Nat):RT :=
 match f k with
 | none=>none
 | some none=>some none
 | some (some (t,j))=>match Zr w f ts 1000 j [t] with
  | none=>none
  | some none=>some none
  | some (some (l,i))=>some (some (jnT w l,i))
theorem joined {w:Str} {l:List T} {sto:List SO}:Fq [.str w,.lst l] sto=some (jnT w l,sto):=by
 have c:d9 (mOp eqO (dg xg (aj (bf 1) c7)) (ao (.int 1))) ⟨[some (.str w,false),some (.lst l,false)],sto⟩=some ((l.length:Int)==1,⟨[some (.str w,false),some (.lst l,false)],sto⟩) :=
  zt (zo (zm (zc rfl rfl) rfl) rfl Ra)
 unfold jnT
 by_cases z:l.length=1
 ·rw [if_pos z];rw [show ((l.length:Int)==1)=true by rw [z]; rfl] at c;obtain ⟨t,rfl⟩:=List.length_eq_one_iff.mp z;exact zrun (zr (a84 c (zo rfl rfl rfl))) rfl
 ·rw [if_neg z];rw [show ((l.length:Int)==1)=false by rw [beq_eq_false_iff_ne]; omega] at c;exact zrun (zr (a9u c (zm (zc rfl (zc (zm (zc rfl rfl) rfl) rfl)) rfl))) rfl
abbrev meS (cR:Nat) (st0:List SO) (ts:List Str) (op k:Nat) (o:C.Slot):Sta:=⟨[sl (.obj st0.length),sl (.bl true),sl (.int (op:Int)),o],rdS cR st0 ts k⟩
abbrev meA:M (List T):=aj (bf 0) (aj (bf 1) (aj (bf 2) c7))
abbrev meC (cR cN:Nat) (w:Str):M Bool:=d9 (m9 cR "took" (gn cR cN) (bf 0) (aj (ao (.str w)) c7))
abbrev args (st0:List SO) (op:Nat):List T:=[.obj st0.length,.bl true,.int (op:Int)]
def Mean (F:FnX) (cR:Nat) (st0:List SO) (ts:List Str) (op:Nat) (P:Nat->RT):Prop:=∀ k r,P k=some r->Ans (F (args st0 op) (rdS cR st0 ts k)) cR st0 ts r
theorem Oz (h:Pts ts) {w:Str} (hw:okS w) {op:Nat} {F:FnX} {P:Nat->RT} (hF:Mean F cR st0 ts op P):∀ (m k:Nat) (acc:List T) (r:Option (List T × Nat)),Zr w P ts m k acc=some r ->
  (∃ l j,r=some (l,j)/\ni m (meC cR cN w) (v7 3 (gj F meA)) (meS cR st0 ts op k (some (.lst acc,true)))=some (.inl .next,meS cR st0 ts op j (some (.lst l,true)))) \/
  (r=none/\∃ s' j,ni m (meC cR cN w) (v7 3 (gj F meA)) (meS cR st0 ts op k (some (.lst acc,true)))=some (.inr (.int 1),s')/\s'.sto=rdS cR st0 ts j)
 | 0,_,_,_,h0=>by cases h0
 | m+1,k,acc,r,h0=>by
  have c:meC cR cN w (meS cR st0 ts op k (some (.lst acc,true)))=some (see ts k==w,meS cR st0 ts op (if (see ts k==w)=true then k+1 else k) (some (.lst acc,true))) :=
   zt (meth (s1:=meS cR st0 ts op k (some (.lst acc,true))) (s2:=meS cR st0 ts op k (some (.lst acc,true))) rfl rfl rfl (took h hw) Ka)
  rw [Zr] at h0;cases e:(see ts k==w) with
  | false =>
   rw [e,if_neg (by decide)] at c;rw [e,if_neg (by decide)] at h0;cases h0;exact .inl ⟨acc,k,rfl,wxf c⟩
  | true =>
   rw [e,if_pos rfl] at c;rw [e,if_pos rfl] at h0;cases e1:P (k+1) with
   | none=>rw [e1] at h0; cases h0
   | some r1 =>
   rcases Bc (F:=F) (hF (k+1) r1 e1) (ms:=meA) (s0:=meS cR st0 ts op (k+1) (some (.lst acc,true))) (e:=[sl (.obj st0.length),sl (.bl true),sl (.int (op:Int)),some (.lst acc,true)]) rfl with ⟨t,j,g1,g2⟩ | ⟨g1,j,g2⟩
   ·rw [e1,g1] at h0;dsimp only at h0;rw [Option.ite_none_right_eq_some] at h0;obtain ⟨al,h0⟩:=h0;have B:v7 3 (gj F meA) (meS cR st0 ts op (k+1) (some (.lst acc,true)))=some (.inl .next,meS cR st0 ts op j (some (.lst (acc++[t]),true))):=xap rfl g2 rfl (show acc.length<1000000 by omega) rfl;rcases Oz h hw hF m j (acc++[t]) r h0 with ⟨l,i,f1,f2⟩ | ⟨f1,s',i,f2,f3⟩
    ·exact .inl ⟨l,i,f1,wxt c B f2⟩
    ·exact .inr ⟨f1,s',i,wxt c B f2,f3⟩
   ·rw [e1,g1] at h0;cases h0;exact .inr ⟨rfl,_,j,wxr c (adb rfl g2),rfl⟩
theorem a4l (h:Pts ts) {w:Str} (hw:okS w) {op:Nat} {F:FnX} {P:Nat->RT} (hF:Mean F cR st0 ts op P) {r:Option (T × Nat)} (hr:a1e w P ts k=some r) :
  Ans (jw 4 (o7 (Gs 3 (gq (gj F meA) nu)) (o7 (ni 1000 (meC cR cN w) (v7 3 (gj F meA))) (lx (um (j8 Fq (aj (ao (.str w)) (aj (bf 3) c7))))))) (args st0 op) (rdS cR st0 ts k)) cR st0 ts r:=by
 unfold a1e at hr;cases e1:P k with
 | none=>rw [e1] at hr; cases hr
 | some r1 =>
 rcases Bc (F:=F) (hF k r1 e1) (ms:=meA) (s0:=meS cR st0 ts op k none) (e:=[sl (.obj st0.length),sl (.bl true),sl (.int (op:Int)),none]) rfl with ⟨t,j,g1,g2⟩ | ⟨g1,j,g2⟩
 ·rw [e1,g1] at hr;dsimp only at hr;have N:Gs 3 (gq (gj F meA) nu) (meS cR st0 ts op k none)=some (.inl .next,meS cR st0 ts op j (some (.lst [t],true))):=xnl (xcs g2 rfl) rfl;cases e2:Zr w P ts 1000 j [t] with
  | none=>rw [e2] at hr; cases hr
  | some r2 =>
  rcases Oz (cN:=cN) h hw hF 1000 j [t] r2 e2 with ⟨l,i,f1,f2⟩ | ⟨f1,s',i,f2,f3⟩
  ·rw [e2,f1] at hr;dsimp only at hr;cases hr;exact .inl ⟨_,_,rfl,ux (xq N (xq f2 (xl (zr (zf0 (s1:=meS cR st0 ts op i (some (.lst l,false))) (zc rfl (zc rfl rfl)) joined))))) rfl⟩
  ·rw [e2,f1] at hr;cases hr;exact .inr ⟨rfl,i,m6 (xq N (xqr f2)) f3⟩
 ·rw [e1,g1] at hr;cases hr;exact .inr ⟨rfl,j,m6 (xqr (xnr (a05 g2))) rfl⟩
noncomputable def Yv (ts:List Str):Nat->Nat->Nat->Option (Nat × Nat)
 | 0,_,_=>none
 | m+1,k,c=>if (see ts k==("not" : Str))=true then Yv ts m (k+1) (c+1) else if c<1000 then some (c,k) else none
def a09:Nat->T->T
 | 0,t=>t
 | c+1,t=>a09 c (.tup [.str "not",t])
noncomputable def abd (f:Nat->RT) (ts:List Str) (k:Nat):RT :=
 match Yv ts 1000 k 0 with
 | none=>none
 | some (c,j)=>match f j with
  | none=>none
  | some none=>some none
  | some (some (t,i))=>some (some (a09 c t,i))
theorem a4c:okS ("not" : Str):=by unfold okS; decide +kernel
abbrev noS (cR:Nat) (st0:List SO) (ts:List Str) (op k c:Nat) (o o':C.Slot):Sta:=⟨[sl (.obj st0.length),sl (.bl true),sl (.int (op:Int)),sl (.int (c:Int)),o,o'],rdS cR st0 ts k⟩
abbrev noB:S:=jm 3 (mOp j4 (bf 3) (ao (.int 1)))
theorem Pk (h:Pts ts) {op:Nat}:∀ (m k c c' j:Nat),Yv ts m k c=some (c',j)->c'<1000/\qw m (meC cR cN "not") noB (noS cR st0 ts op k c none none)=some (.next,noS cR st0 ts op j c' none none)
 | 0,_,_,_,_,h0=>by cases h0
 | m+1,k,c,c',j,h0=>by
  have q:meC cR cN "not" (noS cR st0 ts op k c none none)=some (see ts k==("not" : Str),noS cR st0 ts op (if (see ts k==("not" : Str))=true then k+1 else k) c none none) :=
   zt (meth (s1:=noS cR st0 ts op k c none none) (s2:=noS cR st0 ts op k c none none) rfl rfl rfl (took h a4c) Ka)
  rw [Yv] at h0;rw [qw];dsimp only;rw [q];cases e:(see ts k==("not" : Str)) with
  | false =>
   rw [e,if_neg (by decide),Option.ite_none_right_eq_some] at h0;obtain ⟨h1,h2⟩:=h0;cases h2;exact ⟨h1,rfl⟩
  | true =>
   rw [e,if_pos rfl] at h0;have B:noB (noS cR st0 ts op (k+1) c none none)=some (.next,noS cR st0 ts op (k+1) (c+1) none none):=ys (zo rfl rfl rfl) rfl;rw [if_pos rfl];dsimp only;rw [B];exact Pk h m (k+1) (c+1) c' j h0
abbrev niB:S:=jm 4 (dg (fun l=>some (.tup l)) (aj (ao (.str "not")) (aj (bf 4) c7)))
theorem X3 {op c:Nat}:∀ (l:List T) (t:T) (o:C.Slot),∃ o',forL (hName 5) niB l (noS cR st0 ts op k c (sl t) o)=some (.next,noS cR st0 ts op k c (sl (a09 l.length t)) o')
 | [],t,o=>⟨o,rfl⟩
 | u::l,t,o=>by
  obtain ⟨o',e⟩:=X3 (op:=op) (c:=c) l (.tup [.str "not",t]) (sl u);have B:niB (noS cR st0 ts op k c (sl t) (sl u))=some (.next,noS cR st0 ts op k c (sl (.tup [.str "not",t])) (sl u)):=ys (zm (zc rfl (zc rfl rfl)) rfl) rfl;exact ⟨o',(abb (s1:=noS cR st0 ts op k c (sl t) (sl u)) rfl B).trans e⟩
theorem ace (h:Pts ts) {op:Nat} {F:FnX} {P:Nat->RT} (hF:Mean F cR st0 ts op P) {r:Option (T × Nat)} (hr:abd P ts k=some r) :
  Ans (jw 6 (o7 (lx (jm 3 (ao (.int 0)))) (o7 (lx (qw 1000 (meC cR cN "not") noB)) (o7 (Ei 4 (gj F meA)) (o7 (lx (S7 (hName 5) (Bv (bf 3)) niB)) (lx (um (bf 4))))))) (args st0 op) (rdS cR st0 ts k)) cR st0 ts r:=by
 unfold abd at hr;cases e0:Yv ts 1000 k 0 with
 | none=>rw [e0] at hr; cases hr
 | some cj =>
 obtain ⟨c,j⟩:=cj;rw [e0] at hr;dsimp only at hr;obtain ⟨hc,W⟩:=Pk (cR:=cR) (cN:=cN) (st0:=st0) (op:=op) h 1000 k 0 c j e0;have Z:lx (jm 3 (ao (.int 0))) ⟨[sl (.obj st0.length),sl (.bl true),sl (.int (op:Int)),none,none,none],rdS cR st0 ts k⟩=some (.inl .next,noS cR st0 ts op k 0 none none):=xl (ys rfl rfl);cases e1:P j with
 | none=>rw [e1] at hr; cases hr
 | some r1 =>
 rcases Bc (F:=F) (hF j r1 e1) (ms:=meA) (s0:=noS cR st0 ts op j c none none) (e:=[sl (.obj st0.length),sl (.bl true),sl (.int (op:Int)),sl (.int (c:Int)),none,none]) rfl with ⟨t,i,g1,g2⟩ | ⟨g1,i,g2⟩
 ·rw [e1,g1] at hr;dsimp only at hr;cases hr;obtain ⟨o',f⟩:=X3 (cR:=cR) (st0:=st0) (ts:=ts) (k:=i) (op:=op) (c:=c) ((List.range c).map (fun (k:Nat)=>T.int (k:Int))) t none;rw [List.length_map,List.length_range] at f;exact .inl ⟨_,_,rfl,ux (xq Z (xq (xl W) (xq (xst g2 rfl) (xq (xl (aen (zrg (m:=c) (s1:=noS cR st0 ts op i c (sl t) none) rfl (show c<1000000 by omega)) f)) (xl (zr rfl)))))) rfl⟩
 ·rw [e1,g1] at hr;cases hr;exact .inr ⟨rfl,i,m6 (xq Z (xq (xl W) (xqr (xsr g2)))) rfl⟩
end K
end
section
namespace K
open C PySem
variable {cR cN:Nat} {st0:List SO} {ts:List Str} {k:Nat}
def aav:T:=.tup [.str "and",.tup []]
def a7u:T:=.tup [.str "or",.tup []]
noncomputable def Rc (f:Nat->RT) (ts:List Str) (k:Nat):RT :=
 if (see ts k==("[" : Str))=true then f (k+1)
 else if (see ts k==("true" : Str))=true then some (some (aav,k+1))
 else if (see ts k==("false" : Str))=true then some (some (a7u,k+1))
 else if (see ts k==("at" : Str))=true then some (pAt ts (k+1))
 else if (see ts (k+1)==("divides" : Str))=true then abn ts k
 else acp ts k
noncomputable def ab2 (f:Nat->RT) (op:Nat) (ts:List Str) (k:Nat):RT :=
 if 20<op then some none
 else match f k with
  | none=>none
  | some none=>some none
  | some (some (t,j))=>if (see ts j==("]" : Str))=true then some (some (t,j+1)) else some none
theorem a88:okS ("[" : Str):=by unfold okS; decide +kernel
theorem acr:okS ("]" : Str):=by unfold okS; decide +kernel
theorem X6:okS ("true" : Str):=by unfold okS; decide +kernel
theorem Tc:okS ("false" : Str):=by unfold okS; decide +kernel
theorem aa0:okS ("at" : Str):=by unfold okS; decide +kernel
theorem acs:okS ("or" : Str):=by unfold okS; decide +kernel
theorem a7z:okS ("and" : Str):=by unfold okS; decide +kernel
abbrev siS (cR:Nat) (st0:List SO) (ts:List Str) (op k:Nat):Sta:=⟨[sl (.obj st0.length),sl (.bl true),sl (.int (op:Int))],rdS cR st0 ts k⟩
theorem Wj (h:Pts ts) {op:Nat} {w:Str} (hw:okS w):meC cR cN w (siS cR st0 ts op k)=some (see ts k==w,siS cR st0 ts op (if (see ts k==w)=true then k+1 else k)) :=
 zt (meth (s1:=siS cR st0 ts op k) (s2:=siS cR st0 ts op k) rfl rfl rfl (took h hw) Ka)
theorem a0z (h:Pts ts) {op:Nat} {w:Str} (hw:okS w) (e:(see ts k==w)=false):meC cR cN w (siS cR st0 ts op k)=some (false,siS cR st0 ts op k):=by
 have:=Wj (cR:=cR) (cN:=cN) (st0:=st0) (k:=k) (op:=op) h hw;rw [e,if_neg (by decide)] at this; exact this
theorem Ul (h:Pts ts) {op:Nat} {w:Str} (hw:okS w) (e:(see ts k==w)=true):meC cR cN w (siS cR st0 ts op k)=some (true,siS cR st0 ts op (k+1)):=by
 have:=Wj (cR:=cR) (cN:=cN) (st0:=st0) (k:=k) (op:=op) h hw;rw [e,if_pos rfl] at this; exact this
theorem M5 {F:FnX} {us:List T} {r:Option (T × Nat)} (hA:Ans (F us (rdS cR st0 ts k)) cR st0 ts r) {e:List C.Slot} {ms:M (List T)} {s0:Sta} (hm:ms s0=some (us,⟨e,rdS cR st0 ts k⟩)) :
  (∃ t j,r=some (t,j)/\Fw (gj F ms) s0=some (.inl (.ret t),⟨e,rdS cR st0 ts j⟩))\/(r=none/\∃ j,Fw (gj F ms) s0=some (.inr (.int 1),⟨e,rdS cR st0 ts j⟩)):=by
 rcases Bc hA hm with ⟨t,j,g1,g2⟩ | ⟨g1,j,g2⟩
 ·exact .inl ⟨t,j,g1,xrt g2⟩
 ·exact .inr ⟨g1,j,xrr g2⟩
theorem a3c (h:Pts ts) {op:Nat} {F:FnX} {P:Nat->RT} (hF:Mean F cR st0 ts (op+1) P) {r:Option (T × Nat)} (hr:Rc P ts k=some r) :
  Ans (jw 3 (o7 (xIf (meC cR cN "[") (Fw (gj F (aj (bf 0) (aj (bf 1) (aj (mOp j4 (bf 2) (ao (.int 1))) c7))))) (lx xr))
   (o7 (lx (sIf (meC cR cN "true") (um (ao (.tup [(.str "and"),(.tup [])]))) xr))
   (o7 (lx (sIf (meC cR cN "false") (um (ao (.tup [(.str "or"),(.tup [])]))) xr))
   (o7 (xIf (meC cR cN "at") (Fw (gj (Ai cR cN) (aj (bf 0) (aj (bf 1) c7)))) (lx xr))
   (o7 (xIf (d9 (mOp eqO (m9 cR "seen" (iw cR cN) (bf 0) (aj (ao (.int 1)) c7)) (ao (.str "divides")))) (Fw (gj (yp cR cN) (aj (bf 0) c7))) (lx xr))
   (Fw (gj (oh cR cN) (aj (bf 0) c7)))))))) (args st0 op) (rdS cR st0 ts k)) cR st0 ts r:=by
 unfold Rc at hr;cases e1:(see ts k==("[" : Str)) with
 | true =>
  rw [e1,if_pos rfl] at hr;have c:=Ul (cR:=cR) (cN:=cN) (st0:=st0) (op:=op) h a88 e1;rcases M5 (F:=F) (hF (k+1) r hr) (ms:=aj (bf 0) (aj (bf 1) (aj (mOp j4 (bf 2) (ao (.int 1))) c7))) (s0:=siS cR st0 ts op (k+1)) (e:=[sl (.obj st0.length),sl (.bl true),sl (.int (op:Int))]) (zc rfl (zc rfl (zc (zo rfl rfl rfl) rfl))) with ⟨t,j,g1,g2⟩ | ⟨g1,j,g2⟩
  ·exact .inl ⟨t,j,g1,ux (xqt (xik c g2)) rfl⟩
  ·exact .inr ⟨g1,j,m6 (xqr (xik c g2)) rfl⟩
 | false =>
 rw [e1,if_neg (by decide)] at hr;have A:=xie (a0z (cR:=cR) (cN:=cN) (st0:=st0) (op:=op) h a88 e1) (a:=Fw (gj F (aj (bf 0) (aj (bf 1) (aj (mOp j4 (bf 2) (ao (.int 1))) c7))))) (b:=lx xr) (xl rfl);cases e2:(see ts k==("true" : Str)) with
 | true =>
  rw [e2,if_pos rfl] at hr;cases hr;exact .inl ⟨_,_,rfl,ux (xq A (xqt (xl (zk (Ul (cR:=cR) (cN:=cN) (st0:=st0) (op:=op) h X6 e2) (zr rfl))))) rfl⟩
 | false =>
 rw [e2,if_neg (by decide)] at hr;have B:lx (sIf (meC cR cN "true") (um (ao (.tup [(.str "and"),(.tup [])]))) xr) (siS cR st0 ts op k)=some (.inl .next,siS cR st0 ts op k):=xl (ze (a0z (cR:=cR) (cN:=cN) (st0:=st0) (op:=op) h X6 e2) rfl);cases e3:(see ts k==("false" : Str)) with
 | true =>
  rw [e3,if_pos rfl] at hr;cases hr;exact .inl ⟨_,_,rfl,ux (xq A (xq B (xqt (xl (zk (Ul (cR:=cR) (cN:=cN) (st0:=st0) (op:=op) h Tc e3) (zr rfl)))))) rfl⟩
 | false =>
 rw [e3,if_neg (by decide)] at hr;have D:lx (sIf (meC cR cN "false") (um (ao (.tup [(.str "or"),(.tup [])]))) xr) (siS cR st0 ts op k)=some (.inl .next,siS cR st0 ts op k):=xl (ze (a0z (cR:=cR) (cN:=cN) (st0:=st0) (op:=op) h Tc e3) rfl);cases e4:(see ts k==("at" : Str)) with
 | true =>
  rw [e4,if_pos rfl] at hr;cases hr;have c:=Ul (cR:=cR) (cN:=cN) (st0:=st0) (op:=op) h aa0 e4;rcases M5 (F:=Ai cR cN) (af0 (cR:=cR) (cN:=cN) (st0:=st0) (k:=k+1) h) (ms:=aj (bf 0) (aj (bf 1) c7)) (s0:=siS cR st0 ts op (k+1)) (e:=[sl (.obj st0.length),sl (.bl true),sl (.int (op:Int))]) rfl with ⟨t,j,g1,g2⟩ | ⟨g1,j,g2⟩
  ·exact .inl ⟨t,j,g1,ux (xq A (xq B (xq D (xqt (xik c g2))))) rfl⟩
  ·exact .inr ⟨g1,j,m6 (xq A (xq B (xq D (xqr (xik c g2))))) rfl⟩
 | false =>
 rw [e4,if_neg (by decide)] at hr;have E:=xie (a0z (cR:=cR) (cN:=cN) (st0:=st0) (op:=op) h aa0 e4) (a:=Fw (gj (Ai cR cN) (aj (bf 0) (aj (bf 1) c7)))) (b:=lx xr) (xl rfl)
 have G:d9 (mOp eqO (m9 cR "seen" (iw cR cN) (bf 0) (aj (ao (.int 1)) c7)) (ao (.str "divides"))) (siS cR st0 ts op k)=some (see ts (k+1)==("divides" : Str),siS cR st0 ts op k) :=
  zt (zo (meth (s1:=siS cR st0 ts op k) (s2:=siS cR st0 ts op k) rfl rfl rfl (ab4 h.1) Kh) rfl (Az (h.see (k+1)).okS Kc))
 cases e5:(see ts (k+1)==("divides" : Str)) with
 | true =>
  rw [e5] at G;rw [e5,if_pos rfl] at hr;rcases M5 (F:=yp cR cN) (ac2 (cR:=cR) (cN:=cN) (st0:=st0) h hr) (ms:=aj (bf 0) c7) (s0:=siS cR st0 ts op k) (e:=[sl (.obj st0.length),sl (.bl true),sl (.int (op:Int))]) rfl with ⟨t,j,g1,g2⟩ | ⟨g1,j,g2⟩
  ·exact .inl ⟨t,j,g1,ux (xq A (xq B (xq D (xq E (xqt (xik G g2)))))) rfl⟩
  ·exact .inr ⟨g1,j,m6 (xq A (xq B (xq D (xq E (xqr (xik G g2)))))) rfl⟩
 | false =>
  rw [e5] at G;rw [e5,if_neg (by decide)] at hr;rcases M5 (F:=oh cR cN) (abj (cR:=cR) (cN:=cN) (st0:=st0) h hr) (ms:=aj (bf 0) c7) (s0:=siS cR st0 ts op k) (e:=[sl (.obj st0.length),sl (.bl true),sl (.int (op:Int))]) rfl with ⟨t,j,g1,g2⟩ | ⟨g1,j,g2⟩
  ·exact .inl ⟨t,j,g1,ux (xq A (xq B (xq D (xq E (xq (xie G (xl rfl)) g2))))) rfl⟩
  ·exact .inr ⟨g1,j,m6 (xq A (xq B (xq D (xq E (xq (xie G (xl rfl)) g2))))) rfl⟩
theorem ab0 (h:Pts ts) {op:Nat} {F:FnX} {P:Nat->RT} (hF:Mean F cR st0 ts op P) {r:Option (T × Nat)} (hr:ab2 P op ts k=some r) :
  Ans (jw 4 (o7 (xIf (d9 (mOp gtT (bf 2) (ao (.int 20)))) (xu (yx cR "row" (bf 0))) (lx xr)) (o7 (Ei 3 (gj F meA)) (o7 (Jy (mq cR "need" (qe cR cN) (bf 0) (gq (Ah (ao (.str "]"))) nu))) (lx (um (bf 3)))))) (args st0 op) (rdS cR st0 ts k)) cR st0 ts r:=by
 unfold ab2 at hr
 have c:d9 (mOp gtT (bf 2) (ao (.int 20))) (meS cR st0 ts op k none)=some (decide (20<op),meS cR st0 ts op k none):=by
  refine zt (zo rfl rfl ?_);show some (T.bl (decide ((20:Int)<(op:Int))))=_
  by_cases z:20<op
  ·rw [decide_eq_true z,decide_eq_true (by omega)]
  ·rw [decide_eq_false z,decide_eq_false (by omega)]
 by_cases z:20<op
 ·rw [if_pos z] at hr;rw [decide_eq_true z] at c;cases hr;exact .inr ⟨rfl,k,m6 (xqr (xik c (xra (fld rfl rfl Mr)))) rfl⟩
 rw [if_neg z] at hr;rw [decide_eq_false z] at c;cases e1:P k with
 | none=>rw [e1] at hr; cases hr
 | some r1 =>
 rcases Bc (F:=F) (hF k r1 e1) (ms:=meA) (s0:=meS cR st0 ts op k none) (e:=[sl (.obj st0.length),sl (.bl true),sl (.int (op:Int)),none]) rfl with ⟨t,j,g1,g2⟩ | ⟨g1,j,g2⟩
 ·rw [e1,g1] at hr;dsimp only at hr;have S:Ei 3 (gj F meA) (meS cR st0 ts op k none)=some (.inl .next,meS cR st0 ts op j (sl t)):=xst g2 rfl
  have D:mq cR "need" (qe cR cN) (bf 0) (gq (Ah (ao (.str "]"))) nu) (meS cR st0 ts op j (sl t))=some (if (see ts j==("]" : Str))=true then .inl .non else .inr (.int 1),meS cR st0 ts op (if (see ts j==("]" : Str))=true then j+1 else j) (sl t)) :=
   Nt (s1:=meS cR st0 ts op j (sl t)) (s2:=meS cR st0 ts op j (sl t)) rfl rfl rfl (need h acr) a3m
  cases e2:(see ts j==("]" : Str)) with
  | true =>
   rw [e2,if_pos rfl,if_pos rfl] at D;rw [e2,if_pos rfl] at hr;cases hr;exact .inl ⟨_,_,rfl,ux (xq (xie c (xl rfl)) (xq S (xq (xdt D) (xl (zr rfl))))) rfl⟩
  | false =>
   rw [e2,if_neg (by decide),if_neg (by decide)] at D;rw [e2,if_neg (by decide)] at hr;cases hr;exact .inr ⟨rfl,j,m6 (xq (xie c (xl rfl)) (xq S (xqr (xdr D)))) rfl⟩
 ·rw [e1,g1] at hr;cases hr;exact .inr ⟨rfl,j,m6 (xq (xie c (xl rfl)) (xqr (xsr g2))) rfl⟩
noncomputable def pG (ts:List Str):Nat->Nat->Nat->Nat->RT
 | 0,_,_,_=>none
 | n+1,0,op,k=>a1e "or" (pG ts n 1 op) ts k
 | n+1,1,op,k=>a1e "and" (pG ts n 2 op) ts k
 | n+1,2,op,k=>abd (pG ts n 3 op) ts k
 | n+1,3,op,k=>Rc (pG ts n 4 (op+1)) ts k
 | n+1,4,op,k=>ab2 (pG ts n 0 op) op ts k
 | _+1,_,_,_=>none
theorem G_x (h:Pts ts):∀ n op,Mean (uh cR cN n) cR st0 ts op (pG ts n 0 op)/\Mean (vm cR cN n) cR st0 ts op (pG ts n 1 op)/\Mean (vg cR cN n) cR st0 ts op (pG ts n 2 op)/\Mean (sy cR cN n) cR st0 ts op (pG ts n 3 op)/\Mean (mj cR cN n) cR st0 ts op (pG ts n 4 op)
 | 0,op=>⟨fun k r e=>by rw [pG] at e; (cases e),fun k r e=>by rw [pG] at e; (cases e),fun k r e=>by rw [pG] at e; (cases e),fun k r e=>by rw [pG] at e; (cases e),fun k r e=>by rw [pG] at e; (cases e)⟩
 | n+1,op=>by
  obtain ⟨h0,h1,h2,h3,h4⟩:=G_x h n op;have h5:=(G_x h n (op+1)).2.2.2.2;refine ⟨fun k r e=>?_,fun k r e=>?_,fun k r e=>?_,fun k r e=>?_,fun k r e=>?_⟩
  ·rw [pG] at e; rw [uh]; exact a4l h acs h1 e
  ·rw [pG] at e; rw [vm]; exact a4l h a7z h2 e
  ·rw [pG] at e; rw [vg]; exact ace h h3 e
  ·rw [pG] at e; rw [sy]; exact a3c h h5 e
  ·rw [pG] at e; rw [mj]; exact ab0 h h0 e
end K
end
section
namespace K
open C PySem
section
variable {sto:List SO}
def kinds:List Str:=["not","and","or","most","rest","at"]
def Zh:List Str:=["and","or"]
theorem a0q:∀ y∈kinds,okS y:=by unfold kinds okS; decide +kernel
theorem a0c:∀ y∈Zh,okS y:=by unfold Zh okS; decide +kernel
noncomputable def mem (t:T):Option (List T):=match t with
 | .tup (.str x::rest)=>if kinds.contains x=true then
   (if (x==("not" : Str))=true then (match rest with
    | u::_=>some [u]
    | []=>none)
   else if Zh.contains x=true then (match rest with
    | .tup l::_=>some l
    | _=>none)
   else some [])
  else none
 | _=>none
theorem i0 {x:T} {l:List T}:iz (.tup (x::l)) (.int 0)=some x:=by
 unfold iz ixI;simp
theorem i1 {x y:T} {l:List T}:iz (.tup (x::y::l)) (.int 1)=some y:=by
 unfold iz ixI;simp;rw [if_pos (by omega)];rfl
theorem ac5 {t:T} {l:List T} (h:mem t=some l):vp [t] sto=some (.tup l,sto):=by
 unfold mem at h;split at h
 case h_2=>cases h
 rename_i x rest;rw [Option.ite_none_right_eq_some] at h;obtain ⟨hk,h⟩:=h;have e7:okS x:=a0q x (List.contains_iff_mem.mp hk);have c:d9 (mOp eqO (mOp iz (bf 0) (ao (.int 0))) (ao (.str "not"))) ⟨[sl (.tup (.str x::rest))],sto⟩=some (x==("not" : Str),⟨[sl (.tup (.str x::rest))],sto⟩):=zt (zo (zo rfl rfl i0) rfl (Az e7 a4c));have d:d9 (mOp inT (mOp iz (bf 0) (ao (.int 0))) (dg (fun l=>some (.tup l)) (aj (ao (.str "and")) (aj (ao (.str "or")) c7)))) ⟨[sl (.tup (.str x::rest))],sto⟩=some (Zh.contains x,⟨[sl (.tup (.str x::rest))],sto⟩):=zt (zo (zo rfl rfl i0) rfl (Dv e7 a0c));cases e:(x==("not" : Str)) with
 | true =>
  rw [e] at c;rw [e,if_pos rfl] at h;split at h
  ·cases h;exact zrun (zqr (zk c (zr (zm (zc (zo rfl rfl i1) rfl) rfl)))) rfl
  ·cases h
 | false =>
  rw [e] at c;rw [e,if_neg (by decide)] at h;cases e2:Zh.contains x with
  | true =>
   rw [e2] at d;rw [e2,if_pos rfl] at h;split at h
   ·cases h;exact zrun (zq (ze c rfl) (zr (a84 d (zo rfl rfl i1)))) rfl
   ·cases h
  | false =>
   rw [e2] at d;rw [e2,if_neg (by decide)] at h;cases h;exact zrun (zq (ze c rfl) (zr (a9u d rfl))) rfl
noncomputable def Ja:Nat->List T->Nat->Option Nat
 | 0,_,_=>none
 | _+1,[],c=>some c
 | n+1,t::w,c=>match mem t with
  | none=>none
  | some l=>if w.length+l.length<900 then (if c<900 then Ja n (l++w) (c+1) else none) else none
theorem wnf {c:M Bool} {a:S} {s s1:Sta} {k:Nat} (h:c s=some (false,s1)):qw (k+1) c a s=some (.next,s1):=by rw [qw]; dsimp only; rw [h]
theorem wnt {c:M Bool} {a:S} {s s1 s2:Sta} {k:Nat} {q:Option (C.Flow × Sta)} (h:c s=some (true,s1)) (h1:a s1=some (.next,s2)) (h2:qw k c a s2=q):qw (k+1) c a s=q:=by rw [qw]; dsimp only; rw [h]; dsimp only; rw [h1]; exact h2
abbrev paC:M Bool:=d9 (mOp gtT (Iz 2) (ao (.int 0)))
abbrev paB:S:=nq (a5y 2 3) (nq (ud 1 (bf 3)) (Bp 2 (mUn a7r (j8 vp (aj (bf 3) c7)))))
abbrev pqS (r0:C.Slot) (P W:List T) (o:C.Slot) (sto:List SO):Sta:=⟨[r0,some (.lst P,true),some (.lst W,true),o],sto⟩
theorem Wu {r0:C.Slot}:∀ (n:Nat) (w P:List T) (o:C.Slot) (c:Nat),Ja n w P.length=some c->∃ P' o',P'.length=c/\qw n paC paB (pqS r0 P w.reverse o sto)=some (.next,pqS r0 P' [] o' sto)
 | 0,_,_,_,_,h=>by cases h
 | n+1,[],P,o,c,h=>by
  rw [Ja] at h;cases h;exact ⟨P,o,rfl,wnf (zt rfl)⟩
 | n+1,t::w,P,o,c,h=>by
  rw [Ja] at h;cases e:mem t with
  | none=>rw [e] at h; cases h
  | some l =>
  rw [e] at h;dsimp only at h;rw [Option.ite_none_right_eq_some,Option.ite_none_right_eq_some] at h;obtain ⟨l1,l2,h⟩:=h;obtain ⟨P',o',h1,h2⟩:=Wu (r0:=r0) n (l++w) (P++[t]) (sl t) c (by rw [List.length_append,List.length_singleton]; exact h);refine ⟨P',o',h1,?_⟩
  have C1:paC (pqS r0 P (t::w).reverse o sto)=some (true,pqS r0 P (t::w).reverse o sto):=by
   refine zt (zo (t:=.int ((t::w).reverse.length:Int)) rfl rfl ?_);rw [List.length_reverse,List.length_cons];show some (T.bl (decide ((0:Int)<((w.length+1:Nat):Int))))=_;rw [decide_eq_true (by omega)]
  have B1:a5y 2 3 (pqS r0 P (t::w).reverse o sto)=some (.next,pqS r0 P w.reverse (sl t) sto):=by
   unfold a5y;dsimp only [List.getElem?_cons_succ,List.getElem?_cons_zero];rw [List.reverse_cons,List.length_append,List.length_singleton,Nat.add_sub_cancel,List.getElem?_append_right (Nat.le_refl _),Nat.sub_self];dsimp only [List.getElem?_cons_zero];rw [List.dropLast_concat];rfl
  have B2:ud 1 (bf 3) (pqS r0 P w.reverse (sl t) sto)=some (.next,pqS r0 (P++[t]) w.reverse (sl t) sto):=za rfl rfl (show P.length<1000000 by omega) rfl rfl
  have B3:Bp 2 (mUn a7r (j8 vp (aj (bf 3) c7))) (pqS r0 (P++[t]) w.reverse (sl t) sto)=some (.next,pqS r0 (P++[t]) (l++w).reverse (sl t) sto) :=
   zex (s1:=pqS r0 (P++[t]) w.reverse (sl t) sto) (xs:=w.reverse) (zs:=l.reverse) (zun (zf0 (s1:=pqS r0 (P++[t]) w.reverse (sl t) sto) (zc rfl rfl) (ac5 e)) rfl) rfl rfl (by rw [List.length_reverse,List.length_reverse]; show _<1000000; omega) rfl (by rw [List.reverse_append]; rfl)
  exact wnt C1 (zq B1 (zq B2 B3)) h2
theorem a2z {t:T} {c:Nat} (h:Ja 1000 [t] 0=some c):Dg [t] sto=some (.int (c:Int),sto):=by
 obtain ⟨P',o',h1,h2⟩:=Wu (sto:=sto) (r0:=sl t) 1000 [t] [] none c h;have N1:sNew 1 (dg (fun l=>some (.lst l)) c7) ⟨[sl t,none,none,none],sto⟩=some (.next,⟨[sl t,some (.lst [],true),none,none],sto⟩):=yn rfl rfl;have N2:sNew 2 (dg (fun l=>some (.lst l)) (aj (bf 0) c7)) ⟨[sl t,some (.lst [],true),none,none],sto⟩=some (.next,pqS (sl t) [] [t].reverse none sto):=yn rfl rfl;have po:Gd [t] sto=some (.lst P',sto):=zrun (zq N1 (zq N2 (zq h2 (zr rfl)))) rfl;rw [<- h1];exact zrun (zr (zm (zc (zf0 (s1:=⟨[sl t],sto⟩) (zc rfl rfl) po) rfl) rfl)) rfl
end
variable {cR cN:Nat} {st0 sto:List SO} {ts:List Str} {k:Nat}
noncomputable def aaq (ts:List Str):RT :=
 match pG ts 120 0 0 0 with
 | none=>none
 | some none=>some none
 | some (some (t,j))=>match Ja 1000 [t] 0 with
  | none=>none
  | some c=>if 60<c then some none else some (some (t,j))
theorem a2s (h:Pts ts) {r:Option (T × Nat)} (hr:aaq ts=some r):Ans (v9 cR cN [.obj st0.length,.bl true] (rdS cR st0 ts 0)) cR st0 ts r:=by
 unfold aaq at hr;cases e1:pG ts 120 0 0 0 with
 | none=>rw [e1] at hr; cases hr
 | some r1 =>
 rcases Bc (F:=uh cR cN 120) ((G_x (cR:=cR) (cN:=cN) (st0:=st0) h 120 0).1 0 r1 e1) (ms:=aj (bf 0) (aj (bf 1) (aj (ao (.int 0)) c7))) (s0:=⟨[sl (.obj st0.length),sl (.bl true),none],rdS cR st0 ts 0⟩) (e:=[sl (.obj st0.length),sl (.bl true),none]) rfl with ⟨t,j,g1,g2⟩ | ⟨g1,j,g2⟩
 ·rw [e1,g1] at hr;dsimp only at hr;have A:Ei 2 (gj (uh cR cN 120) (aj (bf 0) (aj (bf 1) (aj (ao (.int 0)) c7)))) ⟨[sl (.obj st0.length),sl (.bl true),none],rdS cR st0 ts 0⟩=some (.inl .next,⟨[sl (.obj st0.length),sl (.bl true),sl t],rdS cR st0 ts j⟩):=xst g2 rfl;cases e2:Ja 1000 [t] 0 with
  | none=>rw [e2] at hr; cases hr
  | some c =>
  rw [e2] at hr;dsimp only at hr
  have C1:d9 (mOp gtT (j8 Dg (aj (bf 2) c7)) (ao (.int 60))) ⟨[sl (.obj st0.length),sl (.bl true),sl t],rdS cR st0 ts j⟩=some (decide (60<c),⟨[sl (.obj st0.length),sl (.bl true),sl t],rdS cR st0 ts j⟩):=by
   refine zt (zo (zf0 (s1:=⟨[sl (.obj st0.length),sl (.bl true),sl t],rdS cR st0 ts j⟩) (zc rfl rfl) (a2z e2)) rfl ?_);show some (T.bl (decide ((60:Int)<(c:Int))))=_
   by_cases z:60<c
   ·rw [decide_eq_true z,decide_eq_true (by omega)]
   ·rw [decide_eq_false z,decide_eq_false (by omega)]
  by_cases z:60<c
  ·rw [if_pos z] at hr;rw [decide_eq_true z] at C1;cases hr;exact .inr ⟨rfl,j,m6 (xq A (xqr (xik C1 (xra (fld rfl rfl Mr))))) rfl⟩
  ·rw [if_neg z] at hr;rw [decide_eq_false z] at C1;cases hr;exact .inl ⟨_,_,rfl,ux (xq A (xq (xie C1 (xl rfl)) (xl (zr rfl)))) rfl⟩
 ·rw [e1,g1] at hr;cases hr;exact .inr ⟨rfl,j,m6 (xqr (xsr g2)) rfl⟩
noncomputable def Rg (l:List Nat):Option (Option T) :=
 match toks 1000 l with
 | none=>some none
 | some ts=>match aaq ts with
  | none=>none
  | some none=>some none
  | some (some (t,j))=>some (if j<ts.length then none else some t)
def adt (o:Option T):T ⊕ T:=match o with
 | some t=>.inl t
 | none=>.inr (.int 1)
theorem a3p {x:Str} (h:Pn x) {r:Option T} (hr:Rg (cs x)=some r):∃ fs,uz cR cN [.str x] sto=some (adt r,sto++[.ins cR fs]):=by
 unfold Rg at hr;cases ht:toks 1000 (cs x) with
 | none =>
  rw [ht] at hr;cases hr;exact ⟨[],m6 (xqr (xsr (adg (s1:=⟨[some (.str x,false),none,none],sto⟩) (zc rfl (zc rfl rfl)) (a6y h ht)))) rfl⟩
 | some ts =>
  rw [ht] at hr;dsimp only at hr;have Mk:=xmk (c:=cR) (F:=u6 cR cN) (s:=⟨[some (.str x,false),none,none],sto⟩) (s1:=⟨[some (.str x,false),none,none],sto⟩) (a:=aj (bf 0) (aj (ao (.int 1)) c7)) (zc rfl (zc rfl rfl)) (Ss (cN:=cN) h ht);have A:Ei 1 (Ej cR (u6 cR cN) (aj (bf 0) (aj (ao (.int 1)) c7))) ⟨[some (.str x,false),none,none],sto⟩=some (.inl .next,⟨[some (.str x,false),some (.obj sto.length,false),none],rdS cR sto ts 0⟩):=xst Mk rfl;obtain ⟨p1,p2⟩:=Xh 1000 (cs x) ts ht h.1;have fO:Pts ts:=⟨Nat.lt_of_le_of_lt p1 h.2,fun t m=>⟨(p2 t m).1,Nat.lt_of_le_of_lt (p2 t m).2 h.2⟩⟩;cases e1:aaq ts with
  | none=>rw [e1] at hr; cases hr
  | some r1 =>
  rcases Bc (F:=v9 cR cN) (a2s (cR:=cR) (cN:=cN) (st0:=sto) fO e1) (ms:=aj (bf 1) (aj (ao (.bl true)) c7)) (s0:=⟨[sl (.str x),sl (.obj sto.length),none],rdS cR sto ts 0⟩) (e:=[sl (.str x),sl (.obj sto.length),none]) rfl with ⟨t,j,g1,g2⟩ | ⟨g1,j,g2⟩
  ·rw [e1,g1] at hr;dsimp only at hr;cases hr;have B:Ei 2 (gj (v9 cR cN) (aj (bf 1) (aj (ao (.bl true)) c7))) ⟨[some (.str x,false),some (.obj sto.length,false),none],rdS cR sto ts 0⟩=some (.inl .next,⟨[some (.str x,false),some (.obj sto.length,false),some (t,false)],rdS cR sto ts j⟩):=xst g2 rfl;have E:=Nt (cR:=cR) (m := "need_end") (F:=rm cR cN) (o:=bf 1) (a:=nu) (s:=⟨[some (.str x,false),some (.obj sto.length,false),some (t,false)],rdS cR sto ts j⟩) (s1:=⟨[some (.str x,false),some (.obj sto.length,false),some (t,false)],rdS cR sto ts j⟩) (s2:=⟨[some (.str x,false),some (.obj sto.length,false),some (t,false)],rdS cR sto ts j⟩) rfl rfl rfl (a2w (cR:=cR) (cN:=cN) (st0:=sto) (ts:=ts) (k:=j)) aey;refine ⟨rdF ts j,?_⟩
   by_cases z:j<ts.length
   ·rw [if_pos z] at E ⊢;exact m6 (xq A (xq B (xqr (xdr E)))) rfl
   ·rw [if_neg z] at E ⊢;exact ux (xq A (xq B (xq (xdt E) (xl (zr rfl))))) rfl
  ·rw [e1,g1] at hr;cases hr;exact ⟨rdF ts j,m6 (xq A (xqr (xsr g2))) rfl⟩
end K
end
section
namespace K
open C PySem
noncomputable def sums:List Str:=["x","7","-x + 2","3 * x - y","0","x2 - 1","999999999","-1","-2 * abcdefgh","2 * x + y + 5"]
noncomputable def comps:List Str:=["x <= 3","at h 0","[x = 1]","not y > 2","true","3 divides x","false","at h3 lab"]
section
variable {sto:List SO}
def rp (n:Nat) (x:Str):Str:=⟨((List.replicate n x.cps.toList).flatten).toArray⟩
theorem pick (L:List Str) {c m:Int} (hm:m=(L.length:Int)) (h0:0<m):∃ x∈L,iz (.lst (L.map T.str)) (.int (c%m))=some (.str x):=by
 have p0:=Int.emod_nonneg c (show m≠0 by omega);have p1:=Int.emod_lt_of_pos c h0;obtain ⟨k,ek⟩:∃ k:Nat,c%m=(k:Int):=⟨(c%m).toNat,by omega⟩;have hk:k<L.length:=by omega
 exact ⟨L[k],List.getElem_mem hk,by rw [ek]; exact Gz T.str L hk⟩
theorem sum_in {c:Int}:∃ x∈sums,Fg [.int c] sto=some (.str x,sto):=by
 obtain ⟨x,hx,e⟩:=pick sums (c:=c) (m:=10) (by decide) (by decide);have A:jm 1 (dg (fun l=>some (.lst l)) (yg ["x","7","-x + 2","3 * x - y","0","x2 - 1","999999999","-1","-2 * abcdefgh","2 * x + y + 5"])) ⟨[sl (.int c),none],sto⟩=some (.next,⟨[sl (.int c),sl (.lst (sums.map T.str))],sto⟩):=ys rfl rfl;exact ⟨x,hx,zrun (zq A (zr (zo rfl (zo rfl rfl (md (by decide))) e))) rfl⟩
theorem a5m {c:Int}:∃ x∈comps,qp [.int c] sto=some (.str x,sto):=by
 obtain ⟨x,hx,e⟩:=pick comps (c:=c) (m:=8) (by decide) (by decide);have A:jm 1 (dg (fun l=>some (.lst l)) (yg ["x <= 3","at h 0","[x = 1]","not y > 2","true","3 divides x","false","at h3 lab"])) ⟨[sl (.int c),none],sto⟩=some (.next,⟨[sl (.int c),sl (.lst (comps.map T.str))],sto⟩):=ys rfl rfl;exact ⟨x,hx,zrun (zq A (zr (zo rfl (zo rfl rfl (md (by decide))) e))) rfl⟩
noncomputable def bw0:List Str:=[""," ","and","not","or true","true and","true or","true true","not and true","[]"]
def bw1:List Str:=bw0++(["[true","true]"]:List Str)
noncomputable def bw2:List Str:=bw1++(["1 divides x","13 divides x","0 divides x","02 divides x","divides x","3 divides"]:List Str)
def bw3:List Str:=bw2++(["x divides 3"]:List Str)
noncomputable def bw4:List Str:=bw3++(["3 divides x <= 1","-3 divides x","3 divide x","at","at h","at 3 h","at h 100"]:List Str)
def bw5:List Str:=bw4++(["at h 01","at h -1"]:List Str)
noncomputable def bw6:List Str:=bw5++(["at or lab","at h lab lab","at h at","true <= 1","True","x","if <= 1","X <= 1","x <= 1;"]:List Str)
noncomputable def bw7:List Str:=bw6++(["1000000000 <= x","x <= 1000000000","x < -999999999","x + 1 >= 1000000000 * y"]:List Str)
def bw8:List Str:=bw7++(["x <= 1, y <= 2"]:List Str)
noncomputable def bw9:List Str:=bw8++(["999999999 * x >= -x","abcdefghi <= 1","x <= 1.5","x <= 1 {","x <= 01"]:List Str)
def a8h:List Str:=bw9++(["xand <= 1 and","7x <= 1"]:List Str)
noncomputable def aan:List Str:=a8h++([Str.join " and " (List.replicate 60 ("x <= 1" : Str)),rp 60 "not " ++ ("true" : Str),rp 21 "[" ++ ("true" : Str)++rp 21 "]"]:List Str)
noncomputable def a7m:List Str:=aan++([Str.join " or " (List.replicate 20 ("x = 1" : Str)),("true and [" : Str)++Str.join " or " (List.replicate 58 ("x <= 1" : Str))++("]" : Str)]:List Str)
noncomputable def bwW:List Str:=["box","lock","hand","own","wait","else","while","rounds","either","not","take","give"]
noncomputable def a4f:List Str:=a7m++(["box <= 1","lock <= 1","hand <= 1","own <= 1","wait <= 1","else <= 1","while <= 1","rounds <= 1","either <= 1","not <= 1","take <= 1","give <= 1","label <= 1","say <= 1","false <= 1"]:List Str)
theorem wS0 {c:Int} {one:Str}:jm 2 (dg (fun l=>some (.lst l)) (yg [""," ","and","not","or true","true and","true or","true true","not and true","[]"])) ⟨[sl (.int c),sl (.str one),none,none],sto⟩=some (.next,⟨[sl (.int c),sl (.str one),sl (.lst (bw0.map T.str)),none],sto⟩):=by kernel_rfl
theorem wS1 {c:Int} {one:Str}:jm 2 (mOp j4 (bf 2) (dg (fun l=>some (.lst l)) (aj (ao (.str "[true")) (aj (ao (.str "true]")) c7)))) ⟨[sl (.int c),sl (.str one),sl (.lst (bw0.map T.str)),none],sto⟩=some (.next,⟨[sl (.int c),sl (.str one),sl (.lst (bw1.map T.str)),none],sto⟩):=by kernel_rfl
theorem wS2 {c:Int} {one:Str}:jm 2 (mOp j4 (bf 2) (dg (fun l=>some (.lst l)) (yg ["1 divides x","13 divides x","0 divides x","02 divides x","divides x","3 divides"]))) ⟨[sl (.int c),sl (.str one),sl (.lst (bw1.map T.str)),none],sto⟩=some (.next,⟨[sl (.int c),sl (.str one),sl (.lst (bw2.map T.str)),none],sto⟩):=by kernel_rfl
theorem wS3 {c:Int} {one:Str}:jm 2 (mOp j4 (bf 2) (dg (fun l=>some (.lst l)) (aj (ao (.str "x divides 3")) c7))) ⟨[sl (.int c),sl (.str one),sl (.lst (bw2.map T.str)),none],sto⟩=some (.next,⟨[sl (.int c),sl (.str one),sl (.lst (bw3.map T.str)),none],sto⟩):=by kernel_rfl
theorem wS4 {c:Int} {one:Str}:jm 2 (mOp j4 (bf 2) (dg (fun l=>some (.lst l)) (yg ["3 divides x <= 1","-3 divides x","3 divide x","at","at h","at 3 h","at h 100"]))) ⟨[sl (.int c),sl (.str one),sl (.lst (bw3.map T.str)),none],sto⟩=some (.next,⟨[sl (.int c),sl (.str one),sl (.lst (bw4.map T.str)),none],sto⟩):=by kernel_rfl
theorem wS5 {c:Int} {one:Str}:jm 2 (mOp j4 (bf 2) (dg (fun l=>some (.lst l)) (aj (ao (.str "at h 01")) (aj (ao (.str "at h -1")) c7)))) ⟨[sl (.int c),sl (.str one),sl (.lst (bw4.map T.str)),none],sto⟩=some (.next,⟨[sl (.int c),sl (.str one),sl (.lst (bw5.map T.str)),none],sto⟩):=by kernel_rfl
theorem wS6 {c:Int} {one:Str}:jm 2 (mOp j4 (bf 2) (dg (fun l=>some (.lst l)) (yg ["at or lab","at h lab lab","at h at","true <= 1","True","x","if <= 1","X <= 1","x <= 1;"]))) ⟨[sl (.int c),sl (.str one),sl (.lst (bw5.map T.str)),none],sto⟩=some (.next,⟨[sl (.int c),sl (.str one),sl (.lst (bw6.map T.str)),none],sto⟩):=by kernel_rfl
theorem wS7 {c:Int} {one:Str}:jm 2 (mOp j4 (bf 2) (dg (fun l=>some (.lst l)) (yg ["1000000000 <= x","x <= 1000000000","x < -999999999","x + 1 >= 1000000000 * y"]))) ⟨[sl (.int c),sl (.str one),sl (.lst (bw6.map T.str)),none],sto⟩=some (.next,⟨[sl (.int c),sl (.str one),sl (.lst (bw7.map T.str)),none],sto⟩):=by kernel_rfl
theorem wS8 {c:Int} {one:Str}:jm 2 (mOp j4 (bf 2) (dg (fun l=>some (.lst l)) (aj (ao (.str "x <= 1, y <= 2")) c7))) ⟨[sl (.int c),sl (.str one),sl (.lst (bw7.map T.str)),none],sto⟩=some (.next,⟨[sl (.int c),sl (.str one),sl (.lst (bw8.map T.str)),none],sto⟩):=by kernel_rfl
theorem wS9 {c:Int} {one:Str}:jm 2 (mOp j4 (bf 2) (dg (fun l=>some (.lst l)) (yg ["999999999 * x >= -x","abcdefghi <= 1","x <= 1.5","x <= 1 {","x <= 01"]))) ⟨[sl (.int c),sl (.str one),sl (.lst (bw8.map T.str)),none],sto⟩=some (.next,⟨[sl (.int c),sl (.str one),sl (.lst (bw9.map T.str)),none],sto⟩):=by kernel_rfl
theorem adl {c:Int} {one:Str}:jm 2 (mOp j4 (bf 2) (dg (fun l=>some (.lst l)) (aj (ao (.str "xand <= 1 and")) (aj (ao (.str "7x <= 1")) c7)))) ⟨[sl (.int c),sl (.str one),sl (.lst (bw9.map T.str)),none],sto⟩=some (.next,⟨[sl (.int c),sl (.str one),sl (.lst (a8h.map T.str)),none],sto⟩):=by kernel_rfl
theorem ae4 {c:Int} {one:Str}:jm 2 (mOp j4 (bf 2) (dg (fun l=>some (.lst l)) (aj (mOp Dw (ao (.str " and ")) (mOp Ed (dg (fun l=>some (.lst l)) (aj (ao (.str "x <= 1")) c7)) (ao (.int 60)))) (aj (mOp j4 (mOp Ie (ao (.str "not ")) (ao (.int 60))) (ao (.str "true"))) (aj (mOp j4 (mOp j4 (mOp Ie (ao (.str "[")) (ao (.int 21))) (ao (.str "true"))) (mOp Ie (ao (.str "]")) (ao (.int 21)))) c7))))) ⟨[sl (.int c),sl (.str one),sl (.lst (a8h.map T.str)),none],sto⟩=some (.next,⟨[sl (.int c),sl (.str one),sl (.lst (aan.map T.str)),none],sto⟩):=by kernel_rfl
theorem Bt (a b:Str):cs (a++b)=cs a++cs b:=by
 show (a.cps++b.cps).toList=_;rw [Array.toList_append]
noncomputable def jl (sep:List Nat):List (List Nat)->List Nat
 | []=>[]
 | [x]=>x
 | x::y::r=>x++(sep++jl sep (y::r))
theorem Dy (sep:Str):∀ l:List Str,cs (Str.join sep l)=jl (cs sep) (l.map cs)
 | []=>by rw [Str.join]; rfl
 | [x]=>by rw [Str.join]; rfl
 | x::y::r=>by
  rw [Str.join]
  ·simp only [Bt,List.map_cons,jl];rw [Dy sep (y::r)];simp [jl]
  all_goals simp
theorem J20 {s:Sta}:mOp Dw (ao (.str " or ")) (mOp Ed (dg (fun l=>some (.lst l)) (aj (ao (.str "x = 1")) c7)) (ao (.int 20))) s=some (.str (Str.join " or " (List.replicate 20 ("x = 1" : Str))),s):=by kernel_rfl
theorem J58 {s:Sta}:mOp Dw (ao (.str " or ")) (mOp Ed (dg (fun l=>some (.lst l)) (aj (ao (.str "x <= 1")) c7)) (ao (.int 58))) s=some (.str (Str.join " or " (List.replicate 58 ("x <= 1" : Str))),s):=by kernel_rfl
theorem l58:(cs (Str.join " or " (List.replicate 58 ("x <= 1" : Str)))).length=576:=by
 rw [Dy]; decide +kernel
theorem abp {s:Sta}:mOp j4 (mOp j4 (ao (.str "true and [")) (mOp Dw (ao (.str " or ")) (mOp Ed (dg (fun l=>some (.lst l)) (aj (ao (.str "x <= 1")) c7)) (ao (.int 58))))) (ao (.str "]")) s=some (.str (("true and [" : Str)++Str.join " or " (List.replicate 58 ("x <= 1" : Str))++("]" : Str)),s):=by
 have h1:(("true and [" : Str)).length=10:=by decide +kernel
 have h2:(("]" : Str)).length=1:=by decide +kernel
 have h3:(Str.join " or " (List.replicate 58 ("x <= 1" : Str))).length=576:=by rw [<- l58,zp]
 refine zo (zo rfl J58 (ad ?_)) rfl (ad ?_)
 ·rw [h1,h3]; decide
 ·rw [zp,Bt,List.length_append,<- zp,<- zp,h1,h2,h3]; decide
theorem aed {c:Int} {one:Str}:jm 2 (mOp j4 (bf 2) (dg (fun l=>some (.lst l)) (aj (mOp Dw (ao (.str " or ")) (mOp Ed (dg (fun l=>some (.lst l)) (aj (ao (.str "x = 1")) c7)) (ao (.int 20)))) (aj (mOp j4 (mOp j4 (ao (.str "true and [")) (mOp Dw (ao (.str " or ")) (mOp Ed (dg (fun l=>some (.lst l)) (aj (ao (.str "x <= 1")) c7)) (ao (.int 58))))) (ao (.str "]"))) c7)))) ⟨[sl (.int c),sl (.str one),sl (.lst (aan.map T.str)),none],sto⟩=some (.next,⟨[sl (.int c),sl (.str one),sl (.lst (a7m.map T.str)),none],sto⟩) :=
 ys (zo rfl (zm (zc J20 (zc abp rfl)) rfl) (by kernel_rfl)) rfl
theorem af2 {c:Int} {one:Str}:jm 3 (dg (fun l=>some (.lst l)) (yg ["box","lock","hand","own","wait","else","while","rounds","either","not","take","give"])) ⟨[sl (.int c),sl (.str one),sl (.lst (a7m.map T.str)),none],sto⟩=some (.next,⟨[sl (.int c),sl (.str one),sl (.lst (a7m.map T.str)),sl (.lst (bwW.map T.str))],sto⟩):=by kernel_rfl
theorem ae3 {c:Int} {one:Str}:jm 2 (mOp j4 (bf 2) (uw 1 [] (hName 0) (Dj (mOp j4 (bf 3) (dg (fun l=>some (.lst l)) (aj (ao (.str "label")) (aj (ao (.str "say")) (aj (ao (.str "false")) c7)))))) Bx (mOp j4 (bf 0) (ao (.str " <= 1"))))) ⟨[sl (.int c),sl (.str one),sl (.lst (a7m.map T.str)),sl (.lst (bwW.map T.str))],sto⟩=some (.next,⟨[sl (.int c),sl (.str one),sl (.lst (a4f.map T.str)),sl (.lst (bwW.map T.str))],sto⟩):=by kernel_rfl
theorem a1r {c:Int} {one:Str}:∃ x∈a4f,o9 [.int c,.str one] sto=some (.str x,sto):=by
 obtain ⟨x,hx,e⟩:=pick a4f (c:=c) (m:=69) (by decide +kernel) (by decide);exact ⟨x,hx,zrun (zq wS0 (zq wS1 (zq wS2 (zq wS3 (zq wS4 (zq wS5 (zq wS6 (zq wS7 (zq wS8 (zq wS9 (zq adl (zq ae4 (zq aed (zq af2 (zq ae3 (zr (zo rfl (zo rfl rfl (md (by decide))) e))))))))))))))))) rfl⟩
end
noncomputable def Bj (b g:Str):List Str:=[b,g ++ " or " ++ b,("[" : Str)++b ++ "]",("not [" : Str)++b ++ "]",b ++ " and " ++ g,b]
theorem nj (a b:Str):(a++b).length=a.length+b.length:=by rw [zp,zp,zp,Bt,List.length_append]
theorem acz:(" or " : Str).length=4:=by decide +kernel
theorem a9l:(" and " : Str).length=5:=by decide +kernel
theorem acy:("[" : Str).length=1:=by decide +kernel
theorem ad0:("]" : Str).length=1:=by decide +kernel
theorem aag:("not [" : Str).length=5:=by decide +kernel
theorem Nh {c:Int} {b g:Str} {sto:List SO} (hb:b.length<1000) (hg:g.length<1000):∃ x∈Bj b g,uq [.int c,.str b,.str g] sto=some (.str x,sto):=by
 obtain ⟨x,hx,e⟩:=pick (Bj b g) (c:=c) (m:=6) rfl (by decide);have l1:g.length+(" or " : Str).length<lim:=by rw [acz]; show _<1000000; omega
 have l2:(g ++ " or ").length+b.length<lim:=by rw [nj,acz]; show _<1000000; omega
 have l3:("[" : Str).length+b.length<lim:=by rw [acy]; show _<1000000; omega
 have l4:(("[" : Str)++b).length+("]" : Str).length<lim:=by rw [nj,acy,ad0]; show _<1000000; omega
 have l5:("not [" : Str).length+b.length<lim:=by rw [aag]; show _<1000000; omega
 have l6:(("not [" : Str)++b).length+("]" : Str).length<lim:=by rw [nj,aag,ad0]; show _<1000000; omega
 have l7:b.length+(" and " : Str).length<lim:=by rw [a9l]; show _<1000000; omega
 have l8:(b ++ " and ").length+g.length<lim:=by rw [nj,a9l]; show _<1000000; omega
 exact ⟨x,hx,zrun (zq (s1:=⟨[sl (.int c),sl (.str b),sl (.str g),sl (.lst ((Bj b g).map T.str))],sto⟩)
  (ys (zm (zc rfl (zc (zo (zo rfl rfl (ad l1)) rfl (ad l2)) (zc (zo (zo rfl rfl (ad l3)) rfl (ad l4)) (zc (zo (zo rfl rfl (ad l5)) rfl (ad l6)) (zc (zo (zo rfl rfl (ad l7)) rfl (ad l8)) (zc rfl rfl)))))) rfl) rfl)
  (zr (zo rfl (zo rfl rfl (md (by decide))) e))) rfl⟩
theorem nl0:(" x <= 1" : Str).length=7:=by decide +kernel
theorem nl1:(" <=" : Str).length=3:=by decide +kernel
theorem nl2:("<= " : Str).length=3:=by decide +kernel
theorem nl3:(" <= " : Str).length=4:=by decide +kernel
theorem nl4:(" < = 1" : Str).length=6:=by decide +kernel
theorem nl5:(" =< 1" : Str).length=5:=by decide +kernel
theorem nl6:(" == 1" : Str).length=5:=by decide +kernel
theorem nl7:(" != 1" : Str).length=5:=by decide +kernel
theorem nl8:(" <> 1" : Str).length=5:=by decide +kernel
theorem nl9:(" + <= 1" : Str).length=7:=by decide +kernel
theorem Hj:(" - - y <= 1" : Str).length=11:=by decide +kernel
theorem Ho:(" + -1 <= 2" : Str).length=10:=by decide +kernel
theorem Hr:("+ x <= 1" : Str).length=8:=by decide +kernel
theorem Hs:("x * 2 <= 1" : Str).length=10:=by decide +kernel
theorem Hg:("2 x <= 1" : Str).length=8:=by decide +kernel
theorem Hh:("2 * 3 <= 1" : Str).length=10:=by decide +kernel
theorem Ht:("(" : Str).length=1:=by decide +kernel
theorem Hl:(") <= 1" : Str).length=6:=by decide +kernel
theorem Gx:("[" : Str).length=1:=by decide +kernel
theorem Gy:("] <= 1" : Str).length=6:=by decide +kernel
theorem Hv:(" <= 1" : Str).length=5:=by decide +kernel
theorem Hw:(" <= 1]" : Str).length=6:=by decide +kernel
theorem Hf:("] = 1" : Str).length=5:=by decide +kernel
noncomputable def bs0 (a b:Str):List Str:=[a,(a++(" x <= 1" : Str)),(a++(" <=" : Str)),(("<= " : Str)++a),((((a++(" <= " : Str))++b)++(" <= " : Str))++a)]
noncomputable def bs1 (a b:Str):List Str:=bs0 a b++[(a++(" < = 1" : Str)),(a++(" =< 1" : Str)),(a++(" == 1" : Str)),(a++(" != 1" : Str)),(a++(" <> 1" : Str)),(a++(" + <= 1" : Str))]
noncomputable def bs2 (a b:Str):List Str:=bs1 a b++[(a++(" - - y <= 1" : Str)),(a++(" + -1 <= 2" : Str)),("+ x <= 1" : Str),("x * 2 <= 1" : Str),("2 x <= 1" : Str),("2 * 3 <= 1" : Str)]
noncomputable def bs3 (a b:Str):List Str:=bs2 a b++[((("(" : Str)++a)++(") <= 1" : Str)),((("[" : Str)++a)++("] <= 1" : Str)),((("[" : Str)++a)++(" <= 1" : Str)),(a++(" <= 1]" : Str))]
def bs4 (a b:Str):List Str:=bs3 a b++[((("[" : Str)++a)++("] = 1" : Str))]
theorem bS0 {c:Int} {a b:Str} {sto:List SO} (ha:a.length<100) (hb:b.length<100):jm 3 (dg (fun l=>some (.lst l)) (aj (bf 1) (aj (mOp j4 (bf 1) (ao (.str " x <= 1"))) (aj (mOp j4 (bf 1) (ao (.str " <="))) (aj (mOp j4 (ao (.str "<= ")) (bf 1)) (aj (mOp j4 (mOp j4 (mOp j4 (mOp j4 (bf 1) (ao (.str " <= "))) (bf 2)) (ao (.str " <= "))) (bf 1)) c7)))))) ⟨[sl (.int c),sl (.str a),sl (.str b),none],sto⟩=some (.next,⟨[sl (.int c),sl (.str a),sl (.str b),sl (.lst ((bs0 a b).map T.str))],sto⟩):=ys (zm (zc rfl (zc (zo rfl rfl (ad (by simp only [nj,nl0,nl1,nl2,nl3,nl4,nl5,nl6,nl7,nl8,nl9,Hj,Ho,Hr,Hs,Hg,Hh,Ht,Hl,Gx,Gy,Hv,Hw,Hf]; show _<1000000; omega))) (zc (zo rfl rfl (ad (by simp only [nj,nl0,nl1,nl2,nl3,nl4,nl5,nl6,nl7,nl8,nl9,Hj,Ho,Hr,Hs,Hg,Hh,Ht,Hl,Gx,Gy,Hv,Hw,Hf]; show _<1000000; omega))) (zc (zo rfl rfl (ad (by simp only [nj,nl0,nl1,nl2,nl3,nl4,nl5,nl6,nl7,nl8,nl9,Hj,Ho,Hr,Hs,Hg,Hh,Ht,Hl,Gx,Gy,Hv,Hw,Hf]; show _<1000000; omega))) (zc (zo (zo (zo (zo rfl rfl (ad (by simp only [nj,nl0,nl1,nl2,nl3,nl4,nl5,nl6,nl7,nl8,nl9,Hj,Ho,Hr,Hs,Hg,Hh,Ht,Hl,Gx,Gy,Hv,Hw,Hf]; show _<1000000; omega))) rfl (ad (by simp only [nj,nl0,nl1,nl2,nl3,nl4,nl5,nl6,nl7,nl8,nl9,Hj,Ho,Hr,Hs,Hg,Hh,Ht,Hl,Gx,Gy,Hv,Hw,Hf]; show _<1000000; omega))) rfl (ad (by simp only [nj,nl0,nl1,nl2,nl3,nl4,nl5,nl6,nl7,nl8,nl9,Hj,Ho,Hr,Hs,Hg,Hh,Ht,Hl,Gx,Gy,Hv,Hw,Hf]; show _<1000000; omega))) rfl (ad (by simp only [nj,nl0,nl1,nl2,nl3,nl4,nl5,nl6,nl7,nl8,nl9,Hj,Ho,Hr,Hs,Hg,Hh,Ht,Hl,Gx,Gy,Hv,Hw,Hf]; show _<1000000; omega))) rfl))))) rfl) rfl
theorem bS1 {c:Int} {a b:Str} {sto:List SO} (ha:a.length<100) (hb:b.length<100):jm 3 (mOp j4 (bf 3) (dg (fun l=>some (.lst l)) (aj (mOp j4 (bf 1) (ao (.str " < = 1"))) (aj (mOp j4 (bf 1) (ao (.str " =< 1"))) (aj (mOp j4 (bf 1) (ao (.str " == 1"))) (aj (mOp j4 (bf 1) (ao (.str " != 1"))) (aj (mOp j4 (bf 1) (ao (.str " <> 1"))) (aj (mOp j4 (bf 1) (ao (.str " + <= 1"))) c7)))))))) ⟨[sl (.int c),sl (.str a),sl (.str b),sl (.lst ((bs0 a b).map T.str))],sto⟩=some (.next,⟨[sl (.int c),sl (.str a),sl (.str b),sl (.lst ((bs1 a b).map T.str))],sto⟩):=ys (zo rfl (zm (zc (zo rfl rfl (ad (by simp only [nj,nl0,nl1,nl2,nl3,nl4,nl5,nl6,nl7,nl8,nl9,Hj,Ho,Hr,Hs,Hg,Hh,Ht,Hl,Gx,Gy,Hv,Hw,Hf]; show _<1000000; omega))) (zc (zo rfl rfl (ad (by simp only [nj,nl0,nl1,nl2,nl3,nl4,nl5,nl6,nl7,nl8,nl9,Hj,Ho,Hr,Hs,Hg,Hh,Ht,Hl,Gx,Gy,Hv,Hw,Hf]; show _<1000000; omega))) (zc (zo rfl rfl (ad (by simp only [nj,nl0,nl1,nl2,nl3,nl4,nl5,nl6,nl7,nl8,nl9,Hj,Ho,Hr,Hs,Hg,Hh,Ht,Hl,Gx,Gy,Hv,Hw,Hf]; show _<1000000; omega))) (zc (zo rfl rfl (ad (by simp only [nj,nl0,nl1,nl2,nl3,nl4,nl5,nl6,nl7,nl8,nl9,Hj,Ho,Hr,Hs,Hg,Hh,Ht,Hl,Gx,Gy,Hv,Hw,Hf]; show _<1000000; omega))) (zc (zo rfl rfl (ad (by simp only [nj,nl0,nl1,nl2,nl3,nl4,nl5,nl6,nl7,nl8,nl9,Hj,Ho,Hr,Hs,Hg,Hh,Ht,Hl,Gx,Gy,Hv,Hw,Hf]; show _<1000000; omega))) (zc (zo rfl rfl (ad (by simp only [nj,nl0,nl1,nl2,nl3,nl4,nl5,nl6,nl7,nl8,nl9,Hj,Ho,Hr,Hs,Hg,Hh,Ht,Hl,Gx,Gy,Hv,Hw,Hf]; show _<1000000; omega))) rfl)))))) rfl) rfl) rfl
theorem bS2 {c:Int} {a b:Str} {sto:List SO} (ha:a.length<100) (hb:b.length<100):jm 3 (mOp j4 (bf 3) (dg (fun l=>some (.lst l)) (aj (mOp j4 (bf 1) (ao (.str " - - y <= 1"))) (aj (mOp j4 (bf 1) (ao (.str " + -1 <= 2"))) (aj (ao (.str "+ x <= 1")) (aj (ao (.str "x * 2 <= 1")) (aj (ao (.str "2 x <= 1")) (aj (ao (.str "2 * 3 <= 1")) c7)))))))) ⟨[sl (.int c),sl (.str a),sl (.str b),sl (.lst ((bs1 a b).map T.str))],sto⟩=some (.next,⟨[sl (.int c),sl (.str a),sl (.str b),sl (.lst ((bs2 a b).map T.str))],sto⟩):=ys (zo rfl (zm (zc (zo rfl rfl (ad (by simp only [nj,nl0,nl1,nl2,nl3,nl4,nl5,nl6,nl7,nl8,nl9,Hj,Ho,Hr,Hs,Hg,Hh,Ht,Hl,Gx,Gy,Hv,Hw,Hf]; show _<1000000; omega))) (zc (zo rfl rfl (ad (by simp only [nj,nl0,nl1,nl2,nl3,nl4,nl5,nl6,nl7,nl8,nl9,Hj,Ho,Hr,Hs,Hg,Hh,Ht,Hl,Gx,Gy,Hv,Hw,Hf]; show _<1000000; omega))) (zc rfl (zc rfl (zc rfl (zc rfl rfl)))))) rfl) rfl) rfl
theorem bS3 {c:Int} {a b:Str} {sto:List SO} (ha:a.length<100) (hb:b.length<100):jm 3 (mOp j4 (bf 3) (dg (fun l=>some (.lst l)) (aj (mOp j4 (mOp j4 (ao (.str "(")) (bf 1)) (ao (.str ") <= 1"))) (aj (mOp j4 (mOp j4 (ao (.str "[")) (bf 1)) (ao (.str "] <= 1"))) (aj (mOp j4 (mOp j4 (ao (.str "[")) (bf 1)) (ao (.str " <= 1"))) (aj (mOp j4 (bf 1) (ao (.str " <= 1]"))) c7)))))) ⟨[sl (.int c),sl (.str a),sl (.str b),sl (.lst ((bs2 a b).map T.str))],sto⟩=some (.next,⟨[sl (.int c),sl (.str a),sl (.str b),sl (.lst ((bs3 a b).map T.str))],sto⟩):=ys (zo rfl (zm (zc (zo (zo rfl rfl (ad (by simp only [nj,nl0,nl1,nl2,nl3,nl4,nl5,nl6,nl7,nl8,nl9,Hj,Ho,Hr,Hs,Hg,Hh,Ht,Hl,Gx,Gy,Hv,Hw,Hf]; show _<1000000; omega))) rfl (ad (by simp only [nj,nl0,nl1,nl2,nl3,nl4,nl5,nl6,nl7,nl8,nl9,Hj,Ho,Hr,Hs,Hg,Hh,Ht,Hl,Gx,Gy,Hv,Hw,Hf]; show _<1000000; omega))) (zc (zo (zo rfl rfl (ad (by simp only [nj,nl0,nl1,nl2,nl3,nl4,nl5,nl6,nl7,nl8,nl9,Hj,Ho,Hr,Hs,Hg,Hh,Ht,Hl,Gx,Gy,Hv,Hw,Hf]; show _<1000000; omega))) rfl (ad (by simp only [nj,nl0,nl1,nl2,nl3,nl4,nl5,nl6,nl7,nl8,nl9,Hj,Ho,Hr,Hs,Hg,Hh,Ht,Hl,Gx,Gy,Hv,Hw,Hf]; show _<1000000; omega))) (zc (zo (zo rfl rfl (ad (by simp only [nj,nl0,nl1,nl2,nl3,nl4,nl5,nl6,nl7,nl8,nl9,Hj,Ho,Hr,Hs,Hg,Hh,Ht,Hl,Gx,Gy,Hv,Hw,Hf]; show _<1000000; omega))) rfl (ad (by simp only [nj,nl0,nl1,nl2,nl3,nl4,nl5,nl6,nl7,nl8,nl9,Hj,Ho,Hr,Hs,Hg,Hh,Ht,Hl,Gx,Gy,Hv,Hw,Hf]; show _<1000000; omega))) (zc (zo rfl rfl (ad (by simp only [nj,nl0,nl1,nl2,nl3,nl4,nl5,nl6,nl7,nl8,nl9,Hj,Ho,Hr,Hs,Hg,Hh,Ht,Hl,Gx,Gy,Hv,Hw,Hf]; show _<1000000; omega))) rfl)))) rfl) rfl) rfl
theorem bS4 {c:Int} {a b:Str} {sto:List SO} (ha:a.length<100) (hb:b.length<100):jm 3 (mOp j4 (bf 3) (dg (fun l=>some (.lst l)) (aj (mOp j4 (mOp j4 (ao (.str "[")) (bf 1)) (ao (.str "] = 1"))) c7))) ⟨[sl (.int c),sl (.str a),sl (.str b),sl (.lst ((bs3 a b).map T.str))],sto⟩=some (.next,⟨[sl (.int c),sl (.str a),sl (.str b),sl (.lst ((bs4 a b).map T.str))],sto⟩):=ys (zo rfl (zm (zc (zo (zo rfl rfl (ad (by simp only [nj,nl0,nl1,nl2,nl3,nl4,nl5,nl6,nl7,nl8,nl9,Hj,Ho,Hr,Hs,Hg,Hh,Ht,Hl,Gx,Gy,Hv,Hw,Hf]; show _<1000000; omega))) rfl (ad (by simp only [nj,nl0,nl1,nl2,nl3,nl4,nl5,nl6,nl7,nl8,nl9,Hj,Ho,Hr,Hs,Hg,Hh,Ht,Hl,Gx,Gy,Hv,Hw,Hf]; show _<1000000; omega))) rfl) rfl) rfl) rfl
theorem Qv {c:Int} {a b:Str} {sto:List SO} (ha:a.length<100) (hb:b.length<100):∃ x∈bs4 a b,qt [.int c,.str a,.str b] sto=some (.str x,sto):=by
 obtain ⟨x,hx,e⟩:=pick (bs4 a b) (c:=c) (m:=22) rfl (by decide);exact ⟨x,hx,zrun (zq (bS0 ha hb) (zq (bS1 ha hb) (zq (bS2 ha hb) (zq (bS3 ha hb) (zq (bS4 ha hb) (zr (zo rfl (zo rfl rfl (md (by decide))) e))))))) rfl⟩
variable {cR cN:Nat} {sto:List SO}
theorem refused {x:Str} (h:Pn x) (hr:Rg (cs x)=some none):∃ z,qg cR cN [.str x] sto=some (.bl true,z):=by
 obtain ⟨fs,e⟩:=a3p (cR:=cR) (cN:=cN) (sto:=sto) h hr
 have gx:(sto++[SO.ins cR fs]++[SO.exc cN "row" (.int 1)])[(sto++[SO.ins cR fs]).length]? = some (.exc cN "row" (.int 1)):=by
  rw [List.getElem?_append_right (Nat.le_refl _),Nat.sub_self]; rfl
 have T1:Zi cN "row" (uz cR cN) (aj (bf 0) c7) 2 1 ⟨[sl (.str x),sl .non,none,none],sto⟩=some (.next,⟨[sl (.str x),sl (.obj (sto++[SO.ins cR fs]).length),none,none],sto++[SO.ins cR fs]++[SO.exc cN "row" (.int 1)]⟩):=by
  unfold Zi;rw [show aj (bf 0) c7 ⟨[sl (.str x),sl .non,none,none],sto⟩=some ([.str x],⟨[sl (.str x),sl .non,none,none],sto⟩) from rfl];dsimp only;rw [e];rfl
 generalize (sto++[SO.ins cR fs]).length=n at gx T1;generalize sto++[SO.ins cR fs]++[SO.exc cN "row" (.int 1)]=Z at gx T1;have V:∀ o:C.Slot,bf 1 ⟨[sl (.str x),sl (.obj n),none,o],Z⟩=some (.obj n,⟨[sl (.str x),sl (.obj n),none,o],Z⟩):=fun o=>rfl
 have I:∀ o:C.Slot,Qe [(cN,"row",true)] (bf 1) ⟨[sl (.str x),sl (.obj n),none,o],Z⟩=some (.bl true,⟨[sl (.str x),sl (.obj n),none,o],Z⟩):=fun o=>by
  unfold Qe;rw [V o];dsimp only;rw [gx];simp
 have I0:∀ o:C.Slot,Qe [(cN,"row",false)] (bf 1) ⟨[sl (.str x),sl (.obj n),none,o],Z⟩=some (.bl false,⟨[sl (.str x),sl (.obj n),none,o],Z⟩):=fun o=>by
  unfold Qe;rw [V o];dsimp only;rw [gx];simp
 have X:∀ o:C.Slot,mXf cN "row" (bf 1) ⟨[sl (.str x),sl (.obj n),none,o],Z⟩=some (.int 1,⟨[sl (.str x),sl (.obj n),none,o],Z⟩):=fun o=>by
  unfold mXf;rw [V o];dsimp only;rw [gx];simp
 have N1:=Vq (k:=true) (zt (I none));have N2:d9 (mOp neO (mXf cN "row" (bf 1)) (ao (.int 1))) ⟨[sl (.str x),sl (.obj n),none,none],Z⟩=some (false,⟨[sl (.str x),sl (.obj n),none,none],Z⟩):=zt (zo (X none) rfl (by rw [Sd]; rfl))
 have S3:jm 3 (dg (fun l=>some (.lst l)) (aj (Qe [(cN,"row",false)] (bf 1)) (aj (Qe [(cN,"row",false)] (bf 1)) (aj (Qe [(cN,"row",false)] (bf 1)) c7)))) ⟨[sl (.str x),sl (.obj n),none,none],Z⟩=some (.next,⟨[sl (.str x),sl (.obj n),none,sl (.lst [.bl false,.bl false,.bl false])],Z⟩) :=
  ys (zm (zc (I0 none) (zc (I0 none) (zc (I0 none) rfl))) rfl) rfl
 have J:=I0 (sl (.lst [.bl false,.bl false,.bl false]));exact ⟨Z,zrun (zq (ys rfl rfl) (zq T1 (zq (ze (Lw N1 (Lw N1 N2)) rfl) (zq S3 (zr (zb (Vq (k:=false) (zt (zm (zc (zo rfl (zm (zc J (zc J rfl)) rfl) rfl) rfl) rfl))))))))) rfl⟩
def okT (l:List Nat):Bool:=(l.all fun c=>decide (c<128))&&decide (l.length<1000)
def Sq (l:List Nat):Bool:=okT l&&(match Rg l with
 | some none=>true
 | _=>false)
theorem Nx {x:Str} (h:Sq (cs x)=true):∃ z,qg cR cN [.str x] sto=some (.bl true,z):=by
 unfold Sq okT at h;rw [Bool.and_eq_true,Bool.and_eq_true,List.all_eq_true,decide_eq_true_eq] at h;obtain ⟨⟨h1,h2⟩,h3⟩:=h;refine refused ⟨fun c hc=>of_decide_eq_true (h1 c hc),h2⟩ ?_;split at h3
 ·assumption
 ·cases h3
theorem Q7 {x:Str} {t:T} (h:okT (cs x)=true) (hr:Rg (cs x)=some (some t)):∃ fs,qm cR cN [.str x] sto=some (t,sto++[.ins cR fs]):=by
 unfold okT at h;rw [Bool.and_eq_true,List.all_eq_true,decide_eq_true_eq] at h;obtain ⟨fs,e⟩:=a3p (cR:=cR) (cN:=cN) (sto:=sto) ⟨fun c hc=>of_decide_eq_true (h.1 c hc),h.2⟩ hr;refine ⟨fs,?_⟩;unfold qm norm;rw [e];rfl
end K
end
section
namespace K
open C PySem
variable {cR cN:Nat} {sto:List SO}
noncomputable def plB:Nat->T->Bool
 | 0,_=>false
 | n+1,.tup l=>decide (l.length<1000)&&l.all (plB n)
 | _+1,.str x=>PyData.canLay0 (.str x)
 | _+1,.int _=>true
 | _+1,_=>false
theorem adf {l:List T} {k:Nat} (hk:k<l.length):iz (.tup l) (.int (k:Int))=some l[k]:=by
 unfold iz;simp [ixI,hk]
theorem acw {α:Type} (l:List α):a6c [.lst (l.map fun _=>T.bl true)]=some (.bl true):=by
 rw [a80.1]; simp
abbrev alS (t:T) (sto:List SO):Sta:=⟨[sl t,sl t],sto⟩
theorem alike:∀ (n:Nat) (t:T),plB n t=true->kh n [t,t] sto=some (.bl true,sto)
 | 0,_,h=>by rw [plB] at h; cases h
 | n+1,t,h=>by
  rw [kh];cases t with
  | tup l =>
   rw [plB,Bool.and_eq_true,decide_eq_true_eq,List.all_eq_true] at h;obtain ⟨hl,h⟩:=h;have it:d9 (dg isTup (aj (bf 1) c7)) (alS (.tup l) sto)=some (true,alS (.tup l) sto):=zt (zm (zc rfl rfl) (by simp [isTup]));have i0:Fx (d9 (dg isTup (aj (bf 0) c7))) (alS (.tup l) sto)=some (false,alS (.tup l) sto):=Vq (k:=true) (zt (zm (zc rfl rfl) (by simp [isTup])));have ne:d9 (mOp neO (dg xg (aj (bf 0) c7)) (dg xg (aj (bf 1) c7))) (alS (.tup l) sto)=some (false,alS (.tup l) sto):=zt (zo (zm (zc rfl rfl) rfl) (zm (zc rfl rfl) rfl) (by rw [Sd]; simp))
   have c:=Cq (fun (k:Nat)=>T.int (k:Int)) (fun _=>T.bl true) (List.range l.length) (g:=hName 0) (nv:=1) (ci:=[0,1]) (c:=Bx) (it:=Bv (dg xg (aj (bf 1) c7))) (e:=j8 (kh n) (aj (mOp iz (bf 1) (bf 0)) (aj (mOp iz (bf 2) (bf 0)) c7))) (s:=alS (.tup l) sto) (s1:=alS (.tup l) sto) [sl (.tup l),sl (.tup l)] [sl (.tup l),sl (.tup l)]
    (zrg (zm (zc rfl rfl) rfl) (show l.length<1000000 by omega)) rfl rfl rfl (by rw [List.length_range]; show _<=1000000; omega) (by
     intro k hk pre aF
     obtain ⟨a,rfl⟩:∃ a,pre=[a]:=by
      match pre,aF with
      | [a],_=>exact ⟨a,rfl⟩
     have eD:k<l.length:=List.mem_range.mp hk;exact ⟨[sl (.int (k:Int))],rfl,rfl,rfl,zf0 (s1:=⟨[sl (.int (k:Int)),sl (.tup l),sl (.tup l)],sto⟩) (zc (zo rfl rfl (adf eD)) (zc (zo rfl rfl (adf eD)) rfl)) (alike n l[k] (h _ (List.getElem_mem eD)))⟩)
   exact zrun (zqr (zk it (zq (ze (Lw i0 ne) rfl) (zr (zm (zc c rfl) (acw _)))))) rfl
  | str x =>
   rw [plB] at h;have ok:okS x:=h;have it:d9 (dg isTup (aj (bf 1) c7)) (alS (.str x) sto)=some (false,alS (.str x) sto):=zt (zm (zc rfl rfl) (by simp [isTup]));have is:d9 (dg isStr (aj (bf 1) c7)) (alS (.str x) sto)=some (true,alS (.str x) sto):=zt (zm (zc rfl rfl) rfl);have fz:d9 (dg isStr (aj (bf 0) c7)) (alS (.str x) sto)=some (true,alS (.str x) sto):=zt (zm (zc rfl rfl) rfl);have eq:d9 (mOp eqO (bf 0) (bf 1)) (alS (.str x) sto)=some (true,alS (.str x) sto):=zt (zo rfl rfl (by rw [Az ok ok]; simp));exact zrun (zq (ze it rfl) (zqr (zk is (zr (zb (a9o fz eq)))))) rfl
  | int i =>
   have it:d9 (dg isTup (aj (bf 1) c7)) (alS (.int i) sto)=some (false,alS (.int i) sto):=zt (zm (zc rfl rfl) (by simp [isTup]));have is:d9 (dg isStr (aj (bf 1) c7)) (alS (.int i) sto)=some (false,alS (.int i) sto):=zt (zm (zc rfl rfl) rfl);have ii:d9 (dg isInt (aj (bf 0) c7)) (alS (.int i) sto)=some (true,alS (.int i) sto):=zt (zm (zc rfl rfl) rfl);have ib:d9 (Ak (Fx (d9 (dg aa1 (aj (bf 0) c7))))) (alS (.int i) sto)=some (true,alS (.int i) sto):=zt (zb (Vq (k:=false) (zt (zm (zc rfl rfl) rfl))));have eq:d9 (mOp eqO (bf 0) (bf 1)) (alS (.int i) sto)=some (true,alS (.int i) sto):=zt (zo rfl rfl (by rw [Ra]; simp));exact zrun (zq (ze it rfl) (zq (ze is rfl) (zr (zb (a9o ii (zt (zb (a9o ib eq)))))))) rfl
  | _=>rw [plB] at h <;> first | cases h | simp_all
end K
end
section
namespace K
open C PySem
variable {sto:List SO}
def g1:T:=moT (-1,[("x",1)])
def g2:T:=.tup [.str "and",.tup [g1,moT (1,[("x",-1)])]]
def g3:T:=.tup [.str "and",.tup [.tup [.str "and",.tup []],g2,.tup [.str "not",g2]]]
def a3i:T:=a09 17 (.tup [.str "and",.tup []])
def prT (p:Str × T):T:=.tup [.str p.1,p.2]
noncomputable def gd0:List (Str × T):=([(Str.join " and " (List.replicate 59 ("x <= 1" : Str)),.tup [.str "and",.tup (List.replicate 59 g1)]),(rp 17 "not " ++ ("true" : Str),a3i)]:List (Str × T))
noncomputable def gd1:List (Str × T):=gd0++([(rp 20 "[" ++ ("true" : Str)++rp 20 "]",.tup [.str "and",.tup []])]:List (Str × T))
noncomputable def gd2:List (Str × T):=gd1++([(Str.join " or " (List.replicate 19 ("x = 1" : Str)),.tup [.str "or",.tup (List.replicate 19 g2)])]:List (Str × T))
noncomputable def gd3:List (Str × T):=gd2++([("at h 99",.tup [.str "at",.str "h",.int 99]),("at h 0",.tup [.str "at",.str "h",.int 0])]:List (Str × T))
noncomputable def gd4:List (Str × T):=gd3++([("at abcdefgh z9",.tup [.str "at",.str "abcdefgh",.str "z9"])]:List (Str × T))
noncomputable def gd5:List (Str × T):=gd4++([("12 divides x",.tup [.str "rest",smT (0,[("x",1)]),.int 12])]:List (Str × T))
def gd6:List (Str × T):=gd5++([("x < 999999999",moT (-999999998,[("x",1)]))]:List (Str × T))
noncomputable def gd7:List (Str × T):=gd6++([("not[x<=1]or x<=1 and not x<=1",.tup [.str "or",.tup [.tup [.str "not",g1],.tup [.str "and",.tup [g1,.tup [.str "not",g1]]]]])]:List (Str × T))
def gd8:List (Str × T):=gd7++([("not x = 1",.tup [.str "not",g2])]:List (Str × T))
noncomputable def gd9:List (Str × T):=gd8++([("true and x = 1 and not x = 1 or x = 1",.tup [.str "or",.tup [g3,g2]])]:List (Str × T))
noncomputable def Mu:List (Str × T):=gd9++([("not [not x = 1]",.tup [.str "not",.tup [.str "not",g2]])]:List (Str × T))
theorem gS0 {c:Int}:jm 1 (dg (fun l=>some (.tup l)) (aj (ao (.str "most")) (aj (dg (fun l=>some (.tup l)) (aj (mUn Qf (ao (.int 1))) (aj (dg (fun l=>some (.tup l)) (aj (dg (fun l=>some (.tup l)) (aj (ao (.str "x")) (aj (ao (.int 1)) c7))) c7)) c7))) c7))) ⟨[sl (.int c),none,none,none,none],sto⟩=some (.next,⟨[sl (.int c),sl g1,none,none,none],sto⟩):=by kernel_rfl
theorem gS1 {c:Int}:jm 2 (dg (fun l=>some (.tup l)) (aj (ao (.str "and")) (aj (dg (fun l=>some (.tup l)) (aj (bf 1) (aj (dg (fun l=>some (.tup l)) (aj (ao (.str "most")) (aj (dg (fun l=>some (.tup l)) (aj (ao (.int 1)) (aj (dg (fun l=>some (.tup l)) (aj (dg (fun l=>some (.tup l)) (aj (ao (.str "x")) (aj (mUn Qf (ao (.int 1))) c7))) c7)) c7))) c7))) c7))) c7))) ⟨[sl (.int c),sl g1,none,none,none],sto⟩=some (.next,⟨[sl (.int c),sl g1,sl g2,none,none],sto⟩):=by kernel_rfl
theorem gS2 {c:Int}:sNew 3 (dg (fun l=>some (.lst l)) (aj (dg (fun l=>some (.tup l)) (aj (mOp Dw (ao (.str " and ")) (mOp Ed (dg (fun l=>some (.lst l)) (aj (ao (.str "x <= 1")) c7)) (ao (.int 59)))) (aj (dg (fun l=>some (.tup l)) (aj (ao (.str "and")) (aj (mOp V9 (dg (fun l=>some (.tup l)) (aj (bf 1) c7)) (ao (.int 59))) c7))) c7))) (aj (dg (fun l=>some (.tup l)) (aj (mOp j4 (mOp Ie (ao (.str "not ")) (ao (.int 17))) (ao (.str "true"))) (aj (j8 G4 (aj (ao (.int 17)) c7)) c7))) c7))) ⟨[sl (.int c),sl g1,sl g2,none,none],sto⟩=some (.next,⟨[sl (.int c),sl g1,sl g2,some (.lst (gd0.map prT),true),none],sto⟩):=by kernel_rfl
theorem gS3 {c:Int}:sNew 3 (qb 3 (dg (fun l=>some (.lst l)) (aj (dg (fun l=>some (.tup l)) (aj (mOp j4 (mOp j4 (mOp Ie (ao (.str "[")) (ao (.int 20))) (ao (.str "true"))) (mOp Ie (ao (.str "]")) (ao (.int 20)))) (aj (dg (fun l=>some (.tup l)) (aj (ao (.str "and")) (aj (dg (fun l=>some (.tup l)) c7) c7))) c7))) c7))) ⟨[sl (.int c),sl g1,sl g2,some (.lst (gd0.map prT),true),none],sto⟩=some (.next,⟨[sl (.int c),sl g1,sl g2,some (.lst (gd1.map prT),true),none],sto⟩):=by kernel_rfl
theorem gS4 {c:Int}:sNew 3 (qb 3 (dg (fun l=>some (.lst l)) (aj (dg (fun l=>some (.tup l)) (aj (mOp Dw (ao (.str " or ")) (mOp Ed (dg (fun l=>some (.lst l)) (aj (ao (.str "x = 1")) c7)) (ao (.int 19)))) (aj (dg (fun l=>some (.tup l)) (aj (ao (.str "or")) (aj (mOp V9 (dg (fun l=>some (.tup l)) (aj (bf 2) c7)) (ao (.int 19))) c7))) c7))) c7))) ⟨[sl (.int c),sl g1,sl g2,some (.lst (gd1.map prT),true),none],sto⟩=some (.next,⟨[sl (.int c),sl g1,sl g2,some (.lst (gd2.map prT),true),none],sto⟩):=by kernel_rfl
theorem gS5 {c:Int}:sNew 3 (qb 3 (dg (fun l=>some (.lst l)) (aj (dg (fun l=>some (.tup l)) (aj (ao (.str "at h 99")) (aj (dg (fun l=>some (.tup l)) (aj (ao (.str "at")) (aj (ao (.str "h")) (aj (ao (.int 99)) c7)))) c7))) (aj (dg (fun l=>some (.tup l)) (aj (ao (.str "at h 0")) (aj (dg (fun l=>some (.tup l)) (aj (ao (.str "at")) (aj (ao (.str "h")) (aj (ao (.int 0)) c7)))) c7))) c7)))) ⟨[sl (.int c),sl g1,sl g2,some (.lst (gd2.map prT),true),none],sto⟩=some (.next,⟨[sl (.int c),sl g1,sl g2,some (.lst (gd3.map prT),true),none],sto⟩):=by kernel_rfl
theorem gS6 {c:Int}:sNew 3 (qb 3 (dg (fun l=>some (.lst l)) (aj (dg (fun l=>some (.tup l)) (aj (ao (.str "at abcdefgh z9")) (aj (dg (fun l=>some (.tup l)) (aj (ao (.str "at")) (aj (ao (.str "abcdefgh")) (aj (ao (.str "z9")) c7)))) c7))) c7))) ⟨[sl (.int c),sl g1,sl g2,some (.lst (gd3.map prT),true),none],sto⟩=some (.next,⟨[sl (.int c),sl g1,sl g2,some (.lst (gd4.map prT),true),none],sto⟩):=by kernel_rfl
theorem gS7 {c:Int}:sNew 3 (qb 3 (dg (fun l=>some (.lst l)) (aj (dg (fun l=>some (.tup l)) (aj (ao (.str "12 divides x")) (aj (dg (fun l=>some (.tup l)) (aj (ao (.str "rest")) (aj (dg (fun l=>some (.tup l)) (aj (ao (.int 0)) (aj (dg (fun l=>some (.tup l)) (aj (dg (fun l=>some (.tup l)) (aj (ao (.str "x")) (aj (ao (.int 1)) c7))) c7)) c7))) (aj (ao (.int 12)) c7)))) c7))) c7))) ⟨[sl (.int c),sl g1,sl g2,some (.lst (gd4.map prT),true),none],sto⟩=some (.next,⟨[sl (.int c),sl g1,sl g2,some (.lst (gd5.map prT),true),none],sto⟩):=by kernel_rfl
theorem gS8 {c:Int}:sNew 3 (qb 3 (dg (fun l=>some (.lst l)) (aj (dg (fun l=>some (.tup l)) (aj (ao (.str "x < 999999999")) (aj (dg (fun l=>some (.tup l)) (aj (ao (.str "most")) (aj (dg (fun l=>some (.tup l)) (aj (mUn Qf (ao (.int 999999998))) (aj (dg (fun l=>some (.tup l)) (aj (dg (fun l=>some (.tup l)) (aj (ao (.str "x")) (aj (ao (.int 1)) c7))) c7)) c7))) c7))) c7))) c7))) ⟨[sl (.int c),sl g1,sl g2,some (.lst (gd5.map prT),true),none],sto⟩=some (.next,⟨[sl (.int c),sl g1,sl g2,some (.lst (gd6.map prT),true),none],sto⟩):=by kernel_rfl
theorem gS9 {c:Int}:sNew 3 (qb 3 (dg (fun l=>some (.lst l)) (aj (dg (fun l=>some (.tup l)) (aj (ao (.str "not[x<=1]or x<=1 and not x<=1")) (aj (dg (fun l=>some (.tup l)) (aj (ao (.str "or")) (aj (dg (fun l=>some (.tup l)) (aj (dg (fun l=>some (.tup l)) (aj (ao (.str "not")) (aj (bf 1) c7))) (aj (dg (fun l=>some (.tup l)) (aj (ao (.str "and")) (aj (dg (fun l=>some (.tup l)) (aj (bf 1) (aj (dg (fun l=>some (.tup l)) (aj (ao (.str "not")) (aj (bf 1) c7))) c7))) c7))) c7))) c7))) c7))) c7))) ⟨[sl (.int c),sl g1,sl g2,some (.lst (gd6.map prT),true),none],sto⟩=some (.next,⟨[sl (.int c),sl g1,sl g2,some (.lst (gd7.map prT),true),none],sto⟩):=by kernel_rfl
theorem aem {c:Int}:jm 4 (dg (fun l=>some (.tup l)) (aj (ao (.str "and")) (aj (dg (fun l=>some (.tup l)) (aj (dg (fun l=>some (.tup l)) (aj (ao (.str "and")) (aj (dg (fun l=>some (.tup l)) c7) c7))) (aj (bf 2) (aj (dg (fun l=>some (.tup l)) (aj (ao (.str "not")) (aj (bf 2) c7))) c7)))) c7))) ⟨[sl (.int c),sl g1,sl g2,some (.lst (gd7.map prT),true),none],sto⟩=some (.next,⟨[sl (.int c),sl g1,sl g2,some (.lst (gd7.map prT),true),sl g3],sto⟩):=by kernel_rfl
theorem aez {c:Int}:sNew 3 (qb 3 (dg (fun l=>some (.lst l)) (aj (dg (fun l=>some (.tup l)) (aj (ao (.str "not x = 1")) (aj (dg (fun l=>some (.tup l)) (aj (ao (.str "not")) (aj (bf 2) c7))) c7))) c7))) ⟨[sl (.int c),sl g1,sl g2,some (.lst (gd7.map prT),true),sl g3],sto⟩=some (.next,⟨[sl (.int c),sl g1,sl g2,some (.lst (gd8.map prT),true),sl g3],sto⟩):=by kernel_rfl
theorem aef {c:Int}:ud 3 (dg (fun l=>some (.tup l)) (aj (ao (.str "true and x = 1 and not x = 1 or x = 1")) (aj (dg (fun l=>some (.tup l)) (aj (ao (.str "or")) (aj (dg (fun l=>some (.tup l)) (aj (bf 4) (aj (bf 2) c7))) c7))) c7))) ⟨[sl (.int c),sl g1,sl g2,some (.lst (gd8.map prT),true),sl g3],sto⟩=some (.next,⟨[sl (.int c),sl g1,sl g2,some (.lst (gd9.map prT),true),sl g3],sto⟩):=by kernel_rfl
theorem aeg {c:Int}:ud 3 (dg (fun l=>some (.tup l)) (aj (ao (.str "not [not x = 1]")) (aj (dg (fun l=>some (.tup l)) (aj (ao (.str "not")) (aj (dg (fun l=>some (.tup l)) (aj (ao (.str "not")) (aj (bf 2) c7))) c7))) c7))) ⟨[sl (.int c),sl g1,sl g2,some (.lst (gd9.map prT),true),sl g3],sto⟩=some (.next,⟨[sl (.int c),sl g1,sl g2,some (.lst (Mu.map prT),true),sl g3],sto⟩):=by kernel_rfl
theorem a6g {c:Int}:∃ p∈Mu,yj [.int c] sto=some (prT p,sto):=by
 have p0:=Int.emod_nonneg c (show (13:Int)≠0 by omega);have p1:=Int.emod_lt_of_pos c (show (0:Int)<13 by omega);obtain ⟨k,ek⟩:∃ k:Nat,c%13=(k:Int):=⟨(c%13).toNat,by omega⟩;have hl:Mu.length=13:=rfl;have hk:k<Mu.length:=by omega
 have E:K5 3 (mOp Qh (bf 0) (ao (.int 13))) ⟨[sl (.int c),sl g1,sl g2,some (.lst (Mu.map prT),true),sl g3],sto⟩=some (prT Mu[k],⟨[sl (.int c),sl g1,sl g2,some (.lst (Mu.map prT),true),sl g3],sto⟩):=by
  have z:mOp Qh (bf 0) (ao (.int 13)) ⟨[sl (.int c),sl g1,sl g2,some (.lst (Mu.map prT),true),sl g3],sto⟩=some (.int (k:Int),⟨[sl (.int c),sl g1,sl g2,some (.lst (Mu.map prT),true),sl g3],sto⟩):=zo rfl rfl (by rw [<- ek]; exact md (by decide));have q:(ixI (Mu.map prT).length (k:Int)).bind ((Mu.map prT)[·]?)=some (prT Mu[k]):=Gz prT Mu hk;unfold K5;rw [if_pos (show Ac 3 ⟨[sl (.int c),sl g1,sl g2,some (.lst (Mu.map prT),true),sl g3],sto⟩=true from rfl),z];dsimp only [List.getElem?_cons_succ,List.getElem?_cons_zero];rw [q]
 exact ⟨Mu[k],List.getElem_mem hk,zrun (zq gS0 (zq gS1 (zq gS2 (zq gS3 (zq gS4 (zq gS5 (zq gS6 (zq gS7 (zq gS8 (zq gS9 (zq aem (zq aez (zq aef (zq aeg (zr E))))))))))))))) rfl⟩
end K
end
section
namespace K
open C PySem
theorem Z2:∀ p∈Mu,plB 40 p.2=true:=by decide +kernel
def Dl (p:Str × T):Prop:=okT (cs p.1)=true/\Rg (cs p.1)=some (some p.2)
theorem G5 {x:Str} {t:T} {l:List Nat} (e:cs x=l) (h1:okT l=true) (h2:Rg l=some (some t)):Dl (x,t):=by
 unfold Dl; dsimp only; rw [e]; exact ⟨h1,h2⟩
theorem gp0:Dl (Str.join " and " (List.replicate 59 ("x <= 1" : Str)),.tup [.str "and",.tup (List.replicate 59 g1)]):=G5 (Dy _ _) (by decide +kernel) (by kernel_rfl)
theorem gp1:Dl (rp 17 "not " ++ ("true" : Str),a3i):=G5 (Bt _ _) (by decide +kernel) (by kernel_rfl)
theorem gp2:Dl (rp 20 "[" ++ ("true" : Str)++rp 20 "]",.tup [.str "and",.tup []]):=G5 (by rw [Bt,Bt]) (by decide +kernel) (by kernel_rfl)
theorem gp3:Dl (Str.join " or " (List.replicate 19 ("x = 1" : Str)),.tup [.str "or",.tup (List.replicate 19 g2)]):=G5 (Dy _ _) (by decide +kernel) (by kernel_rfl)
theorem gp4:Dl ("at h 99",.tup [.str "at",.str "h",.int 99]):=G5 rfl (by decide +kernel) (by kernel_rfl)
theorem gp5:Dl ("at h 0",.tup [.str "at",.str "h",.int 0]):=G5 rfl (by decide +kernel) (by kernel_rfl)
theorem gp6:Dl ("at abcdefgh z9",.tup [.str "at",.str "abcdefgh",.str "z9"]):=G5 rfl (by decide +kernel) (by kernel_rfl)
theorem gp7:Dl ("12 divides x",.tup [.str "rest",smT (0,[("x",1)]),.int 12]):=G5 rfl (by decide +kernel) (by kernel_rfl)
theorem gp8:Dl ("x < 999999999",moT (-999999998,[("x",1)])):=G5 rfl (by decide +kernel) (by kernel_rfl)
theorem gp9:Dl ("not[x<=1]or x<=1 and not x<=1",.tup [.str "or",.tup [.tup [.str "not",g1],.tup [.str "and",.tup [g1,.tup [.str "not",g1]]]]]):=G5 rfl (by decide +kernel) (by kernel_rfl)
theorem af4:Dl ("not x = 1",.tup [.str "not",g2]):=G5 rfl (by decide +kernel) (by kernel_rfl)
theorem ae6:Dl ("true and x = 1 and not x = 1 or x = 1",.tup [.str "or",.tup [g3,g2]]):=G5 rfl (by decide +kernel) (by kernel_rfl)
theorem adw:Dl ("not [not x = 1]",.tup [.str "not",.tup [.str "not",g2]]):=G5 rfl (by decide +kernel) (by kernel_rfl)
theorem Yk:∀ p∈Mu,Dl p:=by
 intro p hp;simp only [Mu,gd9,gd8,gd7,gd6,gd5,gd4,gd3,gd2,gd1,gd0,List.mem_append,List.mem_cons,List.not_mem_nil,or_false,or_assoc] at hp;rcases hp with rfl | rfl | rfl | rfl | rfl | rfl | rfl | rfl | rfl | rfl | rfl | rfl | rfl
 ·exact gp0
 ·exact gp1
 ·exact gp2
 ·exact gp3
 ·exact gp4
 ·exact gp5
 ·exact gp6
 ·exact gp7
 ·exact gp8
 ·exact gp9
 ·exact af4
 ·exact ae6
 ·exact adw
variable {cR cN:Nat} {sto:List SO}
def HW:Prop:=∀ x∈a4f,∀ g∈comps,∀ t∈Bj x g,Sq (cs t)=true
def HS:Prop:=∀ a∈sums,∀ b∈sums,∀ x∈bs4 a b,∀ g∈comps,∀ t∈Bj x g,Sq (cs t)=true
theorem Zv {x:Str} (h:Sq (cs x)=true):x.length<1000:=by
 unfold Sq okT at h;rw [Bool.and_eq_true,Bool.and_eq_true,decide_eq_true_eq] at h;rw [zp]; exact h.1.2
theorem Ui:∀ x∈sums,x.length<100:=by decide +kernel
theorem Ou:∀ x∈comps,x.length<1000:=by decide +kernel
abbrev a2a (cR cN:Nat):S:=(nq (jm 4 (j8 o9 (aj (mOp Al (bf 3) (ao (.int 3))) (aj (bf 1) c7))))
 (nq (sIf (d9 (mOp eqO (mOp Qh (bf 3) (ao (.int 3))) (ao (.int 1))))
 (jm 4 (j8 qt (aj (mOp Al (bf 3) (ao (.int 3))) (aj (bf 1) (aj (bf 2) c7)))))
 xr)
 (nq (jm 5 (j8 uq (aj (mOp Al (bf 3) (ao (.int 207))) (aj (bf 4) (aj (j8 qp (aj (mOp Al (bf 3) (ao (.int 1242))) c7)) c7)))))
 (nq (jm 6 (j8 yj (aj (mOp Al (bf 3) (ao (.int 7))) c7)))
 (sIf (mOr (Fx (d9 (j8 (qg cR cN) (aj (bf 5) c7)))) (Fx (d9 (j8 (kh 40) (aj (j8 (qm cR cN) (aj (mOp iz (bf 6) (ao (.int 0))) c7)) (aj (mOp iz (bf 6) (ao (.int 1))) c7))))))
 (um (ao (.bl false)))
 xr)))))
abbrev lwS (a0:T) (a b:Str) (c:Int) (p4 p5 p6:C.Slot) (z:List SO):Sta:=⟨[sl a0,sl (.str a),sl (.str b),sl (.int c),p4,p5,p6],z⟩
theorem fd {c m:Int} (h:0<m) (h2:m<1073741824):Al (.int c) (.int m)=some (.int (c / m)):=by
 unfold Al; dsimp only; rw [if_pos ⟨h,.inl h2⟩]
theorem Yw {a0:T} {a b w w' g x:Str} {p:Str × T} {c:Int} {o4 o5 o6:C.Slot} {z1 z2:List SO} {k:Bool}
  (h1:o9 [.int (c / 3),.str a] sto=some (.str w,sto)) (hk:(c%3==(1:Int))=k) (h2:k=true->qt [.int (c / 3),.str a,.str b] sto=some (.str w',sto)) (gg:k=false->w'=w)
  (h3:qp [.int (c / 1242)] sto=some (.str g,sto)) (h4:uq [.int (c / 207),.str w',.str g] sto=some (.str x,sto)) (h5:yj [.int (c / 7)] sto=some (prT p,sto))
  (h6:qg cR cN [.str x] sto=some (.bl true,z1)) (h7:qm cR cN [.str p.1] z1=some (p.2,z2)) (h8:kh 40 [p.2,p.2] z2=some (.bl true,z2)) :
  a2a cR cN (lwS a0 a b c o4 o5 o6 sto)=some (.next,lwS a0 a b c (sl (.str w')) (sl (.str x)) (sl (prT p)) z2):=by
 have S4:jm 4 (j8 o9 (aj (mOp Al (bf 3) (ao (.int 3))) (aj (bf 1) c7))) (lwS a0 a b c o4 o5 o6 sto)=some (.next,lwS a0 a b c (sl (.str w)) o5 o6 sto) :=
  ys (zf0 (s1:=lwS a0 a b c o4 o5 o6 sto) (zc (zo rfl rfl (fd (by decide) (by decide))) (zc rfl rfl)) h1) rfl
 have C1:d9 (mOp eqO (mOp Qh (bf 3) (ao (.int 3))) (ao (.int 1))) (lwS a0 a b c (sl (.str w)) o5 o6 sto)=some (k,lwS a0 a b c (sl (.str w)) o5 o6 sto) :=
  zt (zo (zo rfl rfl (md (by decide))) rfl (eq_i hk))
 have gL:sIf (d9 (mOp eqO (mOp Qh (bf 3) (ao (.int 3))) (ao (.int 1)))) (jm 4 (j8 qt (aj (mOp Al (bf 3) (ao (.int 3))) (aj (bf 1) (aj (bf 2) c7))))) xr (lwS a0 a b c (sl (.str w)) o5 o6 sto)=some (.next,lwS a0 a b c (sl (.str w')) o5 o6 sto):=by
  cases k with
  | true=>exact zk C1 (ys (zf0 (s1:=lwS a0 a b c (sl (.str w)) o5 o6 sto) (zc (zo rfl rfl (fd (by decide) (by decide))) (zc rfl (zc rfl rfl))) (h2 rfl)) rfl)
  | false=>rw [gg rfl]; exact ze C1 rfl
 have S5:jm 5 (j8 uq (aj (mOp Al (bf 3) (ao (.int 207))) (aj (bf 4) (aj (j8 qp (aj (mOp Al (bf 3) (ao (.int 1242))) c7)) c7)))) (lwS a0 a b c (sl (.str w')) o5 o6 sto)=some (.next,lwS a0 a b c (sl (.str w')) (sl (.str x)) o6 sto) :=
  ys (zf0 (s1:=lwS a0 a b c (sl (.str w')) o5 o6 sto) (zc (zo rfl rfl (fd (by decide) (by decide))) (zc rfl (zc (zf0 (s1:=lwS a0 a b c (sl (.str w')) o5 o6 sto) (zc (zo rfl rfl (fd (by decide) (by decide))) rfl) h3) rfl))) h4) rfl
 have S6:jm 6 (j8 yj (aj (mOp Al (bf 3) (ao (.int 7))) c7)) (lwS a0 a b c (sl (.str w')) (sl (.str x)) o6 sto)=some (.next,lwS a0 a b c (sl (.str w')) (sl (.str x)) (sl (prT p)) sto) :=
  ys (zf0 (s1:=lwS a0 a b c (sl (.str w')) (sl (.str x)) o6 sto) (zc (zo rfl rfl (fd (by decide) (by decide))) rfl) h5) rfl
 have R1:j8 (qg cR cN) (aj (bf 5) c7) (lwS a0 a b c (sl (.str w')) (sl (.str x)) (sl (prT p)) sto)=some (.bl true,lwS a0 a b c (sl (.str w')) (sl (.str x)) (sl (prT p)) z1):=zf (s1:=lwS a0 a b c (sl (.str w')) (sl (.str x)) (sl (prT p)) sto) (zc rfl rfl) h6;have R2:j8 (qm cR cN) (aj (mOp iz (bf 6) (ao (.int 0))) c7) (lwS a0 a b c (sl (.str w')) (sl (.str x)) (sl (prT p)) z1)=some (p.2,lwS a0 a b c (sl (.str w')) (sl (.str x)) (sl (prT p)) z2):=zf (s1:=lwS a0 a b c (sl (.str w')) (sl (.str x)) (sl (prT p)) z1) (zc (zo rfl rfl i0) rfl) h7;have R3:j8 (kh 40) (aj (j8 (qm cR cN) (aj (mOp iz (bf 6) (ao (.int 0))) c7)) (aj (mOp iz (bf 6) (ao (.int 1))) c7)) (lwS a0 a b c (sl (.str w')) (sl (.str x)) (sl (prT p)) z1)=some (.bl true,lwS a0 a b c (sl (.str w')) (sl (.str x)) (sl (prT p)) z2):=zf0 (s1:=lwS a0 a b c (sl (.str w')) (sl (.str x)) (sl (prT p)) z2) (zc R2 (zc (zo rfl rfl i1) rfl)) h8;exact zq S4 (zq gL (zq S5 (zq S6 (ze (Lw (Vq (k:=true) (zt R1)) (Vq (k:=true) (zt R3))) rfl))))
theorem a6f (hw:HW) (hs:HS) {a0:T} {a b:Str} (ha:a∈sums) (hb:b∈sums) {c:Int} {o4 o5 o6:C.Slot}:∃ (p4 p5 p6:C.Slot) (z:List SO),a2a cR cN (lwS a0 a b c o4 o5 o6 sto)=some (.next,lwS a0 a b c p4 p5 p6 z):=by
 obtain ⟨w,w1,w2⟩:=a1r (sto:=sto) (c:=c / 3) (one:=a);obtain ⟨w0,v1,v2⟩:=Qv (sto:=sto) (c:=c / 3) (Ui a ha) (Ui b hb);obtain ⟨g,c1,c2⟩:=a5m (sto:=sto) (c:=c / 1242);obtain ⟨p,p1,p2⟩:=a6g (sto:=sto) (c:=c / 7);obtain ⟨q1,q2⟩:=Yk p p1;cases hk:(c%3==(1:Int)) with
 | true =>
  have nb:Sq (cs w0)=true:=hs a ha b hb w0 v1 g c1 w0 (by unfold Bj; exact List.mem_cons_self);obtain ⟨x,x1,x2⟩:=Nh (sto:=sto) (c:=c / 207) (Zv nb) (Ou g c1);obtain ⟨z1,r1⟩:=Nx (cR:=cR) (cN:=cN) (sto:=sto) (hs a ha b hb w0 v1 g c1 x x1);obtain ⟨fs,r2⟩:=Q7 (cR:=cR) (cN:=cN) (sto:=z1) q1 q2;exact ⟨_,_,_,_,Yw w2 hk (fun _=>v2) (fun h=>by cases h) c2 x2 p2 r1 r2 (alike 40 p.2 (Z2 p p1))⟩
 | false =>
  have nb:Sq (cs w)=true:=hw w w1 g c1 w (by unfold Bj; exact List.mem_cons_self);obtain ⟨x,x1,x2⟩:=Nh (sto:=sto) (c:=c / 207) (Zv nb) (Ou g c1);obtain ⟨z1,r1⟩:=Nx (cR:=cR) (cN:=cN) (sto:=sto) (hw w w1 g c1 x x1);obtain ⟨fs,r2⟩:=Q7 (cR:=cR) (cN:=cN) (sto:=z1) q1 q2;exact ⟨_,_,_,_,Yw w2 hk (fun h=>by cases h) (fun _=>rfl) c2 x2 p2 r1 r2 (alike 40 p.2 (Z2 p p1))⟩
end K
end
section
namespace K
open C PySem
variable {cR cN:Nat}
abbrev scr (cs:List Int):T:=.lst (cs.map .int)
def cell (cs:List Int) (k:Nat):Int:=cs.getD k 0
theorem a5x {cs:List Int} {k:Nat} {sto:List SO}:lg [scr cs,.int (k:Int)] sto=some (.int (cell cs k),sto):=by
 by_cases h:k<cs.length
 ·have h1:((k:Int)<(cs.length:Int)):=by omega
  have h2:cs[k]? = some cs[k]:=List.getElem?_eq_getElem h;simp! [lg,iz,ixI,h1,h2,cell,List.getD]
 ·have h1:¬ ((k:Int)<(cs.length:Int)):=by omega
  have h2:cs[k]? = none:=List.getElem?_eq_none_iff.mpr (by omega);simp! [lg,iz,ixI,h1,h2,cell,List.getD]
theorem Z4 {cs:List Int} {k:Nat} {i:Int} {sto:List SO} (h:i=(k:Int)):lg [scr cs,.int i] sto=some (.int (cell cs k),sto):=by
 rw [h]; exact a5x
theorem a9x {g:G} {b:S} {it:M (List T)} {s s1:Sta} {ts:List T} {q:Option (C.Flow × Sta)} (h:it s=some (ts,s1)) (h2:forL g b ts s1=q):S7 g it b s=q:=by unfold S7; rw [h]; exact h2
theorem a06 (xs:List Int) (p q:Option Int):∃ l:List Int,aad (xs.map T.int) p q=l.map T.int/\l.length<=xs.length:=by
 unfold aad;simp only [List.length_map,<- List.map_drop,<- List.map_take];exact ⟨_,rfl,by simp only [List.length_take,List.length_drop]; omega⟩
abbrev l0S (xs:List Int) (a b:Str) (z:List SO):Sta:=⟨[sl (scr xs),sl (.str a),sl (.str b),none,none,none,none],z⟩
theorem cells {xs:List Int} {a b:Str} {z:List SO} (hl:xs.length<=63):∃ l:List Int,Dj (mOp j4 (dg (fun l=>some (.lst l)) (aj (j8 lg (aj (bf 0) (aj (ao (.int 2)) c7))) c7)) (J6 (bf 0) (Ay (ao (.int 3))) (Ay (ao (.int 33))))) (l0S xs a b z)=some (l.map T.int,l0S xs a b z):=by
 have dS:=Z4 (cs:=xs) (k:=2) (i:=2) (sto:=z) rfl;obtain ⟨l,e,hle⟩:=a06 xs (some 3) (some 33);have cx:a83 (some 3) (some 33) (scr xs)=some (.lst (l.map T.int)):=by simp only [a83,e]
 have de:J6 (bf 0) (Ay (ao (.int 3))) (Ay (ao (.int 33))) (l0S xs a b z)=some (.lst (l.map T.int),l0S xs a b z):=by
  unfold J6;rw [show bf 0 (l0S xs a b z)=some (scr xs,l0S xs a b z) from rfl];dsimp only;rw [zos (p:=3) (a:=ao (.int 3)) (s1:=l0S xs a b z) rfl];dsimp only;rw [zos (p:=33) (a:=ao (.int 33)) (s1:=l0S xs a b z) rfl];dsimp only;rw [cx]
 have ll:1+l.length<lim:=by show _<1000000; omega
 have fB:j4 (.lst [.int (cell xs 2)]) (.lst (l.map T.int))=some (.lst ((cell xs 2::l).map T.int)):=by
  show (if [T.int (cell xs 2)].length+(l.map T.int).length<lim then some (T.lst ([T.int (cell xs 2)]++l.map T.int)) else none)=_;rw [if_pos (by rw [List.length_map]; exact ll)]; rfl
 exact ⟨_,zis (zo (zm (zc (zf0 (s1:=l0S xs a b z) (zc rfl (zc rfl rfl)) dS) rfl) rfl) de fB) (by rw [List.length_cons]; show _<1000000; omega)⟩
theorem Qm (hw:HW) (hs:HS) {cs:List Int} (hl:cs.length<=63):∃ st,a2y cR cN [scr cs] []=some (.bl true,st):=by
 have fD:=Z4 (cs:=cs) (k:=0) (i:=0) (sto:=[]) rfl;have dS:=Z4 (cs:=cs) (k:=1) (i:=1) (sto:=[]) rfl;obtain ⟨a,ha,ea⟩:=sum_in (sto:=[]) (c:=cell cs 0);obtain ⟨b,hb,eb⟩:=sum_in (sto:=[]) (c:=cell cs 1);obtain ⟨l,it⟩:=cells (xs:=cs) (a:=a) (b:=b) (z:=[]) hl
 have main:∃ (z:List SO) (e3 e4 e5 e6:C.Slot),forL (hName 3) (a2a cR cN) (l.map T.int) (l0S cs a b [])=some (.next,⟨[sl (scr cs),sl (.str a),sl (.str b),e3,e4,e5,e6],z⟩):=by
  generalize hF:forL (hName 3) (a2a cR cN) (l.map T.int) (l0S cs a b [])=q
  obtain ⟨s',rfl,P⟩:=a6u hF (fun ts s=>∃ (l:List Int) (e3 e4 e5 e6:C.Slot) (z:List SO),ts=l.map T.int/\s=⟨[sl (scr cs),sl (.str a),sl (.str b),e3,e4,e5,e6],z⟩)
   ⟨l,none,none,none,none,[],rfl,rfl⟩ (by
    rintro t q s ⟨l,e3,e4,e5,e6,z,e1,rfl⟩;cases l with
    | nil=>cases e1
    | cons c l =>
     cases e1;obtain ⟨p4,p5,p6,z',h⟩:=a6f (cR:=cR) (cN:=cN) (sto:=z) (a0:=scr cs) hw hs ha hb (c:=c) (o4:=e4) (o5:=e5) (o6:=e6);exact ⟨_,_,rfl,h,l,_,p4,p5,p6,z',rfl,rfl⟩)
  obtain ⟨l,e3,e4,e5,e6,z,e1,rfl⟩:=P;exact ⟨z,e3,e4,e5,e6,rfl⟩
 obtain ⟨z,e3,e4,e5,e6,em⟩:=main;refine ⟨z,?_⟩;exact zrun (zq (ys (zf0 (zc (zf0 (zc rfl (zc rfl rfl)) fD) rfl) ea) rfl) (zq (ys (zf0 (zc (zf0 (zc rfl (zc rfl rfl)) dS) rfl) eb) rfl) (zq (a9x it em) (zr rfl)))) rfl
end K
end
section
namespace K
open C PySem
noncomputable def Df (x:Str):Bool:=([x,("[" : Str)++x ++ "]",("not [" : Str)++x ++ "]"]:List Str).all (fun t=>Sq (cs t))&&comps.all fun g=>([g ++ " or " ++ x,x ++ " and " ++ g]:List Str).all fun t=>Sq (cs t)
theorem Yb {x:Str} (h:Df x=true):∀ g∈comps,∀ t∈Bj x g,Sq (cs t)=true:=by
 unfold Df at h;rw [Bool.and_eq_true,List.all_eq_true,List.all_eq_true] at h;obtain ⟨h1,h2⟩:=h;intro g hg t ht;have h3:=h2 g hg;rw [List.all_eq_true] at h3;unfold Bj at ht;simp only [List.mem_cons,List.not_mem_nil,or_false] at ht h1 h3;rcases ht with rfl | rfl | rfl | rfl | rfl | rfl
 ·exact h1 _ (.inl rfl)
 ·exact h3 _ (.inl rfl)
 ·exact h1 _ (.inr (.inl rfl))
 ·exact h1 _ (.inr (.inr rfl))
 ·exact h3 _ (.inr rfl)
 ·exact h1 _ (.inl rfl)
theorem q0:bw0.all Df=true:=by decide +kernel
theorem q1:(a8h.all fun x=>bw0.contains x||Df x)=true:=by decide +kernel
theorem q3:(a4f.drop 54).all Df=true:=by decide +kernel
noncomputable def aal (l:List Nat):Bool:=([l,cs "[" ++ l++cs "]",cs "not [" ++ l++cs "]"]:List (List Nat)).all Sq&&comps.all fun g=>([cs g++cs " or " ++ l,l++cs " and " ++ cs g]:List (List Nat)).all Sq
theorem Ii {x:Str} {l:List Nat} (e:cs x=l) (h:aal l=true):Df x=true:=by
 subst e;unfold aal at h;unfold Df;simpa only [List.all_cons,List.all_nil,Bt] using h
noncomputable def V3 (l:List Nat) (gs:List Str):Bool:=gs.all fun g=>([cs g++cs " or " ++ l,l++cs " and " ++ cs g]:List (List Nat)).all Sq
def aak (l:List Nat):Bool:=([l,cs "[" ++ l++cs "]",cs "not [" ++ l++cs "]"]:List (List Nat)).all Sq
theorem La {l:List Nat} (h0:aak l=true) (h1:V3 l ["x <= 3","at h 0"]=true) (h2:V3 l ["[x = 1]","not y > 2"]=true) (h3:V3 l ["true","3 divides x"]=true) (h4:V3 l ["false","at h3 lab"]=true):aal l=true:=by
 have e:aal l=(aak l&&V3 l ((["x <= 3","at h 0"]:List Str)++((["[x = 1]","not y > 2"]:List Str)++((["true","3 divides x"]:List Str)++(["false","at h3 lab"]:List Str))))):=rfl;rw [e];unfold V3 at h1 h2 h3 h4 ⊢;rw [List.all_append,List.all_append,List.all_append,h0,h1,h2,h3,h4];rfl
theorem a6v (n:Nat) (x:Str):cs (rp n x)=(List.replicate n (cs x)).flatten:=rfl
theorem w57:Df (rp 60 "not " ++ ("true" : Str))=true:=Ii (by rw [Bt,a6v]) (by decide +kernel)
theorem w58:Df (rp 21 "[" ++ ("true" : Str)++rp 21 "]")=true:=Ii (by rw [Bt,Bt,a6v,a6v]) (by decide +kernel)
theorem w59:Df (Str.join " or " (List.replicate 20 ("x = 1" : Str)))=true:=Ii (Dy _ _) (by decide +kernel)
def a7o:List Nat:=jl (cs " and ") ((List.replicate 60 ("x <= 1" : Str)).map cs)
theorem aeh:aak a7o=true:=by decide +kernel
theorem ae2:V3 a7o ["x <= 3","at h 0"]=true:=by decide +kernel
theorem aee:V3 a7o ["[x = 1]","not y > 2"]=true:=by decide +kernel
theorem ady:V3 a7o ["true","3 divides x"]=true:=by decide +kernel
theorem adu:V3 a7o ["false","at h3 lab"]=true:=by decide +kernel
theorem w56:Df (Str.join " and " (List.replicate 60 ("x <= 1" : Str)))=true:=Ii (l:=a7o) (Dy _ _) (La aeh ae2 aee ady adu)
noncomputable def a7l:List Nat:=cs "true and [" ++ jl (cs " or ") ((List.replicate 58 ("x <= 1" : Str)).map cs)++cs "]"
theorem aep:aak a7l=true:=by decide +kernel
theorem aek:V3 a7l ["x <= 3","at h 0"]=true:=by decide +kernel
theorem aev:V3 a7l ["[x = 1]","not y > 2"]=true:=by decide +kernel
theorem adh:V3 a7l ["true","3 divides x"]=true:=by decide +kernel
theorem ae0:V3 a7l ["false","at h3 lab"]=true:=by decide +kernel
theorem w60:Df (("true and [" : Str)++Str.join " or " (List.replicate 58 ("x <= 1" : Str))++("]" : Str))=true:=Ii (l:=a7l) (by rw [Bt,Bt,Dy]; rfl) (La aep aek aev adh ae0)
noncomputable def Va (a:Str):List Str:=[a,a ++ " x <= 1",a ++ " <=",("<= " : Str)++a,
 a ++ " < = 1",a ++ " =< 1",a ++ " == 1",a ++ " != 1",a ++ " <> 1",a ++ " + <= 1",
 a ++ " - - y <= 1",a ++ " + -1 <= 2","+ x <= 1","x * 2 <= 1","2 x <= 1","2 * 3 <= 1",
 ("(" : Str)++a ++ ") <= 1",("[" : Str)++a ++ "] <= 1",("[" : Str)++a ++ " <= 1",a ++ " <= 1]",("[" : Str)++a ++ "] = 1"]
def Vp (a b:Str):Str:=a ++ " <= " ++ b ++ " <= " ++ a
theorem a0b {a b x:Str} (h:x∈bs4 a b):x∈Va a\/x=Vp a b:=by
 simp only [bs4,bs3,bs2,bs1,bs0,Va,Vp,List.mem_append,List.mem_cons,List.not_mem_nil,or_false] at h ⊢
 grind
theorem qs0:(Va "x").all Df=true:=by decide +kernel
theorem qs1:(Va "7").all Df=true:=by decide +kernel
theorem qs2:(Va "-x + 2").all Df=true:=by decide +kernel
theorem qs3:(Va "3 * x - y").all Df=true:=by decide +kernel
theorem qs4:(Va "0").all Df=true:=by decide +kernel
theorem qs5:(Va "x2 - 1").all Df=true:=by decide +kernel
theorem qs6:(Va "999999999").all Df=true:=by decide +kernel
theorem qs7:(Va "-1").all Df=true:=by decide +kernel
theorem qs8:(Va "-2 * abcdefgh").all Df=true:=by decide +kernel
theorem qs9:(Va "2 * x + y + 5").all Df=true:=by decide +kernel
theorem qm0:(sums.all fun b=>Df (Vp "x" b))=true:=by decide +kernel
theorem qm1:(sums.all fun b=>Df (Vp "7" b))=true:=by decide +kernel
theorem qm2:(sums.all fun b=>Df (Vp "-x + 2" b))=true:=by decide +kernel
theorem qm3:(sums.all fun b=>Df (Vp "3 * x - y" b))=true:=by decide +kernel
theorem qm4:(sums.all fun b=>Df (Vp "0" b))=true:=by decide +kernel
theorem qm5:(sums.all fun b=>Df (Vp "x2 - 1" b))=true:=by decide +kernel
theorem qm6:(sums.all fun b=>Df (Vp "999999999" b))=true:=by decide +kernel
theorem qm7:(sums.all fun b=>Df (Vp "-1" b))=true:=by decide +kernel
theorem qm8:(sums.all fun b=>Df (Vp "-2 * abcdefgh" b))=true:=by decide +kernel
theorem qm9:(sums.all fun b=>Df (Vp "2 * x + y + 5" b))=true:=by decide +kernel
theorem aa9:∀ a∈sums,(Va a).all Df=true:=by
 intro a ha;simp only [sums,List.mem_cons,List.not_mem_nil,or_false] at ha;rcases ha with rfl | rfl | rfl | rfl | rfl | rfl | rfl | rfl | rfl | rfl
 ·exact qs0
 ·exact qs1
 ·exact qs2
 ·exact qs3
 ·exact qs4
 ·exact qs5
 ·exact qs6
 ·exact qs7
 ·exact qs8
 ·exact qs9
theorem a8c:∀ a∈sums,(sums.all fun b=>Df (Vp a b))=true:=by
 intro a ha;simp only [sums,List.mem_cons,List.not_mem_nil,or_false] at ha;rcases ha with rfl | rfl | rfl | rfl | rfl | rfl | rfl | rfl | rfl | rfl
 ·exact qm0
 ·exact qm1
 ·exact qm2
 ·exact qm3
 ·exact qm4
 ·exact qm5
 ·exact qm6
 ·exact qm7
 ·exact qm8
 ·exact qm9
theorem hs:HS:=by
 intro a ha b hb x hx g hg t ht;refine Yb ?_ g hg t ht;rcases a0b hx with h | rfl
 ·exact List.all_eq_true.mp (aa9 a ha) x h
 ·exact List.all_eq_true.mp (a8c a ha) b hb
theorem a2r {x:Str} (h:x∈a4f):x∈a8h\/(x=Str.join " and " (List.replicate 60 ("x <= 1" : Str))\/x=rp 60 "not " ++ ("true" : Str)\/x=rp 21 "[" ++ ("true" : Str)++rp 21 "]" \/ x=Str.join " or " (List.replicate 20 ("x = 1" : Str))\/x=("true and [" : Str)++Str.join " or " (List.replicate 58 ("x <= 1" : Str))++("]" : Str))\/x∈a4f.drop 54:=by
 show _\/_\/x∈(["box <= 1","lock <= 1","hand <= 1","own <= 1","wait <= 1","else <= 1","while <= 1","rounds <= 1","either <= 1","not <= 1","take <= 1","give <= 1","label <= 1","say <= 1","false <= 1"]:List Str);unfold a4f a7m aan at h;rcases List.mem_append.mp h with h | h
 ·rcases List.mem_append.mp h with h | h
  ·rcases List.mem_append.mp h with h | h
   ·exact .inl h
   ·refine .inr (.inl ?_);simp only [List.mem_cons,List.not_mem_nil,or_false] at h;rcases h with h | h | h
    ·exact .inl h
    ·exact .inr (.inl h)
    ·exact .inr (.inr (.inl h))
  ·refine .inr (.inl ?_);simp only [List.mem_cons,List.not_mem_nil,or_false] at h;rcases h with h | h
   ·exact .inr (.inr (.inr (.inl h)))
   ·exact .inr (.inr (.inr (.inr h)))
 ·exact .inr (.inr h)
theorem hw:HW:=by
 intro x hx g hg t ht;refine Yb ?_ g hg t ht;rcases a2r hx with h | (rfl | rfl | rfl | rfl | rfl) | h
 ·have k:=List.all_eq_true.mp q1 x h;rw [Bool.or_eq_true] at k;rcases k with k | k
  ·exact List.all_eq_true.mp q0 x (List.contains_iff_mem.mp k)
  ·exact k
 ·exact w56
 ·exact w57
 ·exact w58
 ·exact w59
 ·exact w60
 ·exact List.all_eq_true.mp q3 x h
theorem a2k {cR cN:Nat} {cs:List Int} (hl:cs.length<=63):∃ st,a2y cR cN [scr cs] []=some (.bl true,st):=Qm hw hs hl
end K
end
section
namespace D
open PySem L2 C
section
variable {K:PySem.W.Frag} {hp:Heap} {mg:Str->Option Value} (X:K.In hp) (G:hp.Ns mainGlobals mg)
include X G
theorem aby {x:Str} {st:Stmt} {f:Addr} {oc:Value} {od an:Option Addr} {bA:Array (Option Value)} {kV doc pm ay ct:Value} (a:PySem.W.nsIn K mainGlobals x=some (some (.ref f)))
  (l:K.lookup f=some ⟨oc,od,.func (PySem.W.fnOf x x (Eb st) (v8 st) (gw st) .none kV doc pm an ay ct),bA⟩) (c:PySem.W.codeIn K ay x=true) (k:PySem.W.keepIn K (.ref f)=true):FA K mg x st:=⟨_,_,Um l c k,PySem.W.mg_of X G a⟩
theorem ac9 {Cl D fI:Addr} {f nm q:Str} {Na:Addr} {bs:List Value} {sn:List Str} {sub:List Value} {ab:Bool} {col:Option Bool} {dd:Option Addr} {k0 k1 k2 k3 k5:Option Value} {x q0:Str} {j:Nat} {Ca:Addr} {oc:Value} {od an:Option Addr} {bA:Array (Option Value)} {kV doc pm ay ct:Value} (a:PySem.W.nsIn K mainGlobals x=some (some (.ref Cl))) (lk:K.lookup Cl=some (excClassObj nm q Cl Na bs (.ref D::My.vB) true sn sub ab col dd k0 k1 k2 k3 k5 "ValueError.__new__")) (b:PySem.W.excIn K D My.vB "ValueError.__new__" = true) (i:PySem.W.findIn K (.ref Cl) "__init__" = some (some (.ref fI))) (fn:PySem.W.isFn K (.ref fI)=true)
  (sa:PySem.W.findIn K (.ref Cl) "__setattr__" = some (some (.builtin "object.__setattr__"))) (ob:PySem.W.mroIn K Cl (.type "object")=some true) (na:PySem.W.findIn K (.ref Cl) f=some none) (kp:PySem.W.keepIn K (.ref Cl)=true)
  (l:K.lookup fI=some ⟨oc,od,.func (PySem.W.fnOf "__init__" q0 (Eb (Kq 0 (top j))) (v8 (Kq 0 (top j))) (gw (Kq 0 (top j))) .none kV doc pm an ay ct),bA⟩) (c:PySem.W.codeIn K ay q0=true) (k:PySem.W.keepIn K (.ref fI)=true) (t:(Value.ref Cl :: .ref D::My.vB).contains (.ref Ca)=true):XE K mg x f q0 j Cl Ca :=
 ⟨D,fI,_,⟨⟨nm,q,Na,bs,sn,sub,ab,col,dd,k0,k1,k2,k3,k5,lk⟩,b,i,fn,sa,ob,na,kp⟩,⟨by simp,nm,q,Na,bs,true,sn,sub,ab,col,dd,k0,k1,k2,k3,k5,lk⟩,Um l c k,t,PySem.W.mg_of X G a⟩
theorem ab1 {x:Str} {n:Int} {t:Tok} (a:PySem.W.nsIn K mainGlobals x=some (some (.int n t))):∃ tk,mg x=some (.int n tk):=⟨_,PySem.W.mg_of X G a⟩
theorem Nk {q:Addr} {t0 t1 t2 t3 t4 t5 t6 t7 t8 t9 gP gJ fG f7 gB fM gA fU gD fw fQ fk gO:Tok} {n:Nat} {s:Array (Option Value)} (a:PySem.W.nsIn K mainGlobals "KEY_WORDS" = some (some (.ref q))) (l:K.lookup q=some ⟨.type "tuple",none,.seq [.str "box" t0,.str "lock" t1,.str "hand" t2,.str "own" t3,.str "end" t4,.str "set" t5,.str "wait" t6,.str "if" t7,.str "else" t8,.str "while" t9,.str "rounds" gP,.str "either" gJ,.str "or" fG,.str "and" f7,.str "not" gB,.str "take" fM,.str "give" gA,.str "label" fU,.str "say" gD,.str "at" fw,.str "divides" fQ,.str "true" fk,.str "false" gO].toArray n,s⟩):∃ u,mg "KEY_WORDS" = some u/\Held K u (.tup [(.str "box"),(.str "lock"),(.str "hand"),(.str "own"),(.str "end"),(.str "set"),(.str "wait"),(.str "if"),(.str "else"),(.str "while"),(.str "rounds"),(.str "either"),(.str "or"),(.str "and"),(.str "not"),(.str "take"),(.str "give"),(.str "label"),(.str "say"),(.str "at"),(.str "divides"),(.str "true"),(.str "false")]):=⟨_,PySem.W.mg_of X G a,(Held.tup l (by simp) (m7.cons Held.str (m7.cons Held.str (m7.cons Held.str (m7.cons Held.str (m7.cons Held.str (m7.cons Held.str (m7.cons Held.str (m7.cons Held.str (m7.cons Held.str (m7.cons Held.str (m7.cons Held.str (m7.cons Held.str (m7.cons Held.str (m7.cons Held.str (m7.cons Held.str (m7.cons Held.str (m7.cons Held.str (m7.cons Held.str (m7.cons Held.str (m7.cons Held.str (m7.cons Held.str (m7.cons Held.str (m7.cons Held.str m7.nil))))))))))))))))))))))))⟩
theorem Lh {q:Addr} {t0 t1:Tok} {n:Nat} {s:Array (Option Value)} (a:PySem.W.nsIn K mainGlobals "LONG_SIGNS" = some (some (.ref q))) (l:K.lookup q=some ⟨.type "tuple",none,.seq [.str "<=" t0,.str ">=" t1].toArray n,s⟩):∃ u,mg "LONG_SIGNS" = some u/\Held K u (.tup [(.str "<="),(.str ">=")]):=⟨_,PySem.W.mg_of X G a,(Held.tup l (by simp) (m7.cons Held.str (m7.cons Held.str m7.nil)))⟩
theorem Jt {q:Addr} {t0 t1 t2 t3 t4 t5 t6 t7 t8:Tok} {n:Nat} {s:Array (Option Value)} (a:PySem.W.nsIn K mainGlobals "SHORT_SIGNS" = some (some (.ref q))) (l:K.lookup q=some ⟨.type "tuple",none,.seq [.str "+" t0,.str "-" t1,.str "*" t2,.str "<" t3,.str ">" t4,.str "=" t5,.str "[" t6,.str "]" t7,.str "," t8].toArray n,s⟩):∃ u,mg "SHORT_SIGNS" = some u/\Held K u (.tup [(.str "+"),(.str "-"),(.str "*"),(.str "<"),(.str ">"),(.str "="),(.str "["),(.str "]"),(.str ",")]):=⟨_,PySem.W.mg_of X G a,(Held.tup l (by simp) (m7.cons Held.str (m7.cons Held.str (m7.cons Held.str (m7.cons Held.str (m7.cons Held.str (m7.cons Held.str (m7.cons Held.str (m7.cons Held.str (m7.cons Held.str m7.nil))))))))))⟩
theorem a8b {x y:Str} {q r:Addr} {t:Tok} {n n2:Nat} {s s2:Array (Option Value)} (a:PySem.W.nsIn K mainGlobals x=some (some (.ref q))) (l:K.lookup q=some ⟨.type "tuple",none,.seq [(.str y t),(.ref r)].toArray n,s⟩) (m:K.lookup r=some ⟨.type "tuple",none,.seq [].toArray n2,s2⟩):∃ u,mg x=some u/\Held K u (.tup [(.str y),(.tup [])]) :=
 ⟨_,PySem.W.mg_of X G a,(Held.tup l (by simp) (m7.cons Held.str (m7.cons (Held.tup m (by simp) m7.nil) m7.nil)))⟩
theorem abh {x v:Str} {t:Tok} (a:PySem.W.nsIn K mainGlobals x=some (some (.str v t))):∃ u,mg x=some u/\Held K u (.str v):=⟨_,PySem.W.mg_of X G a,Held.str⟩
end
theorem a87 {K:PySem.W.Frag} {Cl:Addr} {bm:List Value} {nm q:Str} {Na:Addr} {bs:List Value} {hd:Bool} {sn:List Str} {sub:List Value} {ab:Bool} {col:Option Bool} {dd:Option Addr} {k0 k1 k2 k3 k5:Option Value}
  (lk:K.lookup Cl=some (excClassObj nm q Cl Na bs bm hd sn sub ab col dd k0 k1 k2 k3 k5 "ValueError.__new__")) (b:bm.contains (.type "BaseException")=true):XCl K Cl bm:=⟨b,nm,q,Na,bs,hd,sn,sub,ab,col,dd,k0,k1,k2,k3,k5,lk⟩
def spL (K:PySem.W.Frag):Sp:=fun vs H Q E=>∀ cR cN,spF K 1 (_root_.K.a2y cR cN) vs H Q E
theorem fin {l:PySem.W.OpenLaw} {w:World} {K:PySem.W.Frag} {mg:Str->Option Value} {fa cR cN c1 c2 c3 c4 c5 Ca:Addr} {bm:List Value} (cB:mg "law" = some (.ref fa)) (Z:Zk K mg cR cN c1 c2 c3 c4 c5 Ca bm) :
  ∃ fd:FuncData,(∀ (s:Shared) (v:Value),BindsTo s fd ⟨[v],[]⟩ [("_law_script",v)])/\∀ base:Heap,K.In base->base.Ns mainGlobals mg->Bh l.prog w K mg base CX0 130 fa fd ["_law_script"] (spL K):=by
 obtain ⟨f,fd,F,m⟩:=Z.h45;cases cB.symm.trans m;refine ⟨fd,?_,fun base _ _=>(a8v Z F).imp fun _ _ _ _ h=>h _ _⟩;obtain ⟨oc,od,kV,doc,pm,an,ay,ct,bA,rfl,lk,a7⟩:=F.ex;exact fun s v=>.of_eq rfl
theorem walk {l:PySem.W.OpenLaw} {q:Program} {loose:List Str} {XP:(Str->Option Value)->Heap->Prop} {YP:World->Heap->Prop} {d:DefRec} {K:Params->PySem.W.Frag} (hn:l.most=some 63) (cO:d.params.defaults=[])
  (hY:∀ (w:World) (h:Heap),YP w h->(K w.params).In h)
  (F:∀ (w:World) (mg:Str->Option Value) (fa:Addr) (h:Heap),(K w.params).In h->h.Ns mainGlobals mg->mg d.name=some (.ref fa) ->
   ∃ fd:FuncData,(∀ (s:Shared) (u:Value),BindsTo s fd ⟨[u],[]⟩ [("_law_script",u)])/\∀ base:Heap,(K w.params).In base->base.Ns mainGlobals mg->Bh l.prog w (K w.params) mg base CX0 130 fa fd ["_law_script"] (spL (K w.params))) :
  PySem.W.WalkO q loose XP YP l.row.toRowW d [] (fun f vs=>PySem.call f vs) :=
 L2.a76 (n:=63) (k:=130) (x := "_law_script") (CX:=fun _=>CX0) (sp:=fun w=>spL (K w.params)) hn (by decide) cO ⟨rfl,by decide,by decide⟩ hY F (fun w H a ns hl _ hS=>fun cR cN=>a75 hS (_root_.K.a2k (cs:=ns) hl)) fun _ _ _ _ _ z=>z
end D
theorem PySem.W.Fast.tw12621667318719680352:True:=⟨⟩
theorem PySem.W.Fast.tw1943663334479968449:True:=⟨⟩
theorem PySem.W.Fast.tw2014733551332062721:True:=⟨⟩
theorem PySem.W.Fast.tw18114007093352301891:True:=⟨⟩
theorem PySem.W.Fast.tw4924095691478069318:True:=⟨⟩
theorem PySem.W.Fast.tw5882238985223713799:True:=⟨⟩
theorem PySem.W.Fast.tw7908458511140437383:True:=⟨⟩
theorem PySem.W.Fast.tw13366238489989073480:True:=⟨⟩
theorem PySem.W.Fast.tw13254204884727043048:True:=⟨⟩
theorem PySem.W.Fast.tw15842111403656876265:True:=⟨⟩
theorem PySem.W.Fast.tw8920537381570177099:True:=⟨⟩
theorem PySem.W.Fast.tw11966462780732904235:True:=⟨⟩
theorem PySem.W.Fast.tw7280495351436434733:True:=⟨⟩
theorem PySem.W.Fast.tw16522120785757699597:True:=⟨⟩
theorem PySem.W.Fast.tw7537357001581047278:True:=⟨⟩
theorem PySem.W.Fast.tw15506258196247964111:True:=⟨⟩
theorem PySem.W.Fast.tw10650280478413569360:True:=⟨⟩
theorem PySem.W.Fast.tw614552693862717840:True:=⟨⟩
theorem PySem.W.Fast.tw15437270929282541715:True:=⟨⟩
theorem PySem.W.Fast.tw14554435383092480436:True:=⟨⟩
theorem PySem.W.Fast.tw16763744946270459605:True:=⟨⟩
theorem PySem.W.Fast.tw12265483102303308597:True:=⟨⟩
theorem PySem.W.Fast.tw10431063625546519830:True:=⟨⟩
theorem PySem.W.Fast.tw11646818599256819096:True:=⟨⟩
theorem PySem.W.Fast.tw11839797145020090904:True:=⟨⟩
theorem PySem.W.Fast.tw3671536950726294649:True:=⟨⟩
theorem PySem.W.Fast.tw8811766066907854201:True:=⟨⟩
theorem PySem.W.Fast.tw5317750917865862713:True:=⟨⟩
theorem PySem.W.Fast.tw5417668667974720185:True:=⟨⟩
theorem PySem.W.Fast.tw10497972288485895898:True:=⟨⟩
theorem PySem.W.Fast.tw17964924487873724425:True:=⟨⟩
theorem PySem.W.Fast.tw10909907519664558301:True:=⟨⟩
open PySem PySem.W PyProof.Rows
set_option maxRecDepth 100000 in
set_option maxHeartbeats 0 in
theorem PySem.Challenge.cw_calm_k08_no_remark_holds : PySem.Challenge.rw_calm_k08_no_remark.Holds := by
 w_on; o_law; k_head; (case hw=>w_witness2)
 k_fill
 refine D.walk (l:=PySem.Challenge.rw_calm_k08_no_remark) rfl rfl (fun w h Y=>PySem.W.kIn_of Y) ?F
 case F =>
  intro w mg fa h KX G cB;refine' D.fin cB ?Z
  case Z =>
   constructor
   case hR=>refine' PySem.W.mg_of KX G ?a; (case a=>k_is)
   case kc=>refine' ⟨D.a87 ?lj ?bj,PySem.W.mg_of KX G ?a⟩; (case a=>k_is); (case lj=>k_is); (case bj=>rfl)
   case e=>refine' D.ac9 KX G ?a ?lk ?b ?i ?fn ?sa ?ob ?na ?kp ?l ?c ?k ?tt; (case a=>k_is); (case lk=>k_is); (case b=>k_exc); (case i=>k_is); (case fn=>k_is); (case sa=>k_is); (case ob=>k_is); (case na=>k_is); (case kp=>k_is); (case l=>k_is); (case c=>k_is); (case k=>k_is); (case tt=>rfl)
   case g=>refine' L2.XG.mk ?ga ?gt ?bx ?dc ?na ?cl ?cg ?ct ?ob ?ve; (case ve=>kit_is); (case ga=>k_is); (case gt=>k_is); (case bx=>k_is); (case dc=>k_is); (case na=>k_is); (case cl=>k_is); (case cg=>k_is); (case ct=>k_is); (case ob=>k_is)
   case t=>kit_is
   case m1 | m2 | m3 | m4 | m5=>refine' PySem.W.mg_of KX G ?a; (case a=>k_is)
   case t1 | t2 | t3 | t4 | t5=>kit_is
   case cls=>refine' L2.Cls.mk ?_ ?_ ?_ ?_ <;> k_is
   case na_row | na_spot | na_tokens=>refine' (show PySem.W.findIn _ _ _=some none from ?a); (case a=>k_is)
   case h20=>refine' ⟨_,_,L2.Mk.mk ?ma ?mi ?mf ?mk,L2.Um ?l ?c ?k⟩; (case ma=>k_is); (case mi=>k_is); (case mf=>k_is); (case mk=>k_is); (case l=>k_is); (case c=>k_is); (case k=>k_is)
   case h13 | h14 | h15 | h16 | h17 | h25 | h33=>refine' ⟨_,_,L2.Meth.mk ?ma ?mf ?mk,L2.Um ?l ?c ?k⟩; (case ma=>k_is); (case mf=>k_is); (case mk=>k_is); (case l=>k_is); (case c=>k_is); (case k=>k_is)
   case c_FALSE_ONE=>refine' D.a8b KX G ?a ?l ?m; (case a=>k_is); (case l=>k_is); (case m=>k_is)
   case c_KEY_WORDS=>refine' D.Nk KX G ?a ?l; (case a=>k_is); (case l=>k_is)
   case c_LONG_SIGNS=>refine' D.Lh KX G ?a ?l; (case a=>k_is); (case l=>k_is)
   case c_SHORT_SIGNS=>refine' D.Jt KX G ?a ?l; (case a=>k_is); (case l=>k_is)
   case c_TRUE_ONE=>refine' D.a8b KX G ?a ?l ?m; (case a=>k_is); (case l=>k_is); (case m=>k_is)
   case c_FIGURES | c_LETTERS | c_WORD_SIGNS=>refine' D.abh KX G ?a; (case a=>k_is)
   case c_GREATEST | c_GREATEST_PLACE | c_GREATEST_REST | c_LEAST_REST | c_LONGEST_NAME | c_MOST_OPEN | c_MOST_PARTS=>refine' D.ab1 KX G ?a; (case a=>k_is)
   case b_ValueError | b_abs | b_all | b_any | b_bool | b_int | b_isinstance | b_len | b_max | b_range | b_sorted | b_str | b_sum | b_tuple=>refine' PySem.W.mg_none_of KX G ?a; (case a=>k_is)
   case h0 | h1 | h2 | h3 | h4 | h5 | h6 | h7 | h8 | h9 | h10 | h11 | h12 | h18 | h19 | h21 | h22 | h23 | h24 | h26 | h27 | h28 | h29 | h30 | h31 | h32 | h34 | h35 | h36 | h37 | h38 | h39 | h40 | h41 | h42 | h43 | h44 | h45=>refine' D.aby KX G ?a ?l ?c ?k; (case a=>k_is); (case l=>k_is); (case c=>k_is); (case k=>k_is)
#print axioms PySem.Challenge.cw_calm_k08_no_remark_holds
end
