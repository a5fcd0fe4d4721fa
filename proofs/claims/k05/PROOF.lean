import PyProof.Rows.All
import Wide.All
import OpenK.AllK
import Wide.FinOn
import PyProof.P3Statements
import PyProof.Lay0
import Lean
import PyProof.EqAt
import PyProof.EqKinds
import PyProof.TupleCall
import PyProof.P3Eq
import PyProof.NeData
import KE.KEqDict
import PyProof.ListRange
import KE.KDictSum
import PyProof.AttrMissHeap
import PyProof.WalksS
import KE.KDictOf
import KE.KRevSl
import PyProof.ZipIter
import PyProof.Rows.FactsT2
import PyProof.Rows.SetFrom
import PyProof.Rows.SortStr
import KE.KDictList
import PyProof.FactsAll.set
import PyProof.CollectWalk
import KE.KSortTup
import PyProof.DictWalks
import PyProof.DictItems
import KE.KDictLaws
import PyProof.WalkInts
import PyProof.SeqI3
import KE.KRevIter
import PyProof.TupleOfGen
import PyProof.CollectIter
import PyProof.EnumMake
import PyProof.Rows.EnumRows
import PyProof.FString
import PyProof.MeetsStr
import PyProof.StrLaws
import PyProof.StrLawsJoin
import PyProof.StrOps
import PyProof.SliceStr2
import PyProof.StrLoop
import KE.KIntText
import PyProof.StrLawsIn
import PyProof.FitsInt
import PySem.Challenge.RW_calm_k05_sums_read_and_written
set_option Elab.async false
set_option linter.all false
set_option maxRecDepth 100000
set_option maxHeartbeats 8000000
noncomputable section
section
namespace C
open PySem
theorem fu {α:Type} {w:α} {P:Prop} (h:none=some w):P:=nomatch h
theorem vq {α:Type} {c:Prop} [Decidable c] {o:Option α} {w:α} (h:(if c then o else none)=some w):c/\o=some w:=by
 by_cases z:c
 ·rw [if_pos z] at h; exact ⟨z,h⟩
 ·rw [if_neg z] at h; exact fu h
abbrev Key:=Sum Int Str
inductive T where
 | non | bl (b:Bool) | int (i:Int) | str (x:Str)
 | tup (xs:List T) | lst (xs:List T) | dic (kvs:List (Key × T)) | obj (n:Nat)
 | adr (n:Nat)
instance:Inhabited T:=⟨.non⟩
inductive SO where
 | dic (kvs:List (Key × T)) | lst (xs:List T) | dit (kvs:List (List Key × T))
 | exc (C:Nat) (f:Str) (t:T)
 | ins (C:Nat) (fs:List (Str × T))
 | fdc (kvs:List (Key × T))
abbrev Slot:=Option (T × Bool)
structure Sta where
 env:List Slot
 sto:List SO
abbrev M (α:Type):=Sta->Option (α × Sta)
def Gj (k:Key):List (Key × T)->Option T
 | []=>none
 | (q,t)::r=>if q=k then some t else Gj k r
noncomputable def Vt (k:Key) (t:T) (kvs:List (Key × T)):List (Key × T) :=
 if kvs.any fun p=>decide (p.1=k) then kvs.map fun p=>if p.1=k then (p.1,t) else p else kvs++[(k,t)]
def keyOf:T->Option Key
 | .int i=>some (.inl i)
 | .str x=>some (.inr x)
 | _=>none
def Je:Key->T
 | .inl i=>.int i
 | .inr x=>.str x
mutual
def dat:T->Option PyData
 | .non=>some .none
 | .bl b=>some (.bool b)
 | .int i=>some (.int i)
 | .str x=>if PyData.canLay0 (.str x) then some (.str x) else none
 | .tup xs=>(J9 xs).map .tuple
 | .lst xs=>(J9 xs).map .list
 | .dic _=>none
 | .obj _=>none
 | .adr _=>none
def J9:List T->Option (List PyData)
 | []=>some []
 | x::r=>match dat x with
  | some a=>(J9 r).map (a :: ·)
  | none=>none
end
noncomputable def eqD (a b:T):Option Bool:=match dat a with
 | some x=>match dat b with
  | some y=>if x.depth<=40 then some (PyData.eqv x y) else none
  | none=>none
 | none=>none
noncomputable def a8w:List (Key × T)->List (Key × T)->Option Bool
 | [],_=>some true
 | (k,x)::r,ys=>match Gj k ys with
  | none=>some false
  | some y=>match eqD x y with
   | some e=>(a8w r ys).map (e && ·)
   | none=>none
noncomputable def eqT:T->T->Option Bool
 | .dic a,.dic b=>if a.length=b.length then a8w a b else some false
 | x,y=>eqD x y
def ak (t:T):M T:=fun s=>some (t,s)
noncomputable def aq (i:Nat):M T:=fun s=>match s.env[i]? with
 | some (some (t,false))=>some (t,s)
 | some (some (t,true))=>some (t,{ s with env:=s.env.set i (some (t,false)) })
 | _=>none
def a8t (i:Nat):M T:=fun s=>match s.env[i]? with
 | some (some (t,false))=>some (t,s)
 | _=>none
def acg:T->T->Option T
 | .int i,.int j=>some (.int (i+j))
 | _,_=>none
def d7:M (List T):=fun s=>some ([],s)
noncomputable def ao (a:M T) (r:M (List T)):M (List T):=fun s=>match a s with
 | some (t,s1)=>match r s1 with
  | some (ts,s2)=>some (t::ts,s2)
  | none=>none
 | none=>none
def Dl:List Str->M (List T)
 | []=>d7
 | x::r=>ao (ak (.str x)) (Dl r)
noncomputable def gk (f:List T->Option T) (a:M (List T)):M T:=fun s=>match a s with
 | some (ts,s1)=>match f ts with
  | some t=>some (t,s1)
  | none=>none
 | none=>none
noncomputable def mUn (f:T->Option T) (a:M T):M T:=fun s=>match a s with
 | some (t,s1)=>match f t with
  | some u=>some (u,s1)
  | none=>none
 | none=>none
noncomputable def mOp (f:T->T->Option T) (a b:M T):M T:=fun s=>match a s with
 | some (t,s1)=>match b s1 with
  | some (u,s2)=>match f t u with
   | some v=>some (v,s2)
   | none=>none
  | none=>none
 | none=>none
abbrev Fn:=List T->List SO->Option (T × List SO)
noncomputable def dw (F:Fn) (a:M (List T)):M T:=fun s=>match a s with
 | some (ts,s1)=>match F ts s1.sto with
  | some (t,sto)=>some (t,{ s1 with sto:=sto })
  | none=>none
 | none=>none
def bw (a:M T):M Bool:=fun s=>match a s with
 | some (.bl b,s1)=>some (b,s1)
 | _=>none
def Gi (a:M Bool):M Bool:=fun s=>match a s with
 | some (b,s1)=>some (!b,s1)
 | none=>none
noncomputable def Ox (a b:M Bool):M Bool:=fun s=>match a s with
 | some (true,s1)=>b s1
 | some (false,s1)=>some (false,s1)
 | none=>none
noncomputable def mOr (a b:M Bool):M Bool:=fun s=>match a s with
 | some (true,s1)=>some (true,s1)
 | some (false,s1)=>b s1
 | none=>none
def yc (a:M Bool):M T:=fun s=>match a s with
 | some (b,s1)=>some (.bl b,s1)
 | none=>none
noncomputable def mIf (c:M Bool) (a b:M T):M T:=fun s=>match c s with
 | some (true,s1)=>a s1
 | some (false,s1)=>b s1
 | none=>none
abbrev lim:Nat:=1000000
def xg (i:Int):Bool:=decide (-(2 ^ 64)<i/\i<2 ^ 64)
noncomputable def jm:T->T->Option T
 | .int i,.int j=>some (.int (i+j))
 | .str x,.str y=>if x.length+y.length<lim then some (.str (x++y)) else none
 | .tup x,.tup y=>if x.length+y.length<lim then some (.tup (x++y)) else none
 | .lst x,.lst y=>if x.length+y.length<lim then some (.lst (x++y)) else none
 | _,_=>none
def Qs:T->T->Option T
 | .int i,.int j=>some (.int (i - j))
 | _,_=>none
noncomputable def yg:T->T->Option T
 | .int i,.int j=>if xg i||xg j then some (.int (i * j)) else none
 | .str x,.int j=>if 0<=j/\j<=1000/\x.length<=100 then some (.str ⟨((List.replicate j.toNat x.cps.toList).flatten).toArray⟩) else none
 | _,_=>none
def Dg:T->T->Option T
 | .int i,.int j=>if 0<j then some (.int (i%j)) else none
 | _,_=>none
def fdl:Nat:=2 ^ 200
noncomputable def Ck:T->T->Option T
 | .int i,.int j=>if 0<j/\(j<1073741824\/j.natAbs<fdl) then some (.int (i / j)) else none
 | _,_=>none
noncomputable def Qo:T->T->Option T
 | .int i,.int j=>if 0<=j/\j<=1000/\i.natAbs<1000 then some (.int (i ^ j.toNat)) else none
 | _,_=>none
def a1o:T->Option T
 | .int i=>some (.int (-i))
 | _=>none
def ltT:T->T->Option T
 | .int i,.int j=>some (.bl (decide (i<j)))
 | _,_=>none
def leT:T->T->Option T
 | .int i,.int j=>some (.bl (decide (i<=j)))
 | _,_=>none
def gtT:T->T->Option T
 | .int i,.int j=>some (.bl (decide (j<i)))
 | _,_=>none
def geT:T->T->Option T
 | .int i,.int j=>some (.bl (decide (j<=i)))
 | _,_=>none
def eqO (x y:T):Option T:=match eqT x y with
 | some b=>some (.bl b)
 | none=>none
def neO (x y:T):Option T:=match eqT x y with
 | some b=>some (.bl (!b))
 | none=>none
noncomputable def ixI (n:Nat) (i:Int):Option Nat:=if 0<=i then (if i<n then some i.toNat else none) else if -(n:Int)<=i then some (i+n).toNat else none
noncomputable def dg:T->T->Option T
 | .tup xs,.int i=>(ixI xs.length i).bind (xs[·]?)
 | .lst xs,.int i=>(ixI xs.length i).bind (xs[·]?)
 | .str x,.int i=>if x.length<lim then (ixI x.cps.toList.length i).bind fun j=>(x.cps.toList[j]?).map fun c=>.str ⟨#[c]⟩ else none
 | .dic kvs,k=>(keyOf k).bind (Gj · kvs)
 | _,_=>none
noncomputable def Ax:List T->Option T
 | [.tup xs]=>some (.int xs.length)
 | [.lst xs]=>some (.int xs.length)
 | [.str x]=>if x.length<lim then some (.int x.length) else none
 | [.dic kvs]=>some (.int kvs.length)
 | _=>none
noncomputable def inL (x:T):List T->Option Bool
 | []=>some false
 | y::r=>match eqD y x with
  | some e=>(inL x r).map (e || ·)
  | none=>none
noncomputable def inT (x y:T):Option T:=match y with
 | .dic kvs=>(keyOf x).map fun q=>.bl (Gj q kvs).isSome
 | _=>if (dat x).isSome then (match y with
  | .tup ys=>(inL x ys).map .bl
  | .lst ys=>(inL x ys).map .bl
  | _=>none) else none
def Mi (x y:T):Option T:=match inT x y with
 | some (.bl b)=>some (.bl (!b))
 | _=>none
def Bw:List T->Option T
 | [.lst xs]=>some (.tup xs)
 | [.tup xs]=>some (.tup xs)
 | _=>none
def Oh:List T->Option (List Int)
 | []=>some []
 | .int i::r=>(Oh r).map (i :: ·)
 | _=>none
def ac5:List T->Option T
 | [.lst xs]=>(Oh xs).map fun l=>.int l.sum
 | _=>none
def Gh:List T->Option (List Bool)
 | []=>some []
 | .bl b::r=>(Gh r).map (b :: ·)
 | _=>none
def aae:List T->Option T
 | [.lst xs]=>(Gh xs).map fun l=>.bl (l.all id)
 | _=>none
def acf:List T->Option T
 | [.lst xs]=>(Gh xs).map fun l=>.bl (l.any id)
 | _=>none
def Ga:List T->Option (List Str)
 | []=>some []
 | .str x::r=>(Ga r).map (x :: ·)
 | _=>none
noncomputable def Ei (x:Str):List Str->List Str
 | []=>[x]
 | y::r=>if decide (x.cps.toList<y.cps.toList) then x::y::r else y::Ei x r
def n8 (l:List Str):List Str:=l.foldl (fun acc x=>Ei x acc) []
noncomputable def Bb:List T->Option T
 | [.lst xs]=>if xs.length<64 then (Ga xs).map fun l=>.lst ((n8 l).map .str) else none
 | [.dic kvs]=>if kvs.length<64 then (Ga (kvs.map fun p=>Je p.1)).map fun l=>.lst ((n8 l).map .str) else none
 | _=>none
noncomputable def isTup:List T->Option T
 | [.tup _]=>some (.bl true)
 | [.obj _]=>none
 | [.adr _]=>none
 | [_]=>some (.bl false)
 | _=>none
noncomputable def abl:List T->Option T
 | [.bl _]=>some (.bl true)
 | [.obj _]=>none
 | [.adr _]=>none
 | [_]=>some (.bl false)
 | _=>none
noncomputable def isStr:List T->Option T
 | [.str _]=>some (.bl true)
 | [.obj _]=>none
 | [.adr _]=>none
 | [_]=>some (.bl false)
 | _=>none
def Gp:List T->Option T
 | [.int i]=>some (.int (if i<0 then -i else i))
 | _=>none
noncomputable def Dy (i:Nat):M T:=fun s=>match s.env[i]? with
 | some (some (.lst xs,_))=>some (.int xs.length,s)
 | some (some (.dic xs,_))=>some (.int xs.length,s)
 | _=>none
def Li (i:Nat) (s:Sta):Bool:=match s.env[i]? with
 | some (some (.dic _,_))=>true
 | _=>false
def G5 (i:Nat) (s:Sta):Bool:=match s.env[i]? with
 | some (some (.lst _,_))=>true
 | _=>false
noncomputable def vo (i:Nat) (k d:M T):M T:=fun s=>if Li i s then (match k s with
 | some (kt,s1)=>match d s1 with
  | some (dt,s2)=>match s2.env[i]? with
   | some (some (.dic kvs,_))=>match keyOf kt with
    | some q=>some ((Gj q kvs).getD dt,s2)
    | none=>none
   | _=>none
  | none=>none
 | none=>none) else none
noncomputable def uy (o k:M T):M T:=fun s=>match o s with
 | some (.obj n,s1)=>match k s1 with
  | some (kt,s2)=>match s2.sto[n]? with
   | some (.dic kvs)=>match (keyOf kt).bind (Gj · kvs) with
    | some t=>some (t,s2)
    | none=>none
   | _=>none
  | none=>none
 | _=>none
noncomputable def Fz (ks:List Key) (a:M (List T)):M T:=fun s=>match a s with
 | some (ts,s1)=>some (.obj s1.sto.length,{ s1 with sto:=s1.sto++[.dic (ks.zip ts)] })
 | none=>none
inductive Flow where
 | next | ret (t:T) | brk | cont
abbrev S:=Sta->Option (Flow × Sta)
def yd:S:=fun s=>some (.next,s)
def jf (a b:S):S:=fun s=>match a s with
 | some (.next,s1)=>b s1
 | r=>r
def sy (e:M T):S:=fun s=>match e s with
 | some (t,s1)=>some (.ret t,s1)
 | none=>none
noncomputable def sIf (c:M Bool) (a b:S):S:=fun s=>match c s with
 | some (true,s1)=>a s1
 | some (false,s1)=>b s1
 | none=>none
def ig (i:Nat) (t:T) (own:Bool) (s:Sta):Sta:={ s with env:=s.env.set i (some (t,own)) }
noncomputable def j8 (i:Nat) (e:M T):S:=fun s=>match e s with
 | some (t,s1)=>some (.next,ig i t false s1)
 | none=>none
noncomputable def sNew (i:Nat) (e:M T):S:=fun s=>match e s with
 | some (t,s1)=>some (.next,ig i t true s1)
 | none=>none
noncomputable def u6 (i:Nat) (e:M T):S:=fun s=>if G5 i s then (match e s with
 | some (t,s1)=>match s1.env[i]? with
  | some (some (.lst xs,true))=>if xs.length<lim then some (.next,ig i (.lst (xs++[t])) true s1) else none
  | _=>none
 | none=>none) else none
def ad4:T->Option (List T)
 | .lst xs=>some xs
 | .tup xs=>some xs
 | _=>none
noncomputable def vp (i:Nat) (k v:M T):S:=fun s=>match v s with
 | some (t,s1)=>if Li i s1 then (match k s1 with
  | some (kt,s2)=>match s2.env[i]?,keyOf kt with
   | some (some (.dic kvs,true)),some q=>if kvs.length<lim then some (.next,ig i (.dic (Vt q t kvs)) true s2) else none
   | _,_=>none
  | none=>none) else none
 | none=>none
noncomputable def Ed (o k v:M T):S:=fun s=>match v s with
 | some (t,s1)=>match o s1 with
  | some (.obj n,s2)=>match k s2 with
   | some (kt,s3)=>match s3.sto[n]?,keyOf kt with
    | some (.dic kvs),some q=>if kvs.length<lim then some (.next,{ s3 with sto:=s3.sto.set n (.dic (Vt q t kvs)) }) else none
    | _,_=>none
   | none=>none
  | _=>none
 | none=>none
abbrev G:=T->Sta->Option Sta
def hName (i:Nat):G:=fun t s=>some (ig i t false s)
noncomputable def Gq (is:List Nat):G:=fun t s=>match t with
 | .tup xs=>if xs.length=is.length then some ((is.zip xs).foldl (fun s p=>ig p.1 p.2 false s) s) else none
 | _=>none
noncomputable def sGo (g:G) (m:M T):S:=fun s=>match m s with
 | some (t,s1)=>match g t s1 with
  | some s2=>some (.next,s2)
  | none=>none
 | none=>none
noncomputable def forL (g:G) (b:S):List T->S
 | []=>fun s=>some (.next,s)
 | t::r=>fun s=>match g t s with
  | some s1=>match b s1 with
   | some (.next,s2)=>forL g b r s2
   | some (.cont,s2)=>forL g b r s2
   | some (.brk,s2)=>some (.next,s2)
   | some (.ret v,s2)=>some (.ret v,s2)
   | none=>none
  | none=>none
noncomputable def J7 (g:G) (it:M (List T)) (b:S):S:=fun s=>match it s with
 | some (ts,s1)=>forL g b ts s1
 | none=>none
def rangeT (n:Nat):List T:=(List.range n).map fun (k:Nat)=>.int (k:Int)
noncomputable def Bm (a:M T):M (List T):=fun s=>match a s with
 | some (.int n,s1)=>if n.natAbs<lim then some (rangeT n.toNat,s1) else none
 | _=>none
noncomputable def yx (a:M T):M (List T):=fun s=>match a s with
 | some (.lst xs,s1)=>if xs.length<lim then some (xs,s1) else none
 | some (.tup xs,s1)=>if xs.length<lim then some (xs,s1) else none
 | _=>none
def Uw (s:Slot):Slot:=match s with
 | some (t,_)=>some (t,false)
 | none=>none
def j9 (s:Sta):Sta:={ s with env:=s.env.map Uw }
noncomputable def Dk (g:G) (c:M Bool) (e:M T):List T->Sta->List T->Option (List T × Sta)
 | [],s,acc=>some (acc,s)
 | t::r,s,acc=>match g t s with
  | some s1=>match c s1 with
   | some (true,s2)=>match e s2 with
    | some (u,s3)=>if acc.length<lim then Dk g c e r (j9 s3) (acc++[u]) else none
    | none=>none
   | some (false,s2)=>Dk g c e r (j9 s2) acc
   | none=>none
  | none=>none
def v9:M Bool:=fun s=>some (true,s)
noncomputable def jj (is:List Nat) (env:List Slot):List Slot:=is.foldl (fun e i=>match e[i]? with
 | some (some (t,_))=>e.set i (some (t,false))
 | _=>e) env
noncomputable def lu (nv:Nat) (ai:List Nat) (g:G) (it:M (List T)) (c:M Bool) (e:M T):M T:=fun s=>match it s with
 | some (ts,s1) =>
  let env:=jj ai s1.env
  match Dk g c e ts ⟨List.replicate nv none++ai.map (fun i=>(env[i]?).getD none),s1.sto⟩ [] with
  | some (us,s2)=>some (.lst us,⟨env,s2.sto⟩)
  | none=>none
 | none=>none
noncomputable def qp (n:Nat) (b:S):Fn:=fun ts sto=>match b ⟨ts.map (fun t=>some (t,false))++List.replicate (n - ts.length) none,sto⟩ with
 | some (.ret t,s)=>some (t,s.sto)
 | some (.next,s)=>some (.non,s.sto)
 | _=>none
section
variable {s s':Sta} {t v:T} {a b:M T}
theorem M9 {f:T->T->Option T} (h:mOp f a b s=some (v,s')):∃ t s1 u,a s=some (t,s1)/\b s1=some (u,s')/\f t u=some v:=by
 unfold mOp at h;cases ha:a s with
 | none=>rw [ha] at h; cases h
 | some p =>
  obtain ⟨t,s1⟩:=p; rw [ha] at h; dsimp only at h;cases hb:b s1 with
  | none=>rw [hb] at h; cases h
  | some p =>
   obtain ⟨u,s2⟩:=p; rw [hb] at h; dsimp only at h;cases hf:f t u with
   | none=>rw [hf] at h; cases h
   | some w=>rw [hf] at h; cases h; exact ⟨t,s1,u,rfl,hb,hf⟩
theorem Xj {f:T->Option T} (h:mUn f a s=some (v,s')):∃ t,a s=some (t,s')/\f t=some v:=by
 unfold mUn at h;cases ha:a s with
 | none=>rw [ha] at h; cases h
 | some p =>
  obtain ⟨t,s1⟩:=p; rw [ha] at h; dsimp only at h;cases hf:f t with
  | none=>rw [hf] at h; cases h
  | some w=>rw [hf] at h; cases h; exact ⟨t,rfl,hf⟩
theorem Am {f:List T->Option T} {a:M (List T)} (h:gk f a s=some (v,s')):∃ ts,a s=some (ts,s')/\f ts=some v:=by
 unfold gk at h;cases ha:a s with
 | none=>rw [ha] at h; cases h
 | some p =>
  obtain ⟨t,s1⟩:=p; rw [ha] at h; dsimp only at h;cases hf:f t with
  | none=>rw [hf] at h; cases h
  | some w=>rw [hf] at h; cases h; exact ⟨t,rfl,hf⟩
theorem qt {r:M (List T)} {ts:List T} (h:ao a r s=some (ts,s')):∃ t s1 us,a s=some (t,s1)/\r s1=some (us,s')/\ts=t::us:=by
 unfold ao at h;cases ha:a s with
 | none=>rw [ha] at h; cases h
 | some p =>
  obtain ⟨t,s1⟩:=p; rw [ha] at h; dsimp only at h;cases hb:r s1 with
  | none=>rw [hb] at h; cases h
  | some p=>obtain ⟨u,s2⟩:=p; rw [hb] at h; cases h; exact ⟨t,s1,u,rfl,hb,rfl⟩
theorem Yy {F:Fn} {a:M (List T)} (h:dw F a s=some (v,s')):∃ ts s1 sto,a s=some (ts,s1)/\F ts s1.sto=some (v,sto)/\s' = { s1 with sto:=sto }:=by
 unfold dw at h;cases ha:a s with
 | none=>rw [ha] at h; cases h
 | some p =>
  obtain ⟨t,s1⟩:=p; rw [ha] at h; dsimp only at h;cases hf:F t s1.sto with
  | none=>rw [hf] at h; cases h
  | some w=>obtain ⟨w,sto⟩:=w; rw [hf] at h; cases h; exact ⟨t,s1,sto,rfl,hf,rfl⟩
theorem v8 {b:Bool} (h:bw a s=some (b,s')):a s=some (.bl b,s'):=by
 unfold bw at h;cases ha:a s with
 | none=>rw [ha] at h; cases h
 | some p =>
  obtain ⟨t,s1⟩:=p; rw [ha] at h;cases t <;> first | (cases h; rfl) | (cases h)
theorem Gu {c:M Bool} (h:yc c s=some (v,s')):∃ b,c s=some (b,s')/\v=.bl b:=by
 unfold yc at h;cases ha:c s with
 | none=>rw [ha] at h; cases h
 | some p=>obtain ⟨t,s1⟩:=p; rw [ha] at h; cases h; exact ⟨t,rfl,rfl⟩
theorem Rw {c:M Bool} {b:Bool} (h:Gi c s=some (b,s')):∃ k,c s=some (k,s')/\b=!k:=by
 unfold Gi at h;cases ha:c s with
 | none=>rw [ha] at h; cases h
 | some p=>obtain ⟨t,s1⟩:=p; rw [ha] at h; cases h; exact ⟨t,rfl,rfl⟩
theorem Tv {c d:M Bool} {b:Bool} (h:Ox c d s=some (b,s')):(∃ s1,c s=some (true,s1)/\d s1=some (b,s'))\/(c s=some (false,s')/\b=false):=by
 unfold Ox at h;cases ha:c s with
 | none=>rw [ha] at h; cases h
 | some p =>
  obtain ⟨k,s1⟩:=p; rw [ha] at h;cases k with
  | true=>exact .inl ⟨s1,rfl,h⟩
  | false=>cases h; exact .inr ⟨rfl,rfl⟩
theorem Xm {c d:M Bool} {b:Bool} (h:mOr c d s=some (b,s')):(∃ s1,c s=some (false,s1)/\d s1=some (b,s'))\/(c s=some (true,s')/\b=true):=by
 unfold mOr at h;cases ha:c s with
 | none=>rw [ha] at h; cases h
 | some p =>
  obtain ⟨k,s1⟩:=p; rw [ha] at h;cases k with
  | false=>exact .inl ⟨s1,rfl,h⟩
  | true=>cases h; exact .inr ⟨rfl,rfl⟩
theorem a84 {c:M Bool} (h:mIf c a b s=some (v,s')):(∃ s1,c s=some (true,s1)/\a s1=some (v,s'))\/(∃ s1,c s=some (false,s1)/\b s1=some (v,s')):=by
 unfold mIf at h;cases ha:c s with
 | none=>rw [ha] at h; cases h
 | some p =>
  obtain ⟨k,s1⟩:=p; rw [ha] at h;cases k with
  | true=>exact .inl ⟨s1,rfl,h⟩
  | false=>exact .inr ⟨s1,rfl,h⟩
theorem a0j {i:Nat} (h:aq i s=some (v,s')):(s.env[i]? = some (some (v,false))/\s'=s)\/(s.env[i]? = some (some (v,true))/\s' = { s with env:=s.env.set i (some (v,false)) }):=by
 unfold aq at h;split at h
 ·rename_i t e; cases h; exact .inl ⟨e,rfl⟩
 ·rename_i t e; cases h; exact .inr ⟨e,rfl⟩
 ·cases h
end
mutual
theorem Bj:∀ (t:T) {d:PyData},dat t=some d->d.canLay0=true
 | .non,_,h=>by simp only [dat] at h; cases h; simp only [PyData.canLay0]
 | .bl b,_,h=>by simp only [dat] at h; cases h; simp only [PyData.canLay0]
 | .int i,_,h=>by simp only [dat] at h; cases h; simp only [PyData.canLay0]
 | .str x,_,h=>by
  simp only [dat] at h;split at h
  ·rename_i hx; cases h; exact hx
  ·cases h
 | .tup xs,_,h=>by
  simp only [dat] at h;obtain ⟨l,e1,e2⟩:=Option.map_eq_some_iff.mp h;subst e2;simp only [PyData.canLay0];exact Ky xs e1
 | .lst xs,_,h=>by
  simp only [dat] at h;obtain ⟨l,e1,e2⟩:=Option.map_eq_some_iff.mp h;subst e2;simp only [PyData.canLay0];exact Ky xs e1
 | .dic _,_,h=>by simp only [dat] at h; cases h
 | .obj _,_,h=>by simp only [dat] at h; cases h
theorem Ky:∀ (ts:List T) {l:List PyData},J9 ts=some l->PyData.canLayAll0 l=true
 | [],_,h=>by simp only [J9] at h; cases h; simp only [PyData.canLayAll0]
 | x::r,_,h=>by
  simp only [J9] at h;split at h
  ·rename_i a ea;obtain ⟨l,e1,e2⟩:=Option.map_eq_some_iff.mp h;subst e2;simp only [PyData.canLayAll0];rw [Bj x ea,Ky r e1]; rfl
  ·cases h
end
theorem a00 {x:T} {r:List T} {l:List PyData} (h:J9 (x::r)=some l):∃ a l',dat x=some a/\J9 r=some l'/\l=a::l':=by
 simp only [J9] at h;split at h
 ·rename_i a ea;obtain ⟨l,e1,e2⟩:=Option.map_eq_some_iff.mp h;exact ⟨a,l,ea,e1,e2.symm⟩
 ·cases h
theorem Py {t u:T} {b:Bool} (h:eqD t u=some b):∃ x y,dat t=some x/\dat u=some y/\x.depth<=40/\b=PyData.eqv x y:=by
 unfold eqD at h;split at h
 ·rename_i x ex;split at h
  ·rename_i y ey;split at h
   ·rename_i hd; cases h; exact ⟨x,y,ex,ey,hd,rfl⟩
   ·cases h
  ·cases h
 ·cases h
theorem a7r {t u:T} {b:Bool} (h:eqT t u=some b):(∃ x y,t=.dic x/\u=.dic y/\((x.length=y.length/\a8w x y=some b)\/(x.length≠y.length/\b=false)))\/eqD t u=some b:=by
 unfold eqT at h;split at h
 ·split at h
  ·rename_i hl; exact .inl ⟨_,_,rfl,rfl,.inl ⟨hl,h⟩⟩
  ·rename_i hl; cases h; exact .inl ⟨_,_,rfl,rfl,.inr ⟨hl,rfl⟩⟩
 ·exact .inr h
end C
end
section
namespace L2
open PySem PySem.Spec PyProof.Rows
abbrev Key:=Sum Int Str
def O9:Key->Value->Bool
 | .inl k,v=>Value.isInt k v
 | .inr x,v=>Value.isStrOf x v
def afz (w:World):Key->Int
 | .inl k=>hashInt k
 | .inr x=>hashStr w x
theorem jt:∀ {k:Key} {v:Value},O9 k v=true->(∃ i t,k=Sum.inl i/\v=Value.int i t)\/(∃ x t,k=Sum.inr x/\v=Value.str x t)
 | .inl i,v,h=>by
  obtain ⟨t,e⟩:=Value.isInt_shape (k:=i) (v:=v) h;exact .inl ⟨i,t,rfl,e⟩
 | .inr x,v,h=>by
  obtain ⟨t,e⟩:=Value.isStrOf_shape (x:=x) (v:=v) h;exact .inr ⟨x,t,rfl,e⟩
theorem W9 (i:Int) (t:Tok):O9 (.inl i) (.int i t)=true:=by simp [O9,Value.isInt]
theorem Yt (x:Str) (t:Tok):O9 (.inr x) (.str x t)=true:=by simp [O9,Value.isStrOf]
theorem abq (a b:Int):decide ((Sum.inl a:Key)=Sum.inl b)=(a==b):=by
 by_cases e:a=b
 ·subst e; simp
 ·have h:¬ (Sum.inl a:Key)=Sum.inl b:=fun q=>e (Sum.inl.inj q);rw [decide_eq_false h];exact (beq_eq_false_iff_ne.mpr e).symm
theorem abu (a b:Str):decide ((Sum.inr a:Key)=Sum.inr b)=decide (a=b):=by
 by_cases e:a=b
 ·subst e; simp
 ·have h:¬ (Sum.inr a:Key)=Sum.inr b:=fun q=>e (Sum.inr.inj q);rw [decide_eq_false h,decide_eq_false e]
theorem a9o (a:Int) (b:Str):decide ((Sum.inl a:Key)=Sum.inr b)=false:=decide_eq_false (fun q=>nomatch q)
theorem a9s (a:Str) (b:Int):decide ((Sum.inr a:Key)=Sum.inl b)=false:=decide_eq_false (fun q=>nomatch q)
noncomputable def jr (prog:Program) (w:World):PySem.KeyKind prog w Key where
 is:=O9
 hash:=afz w
 inj:=fun v a b ha hb=>by
  rcases jt ha with ⟨i,t,rfl,rfl⟩ | ⟨x,t,rfl,rfl⟩
  ·rcases jt hb with ⟨j,u,rfl,e⟩ | ⟨y,u,rfl,e⟩
   ·injection e with e1 _; rw [e1]
   ·exact nomatch e
  ·rcases jt hb with ⟨j,u,rfl,e⟩ | ⟨y,u,rfl,e⟩
   ·exact nomatch e
   ·injection e with e1 _; rw [e1]
 byValue:=fun k v h=>by
  rcases jt h with ⟨i,t,rfl,rfl⟩ | ⟨x,t,rfl,rfl⟩ <;> rfl
 pyHash:=fun hv h=>by
  rcases jt hv with ⟨i,t,rfl,rfl⟩ | ⟨x,t,rfl,rfl⟩
  ·exact wpAny_pyHash_int h
  ·exact wpAny_pyHash_str h
 eqBool:=fun hu hv h=>by
  rcases jt hu with ⟨i,t,rfl,rfl⟩ | ⟨x,t,rfl,rfl⟩
  ·rcases jt hv with ⟨j,u,rfl,rfl⟩ | ⟨y,u,rfl,rfl⟩
   ·rw [abq] at h; exact wpAny_eqBool_int h
   ·rw [a9o] at h; exact SeqAt.EqAt.int_str i t y u _ _ _ _ h
  ·rcases jt hv with ⟨j,u,rfl,rfl⟩ | ⟨y,u,rfl,rfl⟩
   ·rw [a9s] at h; exact SeqAt.EqAt.str_int x t j u _ _ _ _ h
   ·rw [abu] at h; exact wpAny_eqBool_str h
 «strs»:=fun k x t v h=>by
  rcases jt h with ⟨i,u,rfl,e⟩ | ⟨y,u,rfl,e⟩
  ·exact nomatch e
  ·injection e with e1 _;subst e1;cases v <;> rfl
theorem Uo (prog:Program) (w:World) (k:Key) (v:Value):(jr prog w).is k v=O9 k v:=rfl
theorem Pk (prog:Program) (w:World) (i:Int) (t:Tok):(jr prog w).is (.inl i) (.int i t)=true:=W9 i t
theorem Q9 (prog:Program) (w:World) (x:Str) (t:Tok):(jr prog w).is (.inr x) (.str x t)=true:=Yt x t
end L2
namespace L2
open PySem PySem.Spec PyProof.Rows
inductive V where
 | non | bl (b:Bool) | int (i:Int) | str (x:Str) | byt (b:Array UInt8) | flt (b:UInt64) | ref (a:Addr) | ty (n:String)
 deriving DecidableEq
def RelV:V->Value->Prop
 | .non,u=>u=Value.none
 | .bl b,u=>u=Value.bool b
 | .int i,u=>∃ t,u=Value.int i t
 | .str x,u=>∃ t,u=Value.str x t
 | .byt b,u=>∃ t,u=Value.bytes b t
 | .flt b,u=>∃ t,u=Value.float b t
 | .ref a,u=>u=Value.ref a
 | .ty n,u=>u=Value.type n
abbrev Vals:List V->List Value->Prop:=Paired RelV
theorem Vals.length {xs:List V} {us:List Value} (r:Vals xs us):xs.length=us.length:=Paired.length r
theorem Vals.get:∀ {xs:List V} {us:List Value} {i:Nat} {x:V},Vals xs us->xs[i]? = some x->∃ u,us[i]? = some u/\RelV x u
 | _,_,_,_,.nil,e=>by simp at e
 | _,_,0,_,.cons r _,e=>by simp at e; subst e; exact ⟨_,rfl,r⟩
 | _,_,i+1,x,.cons _ t,e=>by
  obtain ⟨u,h1,h2⟩:=Vals.get (i:=i) (x:=x) t (by simpa using e);exact ⟨u,by simpa using h1,h2⟩
theorem Vals.set {x:V} {u:Value} (r:RelV x u):∀ {xs:List V} {us:List Value} (i:Nat),Vals xs us->Vals (xs.set i x) (us.set i u)
 | _,_,_,.nil=>.nil
 | _,_,0,.cons _ t=>.cons r t
 | _,_,i+1,.cons q t=>.cons q (Vals.set r i t)
theorem Vals.append {xs ys:List V} {us ws:List Value} (r:Vals xs us) (s:Vals ys ws):Vals (xs++ys) (us++ws):=by
 induction r with
 | nil=>exact s
 | cons r _ ih=>exact .cons r ih
theorem Vals.take:∀ {xs:List V} {us:List Value} (n:Nat),Vals xs us->Vals (xs.take n) (us.take n)
 | _,_,0,_=>.nil
 | _,_,_+1,.nil=>.nil
 | _,_,n+1,.cons r t=>.cons r (Vals.take n t)
theorem Vals.drop:∀ {xs:List V} {us:List Value} (n:Nat),Vals xs us->Vals (xs.drop n) (us.drop n)
 | _,_,0,r=>r
 | _,_,_+1,.nil=>.nil
 | _,_,n+1,.cons _ t=>Vals.drop n t
def Kd:Option V->Option Value->Prop
 | some v,some u=>RelV v u
 | none,none=>True
 | _,_=>False
def KV {κ:Type}:List (κ × V)->List (κ × Value)->Prop:=Paired fun (p:κ × V) (q:κ × Value)=>p.1=q.1/\RelV p.2 q.2
def kV:Key->V
 | .inl i=>.int i
 | .inr x=>.str x
inductive HO where
 | lst (xs:List V)
 | tup (xs:List V)
 | dK (kvs:List (Key × V)) | dT (kvs:List (List Key × V))
 | set (S:Int->Bool) (n:Nat)
 | ins (C dx:Addr) (fs:List (Str × V))
 | own (x:Addr)
 | xd (fs:List (Str × V))
 | met (f x:Addr)
 | rng (lo hi:Int)
 | frz (o:Obj) (u:HO)
 | tbl (ps:Array Value)
 | ext (φ:Heap->Prop)
abbrev Hp:=Addr->Option HO
def upd (H:Hp) (a:Addr) (o:HO):Hp:=fun b=>if b=a then some o else H b
theorem d8 {H:Hp} {a:Addr} {o:HO}:upd H a o a=some o:=by unfold upd; rw [if_pos rfl]
theorem d9 {H:Hp} {a b:Addr} {o:HO} (h:b≠a):upd H a o b=H b:=by unfold upd; rw [if_neg h]
theorem a6l {H:Hp} {a:Addr} {o u:HO}:upd (upd H a o) a u=upd H a u:=by
 funext b; unfold upd; split <;> rfl
theorem aco {H:Hp} {a b:Addr} {o u:HO} (h:H a=some o) (h':H b=some u) (d:o≠u):a≠b:=by
 intro e; subst e; rw [h] at h'; exact d (Option.some.inj h')
theorem jq {H:Hp} {a b:Addr} {o:HO} (h:H a=some o) (h':H b=none):a≠b:=by
 intro e; subst e; rw [h] at h'; cases h'
def a5x (h:Heap) (a:Addr) (items:Array Value):Prop:=∃ o,h.get? a=some o/\o.cls=.type "tuple" /\ o.dict=none/\∃ n,o.data=.seq items n
theorem a5x.is {h:Heap} {a:Addr} {items:Array Value} (x:a5x h a items):IsTup h a items:=let ⟨o,e,c,_,d⟩:=x; ⟨o,e,c,d⟩
theorem a5x.new (h:Heap) (items:Array Value):a5x (h.push { cls:=.type "tuple",data:=.seq items }) h.objs.size items:=⟨_,Heap.get?_push_size _ rfl,rfl,rfl,0,rfl⟩
section
variable (P:Program) (w:World)
def qu (H:Hp) (h:Heap) (a:Addr):HO->Prop
 | .lst xs=>xs.length<=sizeLine/\∃ (its:List Value) (n:Nat),Vals xs its/\h.get? a=some { cls:=.type "list",data:=.seq its.toArray n }
 | .tup xs=>xs.length<=sizeLine/\∃ its:List Value,Vals xs its/\a5x h a its.toArray
 | .dK kvs=>kvs.length<=sizeLine/\(a==sysModules)=false/\∃ vs,KV kvs vs/\h.DictOf (jr P w) a vs
 | .dT kvs=>kvs.length<=sizeLine/\(a==sysModules)=false/\∃ xs:List (List Key × Addr × Value),
   Paired (fun (p:List Key × V) (q:List Key × Addr × Value)=>p.1=q.1/\H q.2.1=some (.tup (p.1.map kV))/\RelV p.2 q.2.2) kvs xs /\
   ∃ o es ep,h.get? a=some o/\o.ExactDict/\o.data=.dict es ep/\es.toList=xs.map (entryOfKey (tupleKind (jr P w)))/\(xs.map (·.1)).Nodup
 | .set S n=>h.SetOf (intKind P w) a S n
 | .ins C dx fs=>H dx=some (.own a)/\fs.length<=1000/\dx≠a/\h.get? a=some (PySem.W.instObj C dx) /\
   ∃ mA,h.Ns1 dx mA/\(∀ f,Kd (fs.lookup f) (mA f))/\PySem.Within mA (fs.map (·.1))
 | .own _=>∃ o,h.get? a=some o
 | .xd fs=>∃ mA,h.Ns1 a mA/\∀ f,Kd (fs.lookup f) (mA f)
 | .rng lo hi=>∃ t u v,h.get? a=some { cls:=.type "range",data:=.fields #[.int lo t,.int hi u,.int 1 v] }
 | .frz o u=>h.get? a=some o/\qu H h a u
 | .tbl ps=>h.get? a=some { cls:=.none,data:=.fields ps }
 | .met f x=>h.get? a=some (PySem.W.methodObj (.ref f) (.ref x))
 | .ext φ=>φ h/\(∃ o,h.get? a=some o)/\∀ h1 h2:Heap,φ h1->(∀ o,h1.get? a=some o->h2.get? a=some o)->φ h2
def HOk (H:Hp) (h:Heap):Prop:=∀ a o,H a=some o->qu P w H h a o
end
section
variable {P:Program} {w:World} {H H':Hp} {h h':Heap} {a:Addr} {o:HO}
theorem qu.lt (x:qu P w H h a o):a<h.objs.size:=by
 cases o with
 | lst xs=>obtain ⟨_,_,_,_,e⟩:=x; exact Heap.lt_size e
 | tup xs=>obtain ⟨_,_,_,p⟩:=x; exact p.is.lt
 | dK kvs=>obtain ⟨_,_,_,_,o,_,_,e,_⟩:=x; exact Heap.lt_size e
 | dT kvs=>obtain ⟨_,_,_,_,o,_,_,e,_⟩:=x; exact Heap.lt_size e
 | set S n=>obtain ⟨o,_,_,_,e,_⟩:=x; exact Heap.lt_size e
 | ins C dx fs=>obtain ⟨_,_,_,e,_⟩:=x; exact Heap.lt_size e
 | own y=>obtain ⟨_,e⟩:=x; exact Heap.lt_size e
 | xd fs=>obtain ⟨_,⟨_,_,_,e,_⟩,_⟩:=x; exact Heap.lt_size e
 | rng lo hi=>obtain ⟨_,_,_,e⟩:=x; exact Heap.lt_size e
 | frz ob u=>obtain ⟨e,_⟩:=x; exact Heap.lt_size e
 | tbl ps=>exact Heap.lt_size (show h.get? a=some _ from x)
 | met f y=>exact Heap.lt_size (show h.get? a=some _ from x)
 | ext φ=>obtain ⟨_,⟨_,e⟩,_⟩:=x; exact Heap.lt_size e
theorem Paired.aei {α β:Type} {F G:α->β->Prop} {cL:List α} {df:List β} (r:Paired F cL df) (f:∀ a b,F a b->G a b):Paired G cL df:=by
 induction r with
 | nil=>exact .nil
 | cons r _ ih=>exact .cons (f _ _ r) ih
theorem qu.stay (x:qu P w H h a o) (k:∀ b u,(b=a\/H b=some (.own a))->h.get? b=some u->h'.get? b=some u)
  (ho:∀ b,H b=some (.own a)->H' b=some (.own a)) (ht:∀ b xs,H b=some (.tup xs)->H' b=some (.tup xs)):qu P w H' h' a o:=by
 induction o with
 | lst xs=>obtain ⟨z,its,n,r,e⟩:=x; exact ⟨z,its,n,r,k _ _ (.inl rfl) e⟩
 | tup xs=>obtain ⟨z,its,r,ob,e,c⟩:=x; exact ⟨z,its,r,ob,k _ _ (.inl rfl) e,c⟩
 | dK kvs=>obtain ⟨z,y,vs,r,ob,es,ep,e,c⟩:=x; exact ⟨z,y,vs,r,ob,es,ep,k _ _ (.inl rfl) e,c⟩
 | dT kvs =>
  obtain ⟨z,y,xs,r,ob,es,ep,e,c⟩:=x;exact ⟨z,y,xs,Paired.aei r fun p q z=>⟨z.1,ht _ _ z.2.1,z.2.2⟩,ob,es,ep,k _ _ (.inl rfl) e,c⟩
 | set S n=>obtain ⟨ob,es,ep,t,e,c⟩:=x; exact ⟨ob,es,ep,t,k _ _ (.inl rfl) e,c⟩
 | ins C dx fs =>
  obtain ⟨d,z,ne,e,mA,⟨od,es,ep,e2,c⟩,r⟩:=x;exact ⟨ho _ d,z,ne,k _ _ (.inl rfl) e,mA,⟨od,es,ep,k _ _ (.inr d) e2,c⟩,r⟩
 | own y=>obtain ⟨ob,e⟩:=x; exact ⟨ob,k _ _ (.inl rfl) e⟩
 | xd fs=>obtain ⟨mA,⟨od,es,ep,e,c⟩,r⟩:=x; exact ⟨mA,⟨od,es,ep,k _ _ (.inl rfl) e,c⟩,r⟩
 | rng lo hi=>obtain ⟨t,u,v,e⟩:=x; exact ⟨t,u,v,k _ _ (.inl rfl) e⟩
 | frz ob u ih=>obtain ⟨e,q⟩:=x; exact ⟨k _ _ (.inl rfl) e,ih q⟩
 | tbl ps =>
  have e:h.get? a=some { cls:=.none,data:=.fields ps }:=x;show h'.get? a=some { cls:=.none,data:=.fields ps };exact k a _ (.inl rfl) e
 | met f y =>
  have e:h.get? a=some (PySem.W.methodObj (.ref f) (.ref y)):=x;show h'.get? a=some (PySem.W.methodObj (.ref f) (.ref y));exact k a _ (.inl rfl) e
 | ext φ=>obtain ⟨p,⟨o,e⟩,st⟩:=x; exact ⟨st _ _ p fun o q=>k _ _ (.inl rfl) q,⟨o,k _ _ (.inl rfl) e⟩,st⟩
theorem HOk.lt (x:HOk P w H h) (e:H a=some o):a<h.objs.size:=(x a o e).lt
theorem HOk.fresh (x:HOk P w H h) (e:h.objs.size<=a):H a=none:=by
 cases q:H a with
 | none=>rfl
 | some u=>exact absurd (Nat.lt_of_lt_of_le (x.lt q) e) (Nat.lt_irrefl _)
theorem HOk.kept (x:HOk P w H h) (k:∀ b u,h.get? b=some u->h'.get? b=some u):HOk P w H h':=fun a o e =>
 (x a o e).stay (fun b u _ q=>k b u q) (fun _ q=>q) fun _ _ q=>q
theorem HOk.laid (x:HOk P w H h) (k:∀ b u,h.get? b=some u->h'.get? b=some u) (hp:h.objs.size<=a) (new:qu P w (upd H a o) h' a o):HOk P w (upd H a o) h':=fun b u e=>by
 have hn:=x.fresh hp
 by_cases hb:b=a
 ·subst hb; rw [d8] at e; cases e; exact new
 ·rw [d9 hb] at e;exact (x b u e).stay (fun c v _ q=>k c v q) (fun c q=>by rw [d9 (jq q hn)]; exact q) fun c xs q=>by rw [d9 (jq q hn)]; exact q
end
def Rd (H:Hp) (a:Addr) (u:HO):Prop:=H a=some u\/∃ o,H a=some (.frz o u)
theorem Rd.ok {P:Program} {w:World} {H:Hp} {h:Heap} {a:Addr} {u:HO} (r:Rd H a u) (x:HOk P w H h):qu P w H h a u:=by
 rcases r with r | ⟨o,r⟩
 ·exact x a u r
 ·obtain ⟨_,q⟩:=x a _ r;exact q
def Mut:Option HO->Prop
 | some (.lst _)=>True
 | some (.dK _)=>True
 | some (.dT _)=>True
 | some (.set _ _)=>True
 | some (.ins _ _ _)=>True
 | some (.ext _)=>True
 | _=>False
section
variable {P:Program} {w:World} {H:Hp} {h h':Heap} {x e:Addr} {o':HO}
theorem HOk.write (ok:HOk P w H h) (mu:Mut (H x)) (he:e=x\/H e=some (.own x)) (k:∀ b u,b≠e->h.get? b=some u->h'.get? b=some u) (cF:∃ u,h'.get? e=some u)
  (new:qu P w (upd H x o') h' x o'):HOk P w (upd H x o') h':=fun b u q=>by
 have dn:∀ c y,H c=some (.own y)->c≠x:=fun c y r z=>by subst z; rw [r] at mu; exact mu
 have d5:∀ c xs,H c=some (.tup xs)->c≠x:=fun c xs r z=>by subst z; rw [r] at mu; exact mu
 by_cases hb:b=x
 ·subst hb; rw [d8] at q; cases q; exact new
 ·rw [d9 hb] at q
  by_cases hbe:b=e
  ·have q':H b=some (.own x):=by
    rcases he with z | z
    ·exact absurd (hbe.trans z) hb
    ·rw [hbe]; exact z
   rw [q] at q'; cases q';obtain ⟨v,hv⟩:=cF;exact ⟨v,by rw [hbe]; exact hv⟩
  ·refine (ok b u q).stay (fun c v hc r=>k c v ?_ r) (fun c r=>by rw [d9 (dn c b r)]; exact r) fun c xs r=>by rw [d9 (d5 c xs r)]; exact r
   rcases hc with rfl | hc
   ·exact hbe
   ·rintro rfl;rcases he with z | z
    ·exact dn c b hc z
    ·rw [hc] at z; cases z; exact hb rfl
end
structure Un (fs ex:List Addr) (H H':Hp) (h h':Heap):Prop where
 keep:∀ b o,h.get? b=some o->H b=none->b∉fs->b∉ex->h'.get? b=some o
 slot:∀ b o,h.get? b=some o->H b=none->b∈fs->b∉ex->∃ sl,h'.get? b=some { o with slots:=sl }
 free:∀ b o,h.get? b=some o->H b=none->b∉ex->H' b=none
 there:∀ b o,h.get? b=some o->b∉ex->∃ o',h'.get? b=some o'
 tups:∀ b xs,H b=some (.tup xs)->H' b=some (.tup xs)
 frzs:∀ b o u,H b=some (.frz o u)->H' b=some (.frz o u)
 tbls:∀ b ps,H b=some (.tbl ps)->∃ more,H' b=some (.tbl (ps++more))
section
variable {fs cQ ex hZ:List Addr} {H H1 H2:Hp} {h h1 h2 h':Heap} {a x e:Addr} {o:HO}
theorem Un.any (u:Un fs ex H H1 h h1) {b:Addr} {ob:Obj} (q:h.get? b=some ob) (n:H b=none) (hx:b∉ex):∃ sl,h1.get? b=some { ob with slots:=sl }:=by
 by_cases hb:b∈fs
 ·exact u.slot b ob q n hb hx
 ·exact ⟨ob.slots,u.keep b ob q n hb hx⟩
theorem Un.kept (k:∀ b u,h.get? b=some u->h'.get? b=some u):Un fs ex H H h h' :=
 ⟨fun b ob q _ _ _=>k b ob q,fun b ob q _ _ _=>⟨ob.slots,k b ob q⟩,fun _ _ _ n _=>n,fun b ob q _=>⟨ob,k b ob q⟩,fun _ _ q=>q,fun _ _ _ q=>q,fun _ ps q=>⟨#[],by rw [q]; simp⟩⟩
theorem Un.refl:Un fs ex H H h h:=Un.kept fun _ _ q=>q
theorem Un.laid (k:∀ b u,h.get? b=some u->h'.get? b=some u) (hp:h.objs.size<=a) (hn:H a=none):Un fs ex H (upd H a o) h h' where
 keep:=fun b u q _ _ _=>k b u q
 slot:=fun b u q _ _ _=>⟨u.slots,k b u q⟩
 free:=fun b u q n _=>by rw [d9 (Nat.ne_of_lt (Nat.lt_of_lt_of_le (Heap.lt_size q) hp))]; exact n
 there:=fun b u q _=>⟨u,k b u q⟩
 tups:=fun b xs q=>by rw [d9 (jq q hn)]; exact q
 frzs:=fun b u xs q=>by rw [d9 (jq q hn)]; exact q
 tbls:=fun b ps q=>⟨#[],by rw [d9 (jq q hn),q]; simp⟩
theorem Un.write (mu:Mut (H x)) (he:e=x\/H e=some (.own x)) (k:∀ b u,b≠e->h.get? b=some u->h'.get? b=some u) (cF:∃ u,h'.get? e=some u):Un fs ex H (upd H x o) h h':=by
 have hx:∀ b,H b=none->b≠x:=fun b n z=>by subst z; rw [n] at mu; exact mu
 have hb:∀ b,H b=none->b≠e:=fun b n z=>by
  subst z;rcases he with r | r
  ·exact hx b n r
  ·rw [n] at r; cases r
 have hm:∀ b u,H b=some u->¬ Mut (some u)->b≠x:=fun b u q nm z=>by subst z; rw [q] at mu; exact nm mu
 refine ⟨fun b u q n _ _=>k b u (hb b n) q,fun b u q n _ _=>⟨u.slots,k b u (hb b n) q⟩,fun b u q n _=>by rw [d9 (hx b n)]; exact n,fun b u q _=>?_,
  fun b xs q=>by rw [d9 (hm b _ q fun z=>z)]; exact q,fun b u xs q=>by rw [d9 (hm b _ q fun z=>z)]; exact q,fun b ps q=>⟨#[],by rw [d9 (hm b _ q fun z=>z),q]; simp⟩⟩
 by_cases hbe:b=e
 ·subst hbe; exact cF
 ·exact ⟨u,k b u hbe q⟩
end
def trk (h:Heap) (H:Hp):List Addr:=(List.range h.objs.size).filter fun a=>(H a).isSome
def a1s (h:Heap) (H:Hp):Heap:=PySem.W.hideAll h (trk h H)
theorem Vy (h:Heap) (H:Hp):(a1s h H).objs.size=h.objs.size:=PySem.W.hideAll_size _ _
theorem a1r {h:Heap} {H:Hp} {b:Addr} {o:Obj} (e:h.get? b=some o) (n:H b=none):(a1s h H).get? b=some o :=
 PySem.W.hideAll_get _ e fun hm=>by
  have q:(H b).isSome=true:=(List.mem_filter.mp hm).2;rw [n] at q; simp at q
theorem a8q {h:Heap} {H:Hp} {b:Addr} {o:Obj} (e:(a1s h H).get? b=some o):h.get? b=some o/\H b=none:=by
 have e':h.get? b=some o:=PySem.W.of_hideAll (trk h H) e;refine ⟨e',?_⟩;cases q:H b with
 | none=>rfl
 | some x =>
  have hm:b∈trk h H:=List.mem_filter.mpr ⟨List.mem_range.mpr (Heap.lt_size e'),by simp [q]⟩;have z:(a1s h H).get? b=none:=PySem.W.hideAll_none (trk h H) hm;rw [z] at e; cases e
end L2
namespace L2
open PySem PySem.Spec PyProof.Rows
structure Mod (K:PySem.W.Frag) (mg:Str->Option Value) (base:Heap):Prop where
 kin:K.In base
 glob:base.Ns mainGlobals mg
 blt:∃ mb,base.Ns builtinsNs mb/\∀ x:Str,x ≠ "__name__" -> mb x=bootBuiltins x
 nolimit:base.NoLimit
structure Cx where
 prog:Program
 w:World
 K:PySem.W.Frag
 mg:Str->Option Value
 base:Heap
 A:Around
 N:List Str
 s₀:Shared
 H₀:Hp
 env:Env
 outer:List Env
 stack:List Env
 ex:List Addr
 fn:Str->Bool
 calm:Bool
 pn:List (Addr × Obj)
 xe:Value->Shared->Prop
def frs (l:List Env):List Addr:=l.filterMap (·.frame)
abbrev Cx.fs (X:Cx):List Addr:=frs X.outer
def Vis (sc:Scope) (x:Str):Prop:=sc.names.lookup x=some .local\/sc.names.lookup x=some .cell\/sc.names.lookup x=some .free
def Loc (sc:Scope) (x:Str):Prop:=sc.names.lookup x=some .local\/sc.names.lookup x=some .cell
def Look (env:Env) (h:Heap) (m:Str->Option Value) (x:Str) (u:Value):Prop :=
 (env.kindOf x=some .local/\m x=some u)\/((env.kindOf x=some .cell\/env.kindOf x=some .free)/\∃ c,env.cells.lookup x=some c/\h.IsCell c (some u))
structure Cx.Ok (X:Cx):Prop where
 mod:Mod X.K X.mg X.base
 kind:X.env.scope.kind=.function
 glob:X.env.globals=mainGlobals
 blt:X.env.builtins=builtinsNs
 above:X.s₀.heap.objs.size<=X.env.locals
 inj:∀ x y c,X.env.cells.lookup x=some c->X.env.cells.lookup y=some c->x=y
 has:∀ x,(X.env.kindOf x=some .cell\/X.env.kindOf x=some .free)->∃ c,X.env.cells.lookup x=some c
 cab:∀ x c,X.fn x=true->X.env.cells.lookup x=some c->X.s₀.heap.objs.size<=c
 hd:X.calm=true->X.A.handled=none
 frames:X.A.frames=some X.stack
 stk:X.stack=X.outer\/(X.stack=X.env::X.outer/\X.env.frame=some X.env.locals)
 exf:∀ b∈X.ex,b≠X.env.locals/\∀ x c,X.env.cells.lookup x=some c->c≠b
 bs:∀ b o,X.base.get? b=some o->X.s₀.heap.get? b=some o/\X.H₀ b=none
 bsz:X.base.objs.size<=X.s₀.heap.objs.size
 noex:∀ b o,X.base.get? b=some o->b∉X.ex
 exfs:∀ b∈X.ex,b∉X.fs
 Ru:X.s₀.heap.FunFrames X.base X.outer
 frf:∀ b∈X.fs,X.H₀ b=none
structure Inv (X:Cx) (pins:List (Addr × Obj)) (σ:List (Option V)) (H:Hp) (s:Shared):Prop where
 ok:X.Ok
 os:s.os=X.s₀.os
 bare:AllBare s.gens
 base:Un X.fs X.ex X.H₀ H X.s₀.heap s.heap
 loc:∃ m,s.heap.Ns X.env.locals m/\∀ (i:Nat) (x:Str) (v:V),X.N[i]? = some x->σ[i]? = some (some v)->Vis X.env.scope x->∃ u,RelV v u/\Look X.env s.heap m x u
 cell:∀ x c,X.env.cells.lookup x=some c->∃ v,s.heap.IsCell c v
 free:H X.env.locals=none
 freeC:∀ x c,X.env.cells.lookup x=some c->H c=none
 pin:∀ p∈X.pn++pins,s.heap.get? p.1=some p.2/\H p.1=none/\p.1≠X.env.locals/\p.1∉X.fs/\∀ v,p.2.data≠.cell v
 hok:HOk X.prog X.w H s.heap
 len:σ.length=X.N.length
section
variable {X:Cx} {pins:List (Addr × Obj)} {σ:List (Option V)} {H H':Hp} {s:Shared} {h':Heap}
theorem Cx.Ok.afo (ok:X.Ok) {b:Addr} {o:Obj} (e:X.base.get? b=some o):b∉X.fs:=fun hb=>by
 have:=(ok.Ru.mem hb).1;rw [e] at this; cases this
theorem Inv.bs (I:Inv X pins σ H s):∀ b o,X.base.get? b=some o->s.heap.get? b=some o/\H b=none:=fun b o e =>
 ⟨I.base.keep b o (I.ok.bs b o e).1 (I.ok.bs b o e).2 (I.ok.afo e) (I.ok.noex b o e),I.base.free b o (I.ok.bs b o e).1 (I.ok.bs b o e).2 (I.ok.noex b o e)⟩
theorem Inv.bk (I:Inv X pins σ H s):∀ b o,X.base.get? b=some o->s.heap.get? b=some o:=fun b o e=>(I.bs b o e).1
theorem Inv.mod (I:Inv X pins σ H s):Mod X.K X.mg X.base:=I.ok.mod
theorem Inv.kIn (I:Inv X pins σ H s):X.K.In s.heap:=I.ok.mod.kin.keeps I.bk
theorem Inv.lt (I:Inv X pins σ H s):X.env.locals<s.heap.objs.size:=let ⟨_,hn,_⟩:=I.loc; hn.lt
theorem Inv.sz (I:Inv X pins σ H s):X.s₀.heap.objs.size<=s.heap.objs.size:=Nat.le_trans I.ok.above (Nat.le_of_lt I.lt)
theorem Inv.afw (I:Inv X pins σ H s) {a:Addr} (h:s.heap.objs.size<=a):a∉X.fs:=fun hb=>by
 obtain ⟨_,o,ho,_⟩:=I.ok.Ru.mem hb;exact absurd (Nat.lt_of_lt_of_le (Heap.lt_size ho) (Nat.le_trans I.sz h)) (Nat.lt_irrefl _)
theorem Inv.cne (I:Inv X pins σ H s):∀ x c,X.env.cells.lookup x=some c->c≠X.env.locals:=fun x c e z=>by
 obtain ⟨v,o,ho,hd⟩:=I.cell x c e;obtain ⟨m,⟨o',es,ep,aO,hd',_⟩,_⟩:=I.loc;rw [z,aO] at ho; cases ho; rw [hd'] at hd; cases hd
theorem Inv.Ru (I:Inv X pins σ H s):s.heap.FunFrames X.base X.outer:=by
 have all:∀ (l:List Env),(∀ b∈frs l,b∈X.fs)->X.s₀.heap.FunFrames X.base l->s.heap.FunFrames X.base l:=by
  intro l
  induction l with
  | nil=>intro _ _; trivial
  | cons env r ih =>
   intro hs hl;obtain ⟨hk,⟨L,o,hf,hn,ho,hd⟩,hr⟩:=hl;have hL:L∈X.fs:=hs L (by unfold frs; rw [List.filterMap_cons,hf]; exact List.mem_cons_self);obtain ⟨sl,e⟩:=I.base.slot L o ho (I.ok.frf L hL) hL fun z=>I.ok.exfs L z hL;exact ⟨hk,⟨L,_,hf,hn,e,hd⟩,ih (fun b hb=>hs b (by unfold frs; rw [List.filterMap_cons,hf]; exact List.mem_cons_of_mem _ hb)) hr⟩
 exact all X.outer (fun _ hb=>hb) I.ok.Ru
theorem Inv.stack (I:Inv X pins σ H s):s.heap.FunFrames X.base X.stack:=by
 rcases I.ok.stk with e | ⟨e,hf⟩
 ·rw [e]; exact I.Ru
 ·rw [e];obtain ⟨m,hn,_⟩:=I.loc;refine .cons (by rw [I.ok.kind]; decide) hf hn ?_ I.Ru;exact Heap.get?_none_of_le (Nat.le_trans I.ok.bsz I.ok.above)
theorem Inv.Ou (I:Inv X pins σ H s):∀ b∈frs X.stack,b∈X.env.locals::X.fs:=fun b hb=>by
 rcases I.ok.stk with e | ⟨e,hf⟩
 ·rw [e] at hb; exact List.mem_cons_of_mem _ hb
 ·rw [e] at hb;unfold frs at hb;rw [List.filterMap_cons,hf] at hb;exact hb
theorem Inv.Ph (I:Inv X pins σ H s):∀ b∈frs X.stack,H b=none:=fun b hb=>by
 rcases List.mem_cons.mp (I.Ou b hb) with e | hb
 ·rw [e]; exact I.free
 ·obtain ⟨_,o,ho,_⟩:=I.ok.Ru.mem hb;exact I.base.free b o ho (I.ok.frf b hb) fun z=>I.ok.exfs b z hb
theorem Inv.step {g':Array GenState} {t':Nat} {d':Drawn} {ch:List Addr} (I:Inv X pins σ H s)
  (aL:∀ b∈ch,(b∈X.ex\/X.s₀.heap.objs.size<=b)/\b≠X.env.locals/\(∀ x c,X.env.cells.lookup x=some c->c≠b)/\∀ p∈X.pn++pins,p.1≠b)
  (keep:∀ b o,b≠X.env.locals->b∉X.fs->b∉ch->s.heap.get? b=some o->H b=none->h'.get? b=some o)
  (slot:∀ b o,b≠X.env.locals->b∈X.fs->b∉ch->s.heap.get? b=some o->H b=none->∃ sl,h'.get? b=some { o with slots:=sl }) (free:∀ b o,b∉ch->s.heap.get? b=some o->H b=none->H' b=none)
  (there:∀ b o,b∉ch->s.heap.get? b=some o->∃ o',h'.get? b=some o')
  (tups:∀ b xs,H b=some (.tup xs)->H' b=some (.tup xs)) (frzs:∀ b o u,H b=some (.frz o u)->H' b=some (.frz o u)) (tbls:∀ b ps,H b=some (.tbl ps)->∃ more,H' b=some (.tbl (ps++more)))
  (ns:∀ m,s.heap.Ns X.env.locals m->h'.Ns X.env.locals m) (hok:HOk X.prog X.w H' h') (hg:AllBare g') :
  Inv X pins σ H' { s with heap:=h',gens:=g',drawn:=d',toks:=t' }:=by
 have eK:∀ b o,X.s₀.heap.get? b=some o->b≠X.env.locals:=fun b o e=>Nat.ne_of_lt (Nat.lt_of_lt_of_le (Heap.lt_size e) I.ok.above)
 have dF:∀ b o,X.s₀.heap.get? b=some o->b∉X.ex->b∉ch:=fun b o e hx hb=>by
  rcases (aL b hb).1 with z | z
  ·exact hx z
  ·exact absurd (Nat.lt_of_lt_of_le (Heap.lt_size e) z) (Nat.lt_irrefl _)
 have cellK:∀ x c,X.env.cells.lookup x=some c->∀ v,s.heap.IsCell c v->h'.IsCell c v:=fun x c e v z9=>by
  obtain ⟨o,ho,hd⟩:=z9;have bE:c∉ch:=fun z=>(aL c z).2.2.1 x c e rfl
  by_cases hc:c∈X.fs
  ·obtain ⟨sl,q⟩:=slot c o (I.cne x c e) hc bE ho (I.freeC x c e);exact ⟨_,q,hd⟩
  ·exact ⟨o,keep c o (I.cne x c e) hc bE ho (I.freeC x c e),hd⟩
 refine ⟨I.ok,I.os,hg,⟨fun b o e n hb hx=>?_,fun b o e n hb hx=>?_,fun b o e n hx=>?_,fun b o e hx=>?_,fun b xs e=>tups b xs (I.base.tups b xs e),fun b o xs e=>frzs b o xs (I.base.frzs b o xs e),fun b ps e=>?_⟩,?_,fun x c e=>?_,?_,fun x c e=>?_,fun p hp=>?_,hok,I.len⟩
 ·exact keep b o (eK b o e) hb (dF b o e hx) (I.base.keep b o e n hb hx) (I.base.free b o e n hx)
 ·obtain ⟨sl,e1⟩:=I.base.slot b o e n hb hx;obtain ⟨dv,e2⟩:=slot b _ (eK b o e) hb (dF b o e hx) e1 (I.base.free b o e n hx);exact ⟨dv,e2⟩
 ·obtain ⟨o',e1⟩:=I.base.there b o e hx;exact free b o' (dF b o e hx) e1 (I.base.free b o e n hx)
 ·obtain ⟨o',e1⟩:=I.base.there b o e hx;exact there b o' (dF b o e hx) e1
 ·obtain ⟨m1,e1⟩:=I.base.tbls b ps e;obtain ⟨m2,e2⟩:=tbls b _ e1;exact ⟨m1++m2,by rw [e2,Array.append_assoc]⟩
 ·obtain ⟨m,hn,hl⟩:=I.loc;refine ⟨m,ns m hn,fun i x v e1 e2 e3=>?_⟩;obtain ⟨u,r,l⟩:=hl i x v e1 e2 e3;refine ⟨u,r,?_⟩;rcases l with l | ⟨k,c,e,z⟩
  ·exact .inl l
  ·exact .inr ⟨k,c,e,cellK x c e _ z⟩
 ·obtain ⟨v,z⟩:=I.cell x c e;exact ⟨v,cellK x c e v z⟩
 ·obtain ⟨m,⟨o,_,_,ho,_⟩,_⟩:=I.loc;exact free _ o (fun z=>(aL _ z).2.1 rfl) ho I.free
 ·obtain ⟨v,o,ho,hd⟩:=I.cell x c e;exact free c o (fun z=>(aL c z).2.2.1 x c e rfl) ho (I.freeC x c e)
 ·obtain ⟨e,n,ne,nf,d⟩:=I.pin p hp;have bE:p.1∉ch:=fun z=>(aL p.1 z).2.2.2 p hp rfl;exact ⟨keep p.1 p.2 ne nf bE e n,free p.1 p.2 bE e n,ne,nf,d⟩
theorem Inv.un {t':Nat} (I:Inv X pins σ H s) (u:Un X.fs [] H H' s.heap h') (hok:HOk X.prog X.w H' h'):Inv X pins σ H' { s with heap:=h',toks:=t' }:=by
 obtain ⟨m,⟨o,es,ep,ho,r⟩,_⟩:=id I.loc;obtain ⟨sl,hL⟩:=u.any ho I.free (by simp)
 exact I.step (g':=s.gens) (d':=s.drawn) (ch:=[]) (fun _ z=>nomatch z) (fun b o _ hb _ e n=>u.keep b o e n hb (by simp)) (fun b o _ hb _ e n=>u.slot b o e n hb (by simp)) (fun b o _ e n=>u.free b o e n (by simp)) (fun b o _ e=>u.there b o e (by simp)) u.tups u.frzs u.tbls (fun m' hm=>by
  obtain ⟨o',es',ep',aO,r'⟩:=hm;rw [ho] at aO; cases aO;exact ⟨_,es',ep',hL,r'⟩) hok I.bare
theorem Inv.call {g':Array GenState} {t':Nat} {d':Drawn} {ch:List Addr} (I:Inv X pins σ H s) (u:Un (frs X.stack) ch H H' s.heap h') (hok:HOk X.prog X.w H' h') (hg:AllBare g')
  (aL:∀ b∈ch,(b∈X.ex\/X.s₀.heap.objs.size<=b)/\b≠X.env.locals/\(∀ x c,X.env.cells.lookup x=some c->c≠b)/\∀ p∈X.pn++pins,p.1≠b) :
  Inv X pins σ H' { s with heap:=h',gens:=g',drawn:=d',toks:=t' }:=by
 obtain ⟨m,⟨o,es,ep,ho,r⟩,_⟩:=id I.loc;obtain ⟨sl,hL⟩:=u.any ho I.free fun z=>(aL _ z).2.1 rfl
 exact I.step (ch:=ch) aL (fun b o hL hb hc e n=>u.keep b o e n (fun z=>(List.mem_cons.mp (I.Ou b z)).elim hL hb) hc) (fun b o _ _ hc e n=>u.any e n hc) (fun b o hc e n=>u.free b o e n hc) (fun b o hc e=>u.there b o e hc) u.tups u.frzs u.tbls (fun m' hm=>by
  obtain ⟨o',es',ep',aO,r'⟩:=hm;rw [ho] at aO; cases aO;exact ⟨_,es',ep',hL,r'⟩) hok hg
theorem Inv.turned {t':Nat} {it:Addr} (I:Inv X pins σ H s) (k:∀ b o,b≠it->s.heap.get? b=some o->h'.get? b=some o) (hn:H it=none) (hL:it≠X.env.locals)
  (h1:it∈X.ex\/X.s₀.heap.objs.size<=it) (h2:∀ x c,X.env.cells.lookup x=some c->c≠it) (h3:∀ p∈X.pn++pins,p.1≠it):Inv X pins σ H { s with heap:=h',toks:=t' }:=by
 have nit:∀ b u,H b=some u->b≠it:=fun b u e z=>by rw [z,hn] at e; cases e
 refine I.step (g':=s.gens) (d':=s.drawn) (ch:=[it]) (fun b hb=>?_) (fun b o _ _ hc e _=>k b o (fun z=>hc (by simp [z])) e) (fun b o _ _ hc e _=>⟨o.slots,k b o (fun z=>hc (by simp [z])) e⟩) (fun _ _ _ _ n=>n)
  (fun b o hc e=>⟨o,k b o (fun z=>hc (by simp [z])) e⟩) (fun _ _ e=>e) (fun _ _ _ e=>e) (fun b ps e=>⟨#[],by rw [e]; simp⟩) (fun m hm=>?_) (fun b u e=>?_) I.bare
 ·have e:b=it:=by simpa using hb
  subst e;exact ⟨h1,hL,h2,h3⟩
 ·obtain ⟨o,es,ep,ho,r⟩:=hm;exact ⟨o,es,ep,k _ o (Ne.symm hL) ho,r⟩
 ·refine (I.hok b u e).stay (fun c v hc q=>k c v ?_ q) (fun _ q=>q) fun _ _ q=>q;rcases hc with z | z
  ·rw [z]; exact nit b u e
  ·exact nit c _ z
theorem Inv.tok (I:Inv X pins σ H s) (t:Nat):Inv X pins σ H { s with toks:=t }:=I.un (h':=s.heap) (t':=t) Un.refl I.hok
theorem Inv.kept {t':Nat} (I:Inv X pins σ H s) (k:∀ b u,s.heap.get? b=some u->h'.get? b=some u):Inv X pins σ H { s with heap:=h',toks:=t' }:=I.un (Un.kept k) (I.hok.kept k)
theorem Inv.laid {a:Addr} {o:HO} {t':Nat} (I:Inv X pins σ H s) (k:∀ b u,s.heap.get? b=some u->h'.get? b=some u) (hp:s.heap.objs.size<=a) (new:qu X.prog X.w (upd H a o) h' a o) :
  Inv X pins σ (upd H a o) { s with heap:=h',toks:=t' }:=I.un (Un.laid k hp (I.hok.fresh hp)) (I.hok.laid k hp new)
theorem Inv.write {x e:Addr} {o:HO} {t':Nat} (I:Inv X pins σ H s) (mu:Mut (H x)) (he:e=x\/H e=some (.own x)) (k:∀ b u,b≠e->s.heap.get? b=some u->h'.get? b=some u) (cF:∃ u,h'.get? e=some u)
  (new:qu X.prog X.w (upd H x o) h' x o):Inv X pins σ (upd H x o) { s with heap:=h',toks:=t' }:=I.un (Un.write mu he k cF) (I.hok.write mu he k cF new)
theorem Inv.G3 {pins':List (Addr × Obj)} (I:Inv X pins σ H s) (h:∀ p∈pins',s.heap.get? p.1=some p.2/\H p.1=none/\p.1≠X.env.locals/\p.1∉X.fs/\∀ v,p.2.data≠.cell v):Inv X pins' σ H s :=
 ⟨I.ok,I.os,I.bare,I.base,I.loc,I.cell,I.free,I.freeC,fun p hp=>(List.mem_append.mp hp).elim (fun z=>I.pin p (List.mem_append_left _ z)) (h p),I.hok,I.len⟩
theorem Kw {N:List Str} (hN:N.Nodup) {i j:Nat} {x:Str} (a:N[i]? = some x) (b:N[j]? = some x):i=j:=by
 obtain ⟨h1,e1⟩:=List.getElem?_eq_some_iff.mp a;obtain ⟨h2,e2⟩:=List.getElem?_eq_some_iff.mp b;exact (List.getElem_inj hN).mp (e1.trans e2.symm)
theorem Z0 {M:Model} {A:Around} {E:Value->Shared->Prop} {i:Nat} {x:Str} {v:V} {u:Value} {Q:Unit->Shared->Prop} (I:Inv X pins σ H s) (hN:X.N.Nodup) (hi:X.N[i]? = some x) (hx:Loc X.env.scope x) (r:RelV v u)
  (h:∀ s',Inv X pins (σ.set i (some v)) H s'->(∃ a,Heap.SameBut a s.heap s'.heap/\(a=X.env.locals\/X.env.cells.lookup x=some a))->Q () s') (hf:X.fn x=true\/X.env.scope.names.lookup x=some .local:=by first | exact .inl rfl | exact .inr rfl | assumption):wpAny M A (storeName X.env x u) Q E s:=by
 obtain ⟨m,hn,hl⟩:=id I.loc;have cy:(X.env.scope.kind == .class||(X.env.scope.kind == .module&&X.env.locals != X.env.globals))=false:=by rw [I.ok.kind]; rfl
 have bR:i<σ.length:=by rw [I.len]; exact (List.getElem?_eq_some_iff.mp hi).1
 have cne:=I.cne
 have tracked:∀ {a:Addr} {h':Heap},(∃ o,s.heap.get? a=some o/\H a=none)->Heap.SameBut a s.heap h'->HOk X.prog X.w H h':=fun {a h'} ha hs b ob e=>by
  obtain ⟨_,_,hfree⟩:=ha;refine (I.hok b ob e).stay (fun c w' hc q=>(hs.2 c ?_).trans q) (fun _ q=>q) fun _ _ q=>q;rintro rfl;rcases hc with rfl | hc
  ·rw [hfree] at e; cases e
  ·rw [hfree] at hc; cases hc
 rcases hx with hk | hk
 ·refine wpAny_storeName_local hk hn (fun h' cm hs=>?_) cy;obtain ⟨oL,_,_,cI,_⟩:=id hn;refine h _ ⟨I.ok,I.os,I.bare,⟨fun b o e n hb hx=>?_,fun b o e n hb hx=>?_,I.base.free,fun b o e hx=>?_,I.base.tups,I.base.frzs,I.base.tbls⟩,⟨_,cm,fun j y v' e1 e2 e3=>?_⟩,fun y c e=>?_,I.free,I.freeC,fun p hp=>?_,tracked ⟨oL,cI,I.free⟩ hs,by simpa using I.len⟩ ⟨_,hs,.inl rfl⟩
  ·exact (hs.2 b (Nat.ne_of_lt (Nat.lt_of_lt_of_le (Heap.lt_size e) I.ok.above))).trans (I.base.keep b o e n hb hx)
  ·obtain ⟨sl,e1⟩:=I.base.slot b o e n hb hx;exact ⟨sl,(hs.2 b (Nat.ne_of_lt (Nat.lt_of_lt_of_le (Heap.lt_size e) I.ok.above))).trans e1⟩
  ·obtain ⟨o',e1⟩:=I.base.there b o e hx;exact ⟨o',(hs.2 b (Nat.ne_of_lt (Nat.lt_of_lt_of_le (Heap.lt_size e) I.ok.above))).trans e1⟩
  ·by_cases hj:j=i
   ·subst hj;rw [hi] at e1; cases e1;rw [List.getElem?_set_self bR] at e2;cases e2;exact ⟨u,r,.inl ⟨hk,by simp⟩⟩
   ·rw [List.getElem?_set_ne (Ne.symm hj)] at e2;obtain ⟨u',r',q⟩:=hl j y v' e1 e2 e3;refine ⟨u',r',?_⟩;rcases q with ⟨k,e⟩ | ⟨k,c,e,z⟩
    ·refine .inl ⟨k,?_⟩;have:y≠x:=fun e=>hj (Kw hN e1 (e ▸ hi));simp [this,e]
    ·exact .inr ⟨k,c,e,z.sameBut hs (cne y c e)⟩
  ·obtain ⟨w',z⟩:=I.cell y c e;exact ⟨w',z.sameBut hs (cne y c e)⟩
  ·obtain ⟨e,n,ne,nf,d⟩:=I.pin p hp;exact ⟨(hs.2 p.1 ne).trans e,n,ne,nf,d⟩
 ·have d4:X.fn x=true:=by
   rcases hf with z | z
   ·exact z
   ·rw [z] at hk; cases hk
  obtain ⟨c,hc⟩:=I.ok.has x (.inl hk);obtain ⟨w',z⟩:=I.cell x c hc;refine wpAny_storeName_cell I.ok.kind hk hc z (fun h' bJ hs=>?_);obtain ⟨oc,hoc,hocd⟩:=id z;refine h { s with heap:=h' } ⟨I.ok,I.os,I.bare,⟨fun b o e n hb hx=>?_,fun b o e n hb hx=>?_,I.base.free,fun b o e hx=>?_,I.base.tups,I.base.frzs,I.base.tbls⟩,⟨m,hn.sameBut hs (Ne.symm (cne x c hc)),fun j y v' e1 e2 e3=>?_⟩,fun y c' e=>?_,I.free,I.freeC,fun p hp=>?_,tracked ⟨oc,hoc,I.freeC x c hc⟩ hs,by simpa using I.len⟩ ⟨c,hs,.inr hc⟩
  ·exact (hs.2 b (Nat.ne_of_lt (Nat.lt_of_lt_of_le (Heap.lt_size e) (I.ok.cab x c d4 hc)))).trans (I.base.keep b o e n hb hx)
  ·obtain ⟨sl,e1⟩:=I.base.slot b o e n hb hx;exact ⟨sl,(hs.2 b (Nat.ne_of_lt (Nat.lt_of_lt_of_le (Heap.lt_size e) (I.ok.cab x c d4 hc)))).trans e1⟩
  ·obtain ⟨o',e1⟩:=I.base.there b o e hx;exact ⟨o',(hs.2 b (Nat.ne_of_lt (Nat.lt_of_lt_of_le (Heap.lt_size e) (I.ok.cab x c d4 hc)))).trans e1⟩
  ·by_cases hj:j=i
   ·subst hj;rw [hi] at e1; cases e1;rw [List.getElem?_set_self bR] at e2;cases e2;exact ⟨u,r,.inr ⟨.inl hk,c,hc,bJ⟩⟩
   ·rw [List.getElem?_set_ne (Ne.symm hj)] at e2;obtain ⟨u',r',q⟩:=hl j y v' e1 e2 e3;refine ⟨u',r',?_⟩;rcases q with q | ⟨k,c',e,z'⟩
    ·exact .inl q
    ·refine .inr ⟨k,c',e,z'.sameBut hs ?_⟩;rintro rfl;exact hj (Kw hN e1 (I.ok.inj _ _ _ e hc ▸ hi))
  ·by_cases hcc:c'=c
   ·subst hcc; exact ⟨_,bJ⟩
   ·obtain ⟨w2,z2⟩:=I.cell y c' e;exact ⟨w2,z2.sameBut hs hcc⟩
  ·obtain ⟨e,n,ne,nf,d⟩:=I.pin p hp;refine ⟨(hs.2 p.1 ?_).trans e,n,ne,nf,d⟩;intro q;rw [q,hoc] at e;have q':oc=p.2:=Option.some.inj e;exact d w' (by rw [<- q']; exact hocd)
theorem Lx {M:Model} {A:Around} {E:Value->Shared->Prop} {i:Nat} {x:Str} {v:V} {u:Value} {Q:Unit->Shared->Prop} (I:Inv X pins σ H s) (hN:X.N.Nodup) (hi:X.N[i]? = some x) (hx:Loc X.env.scope x) (r:RelV v u)
  (h:∀ s',Inv X pins (σ.set i (some v)) H s'->Q () s') (hf:X.fn x=true\/X.env.scope.names.lookup x=some .local:=by first | exact .inl rfl | exact .inr rfl | assumption):wpAny M A (storeName X.env x u) Q E s :=
 Z0 I hN hi hx r (fun s' I' _=>h s' I') hf
theorem Inv.call' {s':Shared} {ch:List Addr} (I:Inv X pins σ H s) (ho:s'.os=s.os) (u:Un (frs X.stack) ch H H' s.heap s'.heap) (hok:HOk X.prog X.w H' s'.heap) (hg:AllBare s'.gens)
  (aL:∀ b∈ch,(b∈X.ex\/X.s₀.heap.objs.size<=b)/\b≠X.env.locals/\(∀ x c,X.env.cells.lookup x=some c->c≠b)/\∀ p∈X.pn++pins,p.1≠b):Inv X pins σ H' s':=by
 obtain ⟨h',g',d',t',o'⟩:=s';have e:o'=s.os:=ho;subst e;exact I.call (g':=g') (t':=t') (d':=d') u hok hg aL
end
abbrev XK:=Value->Option Addr->Hp->Prop
abbrev St:=List (Option V)
abbrev VK:=V->Hp->Prop
abbrev TE:=St->Hp->VK->Prop
abbrev TT:=St->Hp->(Bool->Hp->Prop)->Prop
abbrev TA:=St->Hp->(List V->Hp->Prop)->Prop
structure Ends where
 nx:St->Hp->Prop
 rt:VK
 bk:St->Hp->Prop:=fun _ _=>False
 ct:St->Hp->Prop:=fun _ _=>False
abbrev TS:=Ends->St->Hp->Prop
inductive EP (X:Cx) (pins:List (Addr × Obj)) (σ:St) (Q:VK) (u:Value) (s':Shared):Prop
 | mk (v:V) (H':Hp) (I:Inv X pins σ H' s') (r:RelV v u) (q:Q v H')
def TP (X:Cx) (pins:List (Addr × Obj)) (σ:St) (Q:Bool->Hp->Prop) (b:Bool) (s':Shared):Prop:=∃ H',Inv X pins σ H' s'/\Q b H'
inductive AP (X:Cx) (pins:List (Addr × Obj)) (σ:St) (Q:List V->Hp->Prop) (us:List Value) (s':Shared):Prop
 | mk (vs:List V) (H':Hp) (I:Inv X pins σ H' s') (r:Vals vs us) (q:Q vs H')
def SP (X:Cx) (pins:List (Addr × Obj)) (D:Ends) (f:Flow) (s':Shared):Prop :=
 match f with
 | .next=>∃ σ' H',Inv X pins σ' H' s'/\D.nx σ' H'
 | .brk=>∃ σ' H',Inv X pins σ' H' s'/\D.bk σ' H'
 | .cont=>∃ σ' H',Inv X pins σ' H' s'/\D.ct σ' H'
 | .ret u=>∃ v σ' H',Inv X pins σ' H' s'/\RelV v u/\D.rt v H'
def PE (X:Cx) (e:Expr) (t:TE):Prop :=
 ∀ (pins:List (Addr × Obj)) (s:Shared) (σ:St) (H:Hp) (Q:VK),Inv X pins σ H s->t σ H Q->wpAny (model X.prog X.w) X.A (eval e X.env) (EP X pins σ Q) X.xe s
def PT (X:Cx) (e:Expr) (t:TT):Prop :=
 ∀ (pins:List (Addr × Obj)) (s:Shared) (σ:St) (H:Hp) (Q:Bool->Hp->Prop),Inv X pins σ H s->t σ H Q->wpAny (model X.prog X.w) X.A (isTrue e X.env (eval e X.env)) (TP X pins σ Q) X.xe s
def PW (X:Cx) (e:Expr) (t:TT):Prop :=
 ∀ (whole:Sem Value) (pins:List (Addr × Obj)) (s:Shared) (σ:St) (H:Hp) (Q:Bool->Hp->Prop),Inv X pins σ H s->t σ H Q->wpAny (model X.prog X.w) X.A (isTrue e X.env whole) (TP X pins σ Q) X.xe s
theorem PW.pt {X:Cx} {e:Expr} {t:TT} (h:PW X e t):PT X e t:=h _
def PA (X:Cx) (es:List Expr) (t:TA):Prop :=
 ∀ (pos:Pos) (pins:List (Addr × Obj)) (s:Shared) (σ:St) (H:Hp) (Q:List V->Hp->Prop),Inv X pins σ H s->t σ H Q->wpAny (model X.prog X.w) X.A (spliced (backTo pos (starEach es X.env))) (AP X pins σ Q) X.xe s
def PS (X:Cx) (st:Stmt) (t:TS):Prop :=
 ∀ (pins:List (Addr × Obj)) (s:Shared) (σ:St) (H:Hp) (D:Ends),Inv X pins σ H s->t D σ H->wpAny (model X.prog X.w) X.A (exec st X.env) (SP X pins D) X.xe s
def PSs (X:Cx) (st:List Stmt) (t:TS):Prop :=
 ∀ (pins:List (Addr × Obj)) (s:Shared) (σ:St) (H:Hp) (D:Ends),Inv X pins σ H s->t D σ H->wpAny (model X.prog X.w) X.A (execs st X.env) (SP X pins D) X.xe s
theorem thn {α:Type} {t:Sem α} {Q Q':α->Shared->Prop} {M:Model} {A:Around} {E:Value->Shared->Prop} {s:Shared} (h:wpAny M A t Q E s) (hQ:∀ a s,Q a s->Q' a s):wpAny M A t Q' E s:=wpAny_mono h hQ fun _ _ x=>x
end L2
namespace L2
open PySem PySem.Spec PyProof.Rows
section
variable {X:Cx}
def Zf (i:Nat):TE:=fun σ H Q=>∃ v,σ[i]? = some (some v)/\Q v H
def tC (v:V):TE:=fun _ H Q=>Q v H
theorem Xh {i:Nat} {x:Str} {pos:Pos} (hN:X.N[i]? = some x) (hv:Vis X.env.scope x) (hd:(x==("__debug__" : Str))=false:=by decide) (aR:(x==("__classdict__" : Str))=false:=by decide):PE X (.Name x pos) (Zf i):=by
 intro pins s σ H Q I h;obtain ⟨v,e,h⟩:=h;obtain ⟨m,hn,hl⟩:=I.loc;obtain ⟨u,r,l⟩:=hl i x v hN e hv;have fin:EP X pins σ Q u s:=⟨v,H,I,r,h⟩;rcases l with ⟨hk,hm⟩ | ⟨hk,c,hc,hcell⟩
 ·exact wpAny_Name (wpAny_loadName_local I.ok.kind hk hn hm fin) hd
 ·rcases hk with hk | hk
  ·exact wpAny_Name (wpAny_loadName_cell I.ok.kind hk hc hcell fin) hd
  ·exact wpAny_Name (wpAny_loadName_free I.ok.kind hk hc hcell fin aR) hd
theorem a5b {i j pos}:PE X (.Constant (.int i) j pos) (tC (.int i)):=fun _ _ _ H _ I h=>wpAny_Constant_int ⟨.int i,H,I.tok _,⟨_,rfl⟩,h⟩
theorem aar {b j pos}:PE X (.Constant (.bool b) j pos) (tC (.bl b)):=fun _ _ _ H _ I h=>Constant_bool ⟨.bl b,H,I,rfl,h⟩
theorem aat {j pos}:PE X (.Constant .none j pos) (tC .non):=fun _ _ _ H _ I h=>Constant_none ⟨.non,H,I,rfl,h⟩
theorem Y5 {x j pos}:PE X (.Constant (.str x) j pos) (tC (.str x)):=fun _ _ _ H _ I h=>Calls.Constant_str ⟨.str x,H,I.tok _,⟨_,rfl⟩,h⟩
def Gl (X:Cx) (x:Str):Prop:=X.env.kindOf x=some .globalImplicit
theorem Iw {E:Value->Shared->Prop} {pins:List (Addr × Obj)} {s:Shared} {σ:St} {H:Hp} {x:Str} {u:Value} {pos:Pos} {Q:Value->Shared->Prop} (I:Inv X pins σ H s) (hg:Gl X x) (hm:X.mg x=some u) (h:Q u s)
  (hd:(x==("__debug__" : Str))=false:=by decide):wpAny (model X.prog X.w) X.A (eval (.Name x pos) X.env) Q E s :=
 Calls.Name_function_global I.ok.kind hg (Calls.loadGlobal_global (by rw [I.ok.glob]; exact I.mod.glob.keeps I.bk) hm h) hd
theorem K6 {E:Value->Shared->Prop} {pins:List (Addr × Obj)} {s:Shared} {σ:St} {H:Hp} {x:Str} {u:Value} {pos:Pos} {Q:Value->Shared->Prop} (I:Inv X pins σ H s) (hg:Gl X x) (hm:X.mg x=none) (hv:bootBuiltins x=some u) (h:Q u s)
  (hn:x ≠ "__name__" := by decide) (hd:(x==("__debug__" : Str))=false:=by decide):wpAny (model X.prog X.w) X.A (eval (.Name x pos) X.env) Q E s:=by
 obtain ⟨mb,h1,h2⟩:=I.mod.blt;exact Calls.Name_function_global I.ok.kind hg (Calls.loadGlobal_builtin (by rw [I.ok.glob]; exact I.mod.glob.keeps I.bk) hm (by rw [I.ok.blt]; exact h1.keeps I.bk) ((h2 x hn).trans hv) h) hd
theorem Ls {x:Str} {v:V} {u:Value} {pos:Pos} (hg:Gl X x) (hm:X.mg x=some u) (r:RelV v u) (hd:(x==("__debug__" : Str))=false:=by decide):PE X (.Name x pos) (tC v) :=
 fun _ _ _ H _ I h=>Iw I hg hm ⟨v,H,I,r,h⟩ hd
theorem Xn {x:Str} {v:V} {u:Value} {pos:Pos} (hg:Gl X x) (hm:X.mg x=none) (hv:bootBuiltins x=some u) (r:RelV v u) (hn:x ≠ "__name__" := by decide) (hd:(x==("__debug__" : Str))=false:=by decide):PE X (.Name x pos) (tC v) :=
 fun _ _ _ H _ I h=>K6 I hg hm hv ⟨v,H,I,r,h⟩ hn hd
variable {a b:Expr} {ta tb:TE} {pos:Pos}
def tB (t:TE):TT:=fun σ H Q=>t σ H fun x H1=>∃ c,x=.bl c/\Q c H1
theorem ab8 {e:Expr} {t:TE} (h:PE X e t) (he:∀ whole,isTrue e X.env whole=(do let v <- whole; standAt e.pos; holding [v] (truthy v)):=by intro _; rfl):PT X e (tB t):=by
 intro pins s σ H Q I hw;refine isTrue_plain (thn (h pins s σ H _ I hw) fun v s1 z0=>?_) (he _);obtain ⟨x,H1,I1,r1,q1⟩:=z0;obtain ⟨d,rfl,q⟩:=q1;cases r1;exact wpAny_truthy_bool ⟨H1,I1,q⟩
variable {tA dH:TT} {rest:List Expr}
def aew (t u:TT):TT:=fun σ H Q=>t σ H fun c H1=>if c=true then u σ H1 Q else Q false H1
def tOr (t u:TT):TT:=fun σ H Q=>t σ H fun c H1=>if c=true then Q true H1 else u σ H1 Q
def afu (t:TT):TT:=fun σ H Q=>t σ H fun c H1=>Q (!c) H1
theorem pw_and1 (ha:PT X a tA):PW X (.BoolOp .And [a] pos) tA:=by
 intro wh pins s σ H Q I h;refine isTrue_and (thn (ha pins s σ H Q I h) fun c s1 e=>?_);cases c with
 | true=>exact isTrue_and_nil e
 | false=>exact e
theorem pw_or1 (ha:PT X a tA):PW X (.BoolOp .Or [a] pos) tA:=by
 intro wh pins s σ H Q I h;refine isTrue_or (thn (ha pins s σ H Q I h) fun c s1 e=>?_);cases c with
 | false=>exact isTrue_or_nil e
 | true=>exact e
theorem pw_and (ha:PT X a tA) (hb:PW X (.BoolOp .And (b::rest) pos) dH):PW X (.BoolOp .And (a::b::rest) pos) (aew tA dH):=by
 intro wh pins s σ H Q I h;refine isTrue_and (thn (ha pins s σ H _ I h) fun c s1 z0=>?_);obtain ⟨H1,I1,q1⟩:=z0;cases c with
 | true=>exact hb wh pins s1 σ H1 Q I1 q1
 | false=>exact ⟨H1,I1,q1⟩
theorem pw_or (ha:PT X a tA) (hb:PW X (.BoolOp .Or (b::rest) pos) dH):PW X (.BoolOp .Or (a::b::rest) pos) (tOr tA dH):=by
 intro wh pins s σ H Q I h;refine isTrue_or (thn (ha pins s σ H _ I h) fun c s1 z0=>?_);obtain ⟨H1,I1,q1⟩:=z0;cases c with
 | true=>exact ⟨H1,I1,q1⟩
 | false=>exact hb wh pins s1 σ H1 Q I1 q1
theorem a9m (ha:PT X a tA):PT X (.UnaryOp .Not a pos) (afu tA):=by
 intro pins s σ H Q I h;exact isTrue_not (ha pins s σ H (fun c H1=>Q (!c) H1) I h)
noncomputable def acv (ta tb:TE):TE:=fun σ H Q=>ta σ H fun x H1=>∃ c,x=.bl c/\if c=true then tb σ H1 Q else Q (.bl false) H1
noncomputable def afl (ta tb:TE):TE:=fun σ H Q=>ta σ H fun x H1=>∃ c,x=.bl c/\if c=true then Q (.bl true) H1 else tb σ H1 Q
def adl (ta:TE):TE:=fun σ H Q=>ta σ H fun x H1=>∃ c,x=.bl c/\Q (.bl (!c)) H1
theorem aa0 {op} {t:TE} (h:PE X a t):PE X (.BoolOp op [a] pos) t:=fun pins s σ H Q I hw=>BoolOp_one (h pins s σ H Q I hw)
theorem a91 (ha:PE X a ta) (hb:PE X (.BoolOp .And (b::rest) pos) tb):PE X (.BoolOp .And (a::b::rest) pos) (acv ta tb):=by
 intro pins s σ H Q I h;refine BoolOp_and (thn (ha pins s σ H _ I h) fun v s1 z0=>?_);obtain ⟨x,H1,I1,r1,q1⟩:=z0;obtain ⟨c,rfl,q1⟩:=q1;cases r1;refine wpAny_truthy_bool ?_;cases c with
 | true=>exact hb pins s1 σ H1 Q I1 q1
 | false=>exact ⟨.bl false,H1,I1,rfl,q1⟩
theorem ady (ha:PE X a ta) (hb:PE X (.BoolOp .Or (b::rest) pos) tb):PE X (.BoolOp .Or (a::b::rest) pos) (afl ta tb):=by
 intro pins s σ H Q I h;refine BoolOp_or (thn (ha pins s σ H _ I h) fun v s1 z0=>?_);obtain ⟨x,H1,I1,r1,q1⟩:=z0;obtain ⟨c,rfl,q1⟩:=q1;cases r1;refine wpAny_truthy_bool ?_;cases c with
 | false=>exact hb pins s1 σ H1 Q I1 q1
 | true=>exact ⟨.bl true,H1,I1,rfl,q1⟩
theorem abg (ha:PE X a ta):PE X (.UnaryOp .Not a pos) (adl ta):=by
 intro pins s σ H Q I h;refine UnaryOp_ (thn (ha pins s σ H _ I h) fun v s1 z0=>?_);obtain ⟨x,H1,I1,r1,q1⟩:=z0;obtain ⟨c,rfl,q1⟩:=q1;cases r1;exact not_of (wpAny_truthy_bool ⟨.bl (!c),H1,I1,rfl,q1⟩)
noncomputable def tIf (t:TT) (ta tb:TE):TE:=fun σ H Q=>t σ H fun c H1=>if c=true then ta σ H1 Q else tb σ H1 Q
theorem a1q {c:Expr} (hc:PT X c tA) (ha:PE X a ta) (hb:PE X b tb):PE X (.IfExp c a b pos) (tIf tA ta tb):=by
 intro pins s σ H Q I h;refine wpAny_IfExp (thn (hc pins s σ H _ I h) fun d s1 z0=>?_);obtain ⟨H1,I1,q1⟩:=z0;cases d with
 | true=>exact ha pins s1 σ H1 Q I1 q1
 | false=>exact hb pins s1 σ H1 Q I1 q1
end
end L2
namespace L2
open PySem PySem.Spec PyProof.Rows
def SqL (K:PySem.W.Frag) (H:Hp) (a:Addr) (xs:List V):Prop :=
 Rd H a (.lst xs) \/
  ∃ (o:Obj) (its:Array Value) (n:Nat),K.lookup a=some o/\o.cls=.type "list" /\ o.dict=none/\o.data=.seq its n/\its.size<=sizeLine/\Vals xs its.toList
def SqT (K:PySem.W.Frag) (H:Hp) (a:Addr) (xs:List V):Prop :=
 Rd H a (.tup xs) \/
  ∃ (o:Obj) (its:Array Value) (n:Nat),K.lookup a=some o/\o.cls=.type "tuple" /\ o.dict=none/\o.data=.seq its n/\its.size<=sizeLine/\Vals xs its.toList
noncomputable def ag1:Value->Option V
 | .none=>some .non
 | .bool b=>some (.bl b)
 | .int i _=>some (.int i)
 | .str x _=>some (.str x)
 | .bytes b _=>some (.byt b)
 | .float b _=>some (.flt b)
 | .ref a=>some (.ref a)
 | .type n=>some (.ty n)
 | _=>none
theorem RelV.abs {x:V} {u:Value} (r:RelV x u):ag1 u=some x:=by
 cases x with
 | non=>cases r; rfl
 | bl _=>cases r; rfl
 | int _=>obtain ⟨t,rfl⟩:=r; rfl
 | str _=>obtain ⟨t,rfl⟩:=r; rfl
 | byt _=>obtain ⟨t,rfl⟩:=r; rfl
 | flt _=>obtain ⟨t,rfl⟩:=r; rfl
 | ref _=>cases r; rfl
 | ty _=>cases r; rfl
theorem RelV.inj {x y:V} {u:Value} (r:RelV x u) (q:RelV y u):x=y:=Option.some.inj (r.abs.symm.trans q.abs)
theorem Vals.inj {xs ys:List V} {us:List Value} (h:Vals xs us):Vals ys us->xs=ys:=by
 induction h generalizing ys with
 | nil=>intro k; cases k; rfl
 | cons r t ih=>intro k; cases k with | cons r' t'=>rw [r.inj r',ih t']
section
variable {X:Cx} {pins:List (Addr × Obj)} {σ:St} {H:Hp} {s:Shared} {a:Addr} {xs ys:List V}
theorem SqL.of {K:PySem.W.Frag} (h:H a=some (.lst xs)):SqL K H a xs:=.inl (.inl h)
theorem SqT.of {K:PySem.W.Frag} (h:H a=some (.tup xs)):SqT K H a xs:=.inl (.inl h)
theorem Inv.list (I:Inv X pins σ H s) (h:SqL X.K H a xs):∃ its:List Value,Vals xs its/\PlainL s.heap a its.toArray/\xs.length<=sizeLine:=by
 rcases h with h | ⟨o,its,n,hk,hc,hd,hs,hz,r⟩
 ·obtain ⟨z,its,n,r,e⟩:=h.ok I.hok;exact ⟨its,r,⟨_,n,e,rfl,rfl,rfl⟩,z⟩
 ·refine ⟨its.toList,r,⟨o,n,I.kIn a o hk,hc,hd,by simpa using hs⟩,?_⟩;have e:=r.length;simp only [Array.length_toList] at e;omega
theorem Inv.tuple (I:Inv X pins σ H s) (h:SqT X.K H a xs):∃ its:List Value,Vals xs its/\IsTup s.heap a its.toArray/\xs.length<=sizeLine:=by
 rcases h with h | ⟨o,its,n,hk,hc,hdn,hs,hz,r⟩
 ·obtain ⟨z,its,r,p⟩:=h.ok I.hok;exact ⟨its,r,p.is,z⟩
 ·refine ⟨its.toList,r,⟨o,I.kIn a o hk,hc,n,by simpa using hs⟩,?_⟩;have e:=r.length;simp only [Array.length_toList] at e;omega
theorem Inv.Ma (I:Inv X pins σ H s) (h:SqL X.K H a xs) (h':SqL X.K H a ys):xs=ys:=by
 obtain ⟨its,r,⟨o,n,e,_,_,d⟩,_⟩:=I.list h;obtain ⟨its',r',⟨o',n',e',_,_,d'⟩,_⟩:=I.list h';rw [e] at e'; cases e';rw [d] at d';injection d' with d1 _;have:its=its':=by simpa using congrArg Array.toList d1
 subst this;exact r.inj r'
theorem Inv.W7 (I:Inv X pins σ H s) (h:SqT X.K H a xs) (h':SqT X.K H a ys):xs=ys:=by
 obtain ⟨its,r,⟨o,e,_,n,d⟩,_⟩:=I.tuple h;obtain ⟨its',r',⟨o',e',_,n',d'⟩,_⟩:=I.tuple h';rw [e] at e'; cases e';rw [d] at d';injection d' with d1 _;have:its=its':=by simpa using congrArg Array.toList d1
 subst this;exact r.inj r'
end
abbrev Cx.wish (X:Cx) (E:Value->Shared->Prop):Cx:={ X with xe:=E }
abbrev Cx.nox (X:Cx):Cx:=X.wish fun _ _=>False
theorem Cx.Ok.wish {X:Cx} (ok:X.Ok) (E:Value->Shared->Prop):(X.wish E).Ok :=
 ⟨ok.mod,ok.kind,ok.glob,ok.blt,ok.above,ok.inj,ok.has,ok.cab,ok.hd,ok.frames,ok.stk,ok.exf,ok.bs,ok.bsz,ok.noex,ok.exfs,ok.Ru,ok.frf⟩
theorem Cx.Ok.Dm {X:Cx} {E:Value->Shared->Prop} (ok:(X.wish E).Ok):X.Ok :=
 ⟨ok.mod,ok.kind,ok.glob,ok.blt,ok.above,ok.inj,ok.has,ok.cab,ok.hd,ok.frames,ok.stk,ok.exf,ok.bs,ok.bsz,ok.noex,ok.exfs,ok.Ru,ok.frf⟩
section
variable {X:Cx} {pins:List (Addr × Obj)} {σ:St} {H:Hp} {s:Shared} {E:Value->Shared->Prop}
theorem Inv.wish (I:Inv X pins σ H s) (E:Value->Shared->Prop):Inv (X.wish E) pins σ H s:=⟨I.ok.wish E,I.os,I.bare,I.base,I.loc,I.cell,I.free,I.freeC,I.pin,I.hok,I.len⟩
theorem Inv.Dm (I:Inv (X.wish E) pins σ H s):Inv X pins σ H s:=⟨I.ok.Dm,I.os,I.bare,I.base,I.loc,I.cell,I.free,I.freeC,I.pin,I.hok,I.len⟩
theorem SP.Dm {D:Ends} {f:Flow} {s':Shared} (h:SP (X.wish E) pins D f s'):SP X pins D f s':=by
 cases f with
 | next=>obtain ⟨σ',H',I,q⟩:=h; exact ⟨σ',H',I.Dm,q⟩
 | brk=>obtain ⟨σ',H',I,q⟩:=h; exact ⟨σ',H',I.Dm,q⟩
 | cont=>obtain ⟨σ',H',I,q⟩:=h; exact ⟨σ',H',I.Dm,q⟩
 | ret u=>obtain ⟨v,σ',H',I,r,q⟩:=h; exact ⟨v,σ',H',I.Dm,r,q⟩
theorem PSs.nox {st:List Stmt} {t:TS} (h:PSs X.nox st t):PSs X st t:=fun pins s σ H D I hw =>
 wpAny_mono (h pins s σ H D (I.wish _) hw) (fun _ _ q=>q.Dm) fun _ _ z=>False.elim z
end
section
variable {X:Cx} {st:Stmt} {rest:List Stmt} {t u:TS} {e:Expr} {te:TE} {pos:Pos}
def ad8:TS:=fun D σ H=>D.nx σ H
def af7 (t u:TS):TS:=fun D σ H=>t { D with nx:=u D } σ H
theorem a6f:PSs X [] ad8:=fun _ _ σ H _ I h=>wpAny_execs_nil ⟨σ,H,I,h⟩
theorem Ry (h1:PS X st t) (h2:PSs X rest u):PSs X (st::rest) (af7 t u):=by
 intro pins s σ H D I h;refine wpAny_execs_cons (thn (h1 pins s σ H { D with nx:=u D } I h) fun f s1 q=>?_);cases f with
 | next =>
  obtain ⟨σ',H',I',q⟩:=q;exact h2 pins s1 σ' H' D I' q
 | ret v=>exact q
 | brk=>exact q
 | cont=>exact q
theorem Ld (h1:PS X st t):PSs X [st] t:=by
 intro pins s σ H D I h;refine wpAny_execs_cons (thn (h1 pins s σ H D I h) fun f s1 q=>?_);cases f with
 | next=>exact wpAny_execs_nil q
 | ret v=>exact q
 | brk=>exact q
 | cont=>exact q
theorem Inv.quiet {pins:List (Addr × Obj)} {σ:St} {H:Hp} {s:Shared} (I:Inv X pins σ H s):interactive X.env=false:=by simp [interactive,I.ok.kind]
def a7k (te:TE):TS:=fun D σ H=>te σ H fun _ H1=>D.nx σ H1
theorem G6 (he:PE X e te) (hs:swapsWith e none pos.line X.env=pure false:=by rfl):PS X (.Expr e pos) (a7k te):=by
 intro pins s σ H D I h;exact wpAny_Expr_any (thn (he pins s σ H _ I h) fun v s1 z7=>by obtain ⟨x,H1,I1,r1,q1⟩:=z7; exact ⟨σ,H1,I1,q1⟩) I.quiet hs
def afg (te:TE):TS:=fun D σ H=>te σ H D.rt
theorem a3x (he:PE X e te):PS X (.Return (some e) pos) (afg te):=by
 intro pins s σ H D I h;exact wpAny_Return_some (thn (he pins s σ H _ I h) fun v s1 z7=>by obtain ⟨x,H1,I1,r1,q1⟩:=z7; exact ⟨x,σ,H1,I1,r1,q1⟩)
def afv (c:TT) (t u:TS):TS:=fun D σ H=>c σ H fun b H1=>if b=true then t D σ H1 else u D σ H1
theorem abt {c:Expr} {a b:List Stmt} {tc:TT} (hc:PT X c tc) (ha:PSs X a t) (hb:PSs X b u):PS X (.If c a b pos) (afv tc t u):=by
 intro pins s σ H D I h;refine wpAny_If (thn (hc pins s σ H _ I h) fun d s1 z0=>?_);obtain ⟨H1,I1,q1⟩:=z0;cases d with
 | true=>exact ha pins s1 σ H1 D I1 q1
 | false=>exact hb pins s1 σ H1 D I1 q1
end
abbrev TG:=V->St->Hp->(St->Hp->Prop)->Prop
abbrev TGs:=List V->St->Hp->(St->Hp->Prop)->Prop
def PG (X:Cx) (target:Expr) (t:TG):Prop :=
 ∀ (pins:List (Addr × Obj)) (s:Shared) (σ:St) (H:Hp) (v:V) (u:Value) (Q:St->Hp->Prop),Inv X pins σ H s->RelV v u->t v σ H Q ->
  wpAny (model X.prog X.w) X.A (assign target X.env u) (fun _ s'=>∃ σ' H',Inv X pins σ' H' s'/\Q σ' H') X.xe s
def PGs (X:Cx) (ts:List Expr) (t:TGs):Prop :=
 ∀ (pins:List (Addr × Obj)) (s:Shared) (σ:St) (H:Hp) (vs:List V) (us:List Value) (Q:St->Hp->Prop),Inv X pins σ H s->Vals vs us->t vs σ H Q ->
  wpAny (model X.prog X.w) X.A (assignInOrder ((assignEach ts X.env).map (·.2)) us) (fun _ s'=>∃ σ' H',Inv X pins σ' H' s'/\Q σ' H') X.xe s
section
variable {X:Cx} {pos:Pos}
def Kr (i:Nat):TG:=fun v σ H Q=>Q (σ.set i (some v)) H
theorem j6 {i:Nat} {x:Str} (hN:X.N.Nodup) (hi:X.N[i]? = some x) (hx:Loc X.env.scope x) (hf:X.fn x=true\/X.env.scope.names.lookup x=some .local:=by first | exact .inl rfl | exact .inr rfl | assumption):PG X (.Name x pos) (Kr i):=by
 intro pins s σ H v u Q I r h;exact wpAny_assign_Name (Lx I hN hi hx r (fun s' I'=>⟨_,H,I',h⟩) hf)
def aem:TGs:=fun vs σ H Q=>vs=[]/\Q σ H
def aai (t:TG) (u:TGs):TGs:=fun vs σ H Q=>∃ v r,vs=v::r/\t v σ H fun σ' H'=>u r σ' H' Q
theorem Ec:PGs X [] aem:=by
 intro pins s σ H vs us Q I r h;obtain ⟨e,h⟩:=h;subst e;cases r;exact assignInOrder_nil ⟨σ,H,I,h⟩
theorem nj {e:Expr} {es:List Expr} {t:TG} {u:TGs} (h1:PG X e t) (h2:PGs X es u)
  (hs:(assignEach (e::es) X.env).map (·.2)=assign e X.env::(assignEach es X.env).map (·.2):=by rfl):PGs X (e::es) (aai t u):=by
 intro pins s σ H vs us Q I r h;obtain ⟨v,vr,e1,h⟩:=h;subst e1;cases r with
 | cons r rr =>
  rw [hs];refine assignInOrder_cons (thn (h1 pins s σ H _ _ _ I r h) fun _ s1 z0=>?_);obtain ⟨σ1,H1,I1,q1⟩:=z0;exact h2 pins s1 σ1 H1 _ _ Q I1 rr q1
noncomputable def aep (K:PySem.W.Frag) (n:Nat) (t:TGs):TG:=fun v σ H Q=>∃ a xs,v=.ref a/\SqT K H a xs/\xs.length=n/\t xs σ H Q
theorem Ik {es:List Expr} {k:Nat} {t:TGs} {n:Nat} (hc:X.calm=true) (h:PGs X es t)
  (hn:(assignEach es X.env).length=n:=by rfl) (hst:(assignEach es X.env).findIdx? (·.1)=none:=by rfl):PG X (.Tuple es k pos) (aep X.K n t):=by
 intro pins s σ H v u Q I r hw;obtain ⟨a,xs,e1,hq,hl,hw⟩:=hw;subst e1;cases r;obtain ⟨its,rv,ht,hz⟩:=I.tuple hq;refine assign_Tuple_tuple (I.ok.hd hc) ht (by simp [hn,<- hl,rv.length]) hst fun h' hx=>?_;have I1:Inv X pins σ H { s with heap:=h' }:=I.kept (t':=s.toks) fun b o e=>hx b o (Nat.ne_of_lt (Heap.lt_size e)) e;exact h pins _ σ H xs _ Q I1 (by simpa using rv) hw
def a9j (te:TE) (g:TG):TS:=fun D σ H=>te σ H fun x H1=>g x σ H1 D.nx
theorem Fp {i:Nat} {x:Str} {e:Expr} {te:TE} {pos':Pos} (hN:X.N.Nodup) (hi:X.N[i]? = some x) (hx:Loc X.env.scope x) (he:PE X e te) (hs:swapsWith e (some (.Name x pos')) pos.line X.env=pure false:=by rfl) (hf:X.fn x=true\/X.env.scope.names.lookup x=some .local:=by first | exact .inl rfl | exact .inr rfl | assumption) :
  PS X (.Assign [.Name x pos'] e pos) (a9j te (Kr i)):=by
 intro pins s σ H D I h;refine wpAny_Assign_Name (thn (he pins s σ H _ I h) fun v s1 z0=>?_) hs;obtain ⟨y,H1,I1,r1,q1⟩:=z0;exact Lx I1 hN hi hx r1 (fun s2 I2=>⟨_,H1,I2,q1⟩) hf
end
section
variable {X:Cx} {pos:Pos}
noncomputable def a9r (c:TT) (tb:TS):TS:=fun D σ H=>∃ W:Nat->St->Hp->Prop,(∃ m,W m σ H)/\∀ m σ H,W m σ H ->
 c σ H fun b H1=>if b=true then ∃ N:St->Hp->Prop,(∀ σ' H',N σ' H'->∃ m',m'<m/\W m' σ' H')/\tb { D with nx:=N,ct:=N,bk:=D.nx } σ H1 else D.nx σ H1
theorem Ua {c:Expr} {body:List Stmt} {tc:TT} {tb:TS} (hp:PassesOwn (model X.prog X.w) X.A X.env X.xe) (hc:PT X c tc) (hb:PSs X body tb):PS X (.While c body [] pos) (a9r tc tb):=by
 intro pins s σ H D I h;obtain ⟨W,⟨m0,w0⟩,turn⟩:=h;refine wpAny_While (codeAny_whileLoop (fun n s'=>∃ σ' H',Inv X pins σ' H' s'/\W n σ' H') ?_ m0 ⟨σ,H,I,w0⟩);rintro n s1 ⟨σ1,H1,I1,w1⟩;refine wpAny_passesOwn hp (thn (hc pins s1 σ1 H1 _ I1 (turn n σ1 H1 w1)) fun b s2 z0=>?_);obtain ⟨H2,I2,q2⟩:=z0;cases b with
 | true =>
  obtain ⟨N,hN,q2⟩:=q2;rw [if_pos rfl];refine wpAny_passesOwn hp (thn (hb pins s2 σ1 H2 _ I2 q2) fun f s3 q3=>?_);cases f with
  | next =>
   obtain ⟨bq,H3,I3,n3⟩:=q3;obtain ⟨m',hm,w3⟩:=hN bq H3 n3;exact ⟨m',hm,bq,H3,I3,w3⟩
  | cont =>
   obtain ⟨bq,H3,I3,n3⟩:=q3;obtain ⟨m',hm,w3⟩:=hN bq H3 n3;exact ⟨m',hm,bq,H3,I3,w3⟩
  | brk=>exact q3
  | ret v=>exact q3
 | false =>
  rw [if_neg Bool.false_ne_true];exact wpAny_execs_nil ⟨σ1,H2,I2,q2⟩
end
structure It where
 go:Nat->Hp->Prop
 yld:Nat->Hp->V->Hp->Prop
 stop:Nat->Hp->Prop
def Kc (X:Cx) (pins:List (Addr × Obj)) (H:Hp) (b:Addr):Prop :=
 H b=none/\b≠X.env.locals/\b∉X.fs/\(b∈X.ex\/X.s₀.heap.objs.size<=b)/\(∀ x c,X.env.cells.lookup x=some c->c≠b)/\∀ p∈X.pn++pins,p.1≠b
theorem Inv.a8v {X:Cx} {pins:List (Addr × Obj)} {σ:St} {H H':Hp} {s:Shared} {b:Addr} (I:Inv X pins σ H s) (hb:s.heap.objs.size<=b) (hn:H' b=none):Kc X pins H' b:=by
 refine ⟨hn,Nat.ne_of_gt (Nat.lt_of_lt_of_le I.lt hb),I.afw hb,.inr (Nat.le_trans I.sz hb),fun x c e z=>?_,fun p hp z=>?_⟩
 ·obtain ⟨v,q⟩:=I.cell x c e;exact absurd (Nat.lt_of_lt_of_le q.lt (by rw [z]; exact hb)) (Nat.lt_irrefl _)
 ·exact absurd (Nat.lt_of_lt_of_le (Heap.lt_size (I.pin p hp).1) (by rw [z]; exact hb)) (Nat.lt_irrefl _)
structure Turn (P:Program) (w:World) (K:PySem.W.Frag) (tg:Expr) (J:It) (fp:List Addr) (it:Addr) (tn:Nat->Heap->Prop):Prop where
 mem:it∈fp
 obj:∀ i h,tn i h->∀ b∈fp,∃ o,h.get? b=some o/\∀ v,o.data≠.cell v
 keep:∀ i h h',tn i h->(∀ b∈fp,∀ o,h.get? b=some o->h'.get? b=some o)->tn i h'
 item:∀ (X:Cx),X.prog=P->X.w=w->X.K=K->X.calm=true->∀ (i:Nat) (pins:List (Addr × Obj)) (s:Shared) (σ:St) (H:Hp) (E:Value->Shared->Prop),Inv X pins σ H s->(∀ b∈fp,Kc X pins H b)->tn i s.heap->J.go i H ->
  wpAny (model P w) X.A (pyNext (.ref it)) (fun r s1=>∃ u,r=some u /\
   wpAny (model P w) X.A (letOwnedTupleGo tg (.ref it) u) (fun _ s2=>∃ x H',Inv X pins σ H' s2/\RelV x u/\J.yld i H x H'/\tn (i+1) s2.heap/\∀ b∈fp,H' b=none) E s1) E s
 done:∀ (X:Cx),X.prog=P->X.w=w->X.K=K->X.calm=true->∀ (i:Nat) (pins:List (Addr × Obj)) (s:Shared) (σ:St) (H:Hp) (E:Value->Shared->Prop),Inv X pins σ H s->(∀ b∈fp,Kc X pins H b)->tn i s.heap->J.stop i H ->
  wpAny (model P w) X.A (pyNext (.ref it)) (fun r s1=>r=none/\Inv X pins σ H s1) E s
 self:∀ (A:Around) (i:Nat) (s:Shared) (Q:Value->Shared->Prop) (E:Value->Shared->Prop),tn i s.heap->Q (.ref it) s->wpAny (model P w) A (pyIter (.ref it)) Q E s
abbrev TI:=St->Hp->(It->Hp->Prop)->Prop
def PIE (X:Cx) (pins:List (Addr × Obj)) (σ:St) (tg:Expr) (R:It->Hp->Prop) (bQ:Value) (s2:Shared):Prop :=
 ∃ (it:Addr) (fp:List Addr) (tn:Nat->Heap->Prop) (J:It) (H':Hp),bQ=.ref it/\Inv X pins σ H' s2/\Turn X.prog X.w X.K tg J fp it tn/\tn 0 s2.heap/\(∀ b∈fp,Kc X pins H' b)/\R J H'
def PI (X:Cx) (tg iter:Expr) (wi:TI):Prop :=
 ∀ (pins:List (Addr × Obj)) (s:Shared) (σ:St) (H:Hp) (R:It->Hp->Prop),Inv X pins σ H s->wi σ H R ->
  wpAny (model X.prog X.w) X.A (eval iter X.env) (fun v s1=>wpAny (model X.prog X.w) X.A (pyIter v) (PIE X pins σ tg R) X.xe s1) X.xe s
theorem a0f {M:Model} {A:Around} {E:Value->Shared->Prop} {s:Shared} {tg:Expr} {it:Addr} {u:Value} {o:Obj} {n:String} {vs:Array Value} {Q:Unit->Shared->Prop} (ho:s.heap.get? it=some o) (hc:o.cls=.type n) (hd:o.data=.fields vs)
  (hn:["enumerate","zip","dict_itemiterator","dict_reverseitemiterator","odict_iterator","itertools.zip_longest","itertools.pairwise"].contains n=false) (hQ:Q () s):wpAny M A (letOwnedTupleGo tg (.ref it) u) Q E s:=by
 unfold letOwnedTupleGo
 cases tg <;> first
  | exact wpAny_pure hQ
  | (cases u <;> first
    | exact wpAny_pure hQ
    | (refine wpAny_bind (wpAny_load ho ?_)
       rw [hc,hd];show wpAny M A (if (["enumerate","zip","dict_itemiterator","dict_reverseitemiterator","odict_iterator","itertools.zip_longest","itertools.pairwise"].contains n&&vs[0]? == some (rawInt _))=true then _ else _) Q E s;rw [if_neg (by intro h; rw [hn,Bool.false_and] at h; cases h)];exact wpAny_pure hQ))
noncomputable def Itl (K:PySem.W.Frag) (a:Addr):It :=
 ⟨fun i H=>∃ xs x,SqL K H a xs/\xs[i]? = some x,fun i H x H'=>H'=H/\∀ xs,SqL K H a xs->xs[i]? = some x,fun i H=>∃ xs,SqL K H a xs/\xs.length<=i⟩
noncomputable def Itt (K:PySem.W.Frag) (a:Addr):It :=
 ⟨fun i H=>∃ xs x,SqT K H a xs/\xs[i]? = some x,fun i H x H'=>H'=H/\∀ xs,SqT K H a xs->xs[i]? = some x,fun i H=>∃ xs,SqT K H a xs/\xs.length<=i⟩
def Itr (lo:Int) (n:Nat):It:=⟨fun i _=>i<n,fun i H x H'=>H'=H/\x=.int (lo+i),fun i _=>n<=i⟩
theorem Yc {P:Program} {w:World} {K:PySem.W.Frag} {tg:Expr} (a it:Addr):Turn P w K tg (Itl K a) [it] it (fun i h=>h.IsListIter it a i) where
 mem:=by simp
 obj:=fun i h st b hb=>by
  have e:b=it:=by simpa using hb
  subst e;obtain ⟨o,e,c,d⟩:=st;exact ⟨o,e,fun v z=>by rw [d] at z; cases z⟩
 keep:=fun i h h' st k=>st.at fun o e=>k it (by simp) o e
 item:=by
  intro X hP hw hK hc i pins s σ H E I hf st hg;subst hP hw hK;obtain ⟨xs,x,hq,hx⟩:=hg;obtain ⟨its,rv,p,hz⟩:=I.list hq;obtain ⟨u,hu,ru⟩:=rv.get hx;obtain ⟨f0,f1,f2,f3,f4,f5⟩:=hf it (by simp);refine wpAny_pyNext_list_item st p.isList (x:=u) (by simpa using hu) fun h' aa sb=>?_;have I1:Inv X pins σ H { s with heap:=h' }:=I.turned (t':=s.toks) (fun b o hb e=>(sb.2 b hb).trans e) f0 f1 f3 f4 f5;obtain ⟨o,e,c,d⟩:=id aa;exact ⟨u,rfl,a0f (s:={ s with heap:=h' }) e c d (by decide) ⟨x,H,I1,ru,⟨rfl,fun ys hy=>by rw [I.Ma hy hq]; exact hx⟩,aa,fun b hb=>(hf b hb).1⟩⟩
 done:=by
  intro X hP hw hK hc i pins s σ H E I hf st hg;subst hP hw hK;obtain ⟨xs,hq,hx⟩:=hg;obtain ⟨its,rv,p,hz⟩:=I.list hq;obtain ⟨f0,f1,f2,f3,f4,f5⟩:=hf it (by simp);have hl:=rv.length;exact wpAny_pyNext_list_end (I.ok.hd hc) st p.isList (by simp; omega) fun h' eb=>⟨rfl,I.turned (t':=s.toks) (fun b o hb e=>eb b o hb e) f0 f1 f3 f4 f5⟩
 self:=fun _ _ _ _ _ st h=>wpAny_pyIter_listiter st h
theorem Vh {P:Program} {w:World} {K:PySem.W.Frag} {tg:Expr} (a it:Addr):Turn P w K tg (Itt K a) [it] it (fun i h=>h.IsTupleIter it a i) where
 mem:=by simp
 obj:=fun i h st b hb=>by
  have e:b=it:=by simpa using hb
  subst e;obtain ⟨o,e,c,d⟩:=st;exact ⟨o,e,fun v z=>by rw [d] at z; cases z⟩
 keep:=fun i h h' st k=>st.at fun o e=>k it (by simp) o e
 item:=by
  intro X hP hw hK hc i pins s σ H E I hf st hg;subst hP hw hK;obtain ⟨xs,x,hq,hx⟩:=hg;obtain ⟨its,rv,p,hz⟩:=I.tuple hq;obtain ⟨u,hu,ru⟩:=rv.get hx;obtain ⟨f0,f1,f2,f3,f4,f5⟩:=hf it (by simp);refine wpAny_pyNext_tuple_item st (show s.heap.IsTuple a its.toArray from p) (x:=u) (by simpa using hu) fun h' aa sb=>?_;have I1:Inv X pins σ H { s with heap:=h' }:=I.turned (t':=s.toks) (fun b o hb e=>(sb.2 b hb).trans e) f0 f1 f3 f4 f5;obtain ⟨o,e,c,d⟩:=id aa;exact ⟨u,rfl,a0f (s:={ s with heap:=h' }) e c d (by decide) ⟨x,H,I1,ru,⟨rfl,fun ys hy=>by rw [I.W7 hy hq]; exact hx⟩,aa,fun b hb=>(hf b hb).1⟩⟩
 done:=by
  intro X hP hw hK hc i pins s σ H E I hf st hg;subst hP hw hK;obtain ⟨xs,hq,hx⟩:=hg;obtain ⟨its,rv,p,hz⟩:=I.tuple hq;obtain ⟨f0,f1,f2,f3,f4,f5⟩:=hf it (by simp);have hl:=rv.length;exact wpAny_pyNext_tuple_end (I.ok.hd hc) st (show s.heap.IsTuple a its.toArray from p) (by simp; omega) fun h' eb=>⟨rfl,I.turned (t':=s.toks) (fun b o hb e=>eb b o hb e) f0 f1 f3 f4 f5⟩
 self:=fun _ _ _ _ _ st h=>wpAny_pyIter_tupleiter st h
theorem V5 {P:Program} {w:World} {K:PySem.W.Frag} {tg:Expr} (it:Addr) (lo:Int) (n:Nat):Turn P w K tg (Itr lo n) [it] it (fun i h=>IsRangeIter h it (lo+(i:Nat) * 1) ((n:Int) - (i:Nat)) 1) where
 mem:=by simp
 obj:=fun i h st b hb=>by
  have e:b=it:=by simpa using hb
  subst e
  exact ⟨_,st,fun v z=>by
   have z':Data.fields _=Data.cell v:=z;cases z'⟩
 keep:=fun i h h' st k=>k it (by simp) _ st
 item:=by
  intro X hP hw hK hc i pins s σ H E I hf st hg;subst hP hw hK;obtain ⟨f0,f1,f2,f3,f4,f5⟩:=hf it (by simp);have W:=Walks.range (prog:=X.prog) (w:=X.w) (I.ok.hd hc) it lo 1 n;refine W.item i s _ _ hg st fun v h' tk hv aa kk=>?_;obtain ⟨t,rfl⟩:=hv;have I1:Inv X pins σ H { s with heap:=h',toks:=tk }:=I.turned (fun b o hb e=>kk b o (by simpa using hb) e) f0 f1 f3 f4 f5;refine ⟨_,rfl,a0f (s:={ s with heap:=h',toks:=tk }) (n := "range_iterator") aa rfl rfl (by decide) ⟨.int (lo+i),H,I1,⟨t,?_⟩,⟨rfl,rfl⟩,aa,fun b hb=>(hf b hb).1⟩⟩;rw [Int.mul_one]
 done:=by
  intro X hP hw hK hc i pins s σ H E I hf st hg;subst hP hw hK;obtain ⟨f0,f1,f2,f3,f4,f5⟩:=hf it (by simp);exact wpAny_pyNext_range_end (I.ok.hd hc) st (by have:n<=i:=hg; omega) fun h' eb=>⟨rfl,I.turned (t':=s.toks) (fun b o hb e=>eb b o hb e) f0 f1 f3 f4 f5⟩
 self:=fun _ _ _ _ _ st h=>wpAny_pyIter_rangeiter st h
end L2
namespace L2
open PySem PySem.Spec PyProof.Rows
section
variable {X:Cx} {tg:Expr}
theorem a07 {pins:List (Addr × Obj)} {σ:St} {H:Hp} {s:Shared} {R:It->Hp->Prop} {E:Value->Shared->Prop} {lo hi:Int} {t u v:Tok} {tk:Nat} (I:Inv X pins σ H s) (h1:-(2 ^ 62)<=lo) (h2:lo<2 ^ 62) (h3:-(2 ^ 62)<=hi) (h4:hi<2 ^ 62)
  (q:R (Itr lo (hi - lo).toNat) H):wpAny (model X.prog X.w) X.A (pyIter (.ref s.heap.objs.size)) (PIE X pins σ tg R) E { s with heap:=s.heap.push { cls:=.type "range",data:=.fields #[.int lo t,.int hi u,.int 1 v] },toks:=tk }:=by
 refine wpAny_pyIter_range (IsRange.new ..) (small_one h1 h2 h3 h4) ?_;have I1:Inv X pins σ H { s with heap:=s.heap.push { cls:=.type "range",data:=.fields #[.int lo t,.int hi u,.int 1 v] },toks:=tk }:=I.kept fun b o e=>Heap.get?_push_of_some _ e
 refine ⟨(s.heap.push { cls:=.type "range",data:=.fields #[.int lo t,.int hi u,.int 1 v] }).objs.size,[(s.heap.push { cls:=.type "range",data:=.fields #[.int lo t,.int hi u,.int 1 v] }).objs.size],_,_,H,rfl,
  I1.kept (t':=tk) fun b o e=>Heap.get?_push_of_some _ e,V5 _ lo (hi - lo).toNat,?_,fun b hb=>?_,q⟩
 ·have e1:lo+((0:Nat):Int) * 1=lo:=by simp
  have e2:(((hi - lo).toNat:Nat):Int) - ((0:Nat):Int)=Builtin.Range.rangeSize lo hi 1:=by rw [rangeSize_one]; split <;> omega
  show IsRangeIter _ _ (lo+((0:Nat):Int) * 1) ((((hi - lo).toNat:Nat):Int) - ((0:Nat):Int)) 1;rw [e1,e2];exact Heap.get?_push_size _ rfl
 ·have e:b=(s.heap.push { cls:=.type "range",data:=.fields #[.int lo t,.int hi u,.int 1 v] }).objs.size:=by simpa using hb
  subst e;exact I1.a8v (Nat.le_refl _) (I1.hok.fresh (Nat.le_refl _))
noncomputable def acp (ta:TA):TI:=fun σ H R=>ta σ H fun vs H1=>∃ j:Int,vs=[.int j]/\-(2 ^ 62)<=j/\j<2 ^ 62/\R (Itr 0 j.toNat) H1
theorem Zw {a:Expr} {ta:TA} {p pos:Pos} (hg:Gl X "range") (hm:X.mg "range" = none) (ha:PA X [a] ta) (hs:starEach [a] X.env=[(false,eval a X.env)]:=by rfl):PI X tg (.Call (.Name "range" p) [a] [] pos) (acp ta):=by
 intro pins s σ H R I h;refine Call_ (K6 I hg hm boot_range (PyProof.Rows.callWith_type1 (thn (ha pos pins s σ H _ I h) fun us s1 z0=>?_) hs rfl));obtain ⟨vs,H1,I1,r1,q1⟩:=z0;obtain ⟨j,e,q1,q2,q⟩:=q1;subst e;cases r1 with
 | cons r rr =>
  cases rr;obtain ⟨t,rfl⟩:=r;exact call_range_1 (a07 I1 (by omega) (by omega) q1 q2 (by simpa using q))
noncomputable def afr (wi:TI) (g:TG) (tb:TS):TS:=fun D σ H=>wi σ H fun J H1=>∃ W:Nat->Nat->St->Hp->Prop,(∃ m,W 0 m σ H1)/\∀ i m σ H,W i m σ H ->
 (J.stop i H/\D.nx σ H)\/(J.go i H/\∃ N:St->Hp->Prop,(∀ σ' H',N σ' H'->∃ m',m'<m/\W (i+1) m' σ' H')/\∀ x H',J.yld i H x H'->g x σ H' fun br H2=>tb { D with nx:=N,ct:=N,bk:=D.nx } br H2)
def Oj (fp:List Addr) (h:Heap):List (Addr × Obj):=fp.filterMap fun b=>(h.get? b).map fun o=>(b,o)
theorem Ag {fp:List Addr} {h:Heap} {b:Addr} {o:Obj} (hb:b∈fp) (e:h.get? b=some o):(b,o)∈Oj fp h:=List.mem_filterMap.mpr ⟨b,hb,by rw [e]; rfl⟩
theorem Xp {fp:List Addr} {h:Heap} {p:Addr × Obj} (hp:p∈Oj fp h):p.1∈fp/\h.get? p.1=some p.2:=by
 obtain ⟨b,hb,e⟩:=List.mem_filterMap.mp hp;cases q:h.get? b with
 | none=>rw [q] at e; cases e
 | some o =>
  rw [q] at e;have e':(b,o)=p:=Option.some.inj e;subst e';exact ⟨hb,q⟩
theorem Inv.pinned {pins:List (Addr × Obj)} {σ:St} {H:Hp} {s:Shared} {fp:List Addr} (I:Inv X pins σ H s) (hf:∀ b∈fp,Kc X pins H b) (ho:∀ b∈fp,∃ o,s.heap.get? b=some o/\∀ v,o.data≠.cell v):Inv X (pins++Oj fp s.heap) σ H s :=
 I.G3 fun p hp=>(List.mem_append.mp hp).elim (fun z=>I.pin p (List.mem_append_right _ z)) fun z=>by
  obtain ⟨hb,e⟩:=Xp z;obtain ⟨f0,f1,f2,_⟩:=hf p.1 hb;obtain ⟨o,e',d⟩:=ho p.1 hb;rw [e] at e'; cases e';exact ⟨e,f0,f1,f2,d⟩
theorem Inv.Fg {pins pl:List (Addr × Obj)} {σ:St} {H:Hp} {s:Shared} (I:Inv X (pins++pl) σ H s):Inv X pins σ H s:=I.G3 fun p hp=>I.pin p (List.mem_append_right _ (List.mem_append_left _ hp))
theorem aah {iter:Expr} {body:List Stmt} {wi:TI} {g:TG} {tb:TS} {pos:Pos} (hp:PassesOwn (model X.prog X.w) X.A X.env X.xe) (hc:X.calm=true) (hi:PI X tg iter wi) (hg:PG X tg g) (hb:PSs X body tb)
  (hs:∀ x,foldedSetIterable iter X.env x=pure x:=by intro _; rfl):PS X (.For tg iter body [] pos) (afr wi g tb):=by
 intro pins s σ H D I h;refine wpAny_For (thn (hi pins s σ H _ I h) fun v s1 h1=>thn h1 fun bQ s2 h2=>?_) hs;obtain ⟨it,fp,tn,J,H2,e,I2,T,bK,f2,W,⟨m0,w0⟩,turn⟩:=h2;subst e;have aT:∀ {H':Hp},(∀ b∈fp,H' b=none)->∀ b∈fp,Kc X pins H' b:=fun hn b hb=>⟨hn b hb,(f2 b hb).2⟩;refine codeAny_forLoop_any (fun n s'=>∃ i σ' H',Inv X pins σ' H' s'/\tn i s'.heap/\(∀ b∈fp,H' b=none)/\W i n σ' H') ?_ m0 ⟨0,σ,H2,I2,bK,fun b hb=>(f2 b hb).1,w0⟩;rintro n s3 ⟨i,bq,H3,I3,st3,fr3,w3⟩;rcases turn i n bq H3 w3 with ⟨stop,qn⟩ | ⟨go,N,hN,step⟩
 ·refine wpAny_passesOwn hp (thn (T.done X rfl rfl rfl hc i pins s3 bq H3 X.xe I3 (aT fr3) st3 stop) fun r s4 z0=>?_);obtain ⟨hr,I4⟩:=z0;subst hr;exact wpAny_execs_nil ⟨bq,H3,I4,qn⟩
 ·refine wpAny_passesOwn hp (thn (T.item X rfl rfl rfl hc i pins s3 bq H3 X.xe I3 (aT fr3) st3 go) fun r s4 z0=>?_);obtain ⟨u,hr,h4⟩:=z0;subst hr;refine wpAny_passesOwn hp (thn h4 fun _ s5 z0=>?_);obtain ⟨x,H5,I5,r5,y5,st5,fr5⟩:=z0;have hI:=I5.pinned (aT fr5) (T.obj _ _ st5);refine wpAny_passesOwn hp (thn (hg _ s5 bq H5 x u _ hI r5 (step x H5 y5)) fun _ s6 z0=>?_);obtain ⟨σ6,H6,I6,q6⟩:=z0;refine wpAny_passesOwn hp (thn (hb _ s6 σ6 H6 _ I6 q6) fun f s7 q7=>?_)
  have again:∀ {aS:St} {H7:Hp},Inv X (pins++Oj fp s5.heap) aS H7 s7->N aS H7->∃ m,m<n/\∃ i σ' H',Inv X pins σ' H' s7/\tn i s7.heap/\(∀ b∈fp,H' b=none)/\W i m σ' H':=fun {aS H7} I7 n7=>by
   obtain ⟨m',hm,w7⟩:=hN aS H7 n7;refine ⟨m',hm,i+1,aS,H7,I7.Fg,T.keep _ _ _ st5 fun b hb o e=>(I7.pin (b,o) (List.mem_append_right _ (List.mem_append_right _ (Ag hb e)))).1,fun b hb=>?_,w7⟩;obtain ⟨o,e,d⟩:=T.obj _ _ st5 b hb;exact (I7.pin (b,o) (List.mem_append_right _ (List.mem_append_right _ (Ag hb e)))).2.1
  cases f with
  | next=>obtain ⟨aS,H7,I7,n7⟩:=q7; exact again I7 n7
  | cont=>obtain ⟨aS,H7,I7,n7⟩:=q7; exact again I7 n7
  | brk=>obtain ⟨aS,H7,I7,q7⟩:=q7; exact ⟨aS,H7,I7.Fg,q7⟩
  | ret v=>obtain ⟨x7,aS,H7,I7,r7,q7⟩:=q7; exact ⟨x7,aS,H7,I7.Fg,r7,q7⟩
end
end L2
namespace L2
open PySem PySem.Spec PyProof.Rows
abbrev R2:=V->V->Hp->VK->Prop
def OpR (X:Cx) (f:Value->Value->Sem Value) (r:R2):Prop :=
 ∀ (pins:List (Addr × Obj)) (s:Shared) (σ:St) (H:Hp) (x y:V) (v u:Value) (Q:VK),Inv X pins σ H s->RelV x v->RelV y u->r x y H Q ->
  wpAny (model X.prog X.w) X.A (f v u) (EP X pins σ Q) X.xe s
def UnR (X:Cx) (f:Value->Sem Value) (r:V->Hp->VK->Prop):Prop :=
 ∀ (pins:List (Addr × Obj)) (s:Shared) (σ:St) (H:Hp) (x:V) (v:Value) (Q:VK),Inv X pins σ H s->RelV x v->r x H Q ->
  wpAny (model X.prog X.w) X.A (f v) (EP X pins σ Q) X.xe s
def Ej (X:Cx) (f:Value) (r:List V->Hp->VK->Prop):Prop :=
 ∀ (pins:List (Addr × Obj)) (s:Shared) (σ:St) (H:Hp) (xs:List V) (us:List Value) (Q:VK),Inv X pins σ H s->Vals xs us->r xs H Q ->
  wpAny (model X.prog X.w) X.A (call f us) (EP X pins σ Q) X.xe s
def tOp (r:R2) (ta tb:TE):TE:=fun σ H Q=>ta σ H fun x H1=>tb σ H1 fun y H2=>r x y H2 Q
def tUn (r:V->Hp->VK->Prop) (ta:TE):TE:=fun σ H Q=>ta σ H fun x H1=>r x H1 Q
def rI (C:Int->Int->Prop) (g:Int->Int->V):R2:=fun x y H Q=>∃ i j,x=.int i/\y=.int j/\C i j/\Q (g i j) H
def rI0 (g:Int->Int->V):R2:=fun x y H Q=>∃ i j,x=.int i/\y=.int j/\Q (g i j) H
def rU (g:Int->V):V->Hp->VK->Prop:=fun x H Q=>∃ i,x=.int i/\Q (g i) H
section
variable {X:Cx} {a b c:Expr} {ta tb tc:TE} {pos:Pos}
theorem ae8 (ha:PE X a ta) (hb:PE X b tb) {pins:List (Addr × Obj)} {s:Shared} {σ:St} {H:Hp} {R:V->V->Hp->Prop} (I:Inv X pins σ H s)
  (h:ta σ H fun x H1=>tb σ H1 fun y H2=>R x y H2) {Q:Value->Shared->Prop} {f:Value->Value->Sem Value}
  (hf:∀ v u s2 x y H2,Inv X pins σ H2 s2->RelV x v->RelV y u->R x y H2->wpAny (model X.prog X.w) X.A (f v u) Q X.xe s2) :
  wpAny (model X.prog X.w) X.A (eval a X.env) (fun v ag=>wpAny (model X.prog X.w) X.A (eval b X.env) (fun u av=>wpAny (model X.prog X.w) X.A (f v u) Q X.xe av) X.xe ag) X.xe s:=by
 refine thn (ha pins s σ H _ I h) fun v s1 z0=>?_;obtain ⟨x,H1,I1,r1,q1⟩:=z0;refine thn (hb pins s1 σ H1 _ I1 q1) fun u s2 z0=>?_;obtain ⟨y,H2,I2,r2,q2⟩:=z0;exact hf v u s2 x y H2 I2 r1 r2 q2
theorem a5o {op:Operator} {r:R2} (ho:OpR X (binaryOp op) r) (ha:PE X a ta) (hb:PE X b tb):PE X (.BinOp a op b pos) (tOp r ta tb):=by
 intro pins s σ H Q I h;exact wpAny_BinOp (ae8 ha hb I h fun v u s2 x y H2 I2 rx ry q=>ho pins s2 σ H2 x y v u Q I2 rx ry q)
theorem ae5 {op:UnaryOp} {r:V->Hp->VK->Prop} (ho:UnR X (unaryOp op) r) (ha:PE X a ta):PE X (.UnaryOp op a pos) (tUn r ta):=by
 intro pins s σ H Q I h;exact UnaryOp_ (thn (ha pins s σ H _ I h) fun v s1 z7=>by obtain ⟨x,H1,I1,r1,q1⟩:=z7; exact ho pins s1 σ H1 x v Q I1 r1 q1)
theorem opI {f:Value->Value->Sem Value} {C:Int->Int->Prop} {g:Int->Int->Int}
  (rule:∀ (i j:Int) (t u:Tok) (s:Shared) (Q:Value->Shared->Prop) (E:Value->Shared->Prop),C i j->Q (.int (g i j) s.toks) { s with toks:=s.toks+1 }->wpAny (model X.prog X.w) X.A (f (.int i t) (.int j u)) Q E s) :
  OpR X f (rI C fun i j=>.int (g i j)):=by
 intro pins s σ H x y v u Q I rx ry h;obtain ⟨i,j,rfl,rfl,hc,q⟩:=h;obtain ⟨t,rfl⟩:=rx;obtain ⟨t',rfl⟩:=ry;exact rule i j t t' s _ _ hc ⟨.int (g i j),H,I.tok _,⟨_,rfl⟩,q⟩
theorem aen {f:Value->Value->Sem Value} {g:Int->Int->Int}
  (rule:∀ (i j:Int) (t u:Tok) (s:Shared) (Q:Value->Shared->Prop) (E:Value->Shared->Prop),Q (.int (g i j) s.toks) { s with toks:=s.toks+1 }->wpAny (model X.prog X.w) X.A (f (.int i t) (.int j u)) Q E s) :
  OpR X f (rI0 fun i j=>.int (g i j)):=by
 intro pins s σ H x y v u Q I rx ry h;obtain ⟨i,j,rfl,rfl,q⟩:=h;obtain ⟨t,rfl⟩:=rx;obtain ⟨t',rfl⟩:=ry;exact rule i j t t' s _ _ ⟨.int (g i j),H,I.tok _,⟨_,rfl⟩,q⟩
theorem ach {f:Value->Value->Sem Value} {g:Int->Int->Bool}
  (rule:∀ (i j:Int) (t u:Tok) (s:Shared) (Q:Value->Shared->Prop) (E:Value->Shared->Prop),Q (.bool (g i j)) s->wpAny (model X.prog X.w) X.A (f (.int i t) (.int j u)) Q E s) :
  OpR X f (rI0 fun i j=>.bl (g i j)):=by
 intro pins s σ H x y v u Q I rx ry h;obtain ⟨i,j,rfl,rfl,q⟩:=h;obtain ⟨t,rfl⟩:=rx;obtain ⟨t',rfl⟩:=ry;exact rule i j t t' s _ _ ⟨.bl (g i j),H,I,rfl,q⟩
def af9 (i j:Int):Prop:=0<=j/\j<=1000000/\i.natAbs<2 ^ 64
def ae0 (i j:Int):Prop:=(-(2 ^ 64)<i/\i<2 ^ 64)\/(-(2 ^ 64)<j/\j<2 ^ 64)
theorem ae0.ok {i j:Int} (h:ae0 i j):IntMulOk i j:=by
 rcases h with ⟨h1,h2⟩ | ⟨h1,h2⟩
 ·exact .of_left (intBits_le_64 h1 h2)
 ·exact .of_right (intBits_le_64 h1 h2)
theorem a4h:OpR X (binaryOp .Add) (rI0 fun i j=>.int (i+j)):=aen fun _ _ _ _ _ _ _ q=>add_int q
theorem a99:OpR X (binaryOp .Sub) (rI0 fun i j=>.int (i - j)):=aen fun _ _ _ _ _ _ _ q=>sub_int q
theorem a96:OpR X (binaryOp .Mult) (rI ae0 fun i j=>.int (i * j)):=opI fun _ _ _ _ _ _ _ hc q=>mul_int q hc.ok
theorem a3t:OpR X (binaryOp .Mod) (rI (fun _ j=>0<j) fun i j=>.int (i%j)):=opI fun i j _ _ _ _ _ hc q=>by
 have h1:(0:Int)<j:=hc;exact mod_int' (by omega) (by rw [Int.fmod_eq_emod_of_nonneg i (by omega)]; exact q)
theorem abd:OpR X (binaryOp .Pow) (rI af9 fun i j=>.int (i ^ j.toNat)):=opI fun _ _ _ _ _ _ _ hc q=>pow_int_small hc.1 hc.2.1 hc.2.2 q
theorem unI {f:Value->Sem Value} {g:Int->Int}
  (rule:∀ (i:Int) (t:Tok) (s:Shared) (Q:Value->Shared->Prop) (E:Value->Shared->Prop),Q (.int (g i) s.toks) { s with toks:=s.toks+1 }->wpAny (model X.prog X.w) X.A (f (.int i t)) Q E s) :
  UnR X f (rU fun i=>.int (g i)):=by
 intro pins s σ H x v Q I rx h;obtain ⟨i,rfl,q⟩:=h;obtain ⟨t,rfl⟩:=rx;exact rule i t s _ _ ⟨.int (g i),H,I.tok _,⟨_,rfl⟩,q⟩
theorem aa1:UnR X (unaryOp .USub) (rU fun i=>.int (-i)):=unI fun _ _ _ _ _ q=>neg_int q
end
section
variable {X:Cx} {a b c:Expr} {ta tb tc:TE} {pos:Pos}
theorem ae6:OpR X (compareOp .Lt) (rI0 fun i j=>.bl (decide (i<j))):=ach fun _ _ _ _ _ _ _ q=>lt_int q
theorem acj:OpR X (compareOp .LtE) (rI0 fun i j=>.bl (decide (i<=j))):=ach fun _ _ _ _ _ _ _ q=>le_int q
theorem ad9:OpR X (compareOp .Gt) (rI0 fun i j=>.bl (decide (j<i))):=ach fun _ _ _ _ _ _ _ q=>gt_int q
theorem adi:OpR X (compareOp .GtE) (rI0 fun i j=>.bl (decide (j<=i))):=ach fun _ _ _ _ _ _ _ q=>ge_int q
theorem iw (b:Expr) {op:CmpOp} (h:op≠.In:=by decide) (h2:op≠.NotIn:=by decide):behindInMarks op b=false:=by
 have e1:(op==CmpOp.In)=false:=by cases op <;> first | rfl | exact absurd rfl h
 have e2:(op==CmpOp.NotIn)=false:=by cases op <;> first | rfl | exact absurd rfl h2
 cases b <;> simp [behindInMarks,e1,e2]
theorem a7y {op:CmpOp} {r:R2} (ho:OpR X (compareOp op) r) (ha:PE X a ta) (hb:PE X b tb) (hm:behindInMarks op b=false):PE X (.Compare a [op] [b] pos) (tOp r ta tb):=by
 intro pins s σ H Q I h;exact wpAny_Compare1 (ae8 ha hb I h fun v u s2 x y H2 I2 rx ry q=>ho pins s2 σ H2 x y v u Q I2 rx ry q) hm
def aa7 (t:TE):TT:=fun σ H Q=>t σ H fun x H'=>∃ k,x=.bl k/\Q k H'
theorem a6t {op:CmpOp} {r:R2} (ho:OpR X (compareOp op) r) (ha:PE X a ta) (hb:PE X b tb) (hm:behindInMarks op b=false):PT X (.Compare a [op] [b] pos) (aa7 (tOp r ta tb)):=by
 intro pins s σ H Q I h
 refine wpAny_isTrue_Compare1 (thn (ha pins s σ H _ I h) fun v s1 ⟨x,H1,I1,r1,q1⟩=>thn (hb pins s1 σ H1 _ I1 q1) fun u s2 ⟨y,H2,I2,r2,q2⟩ =>
  thn (ho pins s2 σ H2 x y v u _ I2 r1 r2 q2) fun c s3 ⟨z,H3,I3,r3,k,e,q3⟩=>?_) hm
 subst e;cases r3;exact wpAny_truthy_bool ⟨H3,I3,q3⟩
noncomputable def a3w (r r':R2) (ta tb tc:TE):TE:=fun σ H Q=>ta σ H fun x H1=>tb σ H1 fun y H2=>r x y H2 fun z H3=>∃ k,z=.bl k /\
 (if k=true then tc σ H3 fun w' H4=>r' y w' H4 Q else Q (.bl false) H3)
theorem a2f {op bZ:CmpOp} {r r':R2} (ho:OpR X (compareOp op) r) (aO:OpR X (compareOp bZ) r') (ha:PE X a ta) (hb:PE X b tb) (hc:PE X c tc)
  (hm:lastMarks [op,bZ] [b,c]=false:=by with_unfolding_all rfl):PE X (.Compare a [op,bZ] [b,c] pos) (a3w r r' ta tb tc):=by
 intro pins s σ H Q I h
 refine Compare_chain (thn (ha pins s σ H _ I h) fun v s1 ⟨x,H1,I1,r1,q1⟩=>chain_link (thn (hb pins s1 σ H1 _ I1 q1) fun u s2 ⟨y,H2,I2,r2,q2⟩ =>
  thn (ho pins s2 σ H2 x y v u _ I2 r1 r2 q2) fun d s3 ⟨z,H3,I3,r3,k,e,q3⟩=>?_)) hm
 subst e;cases r3;refine wpAny_truthy_bool ?_;cases k with
 | false=>exact ite_ff ⟨.bl false,H3,I3,rfl,q3⟩
 | true=>exact ite_tt (chain_last (thn (hc pins s3 σ H3 _ I3 q3) fun w' s4 z7=>by obtain ⟨z',H4,I4,r4,q4⟩:=z7; exact aO pins s4 σ H4 y z' u w' Q I4 r2 r4 q4))
theorem Nv:(sizeLine:Nat)<2 ^ 63:=by rw [sizeLine_eq]; decide
theorem Uz:OpR X (binaryOp .Add) (fun x y H Q=>∃ i j,x=.str i/\y=.str j/\i.length+j.length<=sizeLine/\Q (.str (i++j)) H):=by
 intro pins s σ H x y v u Q I rx ry h;obtain ⟨i,j,rfl,rfl,hz,q⟩:=h;obtain ⟨t,rfl⟩:=rx;obtain ⟨t',rfl⟩:=ry;exact add_str (fun t' tk=>⟨.str (i++j),H,I.tok _,⟨_,rfl⟩,q⟩) hz
theorem vals1 {x:V} {us:List Value} (r:Vals [x] us):∃ u,us=[u]/\RelV x u:=by
 cases r with
 | cons r1 r2=>cases r2; exact ⟨_,rfl,r1⟩
theorem a1e:Ej X (.builtin "abs") (fun xs H Q=>∃ i,xs=[.int i]/\Q (.int (if i<0 then -i else i)) H):=by
 intro pins s σ H xs us Q I r h;obtain ⟨i,rfl,q⟩:=h;obtain ⟨u,rfl,t,rfl⟩:=vals1 r;exact call_abs_int fun u tk=>⟨.int (if i<0 then -i else i),H,I.tok _,⟨_,rfl⟩,q⟩
theorem O5:Ej X (.type "int") (fun xs H Q=>(∃ i,xs=[.int i]/\Q (.int i) H)\/∃ k,xs=[.bl k]/\Q (.int (if k then 1 else 0)) H):=by
 intro pins s σ H xs us Q I r h;rcases h with ⟨i,rfl,q⟩ | ⟨k,rfl,q⟩
 ·obtain ⟨u,rfl,t,rfl⟩:=vals1 r;exact call_int_int ⟨.int i,H,I,⟨_,rfl⟩,q⟩
 ·obtain ⟨u,rfl,r1⟩:=vals1 r;cases r1;exact call_int_bool ⟨.int (if k then 1 else 0),H,I.tok _,⟨_,rfl⟩,q⟩
theorem Oi:Ej X (.type "str") (fun xs H Q=>∃ i,xs=[.int i]/\i.natAbs.log2<1920/\Q (.str (toString i)) H):=by
 intro pins s σ H xs us Q I r h;obtain ⟨i,rfl,hz,q⟩:=h;obtain ⟨u,rfl,t,rfl⟩:=vals1 r;exact PySem.P.str_of_int hz ⟨.str _,H,I.tok _,⟨_,rfl⟩,q⟩
end
end L2
namespace L2
open PySem PySem.Spec PyProof.Rows
structure a8k (h:Heap) (x dx C:Addr) (mA:Str->Option Value):Prop where
 obj:h.get? x=some (PySem.W.instObj C dx)
 ns:h.Ns1 dx mA
 ne:dx≠x
theorem Yw {h:Heap} {dx:Addr} {mA:Str->Option Value} (n:h.Ns1 dx mA):∃ od,h.get? dx=some od/\∀ name,PySem.W.lookIn name od=some (mA name):=by
 obtain ⟨o,es,ep,ho,hd,hk,_,hm⟩:=n;refine ⟨o,ho,fun name=>?_⟩;have e:=hm name;unfold nsFind findBy at e;rw [<- Array.find?_toList] at e;unfold PySem.W.lookIn;rw [hd];dsimp only;split
 ·rename_i y q;rw [q] at e;exact congrArg some e
 ·rename_i q;rw [q] at e
  have a:es.toList.any (·.refKey)=false:=by
   rw [List.any_eq_false];intro y hy;obtain ⟨z,t,hkey⟩:=hk y (Array.mem_toList_iff.mp hy);simp [DictEntry.refKey,hkey]
  have a':¬ es.toList.any (·.refKey)=true:=by rw [a]; exact Bool.false_ne_true
  rw [if_neg a'];exact congrArg some e
theorem a8k.look {h:Heap} {x dx C:Addr} {mA:Str->Option Value} (I:a8k h x dx C mA):∃ od,PySem.W.InstAt h x (PySem.W.instObj C dx) C (some od)/\∀ name,PySem.W.lookIn name od=some (mA name) :=
 let ⟨od,ho,hl⟩:=Yw I.ns
 ⟨od,⟨I.obj,rfl,rfl,ho⟩,hl⟩
section
variable {prog:Program} {w:World} {A:Around} {E:Value->Shared->Prop} {s:Shared} {K:PySem.W.Frag} {x dx C f:Addr} {mA:Str->Option Value} {name:Str} {v:Value}
theorem get_map {expr:Bool} {Q:Value->Shared->Prop} (X:K.In s.heap) (I:a8k s.heap x dx C mA) (hg:PySem.W.plainGet K C name=true) (hh:PySem.W.hasDictIn K C=true)
  (ha:PySem.W.findIn K (.ref C) name=some none) (hv:mA name=some v) (fU:PySem.W.handedIn v=true) (h:Q v { s with toks:=s.toks+1 }) :
  wpAny (model prog w) A (getAttr (.ref x) name expr) Q E s:=by
 obtain ⟨od,J,hl⟩:=I.look;exact PySem.W.get_value X J (PySem.W.plainGet_of hg).1 (PySem.W.findObj_own hh ha rfl (by rw [hl,hv])) fU h
theorem a1k {pl:Sem Bool} {Q:Value × List Value->Shared->Prop} (X:K.In s.heap) (I:a8k s.heap x dx C mA) (hg:PySem.W.plainGet K C name=true)
  (hf:PySem.W.findIn K (.ref C) name=some (some (.ref f))) (ht:PySem.W.isFn K (.ref f)=true) (hv:mA name=none) (h:Q (.ref f,[.ref x]) s) :
  wpAny (model prog w) A (getMethod (.ref x) name pl) Q E s:=by
 obtain ⟨od,J,hl⟩:=I.look;exact PySem.W.method_fn X J (PySem.W.plainGet_of hg).1 (PySem.W.plainGet_of hg).2 hf (beq_iff_eq.mp ht) (by show (PySem.W.lookIn name od).map (·.isSome)=some false; rw [hl,hv]; rfl) h
theorem a7m {ns:List Str} {Q:Unit->Shared->Prop} (X:K.In s.heap) (I:a8k s.heap x dx C mA)
  (hs:PySem.W.findIn K (.ref C) "__setattr__" = some (some (.builtin "object.__setattr__"))) (hp:PySem.W.plainOver K C=true) (ht:PySem.W.takerIn K C name=some none) (hh:PySem.W.hasDictIn K C=true)
  (hw:PySem.Within mA ns) (hsz:ns.length<=sizeLine)
  (h:∀ h',a8k h' x dx C (fun y=>if y=name then some v else mA y)->Heap.SameBut dx s.heap h'->Q () { s with heap:=h',toks:=s.toks+2 }) :
  wpAny (model prog w) A (setAttr (.ref x) name v) Q E s:=by
 obtain ⟨od,J,hl⟩:=I.look;refine PySem.W.set_plain X J hs (PySem.W.osa_open (s:={ s with toks:=s.toks+1 }) (r:=none) X J hp ht fun b=>?_);obtain ⟨cd,hc,hd'⟩:=PySem.W.any_some hh;have hx:s.heap.get? x=some ⟨.ref C,some dx,.plain,#[]⟩:=I.obj;refine wpAny_bind (wpAny_pure (wpAny_bind (wpAny_bind (wpAny_loadPart hx (wpAny_bind (PySem.W.Looks.here (s:={ s with toks:=s.toks+1 }) (PySem.W.looks_clsIn X hc) ?_))))));rw [hd'];refine wpAny_pure (a:=some dx) (wpAny_bind (wpAny_pure (wpAny_bind ?_)));refine wpAny_nsSet1 (s:={ s with toks:=s.toks+1 }) I.ns fun h' dE aM=>?_;obtain ⟨oD,esD,epD,hoD,hdD,hcD⟩:=dE.count (PySem.Within.cons name v hw);refine wpAny_bind (wpAny_lookBehind hoD (by rw [hdD]; exact pastItsLine_dict (Nat.le_trans hcD (by rw [List.length_cons]; omega))) ?_);exact wpAny_pure (h _ ⟨(aM.2 _ (Ne.symm I.ne)).trans I.obj,dE,I.ne⟩ aM)
theorem a3d {R:Result->Shared->Prop} {vs:List Value} {kw:List (Str × Value)} (X:K.In s.heap) (hm:PySem.W.makesIn K C=true)
  (hi:PySem.W.findIn K (.ref C) "__init__" = some (some (.ref f))) (hf:PySem.W.typeIn K (.ref f)=some (.type "function"))
  (h:codeAny (model prog w) (A.under (.builtin "type.__call__" ⟨.ref C::vs,kw⟩)) (.call (.ref f) ⟨.ref (s.heap.objs.size+1)::vs,kw⟩) (PySem.W.InitBack (s.heap.objs.size+1) R)
   { s with heap:=(s.heap.push PySem.W.emptyDict).push (PySem.W.instObj C s.heap.objs.size) }) :
  codeAny (model prog w) A (.call (.ref C) ⟨vs,kw⟩) R s:=by
 obtain ⟨hh,g,d,t,os⟩:=s;exact PySem.W.make_core (PySem.W.makes_of X hm) (PySem.W.looks_findIn X hi) (fun self=>PySem.W.bind_fn X self hf) (.inl rfl) h
end
noncomputable def Lq (f:Str) (v:V):List (Str × V)->List (Str × V)
 | []=>[(f,v)]
 | (g,x)::r=>if g=f then (g,v)::r else (g,x)::Lq f v r
theorem Gw (f g:Str) (v:V):∀ fs:List (Str × V),(Lq f v fs).lookup g=if g=f then some v else fs.lookup g
 | []=>by
  show List.lookup g [(f,v)]=_
  by_cases h:g=f
  ·have hb:(g==f)=true:=beq_iff_eq.mpr h;simp only [List.lookup,hb,if_pos h]
  ·have hb:(g==f)=false:=beq_eq_false_iff_ne.mpr h;simp only [List.lookup,hb,if_neg h]
 | (k,x)::r=>by
  have ih:=Gw f g v r;rw [show Lq f v ((k,x)::r)=(if k=f then (k,v)::r else (k,x)::Lq f v r) from rfl]
  by_cases hk:k=f
  ·rw [if_pos hk]
   by_cases h:g=k
   ·have hb:(g==k)=true:=beq_iff_eq.mpr h;simp only [List.lookup,hb,if_pos (h.trans hk)]
   ·have hb:(g==k)=false:=beq_eq_false_iff_ne.mpr h;simp only [List.lookup,hb,if_neg (fun e:g=f=>h (e.trans hk.symm))]
  ·rw [if_neg hk]
   by_cases h:g=k
   ·have hb:(g==k)=true:=beq_iff_eq.mpr h;simp only [List.lookup,hb,if_neg (fun e:g=f=>hk (h.symm.trans e))]
   ·have hb:(g==k)=false:=beq_eq_false_iff_ne.mpr h;simp only [List.lookup,hb];exact ih
theorem Hf (f:Str) (v:V):∀ fs:List (Str × V),f∈(Lq f v fs).map (·.1)/\∀ g,g∈fs.map (·.1)->g∈(Lq f v fs).map (·.1)
 | []=>⟨by simp [Lq],fun g h=>by simp at h⟩
 | (k,x)::r=>by
  obtain ⟨i1,i2⟩:=Hf f v r;rw [show Lq f v ((k,x)::r)=(if k=f then (k,v)::r else (k,x)::Lq f v r) from rfl]
  by_cases hk:k=f
  ·rw [if_pos hk];subst hk;exact ⟨by simp,fun g h=>by simpa using h⟩
  ·rw [if_neg hk];refine ⟨?_,fun g h=>?_⟩
   ·rw [List.map_cons];exact List.mem_cons_of_mem _ i1
   ·rw [List.map_cons] at h ⊢;rcases List.mem_cons.mp h with e | e
    ·exact List.mem_cons.mpr (.inl e)
    ·exact List.mem_cons_of_mem _ (i2 g e)
theorem Ib (f:Str) (v:V):∀ fs:List (Str × V),(Lq f v fs).length<=fs.length+1
 | []=>by simp [Lq]
 | (k,x)::r=>by
  have ih:=Ib f v r;rw [show Lq f v ((k,x)::r)=(if k=f then (k,v)::r else (k,x)::Lq f v r) from rfl]
  by_cases hk:k=f
  ·rw [if_pos hk,List.length_cons,List.length_cons]; omega
  ·rw [if_neg hk,List.length_cons,List.length_cons]; omega
theorem Kd.some_of {v:V} {o:Option Value} (r:Kd (some v) o):∃ u,o=some u/\RelV v u:=by
 cases o with
 | none=>exact (show False from r).elim
 | some u=>exact ⟨u,rfl,r⟩
theorem Kd.none_of {o:Option Value} (r:Kd none o):o=none:=by
 cases o with
 | none=>rfl
 | some u=>exact (show False from r).elim
theorem Zt {v:V} {u:Value} (r:RelV v u):PySem.W.handedIn u=true:=by
 cases v with
 | non=>cases (show u=Value.none from r); rfl
 | bl b=>cases (show u=Value.bool b from r); rfl
 | int i=>obtain ⟨t,e⟩:=(show ∃ t,u=Value.int i t from r); cases e; rfl
 | str x=>obtain ⟨t,e⟩:=(show ∃ t,u=Value.str x t from r); cases e; rfl
 | byt b=>obtain ⟨t,e⟩:=(show ∃ t,u=Value.bytes b t from r); cases e; rfl
 | flt b=>obtain ⟨t,e⟩:=(show ∃ t,u=Value.float b t from r); cases e; rfl
 | ref a=>cases (show u=Value.ref a from r); rfl
 | ty n=>cases (show u=Value.type n from r); rfl
section
variable {P:Program} {w:World} {H H':Hp} {h h':Heap} {a C dx:Addr} {fs cQ:List (Str × V)}
theorem Lp (hok:HOk P w H h) (e:H a=some (.ins C dx fs)):∃ mA,a8k h a dx C mA/\(∀ f,Kd (fs.lookup f) (mA f))/\PySem.Within mA (fs.map (·.1))/\fs.length<=1000/\H dx=some (.own a):=by
 obtain ⟨d,z,ne,ob,mA,n,r,q⟩:=(show qu P w H h a (.ins C dx fs) from hok a _ e);exact ⟨mA,⟨ob,n,ne⟩,r,q,z,d⟩
end
structure Cls (K:PySem.W.Frag) (C:Addr):Prop where
 pg:PySem.W.plainGet K C Str.empty=true
 hd:PySem.W.hasDictIn K C=true
 po:PySem.W.plainOver K C=true
 sa:PySem.W.findIn K (.ref C) "__setattr__" = some (some (.builtin "object.__setattr__"))
theorem Cls.get {K:PySem.W.Frag} {C:Addr} (c:Cls K C) (f:Str):PySem.W.plainGet K C f=true:=c.pg
def Bl (K:PySem.W.Frag) (C:Addr) (f:Str):Prop:=PySem.W.findIn K (.ref C) f=some none
theorem Bl.taker {K:PySem.W.Frag} {C:Addr} {f:Str} (n:Bl K C f):PySem.W.takerIn K C f=some none:=by
 unfold PySem.W.takerIn;rw [show PySem.W.findIn K (.ref C) f=some none from n];rfl
structure Con (K:PySem.W.Frag) (C:Addr) (f:Str) (v:V) (u:Value):Prop where
 at_:PySem.W.findIn K (.ref C) f=some (some u)
 rel:RelV v u
 get:PySem.W.specialIn K u "__get__" = some none
 cp:PySem.W.copiedNames.contains f=false
structure Meth (K:PySem.W.Frag) (C:Addr) (m:Str) (f:Addr):Prop where
 at_:PySem.W.findIn K (.ref C) m=some (some (.ref f))
 fn:PySem.W.isFn K (.ref f)=true
 kp:PySem.W.keepIn K (.ref f)=true
section
variable {X:Cx} {pins:List (Addr × Obj)} {σ:St} {H:Hp} {s:Shared} {a C dx:Addr} {fs:List (Str × V)} {f:Str} {v:V} {A:Around} {E:Value->Shared->Prop}
theorem Vg {b:Bool} {Q:Value->Shared->Prop} (I:Inv X pins σ H s) (e:H a=some (.ins C dx fs)) (c:Cls X.K C) (n:Bl X.K C f) (l:fs.lookup f=some v)
  (h:∀ u s',Inv X pins σ H s'->RelV v u->Q u s'):wpAny (model X.prog X.w) A (getAttr (.ref a) f b) Q E s:=by
 obtain ⟨mA,O,r,_,_,_⟩:=Lp I.hok e;obtain ⟨u,hu,ru⟩:=Kd.some_of (v:=v) (o:=mA f) (by rw [<- l]; exact r f);exact get_map I.kIn O (c.get f) c.hd n hu (Zt ru) (h u _ (I.tok _) ru)
theorem Jm {m:Str} {g:Addr} {pl:Sem Bool} {Q:Value × List Value->Shared->Prop} (I:Inv X pins σ H s) (e:H a=some (.ins C dx fs)) (c:Cls X.K C) (k:Meth X.K C m g) (l:fs.lookup m=none)
  (h:Q (.ref g,[.ref a]) s):wpAny (model X.prog X.w) A (getMethod (.ref a) m pl) Q E s:=by
 obtain ⟨mA,O,r,_,_,_⟩:=Lp I.hok e;have hn:mA m=none:=Kd.none_of (by rw [<- l]; exact r m);exact a1k I.kIn O (c.get m) k.at_ k.fn hn h
theorem Vd {y:V} {u:Value} {Q:Unit->Shared->Prop} (I:Inv X pins σ H s) (e:H a=some (.ins C dx fs)) (c:Cls X.K C) (n:Bl X.K C f) (hl:fs.length<1000) (ry:RelV y u)
  (h:∀ s',Inv X pins σ (upd H a (.ins C dx (Lq f y fs))) s'->Q () s'):wpAny (model X.prog X.w) A (setAttr (.ref a) f u) Q E s:=by
 obtain ⟨mA,O,r,wi,_,ho⟩:=Lp I.hok e;have hz:(fs.map (·.1)).length<=sizeLine:=by rw [List.length_map,sizeLine_eq]; omega
 refine a7m I.kIn O c.sa c.po n.taker c.hd wi hz fun h' O' sb=>h _ ?_;have hd:∃ o,h'.get? dx=some o:=let ⟨o,_,_,e',_⟩:=O'.ns; ⟨o,e'⟩;refine I.write (x:=a) (e:=dx) (by rw [e]; exact True.intro) (.inr ho) (fun b q hb z=>(sb.2 b hb).trans z) hd ?_;refine ⟨by rw [d9 O.ne]; exact ho,?_,O.ne,O'.obj,_,O'.ns,fun g=>?_,fun g hg=>?_⟩
 ·have:=Ib f y fs; omega
 ·show Kd ((Lq f y fs).lookup g) (if g=f then some u else mA g);rw [Gw]
  by_cases q:g=f
  ·rw [if_pos q,if_pos q]; exact ry
  ·rw [if_neg q,if_neg q]; exact r g
 ·by_cases q:g=f
  ·rw [q]; exact (Hf f y fs).1
  ·refine (Hf f y fs).2 g (wi g fun z=>hg ?_);show (if g=f then some u else mA g)=none;rw [if_neg q]; exact z
theorem Inv.made (I:Inv X pins σ H s):Inv X pins σ (upd (upd H s.heap.objs.size (.own (s.heap.objs.size+1))) (s.heap.objs.size+1) (.ins C s.heap.objs.size []))
  { s with heap:=(s.heap.push PySem.W.emptyDict).push (PySem.W.instObj C s.heap.objs.size) }:=by
 have e1:(s.heap.push PySem.W.emptyDict).get? s.heap.objs.size=some PySem.W.emptyDict:=Heap.get?_push_size s.heap rfl
 have e2:((s.heap.push PySem.W.emptyDict).push (PySem.W.instObj C s.heap.objs.size)).get? (s.heap.objs.size+1)=some (PySem.W.instObj C s.heap.objs.size):=by
  have:=Heap.get?_push_size (s.heap.push PySem.W.emptyDict) (o:=PySem.W.instObj C s.heap.objs.size) rfl
  rwa [Heap.size_push] at this
 have e3:(s.heap.push PySem.W.emptyDict).Ns s.heap.objs.size (fun _=>none):=⟨PySem.W.emptyDict,#[],_,e1,rfl,(fun e he=>absurd he (by simp)),fun _=>rfl⟩;have I1:=I.laid (a:=s.heap.objs.size) (o:=.own (s.heap.objs.size+1)) (h':=s.heap.push PySem.W.emptyDict) (t':=s.toks) (fun b u q=>Heap.get?_push_of_some _ q) (Nat.le_refl _) ⟨_,e1⟩;refine I1.laid (a:=s.heap.objs.size+1) (o:=.ins C s.heap.objs.size []) (t':=s.toks) (fun b u q=>Heap.get?_push_of_some _ q) (Nat.le_of_eq (Heap.size_push _ _)) ?_;have ne:s.heap.objs.size≠s.heap.objs.size+1:=Nat.ne_of_lt (Nat.lt_succ_self _);refine ⟨by rw [d9 ne,d8],Nat.zero_le _,ne,e2,fun _=>none,(Heap.Ns1.of_empty e3).at fun o q=>Heap.get?_push_of_some _ q,fun _=>True.intro,fun y hy=>absurd rfl hy⟩
theorem Zd {prog:Program} {w:World} {env:Env} {e:Expr} {f:Str} {pos:Pos} {s:Shared} {Q:Value->Shared->Prop} (hb:attributeBase e f env (eval e env)=eval e env)
  (h:wpAny (model prog w) A (eval e env) (fun o ag=>wpAny (model prog w) A (getAttr o f true) Q E ag) E s):wpAny (model prog w) A (eval (.Attribute e f pos) env) Q E s :=
 Attribute_any_ h (by rw [arm_eval_Attribute,hb])
end
noncomputable def aez (K:PySem.W.Frag) (ta:TE) (f:Str):TE:=fun σ H Q=>ta σ H fun x H1=>∃ a C dx fs v,x=.ref a/\H1 a=some (.ins C dx fs)/\Cls K C/\Bl K C f/\fs.lookup f=some v/\Q v H1
noncomputable def af5 (K:PySem.W.Frag) (ta tv:TE) (f:Str):TS:=fun D σ H=>tv σ H fun y H1=>ta σ H1 fun x H2=>∃ a C dx fs,x=.ref a/\H2 a=some (.ins C dx fs)/\Cls K C/\Bl K C f/\fs.length<1000 /\
 D.nx σ (upd H2 a (.ins C dx (Lq f y fs)))
section
variable {X:Cx} {o e value:Expr} {f:Str} {pos pos' aH:Pos} {ta tv:TE}
theorem aas (he:PE X e ta) (hb:attributeBase e f X.env (eval e X.env)=eval e X.env):PE X (.Attribute e f pos) (aez X.K ta f):=by
 intro pins s σ H Q I h;refine Zd hb (thn (he pins s σ H _ I h) fun u s1 z0=>?_);obtain ⟨x,H1,I1,rx,a,C,dx,fs,v,ex,ea,c,n,l,q⟩:=z0;subst ex;obtain rfl:u=Value.ref a:=rx;exact Vg I1 ea c n l fun u' s2 I2 ru=>⟨v,H1,I2,ru,q⟩
theorem a3r (ha:PE X o ta) (hv:PE X value tv) (hs:swapsWith value (some (.Attribute o f pos')) pos.line X.env=pure false):PS X (.Assign [.Attribute o f pos'] value pos) (af5 X.K ta tv f):=by
 intro pins s σ H D I h;refine plainObj_wpAny_Assign_Attribute (thn (hv pins s σ H _ I h) fun u s1 ⟨y,H1,I1,ry,q⟩=>thn (ha pins s1 σ H1 _ I1 q) fun ov s2 ⟨x,H2,I2,rx,a,C,dx,fs,ex,ea,c,n,l,q2⟩=>?_) hs;subst ex;obtain rfl:ov=Value.ref a:=rx;exact Vd I2 ea c n l ry fun s3 I3=>⟨σ,_,I3,q2⟩
end
section
variable {X:Cx} {pins:List (Addr × Obj)} {σ:St} {H:Hp} {s:Shared} {A:Around} {E:Value->Shared->Prop} {Q:Value->Shared->Prop} {c:Value} {b:Bool}
inductive Vv (K:PySem.W.Frag) (H:Hp):V->Value->Prop where
 | non:Vv K H .non (.type "NoneType")
 | bl (x:Bool):Vv K H (.bl x) (.type "bool")
 | int (i:Int):Vv K H (.int i) (.type "int")
 | str (x:Str):Vv K H (.str x) (.type "str")
 | flt (x:UInt64):Vv K H (.flt x) (.type "float")
 | lst {a:Addr} {xs:List V} (e:H a=some (.lst xs)):Vv K H (.ref a) (.type "list")
 | frz {a:Addr} {o:Obj} {xs:List V} (e:H a=some (.frz o (.lst xs))):Vv K H (.ref a) (.type "list")
 | tup {a:Addr} {xs:List V} (e:H a=some (.tup xs)):Vv K H (.ref a) (.type "tuple")
 | dK {a:Addr} {kvs:List (Key × V)} (e:H a=some (.dK kvs)):Vv K H (.ref a) (.type "dict")
 | dT {a:Addr} {kvs:List (List Key × V)} (e:H a=some (.dT kvs)):Vv K H (.ref a) (.type "dict")
 | ins {a C dx:Addr} {fs:List (Str × V)} (e:H a=some (.ins C dx fs)) (cl:Cls K C) (ha:PySem.W.findIn K (.ref C) "__class__" = some (some (.builtin "object.__class__")))
   (hn:PySem.W.specialIn K (.builtin "object.__class__") "__get__" = some (some (.builtin "getset_descriptor.__get__"))) (fm:PySem.W.takesIn K (.builtin "object.__class__")=some true)
   (hm:PySem.W.mroIn K C (.type "object")=some true):Vv K H (.ref a) (.ref C)
theorem Eu {x:V} {u t:Value} (I:Inv X pins σ H s) (rx:RelV x u) (ty:Vv X.K H x t) (e:PySem.W.kitOne X.K t c=some b) (h:∀ tk,Q (.bool b) { s with toks:=tk }) :
  wpAny (model X.prog X.w) A (call (.builtin "isinstance") [u,c]) Q E s:=by
 cases ty with
 | non=>cases (show u=Value.none from rx); exact PySem.W.kia_one PySem.W.kitx_none I.kIn True.intro e (fun z=>nomatch z) h
 | bl y=>cases (show u=Value.bool y from rx); exact PySem.W.kia_one PySem.W.kitx_bool I.kIn True.intro e (fun z=>nomatch z) h
 | int i=>obtain ⟨t,q⟩:=(show ∃ t,u=Value.int i t from rx); cases q; exact PySem.W.kia_one PySem.W.kitx_int I.kIn True.intro e (fun z=>nomatch z) h
 | str y=>obtain ⟨t,q⟩:=(show ∃ t,u=Value.str y t from rx); cases q; exact PySem.W.kia_one PySem.W.kitx_str I.kIn True.intro e (fun z=>nomatch z) h
 | flt y=>obtain ⟨t,q⟩:=(show ∃ t,u=Value.float y t from rx); cases q; exact PySem.W.kia_one PySem.W.kitx_float I.kIn True.intro e (fun z=>nomatch z) h
 | @lst a xs ea =>
  cases (show u=Value.ref a from rx);obtain ⟨_,_,n,_,h1⟩:=(show qu X.prog X.w H s.heap a (.lst xs) from I.hok a _ ea);exact PySem.W.kia_one PySem.W.kitx_list I.kIn ⟨_,h1,rfl⟩ e (fun z=>nomatch z) h
 | @frz a ob xs ea =>
  cases (show u=Value.ref a from rx);obtain ⟨_,_,_,n,_,h1⟩:=(show qu X.prog X.w H s.heap a (.frz ob (.lst xs)) from I.hok a _ ea);exact PySem.W.kia_one PySem.W.kitx_list I.kIn ⟨_,h1,rfl⟩ e (fun z=>nomatch z) h
 | @tup a xs ea =>
  cases (show u=Value.ref a from rx);obtain ⟨_,_,_,p⟩:=(show qu X.prog X.w H s.heap a (.tup xs) from I.hok a _ ea);obtain ⟨o,h1,h2,_⟩:=p;exact PySem.W.kia_one PySem.W.kitx_tuple I.kIn ⟨o,h1,h2⟩ e (fun z=>nomatch z) h
 | @dK a kvs ea =>
  cases (show u=Value.ref a from rx);obtain ⟨_,_,vs,_,p⟩:=(show qu X.prog X.w H s.heap a (.dK kvs) from I.hok a _ ea);obtain ⟨o,es,ep,h1,h2,_⟩:=p;exact PySem.W.kia_one PySem.W.kitx_dict I.kIn ⟨o,h1,h2.1⟩ e (fun z=>nomatch z) h
 | @dT a kvs ea =>
  cases (show u=Value.ref a from rx);obtain ⟨_,_,xs,_,o,es,ep,h1,h2,_⟩:=(show qu X.prog X.w H s.heap a (.dT kvs) from I.hok a _ ea);exact PySem.W.kia_one PySem.W.kitx_dict I.kIn ⟨o,h1,h2.1⟩ e (fun z=>nomatch z) h
 | @ins a C dx fs ea cl ha hn fm hm =>
  cases (show u=Value.ref a from rx);obtain ⟨mA,O,_⟩:=Lp I.hok ea;obtain ⟨od,J,_⟩:=O.look;exact PySem.W.kia_one (PySem.W.kitx_own (cl.get _) cl.hd ha hn fm hm) I.kIn J e (fun z=>nomatch z) h
end
end L2
namespace L2
open PySem PySem.Spec PyProof.Rows
structure xu (k:Nat) (A:Around):Prop where
 hd:A.handled=none
 dp:A.depth+3 * k+5<recursionLimit
 un:A.units+16 * k+200<cLine
theorem xu.mono {j k:Nat} {A:Around} (r:xu k A) (h:j<=k):xu j A:=⟨r.hd,by have:=r.dp; omega,by have:=r.un; omega⟩
theorem xu.deeper {k:Nat} {A:Around} (r:xu (k+1) A) (env:Env):xu k (A.deeper env) :=
 ⟨r.hd,by have:=r.dp; show A.depth+1+3 * k+5<_; omega,by have:=r.un; show A.units+3+16 * k+200<_; omega⟩
theorem Vq {A:Around} {C:Addr} {us:List Value} {kw:List (Str × Value)}:(A.under (.builtin "type.__call__" ⟨.ref C::us,kw⟩)).depth=A.depth+1:=by
 first | rfl | simp [Around.under,Code.weight,Code.isCreation,Code.isGuard,Code.isCaller,Code.frames,Code.isFrame,guardIds]
theorem Vl {A:Around} {C:Addr} {us:List Value} {kw:List (Str × Value)}:(A.under (.builtin "type.__call__" ⟨.ref C::us,kw⟩)).units=A.units+1:=by
 first | rfl | simp [Around.under,Code.cUnits,Code.frames,Code.isFrame]
theorem xu.make {k:Nat} {A:Around} (r:xu (k+1) A) (C:Addr) (us:List Value) (kw:List (Str × Value)):xu k (A.under (.builtin "type.__call__" ⟨.ref C::us,kw⟩)) :=
 ⟨r.hd,by have:=r.dp; rw [Vq]; omega,by have:=r.un; rw [Vl]; omega⟩
theorem xu.depth {k:Nat} {A:Around} (r:xu k A):A.depth<recursionLimit:=by have:=r.dp; omega
theorem xu.units {k:Nat} {A:Around} (r:xu k A):A.units+64<cLine:=by have:=r.un; omega
def a8u:TA:=fun _ H Q=>Q [] H
def V0 (ta:TE) (tr:TA):TA:=fun σ H Q=>ta σ H fun x H1=>tr σ H1 fun xs H2=>Q (x::xs) H2
section
variable {X:Cx} {e:Expr} {es:List Expr} {te:TE} {t:TA} {pos:Pos}
theorem xr:PA X [] a8u:=fun _ _ _ _ H Q I h=>Calls.spliced_nil ⟨[],H,I,.nil,h⟩
theorem mq (ha:PE X e te) (hr:PA X es t) (hs:starEach (e::es) X.env=(false,eval e X.env)::starEach es X.env:=by rfl):PA X (e::es) (V0 te t):=by
 intro pos pins s σ H Q I h;rw [hs];show wpAny _ _ (spliced ((false,eval e X.env)::backTo pos (starEach es X.env))) _ _ s;refine Calls.spliced_cons (thn (ha pins s σ H _ I h) fun u s1 z0=>?_);obtain ⟨x,H1,I1,r1,q1⟩:=z0;exact thn (hr pos pins s1 σ H1 _ I1 q1) fun us s2 ⟨xs,H2,I2,r2,q2⟩=>⟨x::xs,H2,I2,.cons r1 r2,q2⟩
noncomputable def afh (t:TA):TE:=fun σ H Q=>t σ H fun xs H1=>xs.length<=sizeLine/\∀ p,H1 p=none->Q (.ref p) (upd H1 p (.tup xs))
noncomputable def af3 (t:TA):TE:=fun σ H Q=>t σ H fun xs H1=>xs.length<=sizeLine/\∀ p,H1 p=none->Q (.ref p) (upd H1 p (.lst xs))
theorem a3v {x1} (h:PA X es t):PE X (.Tuple es x1 pos) (afh t):=by
 intro pins s σ H Q I hq;refine wpAny_Tuple_spliced (thn (h pos pins s σ H _ I hq) fun us s1 ⟨xs,H1,I1,r,z,q⟩=>⟨by rw [<- r.length]; exact z,?_⟩);have hf:H1 s1.heap.objs.size=none:=I1.hok.fresh (Nat.le_refl _);refine ⟨.ref s1.heap.objs.size,upd H1 s1.heap.objs.size (.tup xs),I1.laid (t':=s1.toks) (fun b u e=>Heap.get?_push_of_some _ e) (Nat.le_refl _) ?_,rfl,q _ hf⟩;exact ⟨z,us,r,⟨_,Heap.get?_push_size _ rfl,rfl,rfl,_,rfl⟩⟩
theorem Zi (h:PA X es t):PE X (.List es pos) (af3 t):=by
 intro pins s σ H Q I hq;refine wpAny_List_spliced (thn (h pos pins s σ H _ I hq) fun us s1 ⟨xs,H1,I1,r,z,q⟩=>⟨by rw [<- r.length]; exact z,?_⟩);have hf:H1 s1.heap.objs.size=none:=I1.hok.fresh (Nat.le_refl _);refine ⟨.ref s1.heap.objs.size,upd H1 s1.heap.objs.size (.lst xs),I1.laid (t':=s1.toks) (fun b u e=>Heap.get?_push_of_some _ e) (Nat.le_refl _) ?_,rfl,q _ hf⟩;exact ⟨z,us,0,r,Heap.get?_push_size _ rfl⟩
end
abbrev Sp:=List V->Hp->VK->XK->Prop
abbrev CXT:=List Env->Hp->Shared->XK->Value->Shared->Prop
structure a6s (P:Program) (w:World) (K:PySem.W.Frag) (mg:Str->Option Value) (base:Heap) (A:Around) (outer:List Env) (s:Shared) (H:Hp):Prop where
 frames:A.frames=some outer
 mod:Mod K mg base
 bs:∀ b o,base.get? b=some o->s.heap.get? b=some o/\H b=none
 bsz:base.objs.size<=s.heap.objs.size
 Ru:s.heap.FunFrames base outer
 frf:∀ b∈frs outer,H b=none
 hok:HOk P w H s.heap
 bare:AllBare s.gens
def CE (outer:List Env) (P:Program) (w:World) (H:Hp) (s:Shared) (Q:VK) (u:Value) (s':Shared):Prop :=
 ∃ v H',s'.os=s.os/\AllBare s'.gens/\Un (frs outer) [] H H' s.heap s'.heap/\HOk P w H' s'.heap/\RelV v u/\Q v H'
def CR (CX:CXT) (outer:List Env) (P:Program) (w:World) (H:Hp) (s:Shared) (Q:VK) (E:XK) (r:Result) (s':Shared):Prop :=
 match r with
 | .ok (.ret u)=>CE outer P w H s Q u s'
 | .ok _=>False
 | .error e=>CX outer H s E e s'
structure Aw (P:Program) (w:World) (K:PySem.W.Frag) (mg:Str->Option Value) (base:Heap) (CX:CXT) (k:Nat) (f:Addr) (fd:FuncData) (ps:List Str) (sp:Sp):Prop where
 len:∀ vs H Q E,sp vs H Q E->vs.length=ps.length
 run:∀ (A:Around) (outer:List Env) (s:Shared) (H:Hp) (args:Args) (us:List Value) (vs:List V) (Q:VK) (E:XK),xu k A->a6s P w K mg base A outer s H->BindsTo s fd args (ps.zip us)->Vals vs us->sp vs H Q E ->
  codeAny (model P w) A (.call (.ref f) args) (CR CX outer P w H s Q E) s
theorem Aw.mono {P:Program} {w:World} {K:PySem.W.Frag} {mg:Str->Option Value} {base:Heap} {CX:CXT} {j k:Nat} {f:Addr} {fd:FuncData} {ps:List Str} {sp:Sp} (F:Aw P w K mg base CX j f fd ps sp) (h:j<=k) :
  Aw P w K mg base CX k f fd ps sp:=⟨F.len,fun A outer s H args us vs Q E hr=>F.run A outer s H args us vs Q E (hr.mono h)⟩
theorem Aw.imp {P:Program} {w:World} {K:PySem.W.Frag} {mg:Str->Option Value} {base:Heap} {CX:CXT} {k:Nat} {f:Addr} {fd:FuncData} {ps:List Str} {sp fw:Sp} (F:Aw P w K mg base CX k f fd ps sp)
  (h:∀ vs H Q E,fw vs H Q E->sp vs H Q E):Aw P w K mg base CX k f fd ps fw :=
 ⟨fun vs H Q E q=>F.len vs H Q E (h _ _ _ _ q),fun A outer s H args us vs Q E hr he hb hv hs=>F.run A outer s H args us vs Q E hr he hb hv (h _ _ _ _ hs)⟩
theorem a6s.make {P:Program} {w:World} {K:PySem.W.Frag} {mg:Str->Option Value} {base:Heap} {A:Around} {outer:List Env} {s:Shared} {H:Hp} (e:a6s P w K mg base A outer s H) (C:Addr) (us:List Value) (kw:List (Str × Value)) :
  a6s P w K mg base (A.under (.builtin "type.__call__" ⟨.ref C::us,kw⟩)) outer s H:=⟨by first | exact e.frames | (simpa [Around.under,Code.envs,Code.isFrame,pushEnvs] using e.frames),e.mod,e.bs,e.bsz,e.Ru,e.frf,e.hok,e.bare⟩
section
variable {X:Cx} {pins:List (Addr × Obj)} {σ:St} {H:Hp} {s s':Shared}
theorem Inv.env0 (I:Inv X pins σ H s):a6s X.prog X.w X.K X.mg X.base X.A X.stack s H :=
 ⟨I.ok.frames,I.ok.mod,I.bs,Nat.le_trans I.ok.bsz I.sz,I.stack,I.Ph,I.hok,I.bare⟩
theorem Inv.after {Q:VK} {u:Value} (I:Inv X pins σ H s) (h:CE X.stack X.prog X.w H s Q u s'):EP X pins σ Q u s':=by
 obtain ⟨v,H',os,bare,un,hok,r,q⟩:=h;obtain ⟨hh,g,d,t,os'⟩:=s';obtain rfl:os'=s.os:=os;exact ⟨v,H',I.call (h':=hh) (g':=g) (d':=d) (t':=t) (ch:=[]) un hok bare (fun b z=>absurd z (by simp)),r,q⟩
end
def acy (sp:Sp) (aN:List V) (E:XK) (t:TA):TE:=fun σ H Q=>t σ H fun vs H1=>sp (vs++aN) H1 Q E
noncomputable def aa2 (C:Addr) (m:Str) (sp:Sp) (aN:List V) (E:XK) (ta:TE) (t:TA):TE:=fun σ H Q=>ta σ H fun x H1=>∃ a dx fs,x=.ref a/\H1 a=some (.ins C dx fs)/\fs.lookup m=none /\
 t σ H1 fun vs H2=>sp (x::(vs++aN)) H2 Q E
noncomputable def ae4 (C:Addr) (sp:Sp) (aN:List V) (E:XK) (t:TA):TE:=fun σ H Q=>t σ H fun vs H1=>∀ x dx,H1 x=none->H1 dx=none->dx≠x ->
 sp (.ref x::(vs++aN)) (upd (upd H1 dx (.own x)) x (.ins C dx [])) (fun v H2=>v=.non/\Q (.ref x) H2) E
def Binds (K:PySem.W.Frag) (fd:FuncData) (ps:List Str) (ds:List Value):Prop :=
 ∀ (s:Shared) (us:List Value),K.In s.heap->(us++ds).length=ps.length->BindsTo s fd ⟨us,[]⟩ (ps.zip (us++ds))
theorem Binds.all {K:PySem.W.Frag} {fd:FuncData} {ps:List Str} (h:∀ us:List Value,us.length=ps.length->bindArgs fd ⟨us,[]⟩=pure (ps.zip us)):Binds K fd ps []:=fun s us _ hl=>by
 rw [List.append_nil] at hl ⊢;exact .of_eq (h us hl)
def Passes (CX:CXT) (X:Cx) (E:XK):Prop:=∀ (pins:List (Addr × Obj)) (σ:St) (H:Hp) (s:Shared) (e:Value) (s':Shared),Inv X pins σ H s->CX X.stack H s E e s'->X.xe e s'
section
variable {X:Cx} {CX:CXT} {k:Nat} {f C:Addr} {fd:FuncData} {ps:List Str} {sp:Sp} {aN:List V} {ds:List Value} {E:XK} {x m:Str} {p pos apos:Pos} {e o:Expr} {es:List Expr} {ta:TE} {t:TA}
theorem a01 {pins:List (Addr × Obj)} {σ:St} {H:Hp} {s:Shared} {Q:VK} {us:List Value} {vs:List V} (F:Aw X.prog X.w X.K X.mg X.base CX k f fd ps sp) (hr:xu k X.A) (hb:Binds X.K fd ps ds) (hd:Vals aN ds) (hx:Passes CX X E)
  (I:Inv X pins σ H s) (r:Vals vs us) (h:sp (vs++aN) H Q E):wpAny (model X.prog X.w) X.A (call (.ref f) us) (EP X pins σ Q) X.xe s:=by
 have r2:Vals (vs++aN) (us++ds):=r.append hd;have hl:(us++ds).length=ps.length:=by rw [<- r2.length]; exact F.len _ _ _ _ h
 refine wpAny_call (codeAny_mono (F.run X.A X.stack s H ⟨us,[]⟩ (us++ds) (vs++aN) Q E hr I.env0 (hb s us I.kIn hl) r2 h) fun r s' hq=>?_);cases r with
 | error e=>exact hx pins σ H s e s' I hq
 | ok fl =>
  cases fl with
  | ret u=>exact I.after hq
  | next=>exact False.elim hq
  | brk=>exact False.elim hq
  | cont=>exact False.elim hq
theorem Wy (F:Aw X.prog X.w X.K X.mg X.base CX k f fd ps sp) (hr:xu k X.A) (hg:Gl X x) (hm:X.mg x=some (.ref f)) (hk:PySem.W.keepIn X.K (.ref f)=true) (hb:Binds X.K fd ps ds) (hd:Vals aN ds) (hx:Passes CX X E)
  (ha:PA X (e::es) t) (aJ:(x==("__debug__" : Str))=false:=by decide) (he:starEach (e::es) X.env=(false,eval e X.env)::starEach es X.env:=by rfl) (aD:(backTo pos (starEach es X.env)).any (·.1)=false:=by rfl) :
  PE X (.Call (.Name x p) (e::es) [] pos) (acy sp aN E t):=by
 intro pins s σ H Q I h;refine wpAny_Call_Name_kw (Iw I hg hm ?_ aJ);refine PySem.W.callWith_K (h₀:=X.base) I.ok.mod.kin hk (thn (ha pos pins s σ H _ I h) fun us s1 ⟨vs,H1,I1,r,q⟩=>⟨I1.kIn,?_⟩) he aD;exact a01 F hr hb hd hx I1 r q
theorem Ww {pl:Sem Bool} (he:PE X o ta) (c:Cls X.K C) (hm:Meth X.K C m f) (F:Aw X.prog X.w X.K X.mg X.base CX k f fd ps sp) (hr:xu k X.A) (hb:Binds X.K fd ps ds) (hd:Vals aN ds) (hx:Passes CX X E) (ha:PA X (e::es) t)
  (hst:starEach (e::es) X.env=(false,eval e X.env)::starEach es X.env:=by rfl) (aD:(backTo pos (starEach es X.env)).any (·.1)=false:=by rfl)
  (ht:eval (.Call (.Attribute o m apos) (e::es) [] pos) X.env=(do
   let ov <- eval o X.env
   standAt apos.atName
   let (f,first) <- holding [ov] (getMethod ov m pl)
   callWith pos f first (backTo pos (starEach (e::es) X.env)) (backToKw pos (keywordEach [] X.env))):=by rfl) :
  PE X (.Call (.Attribute o m apos) (e::es) [] pos) (aa2 C m sp aN E ta t):=by
 intro pins s σ H Q I h;refine PySem.W.methodCall_KW (pl:=pl) (thn (he pins s σ H _ I h) fun u s1 z0=>?_) ht;obtain ⟨x,H1,I1,rx,a,dx,fs,ex,ea,l,q⟩:=z0;subst ex;obtain rfl:u=Value.ref a:=rx;refine Jm I1 ea c hm l ?_;refine PySem.W.callWith_K (first:=[.ref a]) (h₀:=X.base) I.ok.mod.kin hm.kp (thn (ha pos pins s1 σ H1 _ I1 q) fun us s2 ⟨vs,H2,I2,r,q2⟩=>⟨I2.kIn,?_⟩) hst aD;exact a01 (us:=.ref a::us) (vs:=.ref a::vs) F hr hb hd hx I2 (.cons rfl r) q2
theorem Sq {pl:Sem Bool} (he:PE X o ta) (c:Cls X.K C) (hm:Meth X.K C m f) (F:Aw X.prog X.w X.K X.mg X.base CX k f fd ps sp) (hr:xu k X.A) (hb:Binds X.K fd ps ds) (hd:Vals aN ds) (hx:Passes CX X E)
  (ht:eval (.Call (.Attribute o m apos) [] [] pos) X.env=(do
   let ov <- eval o X.env
   standAt apos.atName
   let (f,first) <- holding [ov] (getMethod ov m pl)
   callWith pos f first (backTo pos (starEach [] X.env)) (backToKw pos (keywordEach [] X.env))):=by rfl) :
  PE X (.Call (.Attribute o m apos) [] [] pos) (aa2 C m sp aN E ta a8u):=by
 intro pins s σ H Q I h;refine PySem.W.methodCall_KW (pl:=pl) (thn (he pins s σ H _ I h) fun u s1 z0=>?_) ht;obtain ⟨x,H1,I1,rx,a,dx,fs,ex,ea,l,q⟩:=z0;subst ex;obtain rfl:u=Value.ref a:=rx;refine Jm I1 ea c hm l ?_;exact PySem.W.callWith_K0 (first:=[.ref a]) I1.kIn hm.kp (a01 (us:=[.ref a]) (vs:=[.ref a]) F hr hb hd hx I1 (.cons rfl .nil) q)
structure Mk (K:PySem.W.Frag) (C f:Addr):Prop where
 makes:PySem.W.makesIn K C=true
 init:PySem.W.findIn K (.ref C) "__init__" = some (some (.ref f))
 fn:PySem.W.isFn K (.ref f)=true
 kp:PySem.W.keepIn K (.ref C)=true
theorem a0b {pins:List (Addr × Obj)} {σ:St} {H:Hp} {s:Shared} {Q:VK} {us:List Value} {vs:List V} (M:Mk X.K C f) (F:Aw X.prog X.w X.K X.mg X.base CX k f fd ps sp) (hr:xu (k+1) X.A) (hb:Binds X.K fd ps ds) (hd:Vals aN ds)
  (hx:Passes CX X E) (I:Inv X pins σ H s) (r:Vals vs us)
  (h:∀ x dx,H x=none->H dx=none->dx≠x->sp (.ref x::(vs++aN)) (upd (upd H dx (.own x)) x (.ins C dx [])) (fun v H2=>v=.non/\Q (.ref x) H2) E) :
  wpAny (model X.prog X.w) X.A (call (.ref C) us) (EP X pins σ Q) X.xe s:=by
 have hq:=h (s.heap.objs.size+1) s.heap.objs.size (I.hok.fresh (Nat.le_succ _)) (I.hok.fresh (Nat.le_refl _)) (Nat.ne_of_lt (Nat.lt_succ_self _));have I2:=Inv.made (C:=C) I;have r2:Vals (V.ref (s.heap.objs.size+1)::(vs++aN)) (Value.ref (s.heap.objs.size+1)::(us++ds)):=.cons rfl (r.append hd)
 have hl:(Value.ref (s.heap.objs.size+1)::us++ds).length=ps.length:=by
  have e:=r2.length;rw [F.len _ _ _ _ hq] at e;exact e.symm
 refine wpAny_call (a3d (f:=f) I.kIn M.makes M.init (beq_iff_eq.mp M.fn) (codeAny_mono (F.run _ X.stack _ _ ⟨Value.ref (s.heap.objs.size+1)::us,[]⟩ (Value.ref (s.heap.objs.size+1)::(us++ds)) _ _ E (hr.make C us [])
  (I2.env0.make C us []) (hb _ (Value.ref (s.heap.objs.size+1)::us) I2.kIn hl) r2 hq) fun r s' du=>?_))
 cases r with
 | error e=>exact hx pins σ _ _ e s' I2 du
 | ok fl =>
  cases fl with
  | ret u =>
   obtain ⟨v,H',I3,rv,ev,q3⟩:=I2.after du;subst ev;exact ⟨rv,⟨V.ref (s.heap.objs.size+1),H',I3,rfl,q3⟩⟩
  | next=>exact False.elim du
  | brk=>exact False.elim du
  | cont=>exact False.elim du
theorem a79 (M:Mk X.K C f) (F:Aw X.prog X.w X.K X.mg X.base CX k f fd ps sp) (hr:xu (k+1) X.A) (hg:Gl X x) (hm:X.mg x=some (.ref C)) (hb:Binds X.K fd ps ds) (hd:Vals aN ds) (hx:Passes CX X E)
  (ha:PA X (e::es) t) (aJ:(x==("__debug__" : Str))=false:=by decide) (he:starEach (e::es) X.env=(false,eval e X.env)::starEach es X.env:=by rfl) (aD:(backTo pos (starEach es X.env)).any (·.1)=false:=by rfl) :
  PE X (.Call (.Name x p) (e::es) [] pos) (ae4 C sp aN E t):=by
 intro pins s σ H Q I h;refine wpAny_Call_Name_kw (Iw I hg hm ?_ aJ);refine PySem.W.callWith_K (h₀:=X.base) I.ok.mod.kin M.kp (thn (ha pos pins s σ H _ I h) fun us s1 ⟨vs,H1,I1,r,q⟩=>⟨I1.kIn,?_⟩) he aD;exact a0b M F hr hb hd hx I1 r q
end
section
variable {X:Cx} {CX:CXT} {k:Nat} {f C:Addr} {fd:FuncData} {ps ks:List Str} {sp:Sp} {E:XK} {x m:Str} {p pos apos gh:Pos} {e o:Expr} {es:List Expr} {ik:List Keyword} {te ta:TE} {t tk:TA} {nm:Option Str}
structure aeu (K:PySem.W.Frag) (fd:FuncData) (ps ks:List Str) (g:List Value->List Value->List Value) (gV:List V->List V->List V):Prop where
 to:∀ (s:Shared) (us ws:List Value),K.In s.heap->(g us ws).length=ps.length->BindsTo s fd ⟨us,ks.zip ws⟩ (ps.zip (g us ws))
 rel:∀ {vs:List V} {us:List Value} {zs:List V} {ws:List Value},Vals vs us->Vals zs ws->Vals (gV vs zs) (g us ws)
variable {g:List Value->List Value->List Value} {gV:List V->List V->List V}
end
structure zp (N P:List Str) (sc:Scope):Prop where
 kind:sc.kind=.function
 co:sc.isCoroutine=false
 gen:sc.isGenerator=false
 nd:N.Nodup
 pre:N.take P.length=P
 par:∀ x∈P,sc.names.lookup x=some .local\/sc.names.lookup x=some .cell
 nofree:∀ y∈sc.names,y.2≠.free
theorem O4 {kindOf:Str->Option NameKind} {x:Str}:∀ {binds:List (Str × Value)} {m:Str->Option Value},(∀ v,(x,v)∉binds)->bindL kindOf binds m x=m x
 | [],_,_=>rfl
 | (n,v)::r,m,h=>by
  unfold bindL;rw [O4 fun w hw=>h w (List.mem_cons_of_mem _ hw)];split
  ·have:x≠n:=by rintro rfl; exact h v List.mem_cons_self
   simp [this]
  ·rfl
theorem P0 {kindOf:Str->Option NameKind} {x:Str}:∀ {binds:List (Str × Value)} {m:Str->Option Value},(∀ v,(x,v)∉binds)->bindC kindOf binds m x=m x
 | [],_,_=>rfl
 | (n,v)::r,m,h=>by
  unfold bindC;rw [P0 fun w hw=>h w (List.mem_cons_of_mem _ hw)];split
  ·rfl
  ·have:x≠n:=by rintro rfl; exact h v List.mem_cons_self
   simp [this]
theorem N7 {kindOf:Str->Option NameKind} {x:Str} {v:Value}:∀ {P:List Str} {vs:List Value} {i:Nat} {m:Str->Option Value},P.Nodup->P[i]? = some x->vs[i]? = some v->kindOf x=some .local ->
  bindL kindOf (P.zip vs) m x=some v
 | [],_,_,_,_,h,_,_=>by simp at h
 | _::_,[],_,_,_,_,h,_=>by simp at h
 | p::P,w::vs,0,m,nd,h1,h2,hk=>by
  simp at h1 h2; subst h1; subst h2;show bindL kindOf ((p,w)::P.zip vs) m p=_;unfold bindL;rw [O4 fun v hv=>(List.nodup_cons.mp nd).1 (List.of_mem_zip hv).1,if_pos hk];simp
 | p::P,w::vs,i+1,m,nd,h1,h2,hk=>by
  show bindL kindOf ((p,w)::P.zip vs) m x=_;unfold bindL;exact N7 (i:=i) (List.nodup_cons.mp nd).2 (by simpa using h1) (by simpa using h2) hk
theorem Ow {kindOf:Str->Option NameKind} {x:Str} {v:Value}:∀ {P:List Str} {vs:List Value} {i:Nat} {m:Str->Option Value},P.Nodup->P[i]? = some x->vs[i]? = some v->kindOf x≠some .local ->
  bindC kindOf (P.zip vs) m x=some v
 | [],_,_,_,_,h,_,_=>by simp at h
 | _::_,[],_,_,_,_,h,_=>by simp at h
 | p::P,w::vs,0,m,nd,h1,h2,hk=>by
  simp at h1 h2; subst h1; subst h2;show bindC kindOf ((p,w)::P.zip vs) m p=_;unfold bindC;rw [P0 fun v hv=>(List.nodup_cons.mp nd).1 (List.of_mem_zip hv).1,if_neg hk];simp
 | p::P,w::vs,i+1,m,nd,h1,h2,hk=>by
  show bindC kindOf ((p,w)::P.zip vs) m x=_;unfold bindC;exact Ow (i:=i) (List.nodup_cons.mp nd).2 (by simpa using h1) (by simpa using h2) hk
def start (N:List Str) (vs:List V):St:=vs.map some++List.replicate (N.length - vs.length) none
noncomputable def Pg (CX:CXT) (P:Program) (w:World) (K:PySem.W.Frag) (mg:Str->Option Value) (base:Heap) (N:List Str) (qual:Str) (scope:Scope) (f:Addr) (cd:Value) (A:Around) (outer:List Env) (s:Shared) (H:Hp) (E:XK):Cx where
 prog:=P
 w:=w
 K:=K
 mg:=mg
 base:=base
 A:=A.deeper (envOfC qual scope s.heap.objs.size f cd)
 N:=N
 s₀:=s
 H₀:=H
 env:=envOfC qual scope s.heap.objs.size f cd
 outer:=outer
 stack:=envOfC qual scope s.heap.objs.size f cd::outer
 ex:=[]
 calm:=true
 fn:=fun _=>true
 pn:=[]
 xe:=fun e s'=>wpAny (model P w) (A.deeper (envOfC qual scope s.heap.objs.size f cd)) (leaving (envOfC qual scope s.heap.objs.size f cd) e) (fun _ dm=>CX outer H s E e dm) (fun e' dm=>CX outer H s E e' dm) s'
theorem Sv {sc:Scope} {n:Nat} {x:Str} (h:sc.names.lookup x=some .cell):∃ c,(cellsFrom n sc.names []).lookup x=some c:=by
 have q:=PySem.W.cellsFrom_some sc.names n [] (.inl h);exact Option.isSome_iff_exists.mp q
theorem Xz {CX:CXT} {P:Program} {w:World} {K:PySem.W.Frag} {mg:Str->Option Value} {base:Heap} {N ps:List Str} {qual:Str} {scope:Scope} {f:Addr} {cd:Value} {A:Around} {outer:List Env} {s s1:Shared} {H:Hp} {E:XK} {us:List Value} {vs:List V}
  (S:zp N ps scope) (hd:A.handled=none) (e0:a6s P w K mg base A outer s H) (hl:vs.length=ps.length) (r:Vals vs us)
  (x:InCallC s s.heap.objs.size (bindL (envOfC qual scope s.heap.objs.size f cd).kindOf (ps.zip us) fun _=>none) (cellsFrom (s.heap.objs.size+1) scope.names []) (bindC (envOfC qual scope s.heap.objs.size f cd).kindOf (ps.zip us) fun _=>none) s1) :
  Inv (Pg CX P w K mg base N qual scope f cd A outer s H E) [] (start N vs) H s1:=by
 have aD:ps.length<=N.length:=by have:=congrArg List.length S.pre; rw [List.length_take] at this; omega
 obtain ⟨h1,tk,rfl,hk⟩:=x.done;have c4:∀ b:Addr,b∉(Pg CX P w K mg base N qual scope f cd A outer s H E).ex:=fun b z=>absurd (show b∈([]:List Addr) from z) (by simp)
 refine ⟨⟨e0.mod,S.kind,rfl,rfl,Nat.le_refl _,fun y z c h1 h2=>?_,fun y hy=>?_,fun y c _ h=>?_,fun _=>hd,Around.frames_deeper e0.frames,.inr ⟨rfl,rfl⟩,fun b z=>absurd z (c4 b),e0.bs,e0.bsz,fun b _ _=>c4 b,fun b z=>absurd z (c4 b),e0.Ru,e0.frf⟩,
  rfl,e0.bare,Un.kept hk,⟨_,x.toInCall.ns,fun i y v h1 h2 h3=>?_⟩,fun y c h=>⟨_,x.cell y c h⟩,e0.hok.fresh (Nat.le_refl _),fun y c h=>?_,fun p hp=>absurd (show p∈([]:List (Addr × Obj)) from hp) (by simp),e0.hok.kept hk,?_⟩
 ·exact name_of_addr x.apart (PySem.mem_of_lookup h1) (PySem.mem_of_lookup h2)
 ·have hy:scope.names.lookup y=some .cell\/scope.names.lookup y=some .free:=hy;rcases hy with hy | hy
  ·exact Sv hy
  ·exact absurd rfl (S.nofree _ (PySem.mem_of_lookup hy))
 ·exact Nat.le_of_lt (x.above y c (PySem.mem_of_lookup h))
 ·have hi:i<vs.length:=by
   unfold start at h2
   by_cases hi:i<vs.length
   ·exact hi
   ·rw [List.getElem?_append_right (by simpa using hi)] at h2;rw [List.getElem?_replicate] at h2;split at h2 <;> cases h2
  have ha:vs[i]? = some v:=by
   unfold start at h2;rw [List.getElem?_append_left (by simpa using hi),List.getElem?_map] at h2;cases e:vs[i]? with
   | none=>rw [e] at h2; cases h2
   | some a=>rw [e] at h2; cases h2; rfl
  obtain ⟨u,hu,rv⟩:=r.get ha
  have hp:ps[i]? = some y:=by
   rw [<- S.pre,List.getElem?_take_of_lt (by omega)]; exact h1
  have eX:ps.Nodup:=by rw [<- S.pre]; exact S.nd.sublist (List.take_sublist _ _)
  refine ⟨u,rv,?_⟩;rcases S.par y (List.mem_of_getElem? hp) with k | k
  ·exact .inl ⟨k,N7 eX hp hu k⟩
  ·obtain ⟨c,e⟩:=Sv (n:=s.heap.objs.size+1) k;refine .inr ⟨.inl k,c,e,?_⟩;have q:=x.cell y c e;rw [Ow eX hp hu (by show scope.names.lookup y≠_; rw [k]; decide)] at q;exact q
 ·exact e0.hok.fresh (Nat.le_of_lt (x.above y c (PySem.mem_of_lookup h)))
 ·unfold start;show _=N.length;rw [List.length_append,List.length_map,List.length_replicate];omega
theorem a92 {CX:CXT} {P:Program} {w:World} {K:PySem.W.Frag} {mg:Str->Option Value} {base:Heap} {k:Nat} {f:Addr} {name qual:Str} {params:Arguments} {body:List Stmt} {scope:Scope} {dV kV doc pm az ct oc:Value} {an od:Option Addr}
  {bg:Array (Option Value)} {N ps:List Str} {sp:Sp} (lk:K.lookup f=some ⟨oc,od,.func (PySem.W.fnOf name qual params body scope dV kV doc pm an az ct),bg⟩) (aR:PySem.W.codeIn K az qual=true) (S:zp N ps scope)
  (len:∀ vs H Q E,sp vs H Q E->vs.length=ps.length)
  (bB:∀ (A:Around) (outer:List Env) (s:Shared) (H:Hp) (vs:List V) (Q:VK) (E:XK),xu k (A.deeper (envOfC qual scope s.heap.objs.size f az))->sp vs H Q E ->
   ∃ t,PSs (Pg CX P w K mg base N qual scope f az A outer s H E) body t/\t { nx:=fun _ H'=>Q .non H',rt:=Q } (start N vs) H) :
  Aw P w K mg base CX (k+1) f (PySem.W.fnOf name qual params body scope dV kV doc pm an az ct) ps sp:=by
 refine ⟨len,fun A outer s H args us vs Q E hr e0 hb r bT=>?_⟩;have hl:=len _ _ _ _ bT;have KX:K.In s.heap:=e0.mod.kin.keeps fun b o e=>(e0.bs b o e).1;have lim:s.heap.NoLimit:=e0.mod.nolimit.keeps fun b o e=>(e0.bs b o e).1
 have cY:∀ y∈ps.zip us,scope.names.lookup y.1=some .local\/(scope.names.lookup y.1=some .cell/\((cellsFrom (s.heap.objs.size+1) scope.names []).lookup y.1).isSome=true):=fun ⟨n,v⟩ hy=>by
  rcases S.par n (List.of_mem_zip hy).1 with q | q
  ·exact .inl q
  ·exact .inr ⟨q,PySem.W.cellsFrom_some _ _ _ (.inl q)⟩
 refine codeAny_call_function hr.depth (KX _ _ lk) rfl S.co S.gen rfl (PySem.W.codeRec_of KX aR) (hb _ _ _ _ ?_);refine wpAny_newFunctionEnv_cells S.kind cY fun env he s1 x=>?_;subst he;refine ⟨lim.keeps x.toInCall.keep,codeAny_func ?_⟩;obtain ⟨t,ht,hq⟩:=bB A outer s H vs Q E (hr.deeper _) bT;have I:Inv (Pg CX P w K mg base N qual scope f az A outer s H E) [] (start N vs) H s1:=Xz S hr.hd e0 hl r x;refine wpAny_mono (ht [] s1 (start N vs) H _ I hq) (fun fl s' hs=>?_) fun e s' hs=>hs
 have fin:∀ {σ':St} {H':Hp} {v:V} {u:Value},Inv (Pg CX P w K mg base N qual scope f az A outer s H E) [] σ' H' s'->RelV v u->Q v H'->CE outer P w H s Q u s' :=
  fun {σ' H' v u} J rv q=>⟨v,H',J.os,J.bare,J.base,J.hok,rv,q⟩
 cases fl with
 | ret u =>
  obtain ⟨v,σ',H',J,rv,q⟩:=hs;exact fin J rv q
 | next =>
  obtain ⟨σ',H',J,q⟩:=hs;exact fin (v:=V.non) (u:=Value.none) J rfl q
 | brk =>
  obtain ⟨_,_,_,q⟩:=hs;exact False.elim q
 | cont =>
  obtain ⟨_,_,_,q⟩:=hs;exact False.elim q
end L2
namespace L2
open PySem PySem.Spec PyProof.Rows
section
variable {X:Cx} {x:Str} {p pos:Pos} {e:Expr} {es:List Expr} {t:TA} {id T:String} {r:List V->Hp->VK->Prop}
def tCB (r:List V->Hp->VK->Prop) (t:TA):TE:=fun σ H Q=>t σ H fun vs H1=>r vs H1 Q
theorem gw (hc:Ej X (.builtin id) r) (hg:Gl X x) (hm:X.mg x=none) (hv:bootBuiltins x=some (.builtin id)) (ha:PA X (e::es) t) (hn:x ≠ "__name__" := by decide) (aJ:(x==("__debug__" : Str))=false:=by decide)
  (he:starEach (e::es) X.env=(false,eval e X.env)::starEach es X.env:=by rfl) (aD:(backTo pos (starEach es X.env)).any (·.1)=false:=by rfl):PE X (.Call (.Name x p) (e::es) [] pos) (tCB r t):=by
 intro pins s σ H Q I h;refine wpAny_Call_Name_kw (K6 I hg hm hv ?_ hn aJ);exact PyProof.Rows.callWith_builtin1 (thn (ha pos pins s σ H _ I h) fun us s1 z7=>by obtain ⟨vs,H1,I1,r1,q1⟩:=z7; exact hc pins s1 σ H1 vs us Q I1 r1 q1) he aD
theorem vh (hc:Ej X (.type T) r) (hg:Gl X x) (hm:X.mg x=none) (hv:bootBuiltins x=some (.type T)) (ha:PA X (e::es) t) (hn:x ≠ "__name__" := by decide) (aJ:(x==("__debug__" : Str))=false:=by decide)
  (he:starEach (e::es) X.env=(false,eval e X.env)::starEach es X.env:=by rfl) (aD:(backTo pos (starEach es X.env)).any (·.1)=false:=by rfl):PE X (.Call (.Name x p) (e::es) [] pos) (tCB r t):=by
 intro pins s σ H Q I h;refine wpAny_Call_Name_kw (K6 I hg hm hv ?_ hn aJ);exact PyProof.Rows.callWith_type1 (thn (ha pos pins s σ H _ I h) fun us s1 z7=>by obtain ⟨vs,H1,I1,r1,q1⟩:=z7; exact hc pins s1 σ H1 vs us Q I1 r1 q1) he aD
end
end L2
end
section
namespace HT
open PySem PyProof.Rows
section
open PySem.SeqAt
open PySem.AutoSeq1 (wpAny_loadPart')
open PySem.MeetsSeq PySem.MeetsSeq2 PySem.MeetsSeq3
end
section
variable {prog:Program} {w:World} {A:Around} {E:Value->Shared->Prop} {s:Shared}
theorem a7n {t b:Addr} {vs ws:List Value} {Q:Value->Shared->Prop} (ht:IsTup s.heap t vs.toArray) (hb:IsTup s.heap b ws.toArray) (hv:vs≠[])
  (h1:ws=[]->Q (.ref t) s) (h2:ws≠[]->Q (.ref s.heap.objs.size) { s with heap:=s.heap.push { cls:=.type "tuple",data:=.seq (vs++ws).toArray } })
  (hsz:vs.length+ws.length<=sizeLine):wpAny (model prog w) A (binaryOp .Add (.ref t) (.ref b)) Q E s:=by
 obtain ⟨⟨cls,dd,data,sl⟩,ho,hc,n,hd⟩:=id ht;obtain ⟨⟨cls2,dd2,data2,sl2⟩,ho2,hc2,n2,hd2⟩:=id hb;simp only at hc hd hc2 hd2;subst hc hd hc2 hd2;have e:vs.toArray++ws.toArray=(vs++ws).toArray:=by simp
 by_cases hw:ws=[]
 ·exact concat_meets ⟨_,ho,rfl⟩ ⟨_,ho2,rfl⟩ noFill_tuple_add seq_tuple_add PySem.F.slot_tuple_add PySem.F.entry_tuple_add (PySem.F.args_tuple_add_2 _ _)
   (tuple_addW1 t b vs.toArray ws.toArray n n2 dd dd2 sl sl2 (by simpa using hv) (by simp [hw])) ⟨ho,ho2,h1 hw⟩
 ·refine concat_meets ⟨_,ho,rfl⟩ ⟨_,ho2,rfl⟩ noFill_tuple_add seq_tuple_add PySem.F.slot_tuple_add PySem.F.entry_tuple_add (PySem.F.args_tuple_add_2 _ _)
   (tuple_addW2 t b vs.toArray ws.toArray n n2 dd dd2 sl sl2 (by simpa using hv) (by simpa using hw) (by rw [List.size_toArray,List.size_toArray]; exact hsz)) ⟨ho,ho2,?_⟩
  rw [e];exact h2 hw
noncomputable def sIx (n d:Nat):Option Int->Nat
 | none=>d
 | some v=>if v<0 then (v+(n:Int)).toNat else min v.toNat n
theorem Xq (n d k:Nat):sIx n d (some (k:Int))=min k n:=by
 show (if (k:Int)<0 then ((k:Int)+(n:Int)).toNat else min (k:Int).toNat n)=min k n;rw [if_neg (by omega),Int.toNat_natCast]
end
end HT
namespace L2
open PySem PySem.Spec PyProof.Rows
abbrev TO:=St->Hp->(Option Int->Hp->Prop)->Prop
def PO (X:Cx) (e:Option Expr) (t:TO):Prop :=
 ∀ (pins:List (Addr × Obj)) (s:Shared) (σ:St) (H:Hp) (Q:Option Int->Hp->Prop),Inv X pins σ H s->t σ H Q ->
  wpAny (model X.prog X.w) X.A (evalPart e X.env) (fun u s'=>∃ o H',Inv X pins σ H' s'/\IsPart u o/\Q o H') X.xe s
def a87:TO:=fun _ H Q=>Q none H
def ad0 (t:TE):TO:=fun σ H Q=>t σ H fun x H1=>∃ i,x=.int i/\Q (some i) H1
section
variable {X:Cx} {e:Expr} {te:TE} {lo hi:Option Expr} {tl th:TO} {pos p2:Pos}
theorem a6z:PO X none a87:=by
 intro pins s σ H Q I h;rw [evalPart_none];exact wpAny_pure ⟨none,H,I,.none,h⟩
theorem a7l (h:PE X e te):PO X (some e) (ad0 te):=by
 intro pins s σ H Q I hw;rw [evalPart_some];refine thn (h pins s σ H _ I hw) fun u s1 z0=>?_;obtain ⟨x,H1,I1,r1,q1⟩:=z0;obtain ⟨i,rfl,q⟩:=q1;obtain ⟨t,rfl⟩:=r1;exact ⟨some i,H1,I1,.int i t,q⟩
def SlR (X:Cx) (r:V->Option Int->Option Int->Hp->VK->Prop):Prop :=
 ∀ (pins:List (Addr × Obj)) (s:Shared) (σ:St) (H:Hp) (x:V) (v vl vu:Value) (lo hi:Option Int) (sl:Addr) (Q:VK),Inv X pins σ H s->RelV x v->s.heap.IsSliceOf sl vl vu .none->IsPart vl lo->IsPart vu hi->r x lo hi H Q ->
  ∃ T id,typeLookup (.type T) "__getitem__" = pure (some (.builtin id))/\s.TypeIs v T/\wpAny (model X.prog X.w) X.A (getItem v (.ref sl)) (EP X pins σ Q) X.xe s
theorem SlR.or {r r':V->Option Int->Option Int->Hp->VK->Prop} (h:SlR X r) (h':SlR X r'):SlR X (fun x lo hi H Q=>r x lo hi H Q\/r' x lo hi H Q):=by
 intro pins s σ H x v vl vu lo hi sl Q I rx hs pl pu q;rcases q with q | q
 ·exact h pins s σ H x v vl vu lo hi sl Q I rx hs pl pu q
 ·exact h' pins s σ H x v vl vu lo hi sl Q I rx hs pl pu q
def tSl (r:V->Option Int->Option Int->Hp->VK->Prop) (te:TE) (tl th:TO):TE:=fun σ H Q=>te σ H fun x H1=>tl σ H1 fun l H2=>th σ H2 fun u H3=>r x l u H3 Q
theorem Ti {r:V->Option Int->Option Int->Hp->VK->Prop} (hr:SlR X r) (he:PE X e te) (hl:PO X lo tl) (hu:PO X hi th):PE X (.Subscript e (.Slice lo hi none p2) pos) (tSl r te tl th):=by
 intro pins s σ H Q I h;refine Subscript_ (thn (he pins s σ H _ I h) fun v s1 z0=>?_);obtain ⟨x,H1,I1,r1,q1⟩:=z0;refine wpAny_Slice (thn (hl pins s1 σ H1 _ I1 q1) fun vl s2 ⟨l,H2,I2,pl,q2⟩=>thn (hu pins s2 σ H2 _ I2 q2) fun vu s3 ⟨u,H3,I3,pu,q3⟩=>?_);rw [evalPart_none];refine wpAny_pure ?_;have I4:Inv X pins σ H3 { s3 with heap:=s3.heap.push { cls:=.type "slice",data:=.fields #[vl,vu,.none] } }:=I3.kept (t':=s3.toks) fun b ob q=>Heap.get?_push_of_some _ q;obtain ⟨T,id,hT,ht,hg⟩:=hr pins { s3 with heap:=s3.heap.push { cls:=.type "slice",data:=.fields #[vl,vu,.none] } } σ H3 x v vl vu l u s3.heap.objs.size Q I4 r1 (Heap.IsSliceOf.new ..) pl pu q3;show wpAny (model X.prog X.w) X.A (subscriptTail e (.Slice lo hi none p2) v (.ref s3.heap.objs.size)) (EP X pins σ Q) X.xe { s3 with heap:=s3.heap.push { cls:=.type "slice",data:=.fields #[vl,vu,.none] } };exact tail_any (ops:=[.ref s3.heap.objs.size,v]) ht hT hg (by with_unfolding_all rfl)
noncomputable def a0t (xs:List V) (lo hi:Option Int):List V:=(xs.drop (HT.sIx xs.length 0 lo)).take (HT.sIx xs.length xs.length hi - HT.sIx xs.length 0 lo)
theorem Q6 (xs:List V) (lo hi:Option Int):(a0t xs lo hi).length<=xs.length:=by
 unfold a0t;rw [List.length_take,List.length_drop];omega
noncomputable def ad1 (K:PySem.W.Frag):R2:=fun x y H Q=>∃ a b xs ys,x=.ref a/\y=.ref b/\SqT K H a xs/\SqT K H b ys/\xs≠[]/\xs.length+ys.length<=sizeLine /\
 (ys=[]->Q (.ref a) H)/\(ys≠[]->∀ p,H p=none->Q (.ref p) (upd H p (.tup (xs++ys))))
theorem Vals.Rn {xs:List V} {us:List Value} (r:Vals xs us):us=[]↔xs=[]:=by
 cases r with
 | nil=>simp
 | cons _ _=>simp
theorem a6r:OpR X (binaryOp .Add) (ad1 X.K):=by
 intro pins s σ H x y v u Q I rx ry h;obtain ⟨a,b,xs,ys,rfl,rfl,ha,hb,hx,hz,q1,q2⟩:=h;cases rx;cases ry;obtain ⟨its,r1,p1,_⟩:=I.tuple ha;obtain ⟨its2,r2,p2,_⟩:=I.tuple hb;refine HT.a7n p1 p2 (fun z=>hx (r1.Rn.mp z)) (fun z=>⟨.ref a,H,I,rfl,q1 (r2.Rn.mp z)⟩) (fun z=>?_) (by rw [<- r1.length,<- r2.length]; exact hz);refine ⟨.ref s.heap.objs.size,_,I.laid (t':=s.toks) (o:=.tup (xs++ys)) (fun b ob q=>Heap.get?_push_of_some _ q) (Nat.le_refl _) ?_,rfl,q2 (fun w=>z (r2.Rn.mpr w)) _ (I.hok.fresh (Nat.le_refl _))⟩;exact ⟨by rw [List.length_append]; exact hz,_,r1.append r2,a5x.new _ _⟩
end
end L2
namespace L2
open PySem PySem.Spec PyProof.Rows
noncomputable def ixN (n:Nat) (i:Int):Option Nat:=if 0<=i then (if i<n then some i.toNat else none) else if -(n:Int)<=i then some (i+n).toNat else none
def atI {α:Type} (xs:List α) (i:Int):Option α:=(ixN xs.length i).bind fun j=>xs[j]?
theorem a6o {n:Nat} {i:Int} {j:Nat} (h:ixN n i=some j):seqIndex? i n=some j/\j<n/\-(n:Int)<=i/\i<n:=by
 unfold ixN at h
 by_cases h0:0<=i
 ·rw [if_pos h0] at h
  by_cases h1:i<n
  ·rw [if_pos h1] at h;have e:i.toNat=j:=Option.some.inj h;exact ⟨by rw [seqIndex_of h0 h1,e],by omega,by omega,h1⟩
  ·rw [if_neg h1] at h; cases h
 ·rw [if_neg h0] at h
  by_cases h1:-(n:Int)<=i
  ·rw [if_pos h1] at h;have e:(i+n).toNat=j:=Option.some.inj h;exact ⟨by rw [seqIndex_neg (by omega) h1,e],by omega,h1,by omega⟩
  ·rw [if_neg h1] at h; cases h
theorem Q7 {α:Type} {xs:List α} {i:Int} {v:α} (h:atI xs i=some v):∃ j,seqIndex? i xs.length=some j/\xs[j]? = some v/\j<xs.length/\-(xs.length:Int)<=i/\i<xs.length:=by
 unfold atI at h;cases e:ixN xs.length i with
 | none=>rw [e] at h; cases h
 | some j =>
  rw [e] at h;obtain ⟨h1,h2,h3,h4⟩:=a6o e;exact ⟨j,h1,h,h2,h3,h4⟩
def Yk (b:Expr):Prop:=∀ o i,subscripted b false o i=operate [o,i] (getItem o i)
def IxR (X:Cx) (r:R2):Prop :=
 ∀ (value slice:Expr) (pins:List (Addr × Obj)) (s:Shared) (σ:St) (H:Hp) (x y:V) (v u:Value) (Q:VK),Inv X pins σ H s->RelV x v->RelV y u->r x y H Q ->
  subscripted slice false v u=operate [v,u] (getItem v u)->wpAny (model X.prog X.w) X.A (subscriptTail value slice v u) (EP X pins σ Q) X.xe s
def MtR (X:Cx) (id:String) (r:V->List V->Hp->VK->Prop):Prop :=
 ∀ (pins:List (Addr × Obj)) (s:Shared) (σ:St) (H:Hp) (x:V) (xs:List V) (v:Value) (us:List Value) (Q:VK),Inv X pins σ H s->RelV x v->Vals xs us->r x xs H Q ->
  wpAny (model X.prog X.w) X.A (call (.builtin id) (v::us)) (EP X pins σ Q) X.xe s
section
variable {X:Cx} {a b:Expr} {ta tb:TE} {pos:Pos}
theorem ada {r:R2} (hr:IxR X r) (ha:PE X a ta) (hb:PE X b tb) (hs:Yk b):PE X (.Subscript a b pos) (tOp r ta tb):=by
 intro pins s σ H Q I h;exact Subscript_ (ae8 ha hb I h fun v u s2 x y H2 I2 rx ry q=>hr a b pins s2 σ H2 x y v u Q I2 rx ry q (hs _ _))
noncomputable def afk (K:PySem.W.Frag):R2:=fun x y H Q=>∃ p xs i v,x=.ref p/\y=.int i/\SqL K H p xs/\atI xs i=some v/\Q v H
noncomputable def aex (K:PySem.W.Frag):R2:=fun x y H Q=>∃ p xs i v,x=.ref p/\y=.int i/\SqT K H p xs/\atI xs i=some v/\Q v H
noncomputable def af2:R2:=fun x y H Q=>∃ z i c,x=.str z/\y=.int i/\z.length<=sizeLine/\atI z.cps.toList i=some c/\Q (.str ⟨#[c]⟩) H
theorem a72:IxR X (afk X.K):=by
 intro value slice pins s σ H x y v u Q I rx ry h hs;obtain ⟨p,xs,i,z,rfl,rfl,hq,he,q⟩:=h;cases rx;obtain ⟨t,rfl⟩:=ry;obtain ⟨its,r,pl,hz⟩:=I.list hq;obtain ⟨j,h1,h2,h3,h4,h5⟩:=Q7 he;obtain ⟨w,ew,a5⟩:=r.get h2;have hl:=r.length;have hn:=Nv;have fin:EP X pins σ Q w s:=⟨z,H,I,a5,q⟩
 by_cases h0:0<=i
 ·have hj:i.toNat=j:=by
   rw [seqIndex_of h0 h5] at h1;exact Option.some.inj h1
  exact item_listR pl.isList h0 (by omega) (by rw [hj]; simpa using ew) fin hs
 ·have hj:(i+(its.toArray.size:Int)).toNat=j:=by
   rw [seqIndex_neg (by omega) h4] at h1;rw [List.size_toArray,<- hl];exact Option.some.inj h1
  exact subscriptTail_builtinR (x:=w) pl.isList.typeIs slot_list_getitem.lookup
   (wpAny_getItem_list_neg (Q:=fun r s'=>r=w/\EP X pins σ Q r s') pl.isList (by omega) (by rw [List.size_toArray] <;> omega) (by omega) (by rw [hj]; simpa using ew) ⟨rfl,fin⟩) hs
theorem aao:IxR X (aex X.K):=by
 intro value slice pins s σ H x y v u Q I rx ry h hs;obtain ⟨p,xs,i,z,rfl,rfl,hq,he,q⟩:=h;cases rx;obtain ⟨t,rfl⟩:=ry;obtain ⟨its,r,pl,hz⟩:=I.tuple hq;obtain ⟨j,h1,h2,h3,h4,h5⟩:=Q7 he;obtain ⟨w,ew,a5⟩:=r.get h2;have hl:=r.length;have hn:=Nv;have fin:EP X pins σ Q w s:=⟨z,H,I,a5,q⟩
 exact subscriptTail_builtinR (x:=w) pl.typeIs slot_tuple_getitem.lookup
  (getItem_tuple (j:=j) (Q:=fun r s'=>r=w/\EP X pins σ Q r s') pl (by omega) (by omega) (by rw [List.size_toArray,<- hl]; exact h1) (by simpa using ew) ⟨rfl,fin⟩) hs
theorem aag:IxR X af2:=by
 intro value slice pins s σ H x y v u Q I rx ry h hs;obtain ⟨z,i,c,rfl,rfl,hz,he,q⟩:=h;obtain ⟨t,rfl⟩:=rx;obtain ⟨t',rfl⟩:=ry;obtain ⟨j,h1,h2,h3,h4,h5⟩:=Q7 he;have hl:z.cps.toList.length=z.length:=by simp [Str.length]
 rw [hl] at h1 h4 h5;have hn:=Nv
 exact tail_any (typeIs_str s z t) slot_str_getitem.lookup (getItem_str (c:=c) (by
  have e1:decide (i < -(2 ^ 63:Int))=false:=decide_eq_false (by omega);have e2:decide (i >= 2 ^ 63)=false:=decide_eq_false (by omega);rw [e1,e2,Bool.or_false]) (by rw [h1]; simpa using h2) ⟨.str ⟨#[c]⟩,H,I.tok _,⟨_,rfl⟩,q⟩) hs
theorem Inv.lst {pins:List (Addr × Obj)} {σ:St} {H:Hp} {s:Shared} {p:Addr} {xs:List V} (I:Inv X pins σ H s) (h:H p=some (.lst xs)) :
  ∃ (its:List Value) (n:Nat),Vals xs its/\s.heap.get? p=some { cls:=.type "list",data:=.seq its.toArray n }/\xs.length<=sizeLine:=by
 obtain ⟨z,its,n,r,e⟩:=I.hok p _ h;exact ⟨its,n,r,e,z⟩
theorem O7 (lo hi:Option Int) (n:Nat):(sliceBounds lo hi none n).1=((HT.sIx n 0 lo:Nat):Int)/\(sliceBounds lo hi none n).2.1=((HT.sIx n n hi:Nat):Int)/\(sliceBounds lo hi none n).2.2=1:=by
 refine ⟨?_,?_,rfl⟩
 ·cases lo with
  | none=>simp [sliceBounds,HT.sIx]
  | some i =>
   simp only [sliceBounds,HT.sIx,Option.getD_none,show (1:Int) > 0 by decide,if_true]
   by_cases h:i<0
   ·simp only [h,if_true] <;> omega
   ·simp only [h,if_false] <;> omega
 ·cases hi with
  | none=>simp [sliceBounds,HT.sIx]
  | some i =>
   simp only [sliceBounds,HT.sIx,Option.getD_none,show (1:Int) > 0 by decide,if_true]
   by_cases h:i<0
   ·simp only [h,if_true] <;> omega
   ·simp only [h,if_false] <;> omega
theorem Kv (its:List Value) (lo hi:Option Int):slicePick its.toArray lo hi none=((its.drop (HT.sIx its.length 0 lo)).take (HT.sIx its.length its.length hi - HT.sIx its.length 0 lo)).toArray:=by
 obtain ⟨h1,h2,h3⟩:=O7 lo hi its.toArray.size;unfold slicePick;rw [h1,h2,h3];simp only [sliceRange_one,pick_run,List.size_toArray] <;> rfl
def afb (K:PySem.W.Frag):V->Option Int->Option Int->Hp->VK->Prop:=fun x lo hi H Q=>∃ a xs,x=.ref a/\SqL K H a xs/\∀ p,H p=none->Q (.ref p) (upd H p (.lst (a0t xs lo hi)))
theorem a6c:SlR X (afb X.K):=by
 intro pins s σ H x v vl vu lo hi sl Q I rx hs pl pu h;obtain ⟨a,xs,rfl,hx,q⟩:=h;cases rx;obtain ⟨its,r,ht,hz⟩:=I.list hx;have hlen:=r.length;refine ⟨"list",_,slot_list_getitem.lookup,ht.isList.typeIs,?_⟩;refine wpAny_getItem_list_slice ht.isList hs pl pu .none (by simp) ?_ (by rw [List.size_toArray] <;> omega);rw [Kv,<- hlen];refine ⟨.ref s.heap.objs.size,_,I.laid (t':=s.toks) (o:=.lst (a0t xs lo hi)) (fun b ob q=>Heap.get?_push_of_some _ q) (Nat.le_refl _) ?_,rfl,q _ (I.hok.fresh (Nat.le_refl _))⟩;exact ⟨Nat.le_trans (Q6 xs lo hi) hz,_,0,(r.drop (HT.sIx xs.length 0 lo)).take (HT.sIx xs.length xs.length hi - HT.sIx xs.length 0 lo),Heap.get?_push_size _ rfl⟩
theorem Bx:Ej X (.builtin "len") (fun xs H Q=>∃ p ys,xs=[.ref p]/\(SqL X.K H p ys\/SqT X.K H p ys)/\Q (.int ys.length) H):=by
 intro pins s σ H xs us Q I r h;obtain ⟨p,ys,rfl,hq,q⟩:=h;obtain ⟨u,rfl,rx⟩:=vals1 r;cases rx;have hn:=Nv;rcases hq with hq | hq
 ·obtain ⟨its,r',pl,hz⟩:=I.list hq;have hlen:=r'.length;exact Calls.call_len_list pl.isList (by simp only [List.size_toArray] <;> omega) ⟨.int ys.length,H,I.tok _,⟨s.toks+1,by rw [List.size_toArray,hlen]⟩,q⟩
 ·obtain ⟨its,r',pl,hz⟩:=I.tuple hq;have hlen:=r'.length;exact len_tuple pl (by simp only [List.size_toArray] <;> omega) ⟨.int ys.length,H,I.tok _,⟨s.toks+1,by rw [List.size_toArray,hlen]⟩,q⟩
theorem Nr:Ej X (.builtin "len") (fun xs H Q=>∃ z,xs=[.str z]/\z.length<=sizeLine/\Q (.int z.length) H):=by
 intro pins s σ H xs us Q I r h;obtain ⟨z,rfl,hz,q⟩:=h;obtain ⟨u,rfl,t,rfl⟩:=vals1 r;have hn:=Nv;exact len_str (by omega) ⟨.int z.length,H,I.tok _,⟨_,rfl⟩,q⟩
theorem Fo:Ej X (.type "tuple") (fun xs H Q=>∃ p ys,xs=[.ref p]/\((SqL X.K H p ys/\∀ l,H l=none->Q (.ref l) (upd H l (.tup ys)))\/(SqT X.K H p ys/\Q (.ref p) H))):=by
 intro pins s σ H xs us Q I r h;obtain ⟨p,ys,rfl,h⟩:=h;obtain ⟨u,rfl,rx⟩:=vals1 r;cases rx;rcases h with ⟨hq,q⟩ | ⟨hq,q⟩
 ·obtain ⟨its,r',pl,hz⟩:=I.list hq;have hlen:=r'.length;refine call_tuple_list pl.isList (fun h' kp=>?_) (by simp only [List.size_toArray] <;> omega);have I1:Inv X pins σ H { s with heap:=h' }:=I.kept (t':=s.toks) kp
  have I2:Inv X pins σ (upd H h'.objs.size (.tup ys)) { s with heap:=h'.push { cls:=.type "tuple",data:=.seq its.toArray } } :=
   I1.laid (t':=s.toks) (fun b o e=>Heap.get?_push_of_some _ e) (Nat.le_refl _) (show qu X.prog X.w _ _ _ (.tup ys) from ⟨hz,its,r',a5x.new _ _⟩)
  exact ⟨.ref h'.objs.size,_,I2,rfl,q _ (I1.hok.fresh (Nat.le_refl _))⟩
 ·obtain ⟨its,r',pl,hz⟩:=I.tuple hq;exact call_tuple_same pl ⟨.ref p,H,I,rfl,q⟩
def tyV (K:PySem.W.Frag) (T:String) (x:V) (H:Hp):Prop:=match x with
 | .str _=>T = "str"
 | .int _=>T = "int"
 | .ref p=>(T = "list" /\ ∃ xs,SqL K H p xs)\/(T = "tuple" /\ ∃ o,K.lookup p=some o/\o.cls=.type "tuple" /\ o.dict=none) \/
   (T = "dict" /\ ((∃ kvs,H p=some (.dK kvs))\/∃ kvs,H p=some (.dT kvs)))\/(T = "set" /\ ∃ S n,H p=some (.set S n))
 | _=>False
theorem a9t {pins:List (Addr × Obj)} {σ:St} {H:Hp} {s:Shared} {T:String} {x:V} {v:Value} (I:Inv X pins σ H s) (r:RelV x v) (ty:tyV X.K T x H) :
  s.TypeIs v T/\∀ a,v=.ref a->∃ ob,s.heap.get? a=some ob/\ob.dict=none:=by
 cases x with
 | str z =>
  obtain ⟨t,rfl⟩:=r;cases (show T = "str" from ty);exact ⟨typeIs_str s z t,fun _ e=>nomatch e⟩
 | int i =>
  obtain ⟨t,rfl⟩:=r;cases (show T = "int" from ty);exact ⟨typeIs_int s i t,fun _ e=>nomatch e⟩
 | ref p =>
  cases r;rcases ty with ⟨rfl,xs,hq⟩ | ⟨rfl,o,hk,hc,hd⟩ | ⟨rfl,hk⟩ | ⟨rfl,S,n,hk⟩
  ·obtain ⟨its,_,pl,_⟩:=I.list hq;refine ⟨pl.isList.typeIs,fun a e=>?_⟩;cases e;obtain ⟨o,n,e,c,hd,_⟩:=pl;exact ⟨o,e,hd⟩
  ·refine ⟨⟨o,I.kIn p o hk,hc⟩,fun a e=>?_⟩;cases e;exact ⟨o,I.kIn _ o hk,hd⟩
  ·have z:∃ o,s.heap.get? p=some o/\o.ExactDict:=by
    rcases hk with ⟨kvs,hk⟩ | ⟨kvs,hk⟩
    ·obtain ⟨_,_,_,_,o,_,_,e,ex,_⟩:=I.hok p _ hk;exact ⟨o,e,ex⟩
    ·obtain ⟨_,_,_,_,o,_,_,e,ex,_⟩:=I.hok p _ hk;exact ⟨o,e,ex⟩
   obtain ⟨o,e,ex⟩:=z;refine ⟨⟨o,e,ex.1⟩,fun a e2=>?_⟩;cases e2;exact ⟨o,e,ex.2.1⟩
  ·obtain ⟨o,_,_,_,e,ex,_⟩:=I.hok p _ hk;refine ⟨⟨o,e,ex.1⟩,fun a e2=>?_⟩;cases e2;exact ⟨o,e,ex.2.1⟩
 | _=>exact False.elim ty
def tBM (K:PySem.W.Frag) (T:String) (r:V->List V->Hp->VK->Prop) (to:TE) (t:TA):TE:=fun σ H Q=>to σ H fun x H1=>tyV K T x H1/\t σ H1 fun xs H2=>r x xs H2 Q
variable {o e:Expr} {es:List Expr} {to:TE} {t:TA} {name:Str} {apos ay:Pos} {T id:String} {r:V->List V->Hp->VK->Prop}
theorem Zb (pa:PlainAttrs T) (slot:Slot T name id) (a7:typeOf (.builtin id)=pure (.type "method_descriptor")) (hm:MtR X id r) (ho:PE X o to) (ha:PA X (e::es) t)
  (bC:attributeBase o name X.env (eval o X.env)=eval o X.env:=by rfl)
  (dI:((backTo ay (starEach (e::es) X.env)).all (fun x=>!x.1)&&(backToKw ay (keywordEach [] X.env)).all (fun x=>x.1.isSome)
   && decide ((e::es).length+([]:List Keyword).length+(if ([]:List Keyword).isEmpty then 0 else 1)<30))=true:=by rfl)
  (dq:(apos.endLine==ay.line)=true:=by rfl) (hs:starEach (e::es) X.env=(false,eval e X.env)::starEach es X.env:=by rfl) (b9:(backTo ay (starEach es X.env)).any (·.1)=false:=by rfl) :
  PE X (.Call (.Attribute o name apos) (e::es) [] ay) (tBM X.K T r to t):=by
 intro pins s σ H Q I h;refine wpAny_Call_method_late bC dI dq rfl (thn (ho pins s σ H _ I h) fun v s1 z0=>?_);obtain ⟨x,H1,I1,r1,ty,q1⟩:=z0;obtain ⟨h1,h2⟩:=a9t I1 r1 ty;refine ⟨T,id,pa,slot,a7,h1,h2,?_⟩;have hA:=ha ay pins s1 σ H1 _ I1 q1;rw [hs] at hA ⊢;refine Calls.callWith_builtin (by show (false||(backTo ay (starEach es X.env)).any (·.1))=false; rw [b9] <;> rfl) (Calls.evalArgs_plain ?_);exact thn hA fun us s2 ⟨vs,H2,I2,r2,q2⟩=>hm pins s2 σ H2 x vs v us Q I2 r1 r2 q2
end
end L2
namespace L2
open PySem PySem.Spec PyProof.Rows
def MtM (X:Cx) (id:String) (r:V->List V->Hp->VK->Prop):Prop :=
 ∀ (pins:List (Addr × Obj)) (s:Shared) (σ:St) (H:Hp) (x:V) (xs:List V) (v:Value) (us:List Value) (Q:VK),Inv X pins σ H s->RelV x v->Vals xs us->r x xs H Q ->
  wpAny (model X.prog X.w) X.A (call (.builtin id) (v::us)) (EP X pins σ Q) X.xe s
theorem Vals.one {x:V} {us:List Value} (h:Vals [x] us):∃ u,us=[u]/\RelV x u:=by
 cases h with
 | cons r t=>cases t; exact ⟨_,rfl,r⟩
theorem Vals.two {x y:V} {us:List Value} (h:Vals [x,y] us):∃ u v,us=[u,v]/\RelV x u/\RelV y v:=by
 cases h with
 | cons r t=>obtain ⟨v,e,q⟩:=Vals.one t; exact ⟨_,v,congrArg _ e,r,q⟩
theorem Vals.rep {xs:List V} {us:List Value} (h:Vals xs us):∀ k:Nat,Vals (List.replicate k xs).flatten (List.replicate k us).flatten
 | 0=>.nil
 | k+1=>by
  rw [List.replicate_succ,List.replicate_succ,List.flatten_cons,List.flatten_cons];exact Vals.append h (Vals.rep h k)
section
variable {X:Cx} {pins:List (Addr × Obj)} {σ:St} {H:Hp} {s:Shared} {l b:Addr} {xs ys zs:List V}
theorem Inv.afc {its its':List Value} {n:Nat} {f:Array Value->Array Value} {t':Nat} (I:Inv X pins σ H s) (hH:H l=some (.lst xs))
  (e:s.heap.get? l=some { cls:=.type "list",data:=.seq its.toArray n }) (hf:f its.toArray=its'.toArray) (hv:Vals ys its') (hz:ys.length<=sizeLine) :
  Inv X pins σ (upd H l (.lst ys)) { s with heap:=s.heap.update l (Obj.mapSeq f),toks:=t' }:=by
 have q:=PySem.IsL.update e f;rw [hf] at q;refine I.write (x:=l) (e:=l) (by rw [hH]; exact trivial) (.inl rfl) (fun b' u hb hu=>(Heap.get?_update_other s.heap (Obj.mapSeq f) (Ne.symm hb)).trans hu) ⟨_,q⟩ ?_;exact ⟨hz,its',_,hv,q⟩
theorem Inv.afd {its:List Value} {t':Nat} (I:Inv X pins σ H s) (hv:Vals ys its) (hz:ys.length<=sizeLine) :
  Inv X pins σ (upd H s.heap.objs.size (.lst ys)) { s with heap:=s.heap.push { cls:=.type "list",data:=.seq its.toArray },toks:=t' } :=
 I.laid (fun _ _ q=>Heap.get?_push_of_some _ q) (Nat.le_refl _) ⟨hz,its,0,hv,Heap.get?_push_size _ rfl⟩
theorem Inv.fresh (I:Inv X pins σ H s):H s.heap.objs.size=none:=I.hok.fresh (Nat.le_refl _)
theorem Inv.af0 (I:Inv X pins σ H s) (hH:H l=some (.lst xs)):xs.length<=sizeLine/\∃ (its:List Value) (n:Nat),Vals xs its/\xs.length=its.length/\s.heap.get? l=some { cls:=.type "list",data:=.seq its.toArray n }:=by
 obtain ⟨z,its,n,r,e⟩:=I.hok l _ hH;exact ⟨z,its,n,r,r.length,e⟩
end
section
variable {X:Cx}
def Qv:V->List V->Hp->VK->Prop:=fun x vs H Q=>∃ l xs y,x=.ref l/\vs=[y]/\H l=some (.lst xs)/\xs.length<sizeLine/\Q .non (upd H l (.lst (xs++[y])))
theorem Ac:MtM X "list.append" Qv:=by
 intro pins s σ H x vs v us Q I rx rv h;obtain ⟨l,xs,y,rfl,rfl,hH,hz,q⟩:=h;cases rx;obtain ⟨u,rfl,ru⟩:=rv.one;obtain ⟨z,its,n,r,hl,e⟩:=I.af0 hH;refine call_meets F.slot_list_append ⟨_,e,rfl⟩ F.entry_list_append (F.args_list_append_2 _ _) (PySem.list_append l its.toArray n u (by rw [List.size_toArray]; omega)) ⟨e,?_⟩;refine ⟨.non,_,I.afc (its':=its++[u]) hH e (by simp) (r.append (.cons ru .nil)) ?_,rfl,q⟩;rw [List.length_append,List.length_singleton];omega
end
section
variable {prog:Program} {w:World} {A:Around} {E:Value->Shared->Prop} {s:Shared}
end
section
variable {X:Cx}
end
section
variable {κ:Type} [DecidableEq κ]
def Qu (kvs:List (κ × V)) (k:κ):Option V:=(kvs.find? fun kv=>decide (kv.1=k)).map (·.2)
noncomputable def putK (kvs:List (κ × V)) (k:κ) (v:V):List (κ × V) :=
 if (kvs.any fun kv=>decide (kv.1=k))=true then kvs.map (fun kv=>if kv.1=k then (kv.1,v) else kv) else kvs++[(k,v)]
theorem Gs {p:κ × V} {r:List (κ × V)} {k:κ} (e:p.1=k):Qu (p::r) k=some p.2:=by simp [Qu,List.find?_cons,e]
theorem Gn {p:κ × V} {r:List (κ × V)} {k:κ} (e:¬ p.1=k):Qu (p::r) k=Qu r k:=by simp [Qu,List.find?_cons,e]
theorem T3 (k:κ):∀ kvs:List (κ × V),(kvs.any fun kv=>decide (kv.1=k))=(Qu kvs k).isSome
 | []=>rfl
 | p::r=>by
  rw [List.any_cons]
  by_cases e:p.1=k
  ·simp only [Gs e,decide_eq_true e,Bool.true_or,Option.isSome_some]
  ·rw [Gn e,decide_eq_false e,Bool.false_or]; exact T3 k r
theorem Eh (kvs:List (κ × V)) (k:κ) (v:V):(putK kvs k v).length<=kvs.length+1:=by
 unfold putK;split
 ·rw [List.length_map]; omega
 ·rw [List.length_append,List.length_cons,List.length_nil]; omega
theorem Kd.Bu {o:Option V} {u:Option Value} (r:Kd o u):o.isSome=u.isSome:=by
 cases o with
 | none=>cases u with
  | none=>rfl
  | some _=>exact (show False from r).elim
 | some _=>cases u with
  | none=>exact (show False from r).elim
  | some _=>rfl
theorem Kd.getD {o:Option V} {u:Option Value} {d:V} {d':Value} (r:Kd o u) (rd:RelV d d'):RelV (o.getD d) (u.getD d'):=by
 cases o with
 | none=>cases u with
  | none=>exact rd
  | some _=>exact (show False from r).elim
 | some _=>cases u with
  | none=>exact (show False from r).elim
  | some _=>exact r
theorem KV.val {kvs:List (κ × V)} {vs:List (κ × Value)} (r:KV kvs vs) (k:κ):Kd (Qu kvs k) (valueAt vs k):=by
 unfold KV at r
 induction r with
 | nil=>exact True.intro
 | @cons p q ps qs h t ih =>
  obtain ⟨h1,h2⟩:=h
  by_cases e:p.1=k
  ·have e':q.1=k:=h1.symm.trans e;have b:valueAt (q::qs) k=some q.2:=by simp [valueAt,List.find?_cons,e']
   rw [Gs e,b]; exact h2
  ·have e':¬ q.1=k:=fun z=>e (h1.trans z);have b:valueAt (q::qs) k=valueAt qs k:=by simp [valueAt,List.find?_cons,e']
   rw [Gn e,b]; exact ih
theorem KV.any {kvs:List (κ × V)} {vs:List (κ × Value)} (r:KV kvs vs) (k:κ):(kvs.any fun kv=>decide (kv.1=k))=vs.any fun kv=>decide (kv.1=k):=by
 unfold KV at r
 induction r with
 | nil=>rfl
 | cons h t ih=>rw [List.any_cons,List.any_cons,ih,h.1]
theorem KV.repl {kvs:List (κ × V)} {vs:List (κ × Value)} (r:KV kvs vs) (k:κ) {y:V} {u:Value} (ry:RelV y u) :
  KV (kvs.map fun kv=>if kv.1=k then (kv.1,y) else kv) (vs.map fun kv=>if kv.1=k then (kv.1,u) else kv):=by
 unfold KV at r ⊢
 induction r with
 | nil=>exact .nil
 | @cons p q ps qs h t ih =>
  rw [List.map_cons,List.map_cons];refine .cons ?_ ih;obtain ⟨h1,h2⟩:=h
  by_cases e:p.1=k
  ·rw [if_pos e,if_pos (h1.symm.trans e)]; exact ⟨h1,ry⟩
  ·rw [if_neg e,if_neg (fun z=>e (h1.trans z))]; exact ⟨h1,h2⟩
theorem KV.put {kvs:List (κ × V)} {vs:List (κ × Value)} (r:KV kvs vs) (k:κ) {y:V} {u:Value} (ry:RelV y u):KV (putK kvs k y) (stored vs k u):=by
 unfold putK stored;rw [r.any k]
 by_cases e:(vs.any fun kv=>decide (kv.1=k))=true
 ·rw [if_pos e,if_pos e]; exact r.repl k ry
 ·rw [if_neg e,if_neg e]; exact Paired.snoc r ⟨rfl,ry⟩
theorem KV.keys {kvs:List (κ × V)} {vs:List (κ × Value)} (r:KV kvs vs):kvs.map (·.1)=vs.map (·.1):=by
 unfold KV at r
 induction r with
 | nil=>rfl
 | cons h t ih=>rw [List.map_cons,List.map_cons,ih,h.1]
theorem KV.length {kvs:List (κ × V)} {vs:List (κ × Value)} (r:KV kvs vs):kvs.length=vs.length:=Paired.length r
end
theorem Rt {P:Program} {w:World} {k:Key} {u:Value} (r:RelV (kV k) u):(jr P w).is k u=true:=by
 cases k with
 | inl i=>obtain ⟨t,e⟩:=(show ∃ t,u=Value.int i t from r); subst e; exact Pk P w i t
 | inr x=>obtain ⟨t,e⟩:=(show ∃ t,u=Value.str x t from r); subst e; exact Q9 P w x t
theorem N6 {P:Program} {w:World}:∀ {ks:List Key} {us:List Value},Vals (ks.map kV) us->ItemsAre (jr P w) ks us
 | [],_,r=>by rw [List.map_nil] at r; cases r; exact .nil
 | k::ks,_,r=>by
  rw [List.map_cons] at r;cases r with
  | cons h t=>exact .cons (Rt h) (N6 t)
abbrev KT (H:Hp):List (List Key × V)->List (List Key × Addr × Value)->Prop:=Paired fun p q=>p.1=q.1/\H q.2.1=some (.tup (p.1.map kV))/\RelV p.2 q.2.2
theorem KT.val {H:Hp} {kvs:List (List Key × V)} {xs:List (List Key × Addr × Value)} (r:KT H kvs xs) (k:List Key):Kd (Qu kvs k) ((atKey xs k).map (·.2)):=by
 induction r with
 | nil=>exact True.intro
 | @cons p q ps qs h t ih =>
  obtain ⟨h1,_,h2⟩:=h
  by_cases e:p.1=k
  ·have e':q.1=k:=h1.symm.trans e;have b:atKey (q::qs) k=some q.2:=by simp [atKey,List.find?_cons,e']
   rw [Gs e,b]; exact h2
  ·have e':¬ q.1=k:=fun z=>e (h1.trans z);have b:atKey (q::qs) k=atKey qs k:=by simp [atKey,List.find?_cons,e']
   rw [Gn e,b]; exact ih
theorem KT.repl {H:Hp} {kvs:List (List Key × V)} {xs:List (List Key × Addr × Value)} (r:KT H kvs xs) (k:List Key) {y:V} {u:Value} (ry:RelV y u) :
  KT H (kvs.map fun kv=>if kv.1=k then (kv.1,y) else kv) (xs.map (putAt k u)):=by
 induction r with
 | nil=>exact .nil
 | @cons p q ps qs h t ih =>
  rw [List.map_cons,List.map_cons];refine .cons ?_ ih;obtain ⟨h1,h2,h3⟩:=h;unfold putAt
  by_cases e:p.1=k
  ·rw [if_pos e,if_pos (h1.symm.trans e)]; exact ⟨h1,h2,ry⟩
  ·rw [if_neg e,if_neg (fun z=>e (h1.trans z))]; exact ⟨h1,h2,h3⟩
theorem KT.put {H:Hp} {kvs:List (List Key × V)} {xs:List (List Key × Addr × Value)} (r:KT H kvs xs) (k:List Key) {b:Addr} {y:V} {u:Value} (hb:H b=some (.tup (k.map kV))) (ry:RelV y u) :
  KT H (putK kvs k y) (storedH xs k b u):=by
 have e:(kvs.any fun kv=>decide (kv.1=k))=(atKey xs k).isSome:=by
  rw [T3,(r.val k).Bu,Option.isSome_map]
 unfold putK storedH;rw [e]
 by_cases q:(atKey xs k).isSome=true
 ·rw [if_pos q,if_pos q]; exact r.repl k ry
 ·rw [if_neg q,if_neg q]; exact Paired.snoc r ⟨rfl,hb,ry⟩
theorem KT.keeps {H H':Hp} {kvs:List (List Key × V)} {xs:List (List Key × Addr × Value)} (r:KT H kvs xs) (ht:∀ b ys,H b=some (.tup ys)->H' b=some (.tup ys)):KT H' kvs xs :=
 Paired.aei r fun _ _ z=>⟨z.1,ht _ _ z.2.1,z.2.2⟩
section
variable {P:Program} {w:World} {H:Hp} {h:Heap} {a:Addr}
theorem ab5 {u:HO} (ok:HOk P w H h) (e:Rd H a u):qu P w H h a u:=e.ok ok
theorem Gb {kvs:List (Key × V)} (ok:HOk P w H h) (e:Rd H a (.dK kvs)):kvs.length<=sizeLine/\(a==sysModules)=false/\∃ vs,KV kvs vs/\h.DictOf (jr P w) a vs :=
 show qu P w H h a (.dK kvs) from ab5 ok e
theorem aaw {kvs:List (Key × V)} (ok:HOk P w H h) (e:H a=some (.dK kvs)):kvs.length<=sizeLine/\(a==sysModules)=false/\∃ vs,KV kvs vs/\h.DictOf (jr P w) a vs:=Gb ok (.inl e)
theorem Jx {ks:List Key} (ok:HOk P w H h) (e:H a=some (.tup (ks.map kV))):(tupleKind (jr P w)).is h ks a:=by
 obtain ⟨_,its,r,o,h1,h2,_,n,h3⟩:=(show qu P w H h a (.tup (ks.map kV)) from ok a _ e);exact ⟨o,its.toArray,n,h1,h2,h3,by simpa using N6 r⟩
theorem Rg {kvs:List (List Key × V)} (ok:HOk P w H h) (e:Rd H a (.dT kvs)):kvs.length<=sizeLine/\(a==sysModules)=false /\
  ∃ xs,KT H kvs xs/\h.DictOfH (tupleKind (jr P w)) a xs:=by
 obtain ⟨z,y,xs,r,o,es,ep,h1,h2,h3,h4,h5⟩:=(show qu P w H h a (.dT kvs) from ab5 ok e);refine ⟨z,y,xs,r,o,es,ep,h1,h2,h3,h4,fun x hx=>?_,h5⟩
 have all:∀ {l:List (List Key × V)} {m:List (List Key × Addr × Value)},KT H l m->∀ x∈m,(tupleKind (jr P w)).is h x.1 x.2.1:=by
  intro l m q
  induction q with
  | nil=>intro x hx; exact nomatch hx
  | @cons p q ps qs hq t ih =>
   intro x hx;rcases List.mem_cons.mp hx with e | hx
   ·subst e;exact Jx ok (by rw [<- hq.1]; exact hq.2.1)
   ·exact ih x hx
 exact all r x hx
theorem acq {kvs:List (List Key × V)} (ok:HOk P w H h) (e:H a=some (.dT kvs)):kvs.length<=sizeLine/\(a==sysModules)=false /\
  ∃ xs,KT H kvs xs/\h.DictOfH (tupleKind (jr P w)) a xs:=Rg ok (.inl e)
end
def a0x (H:Hp) (a:Addr) (y:V) (r:Option V):Prop :=
 (∃ kvs k,Rd H a (.dK kvs)/\y=kV k/\r=Qu kvs k)\/∃ kvs k b,Rd H a (.dT kvs)/\y=.ref b/\H b=some (.tup (k.map kV))/\r=Qu kvs k
def a5k (H:Hp) (a:Addr) (y v:V) (H':Hp):Prop :=
 (∃ kvs k,H a=some (.dK kvs)/\y=kV k/\kvs.length<sizeLine/\H'=upd H a (.dK (putK kvs k v))) \/
 ∃ kvs k b,H a=some (.dT kvs)/\y=.ref b/\H b=some (.tup (k.map kV))/\kvs.length<sizeLine/\H'=upd H a (.dT (putK kvs k v))
theorem a5k.k {H:Hp} {a:Addr} {kvs:List (Key × V)} {k:Key} {v:V} (e:H a=some (.dK kvs)) (hl:kvs.length<sizeLine):a5k H a (kV k) v (upd H a (.dK (putK kvs k v))):=.inl ⟨kvs,k,e,rfl,hl,rfl⟩
theorem a5k.t {H:Hp} {a b:Addr} {kvs:List (List Key × V)} {k:List Key} {v:V} (e:H a=some (.dT kvs)) (eb:H b=some (.tup (k.map kV))) (hl:kvs.length<sizeLine) :
  a5k H a (.ref b) v (upd H a (.dT (putK kvs k v))):=.inr ⟨kvs,k,b,e,rfl,eb,hl,rfl⟩
section
variable {X:Cx} {pins:List (Addr × Obj)} {σ:St} {H:Hp} {s:Shared} {a:Addr} {y v:V} {u r:Value} {o:Option V} {A:Around} {E:Value->Shared->Prop}
theorem Inv.big (I:Inv X pins σ H s):sysModules<s.heap.objs.size:=by
 have h:mainGlobals<s.heap.objs.size:=(I.mod.glob.keeps I.bk).lt;exact Nat.lt_trans (by decide) h
theorem Ny {Q:Value->Shared->Prop} (hu:A.units+1<cLine) (I:Inv X pins σ H s) (g:a0x H a y (some v)) (ry:RelV y u) (h:∀ w' s',Inv X pins σ H s'->RelV v w'->Q w' s') :
  wpAny (model X.prog X.w) A (getItem (.ref a) u) Q E s:=by
 rcases g with ⟨kvs,k,e,ey,l⟩ | ⟨kvs,k,b,e,ey,eb,l⟩
 ·subst ey;obtain ⟨z,hd,vs,rel,dd⟩:=Gb I.hok e;obtain ⟨w',hw,a5⟩:=Kd.some_of (v:=v) (o:=valueAt vs k) (by rw [l]; exact rel.val k);exact wpAny_getItem_of (Rt ry) dd.mapOf hw (h w' _ (I.tok _) a5)
 ·subst ey;cases (show u=Value.ref b from ry);obtain ⟨z,hd,xs,rel,dd⟩:=Rg I.hok e;obtain ⟨w',hw,a5⟩:=Kd.some_of (v:=v) (o:=(atKey xs k).map (·.2)) (by rw [l]; exact rel.val k);obtain ⟨p,hp,hp2⟩:=Option.map_eq_some_iff.mp hw;refine wpAny_getItem_heap (tupleKind_room_in1 hu) (Jx I.hok eb) dd hp ?_;rw [hp2];exact h w' _ (I.tok _) a5
theorem afy {Q:Value->Shared->Prop} (hu:A.units+1<cLine) (I:Inv X pins σ H s) (g:a0x H a y o) (ry:RelV y u) (h:∀ s',Inv X pins σ H s'->Q (.bool o.isSome) s') :
  wpAny (model X.prog X.w) A (compareOp .In u (.ref a)) Q E s:=by
 rcases g with ⟨kvs,k,e,ey,l⟩ | ⟨kvs,k,b,e,ey,eb,l⟩
 ·subst ey;obtain ⟨z,hd,vs,rel,dd⟩:=Gb I.hok e;refine wpAny_in_of (Rt ry) hd dd.mapOf ?_;rw [<- (rel.val k).Bu,<- l];exact h _ (I.tok _)
 ·subst ey;cases (show u=Value.ref b from ry);obtain ⟨z,hd,xs,rel,dd⟩:=Rg I.hok e;refine wpAny_in_heap (tupleKind_room_in1 hu) (Jx I.hok eb) hd dd ?_;have q:=(rel.val k).Bu;rw [Option.isSome_map] at q;rw [<- q,<- l];exact h _ (I.tok _)
theorem a80 {Q:Value->Shared->Prop} (hu:A.units+1<cLine) (I:Inv X pins σ H s) (g:a0x H a y o) (ry:RelV y u) (h:∀ s',Inv X pins σ H s'->Q (.bool (!o.isSome)) s') :
  wpAny (model X.prog X.w) A (compareOp .NotIn u (.ref a)) Q E s:=by
 rcases g with ⟨kvs,k,e,ey,l⟩ | ⟨kvs,k,b,e,ey,eb,l⟩
 ·subst ey;obtain ⟨z,hd,vs,rel,dd⟩:=Gb I.hok e;refine wpAny_notIn_of (Rt ry) hd dd.mapOf ?_;rw [<- (rel.val k).Bu,<- l];exact h _ (I.tok _)
 ·subst ey;cases (show u=Value.ref b from ry);obtain ⟨z,hd,xs,rel,dd⟩:=Rg I.hok e;refine wpAny_notIn_heap (tupleKind_room_in1 hu) (Jx I.hok eb) hd dd ?_;have q:=(rel.val k).Bu;rw [Option.isSome_map] at q;rw [<- q,<- l];exact h _ (I.tok _)
theorem Px {h':Heap} {t':Nat} {ob:HO} (I:Inv X pins σ H s) (mu:Mut (H a)) (hs:Heap.SameBut a s.heap h') (he:∃ q,h'.get? a=some q) (new:qu X.prog X.w (upd H a ob) h' a ob) :
  Inv X pins σ (upd H a ob) { s with heap:=h',toks:=t' } :=
 I.write (x:=a) (e:=a) mu (.inl rfl) (fun b q hb z=>(hs.2 b hb).trans z) he new
theorem a3q {P:Program} {w:World} {H':Hp} {h':Heap} {kvs:List (Key × V)} {vs:List (Key × Value)} (z:kvs.length<=sizeLine) (hd:(a==sysModules)=false) (rel:KV kvs vs) (dd:h'.DictOf (jr P w) a vs) :
  qu P w H' h' a (.dK kvs):=⟨z,hd,vs,rel,dd⟩
theorem X3 {H':Hp} {Q:Unit->Shared->Prop} (hu:A.units+1<cLine) (I:Inv X pins σ H s) (g:a5k H a y v H') (ry:RelV y u) (rv:RelV v r) (h:∀ s',Inv X pins σ H' s'->Q () s') :
  wpAny (model X.prog X.w) A (setItem (.ref a) u r) Q E s:=by
 rcases g with ⟨kvs,k,e,ey,l,eH⟩ | ⟨kvs,k,b,e,ey,eb,l,eH⟩
 ·subst ey eH;obtain ⟨z,hd,vs,rel,dd⟩:=aaw I.hok e;have hz:vs.length<=sizeLine:=by rw [<- rel.length]; exact z
  have hl:(putK kvs k v).length<=sizeLine:=by have:=Eh kvs k v; omega
  refine wpAny_setItem_pairs (hsz:=hz) (Rt ry) dd fun h' bp hs=>h _ ?_;have he:∃ q,h'.get? a=some q:=let ⟨q,_,_,hq,_⟩:=bp; ⟨q,hq⟩;exact Px I (by rw [e]; exact True.intro) hs he (a3q hl hd (rel.put k rv) bp)
 ·subst ey eH;cases (show u=Value.ref b from ry);obtain ⟨z,hd,xs,rel,dd⟩:=acq I.hok e;have hz:xs.length<=sizeLine:=by rw [<- Paired.length rel]; exact z
  have hl:(putK kvs k v).length<=sizeLine:=by have:=Eh kvs k v; omega
  refine wpAny_setItem_heap (hsz:=hz) (tupleKind_room_in1 hu) (Jx I.hok eb) dd fun h' bp hs=>h _ ?_;obtain ⟨q,es,ep,hq,h2,h3,h4,_,h5⟩:=bp;refine Px I (by rw [e]; exact True.intro) hs ⟨q,hq⟩ ⟨hl,hd,_,(rel.put k eb rv).keeps fun c ys ec=>?_,q,es,ep,hq,h2,h3,h4,h5⟩;rw [d9 (aco ec e (fun z=>nomatch z))];exact ec
end
section
variable {X:Cx} {pins:List (Addr × Obj)} {σ:St} {H:Hp} {s:Shared} {a:Addr} {kvs:List (Key × V)} {k:Key} {u:Value} {A:Around} {E:Value->Shared->Prop}
theorem abk {Q:Value->Shared->Prop} (I:Inv X pins σ H s) (e:Rd H a (.dK kvs)) (h:∀ t s',Inv X pins σ H s'->Q (.int kvs.length t) s'):wpAny (model X.prog X.w) A (call (.builtin "len") [.ref a]) Q E s:=by
 obtain ⟨z,hd,vs,rel,dd⟩:=Gb I.hok e;refine call_len_dict hd dd (by rw [<- rel.length]; rw [sizeLine_eq] at z; omega) ?_;rw [<- rel.length];exact h _ _ (I.tok _)
end
def ado (i:Expr):Prop:=∀ ov iv,subscripted i false ov iv=operate [ov,iv] (getItem ov iv)
theorem a8f {prog:Program} {w:World} {A:Around} {E:Value->Shared->Prop} {s:Shared} {env:Env} {value slice:Expr} {pos:Pos} {T id:String} {Q:Value->Shared->Prop}
  (hl:typeLookup (.type T) "__getitem__" = pure (some (.builtin id))) (hs:ado slice)
  (h:wpAny (model prog w) A (eval value env) (fun o ag=>wpAny (model prog w) A (eval slice env) (fun i av=>av.TypeIs o T/\wpAny (model prog w) A (getItem o i) Q E av) E ag) E s) :
  wpAny (model prog w) A (eval (.Subscript value slice pos) env) Q E s:=by
 refine Subscript_ (wpAny_mono h (fun o ag aP=>wpAny_mono aP (fun i av aZ=>?_) fun _ _ x=>x) fun _ _ x=>x);obtain ⟨hT,aZ⟩:=aZ;unfold subscriptTail;refine wpAny_bind ?_;rw [getitemInPython_of_ne hT.not_modules];refine wpAny_bind (wpAny_specialOf hT hl ?_)
 have fin:wpAny (model prog w) A (subscripted slice false o i) (fun r ah=>wpAny (model prog w) A (letTemporaryGo value o r >>= fun _=>pure r) Q E ah) E av:=by
  rw [hs o i];exact wpAny_operating (wpAny_mono aZ (fun r ah eG=>wpAny_bind (wpAny_letTemporaryGo (wpAny_pure eG))) fun _ _ x=>x)
 first
  | exact wpAny_pure (wpAny_bind fin)
  | exact wpAny_bind (wpAny_pure (wpAny_bind fin))
  | exact wpAny_bind fin
theorem Hu {X:Cx} {pins:List (Addr × Obj)} {σ:St} {H:Hp} {s:Shared} {a:Addr} {y:V} {o:Option V} (I:Inv X pins σ H s) (g:a0x H a y o):s.TypeIs (.ref a) "dict" := by
 rcases g with ⟨kvs,k,e,_,_⟩ | ⟨kvs,k,b,e,_,_,_⟩
 ·obtain ⟨_,_,vs,_,dd⟩:=Gb I.hok e;exact dd.typeIs
 ·obtain ⟨_,_,xs,_,dd⟩:=Rg I.hok e;exact dd.typeIs
noncomputable def acz (td ty:TE):TE:=fun σ H Q=>td σ H fun x H1=>ty σ H1 fun y H2=>∃ a v,x=.ref a/\a0x H2 a y (some v)/\Q v H2
noncomputable def acw (td ty tv:TE):TS:=fun D σ H=>tv σ H fun v H1=>td σ H1 fun x H2=>ty σ H2 fun y H3=>∃ a H4,x=.ref a/\a5k H3 a y v H4/\D.nx σ H4
section
variable {X:Cx} {o i e value:Expr} {pos pos' aH:Pos} {td ty tv:TE}
theorem a5q (hu:X.A.units+1<cLine) (ho:PE X o td) (hi:PE X i ty) (hs:ado i):PE X (.Subscript o i pos) (acz td ty):=by
 intro pins s σ H Q I h;refine a8f PySem.F.slot_dict_getitem.lookup hs (thn (ho pins s σ H _ I h) fun u s1 ⟨x,H1,I1,rx,q1⟩=>thn (hi pins s1 σ H1 _ I1 q1) fun iv s2 ⟨y,H2,I2,ry,a,v,ex,g,q2⟩=>?_);subst ex;obtain rfl:u=Value.ref a:=rx;exact ⟨Hu I2 g,Ny hu I2 g ry fun w' s3 I3 a5=>⟨v,H2,I3,a5,q2⟩⟩
theorem Wk (hu:X.A.units+1<cLine) (ho:PE X o td) (hi:PE X i ty) (hv:PE X value tv) (hs:swapsWith value (some (.Subscript o i pos')) pos.line X.env=pure false) :
  PS X (.Assign [.Subscript o i pos'] value pos) (acw td ty tv):=by
 intro pins s σ H D I h;refine wpAny_Assign_Subscript (thn (hv pins s σ H _ I h) fun r s1 ⟨v,H1,I1,rv,q1⟩=>thn (ho pins s1 σ H1 _ I1 q1) fun u s2 ⟨x,H2,I2,rx,q2⟩=>thn (hi pins s2 σ H2 _ I2 q2) fun iv s3 ⟨y,H3,I3,ry,a,H4,ex,g,q3⟩=>?_) hs;subst ex;obtain rfl:u=Value.ref a:=rx;exact X3 hu I3 g ry rv fun s4 I4=>⟨σ,H4,I4,q3⟩
end
theorem T9 {P:Program} {w:World} {H:Hp} (h:Heap) (hb:sysModules<h.objs.size):qu P w H (h.push { cls:=.type "dict",data:=.dict #[] }) h.objs.size (.dK []) :=
 ⟨Nat.zero_le _,beq_eq_false_iff_ne.mpr (Ne.symm (Nat.ne_of_lt hb)),[],.nil,Heap.DictOf.new h⟩
def aax:TE:=fun _ H Q=>∀ p,H p=none->Q (.ref p) (upd H p (.dK []))
section
variable {X:Cx} {pos:Pos}
theorem a1d:PE X (.Dict [] [] pos) aax:=fun pins s σ H Q I h =>
 wpAny_Dict_empty ⟨.ref s.heap.objs.size,_,I.laid (a:=s.heap.objs.size) (o:=.dK []) (t':=s.toks) (fun _ _ q=>Heap.get?_push_of_some _ q) (Nat.le_refl _) (T9 s.heap I.big),rfl,h _ (I.hok.fresh (Nat.le_refl _))⟩
end
def Y6:List (TE × TE)->St->Hp->(List (V × V)->Hp->Prop)->Prop
 | [],_,H,Q=>Q [] H
 | (tk,tv)::r,σ,H,Q=>tk σ H fun x H1=>tv σ H1 fun y H2=>Y6 r σ H2 fun ps H3=>Q ((x,y)::ps) H3
abbrev VV:List (V × V)->List (Value × Value)->Prop:=Paired fun p q=>RelV p.1 q.1/\RelV p.2 q.2
def PPs (X:Cx) (pos:Pos) (keys:List (Option Expr)) (values:List Expr) (bP:List (TE × TE)):Prop :=
 ∀ (pins:List (Addr × Obj)) (s:Shared) (σ:St) (H:Hp) (Q:List (V × V)->Hp->Prop),Inv X pins σ H s->Y6 bP σ H Q ->
  wpAny (model X.prog X.w) X.A (evalPairs (pairTrees keys values X.env pos)) (fun vs s'=>∃ ps H',Inv X pins σ H' s'/\VV ps vs/\Q ps H') X.xe s
theorem a8b {X:Cx} {pos:Pos}:PPs X pos [] [] []:=fun pins s σ H Q I h=>pairTrees_nil_walk ⟨[],H,I,.nil,h⟩
theorem Tn {X:Cx} {pos:Pos} {k v:Expr} {ks:List (Option Expr)} {vs:List Expr} {tk tv:TE} {bP:List (TE × TE)} (hk:PE X k tk) (hv:PE X v tv) (hr:PPs X pos ks vs bP) :
  PPs X pos (some k::ks) (v::vs) ((tk,tv)::bP):=fun pins s σ H Q I h =>
 pairTrees_cons_walk (thn (hk pins s σ H _ I h) fun u s1 ⟨x,H1,I1,rx,q1⟩=>thn (hv pins s1 σ H1 _ I1 q1) fun w2 s2 ⟨y,H2,I2,ry,q2⟩ =>
  thn (hr pins s2 σ H2 _ I2 q2) fun ws s3 z7=>by obtain ⟨ps,H3,I3,rel,q3⟩:=z7; exact ⟨(x,y)::ps,H3,I3,.cons ⟨rx,ry⟩ rel,q3⟩)
def J1 (kvs more:List (Key × V)):List (Key × V):=more.foldl (fun acc kv=>putK acc kv.1 kv.2) kvs
theorem KV.merge:∀ {more:List (Key × V)} {rs:List (Key × Value)} {kvs:List (Key × V)} {vs:List (Key × Value)},KV more rs->KV kvs vs->KV (J1 kvs more) (merged vs rs):=by
 intro more rs kvs vs r;unfold KV at r
 induction r generalizing kvs vs with
 | nil=>intro q; exact q
 | @cons p q ps qs h t ih =>
  intro r0
  have e:KV (putK kvs p.1 p.2) (stored vs q.1 q.2):=by
   have:=r0.put p.1 h.2;rw [<- h.1]; exact this
  exact ih e
theorem Fj:∀ (more kvs:List (Key × V)),(J1 kvs more).length<=kvs.length+more.length
 | [],kvs=>by show kvs.length<=kvs.length+0; omega
 | p::r,kvs=>by
  have h1:=Fj r (putK kvs p.1 p.2);have h2:=Eh kvs p.1 p.2;show (J1 (putK kvs p.1 p.2) r).length<=_;rw [List.length_cons]; omega
theorem Jl {P:Program} {w:World}:∀ {kvs:List (Key × V)} {ws:List (Value × Value)},VV (kvs.map fun kv=>(kV kv.1,kv.2)) ws->∃ rs,Carries (jr P w) ws rs/\KV kvs rs
 | [],_,r=>by rw [List.map_nil] at r; cases r; exact ⟨[],True.intro,.nil⟩
 | p::kvs,_,r=>by
  rw [List.map_cons] at r;cases r with
  | @cons a b as bs h t =>
   obtain ⟨rs,c,q⟩:=Jl (P:=P) (w:=w) t;obtain ⟨b1,b2⟩:=b;exact ⟨(p.1,b2)::rs,⟨Rt h.1,rfl,c⟩,.cons ⟨rfl,h.2⟩ q⟩
noncomputable def aeb (bP:List (TE × TE)):TE:=fun σ H Q=>∀ p,H p=none->Y6 bP σ (upd H p (.dK [])) fun ps H2=>H2 p=some (.dK [])/\∃ kvs:List (Key × V),ps=kvs.map (fun kv=>(kV kv.1,kv.2))/\kvs.length<=15/\Q (.ref p) (upd H2 p (.dK (J1 [] kvs)))
theorem a6d {X:Cx} {pos:Pos} {keys:List (Option Expr)} {values:List Expr} {bP:List (TE × TE)} (h:PPs X pos keys values bP) (b7:keys.all (·.isSome)=true) (hl:keys.length=values.length) (h0:keys≠[])
  (h15:keys.length<=15):PE X (.Dict keys values pos) (aeb bP):=by
 intro pins s σ H Q I q;have hn:=I.hok.fresh (Nat.le_refl s.heap.objs.size);have I1:=I.laid (a:=s.heap.objs.size) (o:=.dK []) (h':=s.heap.push { cls:=.type "dict",data:=.dict #[] }) (t':=s.toks) (fun _ _ q=>Heap.get?_push_of_some _ q) (Nat.le_refl _) (T9 s.heap I.big);refine wpAny_Dict_walk (knd:=jr X.prog X.w) b7 hl h0 h15 (thn (h pins _ σ _ _ I1 (q _ hn)) fun ws s2 z0=>?_);obtain ⟨ps,H2,I2,rel,e,kvs,ep,lk,q2⟩:=z0;subst ep;obtain ⟨rs,c,rk⟩:=Jl (P:=X.prog) (w:=X.w) rel;obtain ⟨z,hd,vs0,r0,dd⟩:=aaw I2.hok e;cases r0;refine ⟨rs,c,dd,fun h' bp hs=>⟨.ref s.heap.objs.size,_,?_,rfl,q2⟩⟩
 have hz:(J1 [] kvs).length<=sizeLine:=by
  have h1:=Fj kvs [];rw [List.length_nil] at h1;rw [sizeLine_eq]; omega
 have he:∃ q,h'.get? s.heap.objs.size=some q:=let ⟨q,_,_,hq,_⟩:=bp; ⟨q,hq⟩;exact Px I2 (by rw [e]; exact True.intro) hs he (a3q hz hd (rk.merge .nil) bp)
structure M1 (X:Cx) (o:Expr) (m:Str) (apos:Pos) (e:Expr) (ay:Pos):Prop where
 base:attributeBase o m X.env (eval o X.env)=eval o X.env
 few:((backTo ay (starEach [e] X.env)).all (fun x=>!x.1)&&(backToKw ay (keywordEach [] X.env)).all (fun x=>x.1.isSome)
  && decide (([e]:List Expr).length+([]:List Keyword).length+(if ([]:List Keyword).isEmpty then 0 else 1)<30))=true
 line:(apos.endLine==ay.line)=true
 trees:backTo ay (starEach [e] X.env)=[(false,eval e X.env)]
structure M2 (X:Cx) (o:Expr) (m:Str) (apos:Pos) (e f:Expr) (ay:Pos):Prop where
 base:attributeBase o m X.env (eval o X.env)=eval o X.env
 few:((backTo ay (starEach [e,f] X.env)).all (fun x=>!x.1)&&(backToKw ay (keywordEach [] X.env)).all (fun x=>x.1.isSome)
  && decide (([e,f]:List Expr).length+([]:List Keyword).length+(if ([]:List Keyword).isEmpty then 0 else 1)<30))=true
 line:(apos.endLine==ay.line)=true
 trees:backTo ay (starEach [e,f] X.env)=[(false,eval e X.env),(false,eval f X.env)]
def IsD (H:Hp) (a:Addr):Prop:=(∃ kvs,Rd H a (.dK kvs))\/∃ kvs,Rd H a (.dT kvs)
theorem aap {X:Cx} {pins:List (Addr × Obj)} {σ:St} {H:Hp} {s:Shared} {a:Addr} (I:Inv X pins σ H s) (d:IsD H a) :
  s.TypeIs (.ref a) "dict" /\ (∀ b,Value.ref a=.ref b->∃ ob,s.heap.get? b=some ob/\ob.dict=none)/\(a==sysModules)=false:=by
 rcases d with ⟨kvs,e⟩ | ⟨kvs,e⟩
 ·obtain ⟨_,hd,vs,_,dd⟩:=Gb I.hok e;refine ⟨dd.typeIs,fun b q=>?_,hd⟩;cases q;obtain ⟨ob,_,_,h1,h2,_⟩:=dd;exact ⟨ob,h1,h2.2.1⟩
 ·obtain ⟨_,hd,xs,_,dd⟩:=Rg I.hok e;refine ⟨dd.typeIs,fun b q=>?_,hd⟩;cases q;obtain ⟨ob,_,_,h1,h2,_⟩:=dd;exact ⟨ob,h1,h2.2.1⟩
section
variable {X:Cx} {pins:List (Addr × Obj)} {σ:St} {H:Hp} {s:Shared} {a:Addr} {y d:V} {u r:Value} {o:Option V} {A:Around} {E:Value->Shared->Prop}
theorem a9l {Q:Value->Shared->Prop} (hu:A.units+1<cLine) (I:Inv X pins σ H s) (g:a0x H a y o) (ry:RelV y u) (rd:RelV d r) (h:∀ w' s',Inv X pins σ H s'->RelV (o.getD d) w'->Q w' s') :
  wpAny (model X.prog X.w) A (call (.builtin "dict.get") [.ref a,u,r]) Q E s:=by
 rcases g with ⟨kvs,k,e,ey,l⟩ | ⟨kvs,k,b,e,ey,eb,l⟩
 ·subst ey;obtain ⟨z,hd,vs,rel,dd⟩:=Gb I.hok e;refine call_meetsIn PySem.F.slot_dict_get dd.typeIs PySem.F.entry_dict_get (PySem.F.args_dict_get_3 _ _ _) (meets_dict_get_default (jr X.prog X.w) a (Rt ry) hd r) ⟨_,dd.mapOf,h _ _ (I.tok _) ?_⟩;rw [l];exact (rel.val k).getD rd
 ·subst ey;cases (show u=Value.ref b from ry);obtain ⟨z,hd,xs,rel,dd⟩:=Rg I.hok e;refine call_meetsIn PySem.F.slot_dict_get dd.typeIs PySem.F.entry_dict_get (PySem.F.args_dict_get_3 _ _ _) (meetsH_dict_get_default (tupleKind (jr X.prog X.w)) a b hd r) ⟨tupleKind_room_in1 hu,k,xs,Jx I.hok eb,dd,h _ _ (I.tok _) ?_⟩;rw [l];exact (rel.val k).getD rd
end
noncomputable def ab6 (td ty tx:TE):TE:=fun σ H Q=>td σ H fun x H1=>∃ a,x=.ref a/\IsD H1 a/\ty σ H1 fun y H2=>tx σ H2 fun z H3=>∃ o,a0x H3 a y o/\Q (o.getD z) H3
section
variable {X:Cx} {o e f:Expr} {apos ay:Pos} {td ty tx:TE}
theorem a1f (hu:X.A.units+1<cLine) (ho:PE X o td) (he:PE X e ty) (hf:PE X f tx) (m:M2 X o "get" apos e f ay):PE X (.Call (.Attribute o "get" apos) [e,f] [] ay) (ab6 td ty tx):=by
 intro pins s σ H Q I h;refine wpAny_Call_method m.base m.few m.line PySem.F.plainAttrs_dict PySem.F.slot_dict_get PySem.F.type_dict_get (thn (ho pins s σ H _ I h) fun u s1 z0=>?_);obtain ⟨x,H1,I1,rx,a,ex,d,q1⟩:=z0;subst ex;obtain rfl:u=Value.ref a:=rx;obtain ⟨t1,t2,_⟩:=aap I1 d;refine ⟨t1,t2,?_⟩;rw [m.trees]
 refine Calls.callWith_builtin rfl (Calls.evalArgs_plain (Calls.spliced_cons (thn (he pins s1 σ H1 _ I1 q1) fun iv s2 ⟨y,H2,I2,ry,q2⟩ =>
  Calls.spliced_cons (thn (hf pins s2 σ H2 _ I2 q2) fun fv s3 ⟨z,H3,I3,rz,ov,g,q3⟩=>Calls.spliced_nil ?_))))
 exact a9l hu I3 g ry rz fun w' s4 I4 a5=>⟨_,H3,I4,a5,q3⟩
end
section
variable {X:Cx} {pins:List (Addr × Obj)} {σ:St} {H:Hp} {s:Shared} {a:Addr} {kvs:List (Key × V)} {A:Around} {E:Value->Shared->Prop}
end
section
variable {X:Cx} {pins:List (Addr × Obj)} {σ:St} {H:Hp} {s:Shared} {a:Addr} {y:V} {u:Value} {A:Around} {E:Value->Shared->Prop}
end
end L2
end
section
namespace Att
open PySem PySem.W PySem.Calls PyProof.Rows
theorem Io {P:Params} {h:Heap}:∀ (ns:List Int) (vs:List Value),WellAll P h vs (ns.map WData.int)->IntsAre vs ns:=by
 intro ns
 induction ns with
 | nil =>
  intro vs w;rw [List.map_nil] at w;cases w;exact .nil
 | cons n ns ih =>
  intro vs w;rw [List.map_cons] at w;cases w with
  | cons a b =>
   cases a;exact .cons _ _ (ih _ b)
theorem Zv {l:OpenLaw} {n:Nat} (hn:l.most=some n) {P:Params} {h:Heap} {args:List WData} {vals:List Value}
  (aB:l.row.toRowW.claim.pre args=true) (dR:WellAll P h vals args) :
  ∃ a vs ns,vals=[Value.ref a]/\args=[WData.list (ns.map WData.int)]/\h.get? a=some { cls:=.type "list",data:=.seq vs.toArray }/\IntsAre vs ns/\ns.length<=n:=by
 have fy:WShape.hasAll [] args [.list .int]=true:=(pre_splitW aB).1;have hc:l.pre.holds [] { args:=args } = true:=(pre_splitW aB).2;obtain ⟨d,r,rfl,h1,h2⟩:=hasAllW_cons fy;obtain rfl:=hasAllW_nil h2;obtain ⟨xs,rfl,h3⟩:=hasW_list h1;obtain ⟨ns,rfl⟩:=items_int h3
 have hlen:ns.length<=n:=by
  unfold OpenLaw.pre at hc
  have h4:(WTm.not (.lt (.lit (.int (n:Int))) (.len (.arg 0)))).holds [] { args:=[.list (ns.map .int)] } = true:=by
   have h4:=(holds_andW hc).1;rw [hn] at h4;exact h4
  have h5:=condW_of h4 (w_not (w_lt w_lit (w_len_list (w_arg rfl))));rw [List.length_map] at h5;refine Nat.le_of_not_lt fun q=>?_;have q':(n:Int)<((ns.length:Nat):Int):=by omega
  first
   | (rw [decide_eq_true q'] at h5; exact absurd h5 (by decide))
   | (simp at h5; omega)
 cases dR with
 | cons w1 w2 =>
  cases w2;cases w1 with
  | list ho b7=>exact ⟨_,_,ns,rfl,rfl,ho,Io ns _ b7,hlen⟩
theorem Yj (l:OpenLaw) (args:List WData):l.row.toRowW.claim.post args (.bool true) args=true :=
 postW_of (r:=l.row.toRowW) (X:=(true==true))
  (show WShape.has [] (.bool true) .bool=true by first | rfl | decide | simp [WShape.has,WShape.arms,WShape.armsAll])
  (show (WTm.eq .res (.lit (.bool true))).value [] { args:=args,res:=some (.bool true),after:=args } = some (.bool (true==true)) from w_eq_bool (w_res rfl) w_lit) rfl
theorem Qf {l:OpenLaw} {n:Nat} {q:Program} {loose:List Str} {XP:(Str->Option Value)->Heap->Prop} {YP:World->Heap->Prop} {d:DefRec}
  (hn:l.most=some n) (c6:d.params.defaults=[])
  (call:∀ (w:World) (s₀ ag:Shared) (mg mb:Str->Option Value) (fa:Addr) (o:Obj) (pm cd doc:Value) (a:Addr) (vs:List Value) (ns:List Int),
   Ground q loose [] XP w s₀ mg mb ag.heap->YP w ag.heap ->
   ag.heap.get? fa=some o->o.data=.func (docDef d.name d.params d.body d.scope pm cd doc)->ag.heap.CodeRec cd d.name->mg d.name=some (.ref fa) ->
   ag.heap.get? a=some { cls:=.type "list",data:=.seq vs.toArray }->IntsAre vs ns->ns.length<=n->ag.gens = #[] ->
   codeAny (model l.prog w) callerA (.call (.ref fa) ⟨[.ref a],[]⟩) (fun r s'=>r=.ok (.ret (.bool true))/\OldK ag.heap s'.heap/\s'.os=ag.os/\AllBare s'.gens) ag) :
  WalkO q loose XP YP l.row.toRowW d [] (fun f vs=>PySem.call f vs):=by
 intro w s₀ ag mg mb G Y fa o pm cd doc dV kV ho hd aR hD cA hg args vals as aB fz ip dR iq;obtain rfl:dV=.none:=Dflts.none hD c6;obtain rfl:kV=.none:=Dflts.noKw hD;obtain ⟨a,vs,ns,rfl,rfl,cq,hints,hlen⟩:=Zv hn aB dR;refine enter_call (codeAny_mono (call w s₀ ag mg mb fa o pm cd doc a vs ns G Y ho (fd_plain hd) aR cA cq hints hlen hg) fun r s' hq=>?_);obtain ⟨rfl,h2,h3,h4⟩:=hq;exact ⟨.inl ⟨.bool true,.bool true,[],rfl,fun _=>rfl,.bool true,Yj l _,fun _=>⟨List.Pairwise.nil,fun _ hm=>(nomatch hm)⟩⟩,h2,h3,h4⟩
section
variable {prog:Program} {w:World} {A:Around} {E:Value->Shared->Prop} {s:Shared} {K:Frag}
end
end Att
namespace L2
open PySem PySem.Spec PyProof.Rows
theorem Mt:∀ {vs:List Value} {ns:List Int},IntsAre vs ns->Vals (ns.map V.int) vs
 | _,_,.nil=>.nil
 | _,_,.cons n t h=>.cons ⟨t,rfl⟩ (Mt h)
def Only (H:Hp):Prop:=∀ b,H b=none\/∃ o xs,H b=some (.frz o (.lst xs))
theorem a1y {P:Program} {w:World} {K:PySem.W.Frag} {mg mb:Str->Option Value} {CX:CXT} {k:Nat} {fa a:Addr} {fd:FuncData} {x:Str} {sp:Sp} {ag:Shared} {vs:List Value} {ns:List Int}
  (KX:K.In ag.heap) (fx:ag.heap.Ns mainGlobals mg) (hb:ag.heap.Ns builtinsNs mb) (gK:∀ x:Str,x ≠ "__name__" -> mb x=bootBuiltins x) (a6:ag.heap.NoLimit) (hg:ag.gens = #[])
  (ha:ag.heap.get? a=some { cls:=.type "list",data:=.seq vs.toArray }) (hi:IntsAre vs ns) (hl:ns.length<=sizeLine) (hr:xu k callerA)
  (F:∀ base:Heap,K.In base->base.Ns mainGlobals mg->Aw P w K mg base CX k fa fd [x] sp) (cZ:∀ (s:Shared) (u:Value),BindsTo s fd ⟨[u],[]⟩ [(x,u)])
  (bT:∀ H:Hp,Only H->SqL K H a (ns.map V.int)->sp [.ref a] H (fun v _=>v=.bl true) fun _ _ _=>False)
  (dM:∀ H e s',CX [] H ag (fun _ _ _=>False) e s'->False) :
  codeAny (model P w) callerA (.call (.ref fa) ⟨[.ref a],[]⟩) (fun r s'=>r=.ok (.ret (.bool true))/\OldK ag.heap s'.heap/\s'.os=ag.os/\AllBare s'.gens) ag:=by
 have rv:=Mt hi;have eA:=hi.length
 have core:∀ H:Hp,Only H->SqL K H a (ns.map V.int)->HOk P w H ag.heap->(∀ b,H b≠none->b=a)->(H a≠none->K.lookup a=none) ->
   codeAny (model P w) callerA (.call (.ref fa) ⟨[.ref a],[]⟩) (fun r s'=>r=.ok (.ret (.bool true))/\OldK ag.heap s'.heap/\s'.os=ag.os/\AllBare s'.gens) ag:=by
  intro H hO hS hok hA hK;have a9:∀ {b:Addr} {o:Obj},ag.heap.get? b=some o->H b=none->(a1s ag.heap H).get? b=some o:=fun e n=>a1r e n
  have c4:∀ {b:Addr} {o:Obj} {es:Array DictEntry} {ep:Nat},ag.heap.get? b=some o->o.data=.dict es ep->H b=none:=fun {b o es ep} e d=>by
   cases q:H b with
   | none=>rfl
   | some u =>
    have e':b=a:=hA b (by rw [q]; simp);subst e';rw [ha] at e; cases e;have d':Data.seq vs.toArray _=Data.dict es ep:=d;cases d'
  have dB:∀ {b:Addr} {m:Str->Option Value},ag.heap.Ns b m->(a1s ag.heap H).Ns b m:=fun {b m} ⟨o,es,ep,e,d,r⟩=>⟨o,es,ep,a9 e (c4 e d),d,r⟩
  have e9:K.In (a1s ag.heap H):=fun b o e=>a9 (KX b o e) (by
   cases q:H b with
   | none=>rfl
   | some u =>
    have e':b=a:=hA b (by rw [q]; simp);subst e';rw [hK (by rw [q]; simp)] at e; cases e)
  have hM:Mod K mg (a1s ag.heap H):=⟨e9,dB fx,⟨mb,dB hb,gK⟩,let ⟨mc,h1,h2⟩:=a6; ⟨mc,dB h1,h2⟩⟩;have e0:a6s P w K mg (a1s ag.heap H) callerA [] ag H:=⟨rfl,hM,fun b o e=>a8q e,Nat.le_of_eq (Vy _ _),trivial,fun b hb=>absurd (show b∈([]:List Addr) from hb) (by simp),hok,.of_eq hg⟩;refine codeAny_mono ((F _ e9 (dB fx)).run callerA [] ag H ⟨[.ref a],[]⟩ [.ref a] [.ref a] _ _ hr e0 (cZ ag (.ref a)) (.cons rfl .nil) (bT H hO hS)) fun r s' h=>?_;cases r with
  | error e=>exact (dM H e s' h).elim
  | ok fl =>
   cases fl with
   | next=>exact False.elim h
   | brk=>exact False.elim h
   | cont=>exact False.elim h
   | ret u =>
    obtain ⟨v,H',os,bare,un,hok',r',q⟩:=h;have q':v=.bl true:=q;subst q';obtain rfl:u=Value.bool true:=r';refine ⟨rfl,OldK.of_keep fun b o e=>?_,os,bare⟩;cases q:H b with
    | none=>exact un.keep b o e q (by intro z; exact absurd (show b∈([]:List Addr) from z) (by simp)) (by simp)
    | some u =>
     rcases hO b with z | ⟨ob,xs,z⟩
     ·rw [q] at z; cases z
     ·have z2:=un.frzs b ob _ z;obtain ⟨e1,_⟩:=hok b _ z;obtain ⟨e2,_⟩:=hok' b _ z2;rw [e] at e1; cases e1;exact e2
 cases hk:K.lookup a with
 | some o =>
  have e:=KX a o hk;rw [ha] at e;cases e;refine core (fun _=>none) (fun _=>.inl rfl) (.inr ⟨_,vs.toArray,_,hk,rfl,rfl,rfl,by rw [List.size_toArray,eA]; exact hl,by simpa using rv⟩) (fun b u z=>by have z':(none:Option HO)=some u:=z; cases z') (fun b z=>absurd rfl z) fun z=>absurd rfl z
 | none =>
  refine core (fun b=>if b=a then some (.frz { cls:=.type "list",data:=.seq vs.toArray } (.lst (ns.map V.int))) else none) (fun b=>?_) (.inl (.inr ⟨{ cls:=.type "list",data:=.seq vs.toArray },if_pos rfl⟩)) (fun b u z=>?_) (fun b z=>?_) fun _=>hk
  ·by_cases hb:b=a
   ·exact .inr ⟨_,_,if_pos hb⟩
   ·exact .inl (if_neg hb)
  ·by_cases hb:b=a
   ·have z':=(if_pos hb).symm.trans z;cases z';subst hb;exact ⟨ha,by rw [List.length_map]; exact hl,vs,_,rv,ha⟩
   ·have z':=(if_neg hb).symm.trans z;cases z'
  ·by_cases hb:b=a
   ·exact hb
   ·exact absurd (if_neg hb) z
end L2
namespace L2
open PySem PySem.Spec PyProof.Rows
theorem a8h {l:PySem.W.OpenLaw} {n k:Nat} {q:Program} {loose:List Str} {XP:(Str->Option Value)->Heap->Prop} {YP:World->Heap->Prop} {d:DefRec} {K:Params->PySem.W.Frag} {CX:World->CXT} {sp:World->Sp} {x:Str}
  (hn:l.most=some n) (dE:n<=sizeLine) (c6:d.params.defaults=[]) (hr:xu k callerA)
  (hY:∀ (w:World) (h:Heap),YP w h->(K w.params).In h)
  (F:∀ (w:World) (mg:Str->Option Value) (fa:Addr) (h:Heap),(K w.params).In h->h.Ns mainGlobals mg->mg d.name=some (.ref fa) ->
   ∃ fd:FuncData,(∀ (s:Shared) (u:Value),BindsTo s fd ⟨[u],[]⟩ [(x,u)]) /\
    ∀ base:Heap,(K w.params).In base->base.Ns mainGlobals mg->Aw l.prog w (K w.params) mg base (CX w) k fa fd [x] (sp w))
  (bT:∀ (w:World) (H:Hp) (a:Addr) (ns:List Int),ns.length<=n->Only H->SqL (K w.params) H a (ns.map V.int)->sp w [.ref a] H (fun v _=>v=.bl true) fun _ _ _=>False)
  (dM:∀ (w:World) (H:Hp) (s:Shared) (e:Value) (s':Shared),CX w [] H s (fun _ _ _=>False) e s'->False) :
  PySem.W.WalkO q loose XP YP l.row.toRowW d [] (fun f vs=>PySem.call f vs):=by
 refine Att.Qf hn c6 fun w s₀ ag mg mb fa o pm cd doc a vs ns G Y ho hd aR cA cq hints hlen hg=>?_;have KX:=hY w _ Y;obtain ⟨fd,hb,hF⟩:=F w mg fa _ KX G.T.g cA;exact a1y KX G.T.g G.T.b G.T.builtins G.T.nolimit hg cq hints (Nat.le_trans hlen dE) hr hF hb (fun H hO hS=>bT w H a ns hlen hO hS) fun H e s'=>dM w H ag e s'
end L2
namespace L2
open PySem PySem.Spec PyProof.Rows
noncomputable def Ea (s:Stmt):Arguments:=match s with
 | .FunctionDef _ a _ _ _ _ _ _ _ _=>a
 | _=>{ posonlyargs:=[],args:=[],vararg:=none,kwonlyargs:=[],kw_defaults:=[],kwarg:=none,defaults:=[] }
def u9 (s:Stmt):List Stmt:=match s with
 | .FunctionDef _ _ b _ _ _ _ _ _ _=>b
 | _=>[]
noncomputable def f9 (s:Stmt):Scope:=match s with
 | .FunctionDef _ _ _ _ _ _ sc _ _ _=>sc
 | _=>{ kind:=.function,names:=[],isGenerator:=false,isCoroutine:=false }
abbrev CX0:CXT:=fun _ _ _ _ _ _=>False
abbrev E0:XK:=fun _ _ _=>False
theorem a7j {X:Cx}:Passes CX0 X E0:=fun _ _ _ _ _ _ _ h=>h.elim
structure Fun (K:PySem.W.Frag) (x qual:Str) (st:Stmt) (f:Addr) (fd:FuncData):Prop where
 ex:∃ (oc:Value) (od:Option Addr) (kV doc pm:Value) (an:Option Addr) (az ct:Value) (bg:Array (Option Value)),
  fd=PySem.W.fnOf x qual (Ea st) (u9 st) (f9 st) .none kV doc pm an az ct/\K.lookup f=some ⟨oc,od,.func fd,bg⟩/\PySem.W.codeIn K az qual=true
 kp:PySem.W.keepIn K (.ref f)=true
section
variable {P:Program} {w:World} {K:PySem.W.Frag} {mg:Str->Option Value} {base:Heap}
theorem Fun.ok {x qual:Str} {st:Stmt} {f:Addr} {fd:FuncData} {N ps:List Str} {k:Nat} {sp:Sp} (F:Fun K x qual st f fd) (S:zp N ps (f9 st)) (len:∀ vs H Q E,sp vs H Q E->vs.length=ps.length)
  (bB:∀ (az:Value) (A:Around) (outer:List Env) (s:Shared) (H:Hp) (vs:List V) (Q:VK) (E:XK),xu k (A.deeper (envOfC qual (f9 st) s.heap.objs.size f az))->sp vs H Q E ->
   ∃ t,PSs (Pg CX0 P w K mg base N qual (f9 st) f az A outer s H E).nox (u9 st) t/\t { nx:=fun _ H'=>Q .non H',rt:=Q } (start N vs) H):Aw P w K mg base CX0 (k+1) f fd ps sp:=by
 obtain ⟨oc,od,kV,doc,pm,an,az,ct,bg,rfl,lk,aR⟩:=F.ex;refine a92 lk aR S len fun A outer s H vs Q E hr bT=>?_;obtain ⟨t,h,q⟩:=bB az A outer s H vs Q E hr bT;exact ⟨t,h.nox,q⟩
theorem Fun.binds {x qual:Str} {st:Stmt} {f:Addr} {fd:FuncData} {ps:List Str} (F:Fun K x qual st f fd)
  (h:∀ (kV doc pm:Value) (an:Option Addr) (az ct:Value) (us:List Value),us.length=ps.length->bindArgs (PySem.W.fnOf x qual (Ea st) (u9 st) (f9 st) .none kV doc pm an az ct) ⟨us,[]⟩=pure (ps.zip us)):Binds K fd ps []:=by
 obtain ⟨oc,od,kV,doc,pm,an,az,ct,bg,rfl,lk,aR⟩:=F.ex;exact .all (h kV doc pm an az ct)
theorem bd1 {fd:FuncData} {ps:List Str} (h:∀ a,bindArgs fd ⟨[a],[]⟩=pure (ps.zip [a])) (us:List Value) (hl:us.length=1):bindArgs fd ⟨us,[]⟩=pure (ps.zip us):=by
 cases us with
 | nil=>exact nomatch hl
 | cons a us =>
 cases us with
 | cons _ _=>simp at hl
 | nil=>exact h a
theorem bd2 {fd:FuncData} {ps:List Str} (h:∀ a b,bindArgs fd ⟨[a,b],[]⟩=pure (ps.zip [a,b])) (us:List Value) (hl:us.length=2):bindArgs fd ⟨us,[]⟩=pure (ps.zip us):=by
 cases us with
 | nil=>exact nomatch hl
 | cons a us =>
 cases us with
 | nil=>exact nomatch hl
 | cons b us =>
 cases us with
 | cons _ _=>simp at hl
 | nil=>exact h a b
theorem bd3 {fd:FuncData} {ps:List Str} (h:∀ a b c,bindArgs fd ⟨[a,b,c],[]⟩=pure (ps.zip [a,b,c])) (us:List Value) (hl:us.length=3):bindArgs fd ⟨us,[]⟩=pure (ps.zip us):=by
 cases us with
 | nil=>exact nomatch hl
 | cons a us =>
 cases us with
 | nil=>exact nomatch hl
 | cons b us =>
 cases us with
 | nil=>exact nomatch hl
 | cons c us =>
 cases us with
 | cons _ _=>simp at hl
 | nil=>exact h a b c
theorem bd4 {fd:FuncData} {ps:List Str} (h:∀ a b c d,bindArgs fd ⟨[a,b,c,d],[]⟩=pure (ps.zip [a,b,c,d])) (us:List Value) (hl:us.length=4):bindArgs fd ⟨us,[]⟩=pure (ps.zip us):=by
 cases us with
 | nil=>exact nomatch hl
 | cons a us =>
 cases us with
 | nil=>exact nomatch hl
 | cons b us =>
 cases us with
 | nil=>exact nomatch hl
 | cons c us =>
 cases us with
 | nil=>exact nomatch hl
 | cons d us =>
 cases us with
 | cons _ _=>simp at hl
 | nil=>exact h a b c d
theorem bd5 {fd:FuncData} {ps:List Str} (h:∀ a b c d e,bindArgs fd ⟨[a,b,c,d,e],[]⟩=pure (ps.zip [a,b,c,d,e])) (us:List Value) (hl:us.length=5):bindArgs fd ⟨us,[]⟩=pure (ps.zip us):=by
 cases us with
 | nil=>exact nomatch hl
 | cons a us =>
 cases us with
 | nil=>exact nomatch hl
 | cons b us =>
 cases us with
 | nil=>exact nomatch hl
 | cons c us =>
 cases us with
 | nil=>exact nomatch hl
 | cons d us =>
 cases us with
 | nil=>exact nomatch hl
 | cons e us =>
 cases us with
 | cons _ _=>simp at hl
 | nil=>exact h a b c d e
theorem U4 {x qual:Str} {st:Stmt} {f:Addr} {oc:Value} {od an:Option Addr} {bg:Array (Option Value)} {kV doc pm az ct:Value} (l:K.lookup f=some ⟨oc,od,.func (PySem.W.fnOf x qual (Ea st) (u9 st) (f9 st) .none kV doc pm an az ct),bg⟩)
  (c:PySem.W.codeIn K az qual=true) (k:PySem.W.keepIn K (.ref f)=true):Fun K x qual st f (PySem.W.fnOf x qual (Ea st) (u9 st) (f9 st) .none kV doc pm an az ct):=⟨⟨oc,od,kV,doc,pm,an,az,ct,bg,rfl,l,c⟩,k⟩
end
theorem a7d {A:Around} {k:Nat} (hr:xu k A):A.units+1<cLine:=Nat.lt_of_le_of_lt (Nat.add_le_add_left (by decide:1<=64) _) hr.units
theorem Cm {n:Nat} (h:n<=1000):n<sizeLine:=Nat.lt_of_le_of_lt h (by decide)
section
variable {X:Cx}
theorem pv (i:Nat) {x:Str} {pos:Pos} (hN:X.N[i]? = some x:=by rfl) (hv:Vis X.env.scope x:=by first | exact Or.inl rfl | exact Or.inr (Or.inl rfl) | exact Or.inr (Or.inr rfl)) (hd:(x==("__debug__" : Str))=false:=by decide)
  (aR:(x==("__classdict__" : Str))=false:=by decide):PE X (.Name x pos) (Zf i):=Xh hN hv hd aR
end
theorem Wv {A B:Prop} (h:B):if false=true then A else B:=by
 rw [if_neg Bool.false_ne_true];exact h
theorem Yo {A B:Prop} (h:A):if true=true then A else B:=by
 rw [if_pos rfl];exact h
def Same (H H':Hp):Prop:=∀ b o,H b=some o->H' b=some o
theorem Same.refl (H:Hp):Same H H:=fun _ _ h=>h
theorem Same.trans {H H1 H2:Hp} (a:Same H H1) (b:Same H1 H2):Same H H2:=fun c o h=>b c o (a c o h)
theorem Same.free {H H':Hp} (e:Same H H') {l:Addr} (h:H' l=Option.none):H l=Option.none:=by
 cases q:H l with
 | none=>rfl
 | some o =>
  rw [e l o q] at h;cases h
section
variable {X:Cx}
end
section
variable {κ:Type} [DecidableEq κ]
end
section
variable {pr:Program} {wd:World} {Ar:Around} {Rs:Result->Shared->Prop} {s:Shared}
theorem Pb {el dG eR:Expr} {cs:List Expr} {eO:Scope} {ps:Pos} {bQ aG:Value} {en:Env} (J:Nat->Shared->Prop)
  (turn:∀ n z,J n z->wpAny (model pr wd) Ar (pyNext bQ) (fun nx z1=>match nx with
   | none=>Rs (.ok .next) z1
   | some v=>wpAny (model pr wd) Ar (letOwnedTupleGo dG bQ v) (fun _ z2=>wpAny (model pr wd) Ar (assign dG en v) (fun _ z3 =>
     wpAny (model pr wd) Ar (forIn cs true fun c go=>if go=true then do let ok <- isTrue c en (eval c en); pure (ForInStep.yield ok) else pure (ForInStep.yield go)) (fun ok z4 =>
      if ok=true then wpAny (model pr wd) Ar (eval el en) (fun x z5 =>
       wpAny (model pr wd) Ar (call (.builtin "list.append") [aG,x]) (fun _ z6=>∃ m,m<n/\J m z6) (fun _ _=>False) z5) (notedBy (model pr wd) Ar en fun x z=>Rs (.error x) z) z4
      else ∃ m,m<n/\J m z4) (fun _ _=>False) z3) (fun _ _=>False) z2) (fun _ _=>False) z1) (fun _ _=>False) z)
  (n:Nat) (h:J n s) :
  codeAny (model pr wd) Ar (.compLoop (.ListComp el [⟨dG,eR,cs,0⟩] eO ps) 0 bQ aG en) Rs s:=by
 refine codeAny_loop rfl J (fun k z hz=>?_) n h;show wpAny _ Ar ((compTurn (.ListComp el [⟨dG,eR,cs,0⟩] eO ps) 0 bQ aG en).onRaise (fun ex=>do noteFrame ex en; theTreesLotGoes ex)) _ _ z;refine wpAny_noted ?_;rw [compTurn_list];refine wpAny_bind (wpAny_standAt (wpAny_bind (wpAny_mono (turn k z hz) (fun nx z1 g1=>?_) fun _ _ no=>no.elim)));cases nx with
 | none=>exact wpAny_pure g1
 | some v =>
  refine wpAny_bind (wpAny_mono g1 (fun _ z2 g2=>?_) fun _ _ no=>no.elim);refine wpAny_bind (wpAny_mono g2 (fun _ z3 g3=>wpAny_bind (wpAny_mono g3 (fun ok z4 g4=>?_) fun _ _ no=>no.elim)) fun _ _ no=>no.elim);cases ok with
  | false=>exact wpAny_pure (And.intro rfl g4)
  | true =>
   exact wpAny_bind (wpAny_bind (wpAny_mono g4 (fun x z5 g5=>wpAny_bind (wpAny_mono g5 (fun _ z6 g6=>wpAny_pure (wpAny_pure (And.intro rfl g6))) fun _ _ no=>no.elim)) fun _ _ e=>e))
end
noncomputable def Tc (env:Env):List (Str × NameKind)->List (Str × Addr)->List (Str × Addr)
 | [],cs=>cs
 | (n,k)::r,cs=>Tc env r (if (k==NameKind.free)=true then (match env.cells.lookup n with | some c=>(n,c)::cs | none=>cs) else cs)
noncomputable def Dc (env:Env) (names:List (Str × NameKind)):Bool:=names.all fun y=>!(y.2==NameKind.free)||(env.cells.lookup y.1).isSome
theorem Ep {scope:Scope} {env:Env} (h:Dc env scope.names=true):closureFor scope env=pure (Tc env scope.names []):=by
 have key:∀ (l:List (Str × NameKind)) (cs:List (Str × Addr)),Dc env l=true ->
   (forIn (m:=Sem) l cs fun x r=>(do
    if (x.2==NameKind.free)=true then
     let c <- cellOf env x.1
     pure (ForInStep.yield ((x.1,c)::r))
    else pure (ForInStep.yield r)))=pure (Tc env l cs):=by
  intro l
  induction l with
  | nil=>intro cs _; rfl
  | cons x r ih =>
   intro cs h;obtain ⟨n,k⟩:=x;unfold Dc at h;rw [List.all_cons,Bool.and_eq_true] at h;obtain ⟨h1,h2⟩:=h;rw [List.forIn_cons]
   by_cases hk:(k==NameKind.free)=true
   ·have cH:(env.cells.lookup n).isSome=true:=by simpa [hk] using h1
    obtain ⟨c,hc⟩:=Option.isSome_iff_exists.mp cH;have e:cellOf env n=pure c:=by unfold cellOf; rw [hc]
    simp only [hk,if_true,e,pure_bind];rw [ih _ h2];simp only [Tc,hk,if_true,hc]
   ·simp only [hk,if_false,pure_bind,Bool.false_eq_true];rw [ih _ h2];simp only [Tc,hk,if_false,Bool.false_eq_true]
 have:=key scope.names [] h;unfold closureFor;simpa using this
noncomputable def m5 (X:Cx) (scope:Scope) (N:List Str) (C:Addr) (s₀:Shared) (H₀:Hp) (ex:List Addr) (pn:List (Addr × Obj)):Cx :=
 { X with N:=N,s₀:=s₀,H₀:=H₀,env:=compEnvC scope (Tc X.env scope.names []) C X.env,outer:=X.stack,ex:=ex,fn:=fun _=>false,pn:=pn,xe:=fun _ _=>False }
structure Hi (X:Cx) (scope:Scope) (N:List Str):Prop where
 has:Dc X.env scope.names=true
 kind:scope.kind=.function
 nocell:∀ y∈scope.names,y.2≠.cell
 names:∀ y∈scope.names,y.2=.local->scope.names.lookup y.1=some .local
def a8r (X:Cx) (scope:Scope) (x:Str):Prop :=
 (X.env.kindOf x=some .cell\/X.env.kindOf x=some .free)/\Vis X.env.scope x/\((relabel scope X.env).names.lookup x=some .cell\/(relabel scope X.env).names.lookup x=some .free)
theorem Ip {env:Env}:∀ (l:List (Str × NameKind)) (cs:List (Str × Addr)),(∀ x c,cs.lookup x=some c->env.cells.lookup x=some c) ->
  ∀ x c,(Tc env l cs).lookup x=some c->env.cells.lookup x=some c
 | [],cs,h,x,c,e=>h x c e
 | (n,k)::r,cs,h,x,c,e=>by
  rw [Tc] at e;refine Ip r _ (fun y d q=>?_) x c e;split at q
  ·split at q
   ·rename_i c' bJ;rw [List.lookup_cons] at q;split at q
    ·rename_i hb;cases q;have d0:=eq_of_beq hb;rw [d0]; exact bJ
    ·exact h y d q
   ·exact h y d q
  ·exact h y d q
theorem W2 {env:Env}:∀ (l:List (Str × NameKind)) (cs:List (Str × Addr)) (x:Str),(∃ c,cs.lookup x=some c)->∃ c,(Tc env l cs).lookup x=some c
 | [],cs,x,h=>h
 | (n,k)::r,cs,x,h=>by
  rw [Tc];refine W2 r _ x ?_;split
  ·split
   ·rename_i c' bJ;rw [List.lookup_cons];split
    ·exact ⟨_,rfl⟩
    ·exact h
   ·exact h
  ·exact h
theorem Yn {env:Env}:∀ (l:List (Str × NameKind)) (cs:List (Str × Addr)) (x:Str),Dc env l=true->(x,NameKind.free)∈l->∃ c,(Tc env l cs).lookup x=some c
 | [],cs,x,_,h=>by simp at h
 | (n,k)::r,cs,x,hh,h=>by
  unfold Dc at hh;rw [List.all_cons,Bool.and_eq_true] at hh;rw [Tc];rcases List.mem_cons.mp h with e | h'
  ·injection e with e1 e2;subst e1; subst e2;have h1:(env.cells.lookup x).isSome=true:=by simpa using hh.1
   obtain ⟨c,hc⟩:=Option.isSome_iff_exists.mp h1;refine W2 r _ x ?_;simp [hc]
  ·exact Yn r _ x hh.2 h'
theorem mem_of_lookup {α:Type}:∀ {l:List (Str × α)} {x:Str} {k:α},l.lookup x=some k->(x,k)∈l
 | [],_,_,h=>by simp at h
 | (n,k')::r,x,k,h=>by
  rw [List.lookup_cons] at h;split at h
  ·rename_i hb;cases h;have d0:=eq_of_beq hb;rw [d0]; exact List.mem_cons_self
  ·exact List.mem_cons_of_mem _ (mem_of_lookup h)
theorem Ud {scope:Scope} {env:Env} (nc:∀ y∈scope.names,y.2≠.cell) {x:Str} (h:(relabel scope env).names.lookup x=some .cell\/(relabel scope env).names.lookup x=some .free):(x,NameKind.free)∈scope.names:=by
 have:∃ k,(x,k)∈(relabel scope env).names/\(k=.cell\/k=.free):=by
  rcases h with h | h
  ·exact ⟨_,mem_of_lookup h,.inl rfl⟩
  ·exact ⟨_,mem_of_lookup h,.inr rfl⟩
 obtain ⟨k,hm,hk⟩:=this;obtain ⟨⟨n,k'⟩,hm',e⟩:=List.mem_map.mp hm;dsimp only at e;split at e
 ·rename_i hc;cases e;simp only [Bool.and_eq_true,beq_iff_eq] at hc;obtain ⟨⟨h1,_⟩,_⟩:=hc;subst h1; exact hm'
 ·cases e;rcases hk with rfl | rfl
  ·exact absurd rfl (nc _ hm')
  ·exact hm'
def PTs (X:Cx) (ifs:List Expr) (t:TT):Prop:=∀ (pins:List (Addr × Obj)) (s:Shared) (σ:St) (H:Hp) (Q:Bool->Hp->Prop),Inv X pins σ H s->t σ H Q ->
 wpAny (model X.prog X.w) X.A (forIn ifs true fun c r=>if r=true then do let ok <- isTrue c X.env (eval c X.env); pure (ForInStep.yield ok) else pure (ForInStep.yield r)) (TP X pins σ Q) X.xe s
theorem a6u {X:Cx}:PTs X [] (fun _ H Q=>Q true H):=fun pins s σ H Q I h=>wpAny_tests_nil ⟨H,I,h⟩
theorem a5z {X:Cx} {c:Expr} {t:TT} (h:PT X c t):PTs X [c] t:=fun pins s σ H Q I q=>wpAny_tests_one (h pins s σ H Q I q)
def Ke (X:Cx) (scope:Scope) (N:List Str) (g:TG) (tc:TT) (te:TE) (σ:St) (J:It) (H1:Hp) (Q:VK):Prop:=∀ D,H1 D=none->∃ aX:St,aX.length=N.length /\
 (∀ (i:Nat) (v:V) (x:Str),aX[i]? = some (some v)->N[i]? = some x->Vis (relabel scope X.env) x->∃ k:Nat,X.N[k]? = some x/\σ[k]? = some (some v)/\a8r X scope x) /\
 ∃ W:Nat->Nat->St->Hp->Prop,(∃ m,W 0 m aX (upd H1 D (.lst [])))/\∀ i m σ' H',W i m σ' H' ->
  (J.stop i H'/\Q (.ref D) H')\/(J.go i H'/\∀ x H2,J.yld i H' x H2->g x σ' H2 fun br H3=>tc br H3 fun b H4=>if b=true then te br H4 fun y H5=>∃ l,H5 D=some (.lst l)/\l.length<sizeLine/\∃ m',m'<m/\W (i+1) m' br (upd H5 D (.lst (l++[y]))) else ∃ m',m'<m/\W (i+1) m' br H4)
noncomputable def a8n (X:Cx) (scope:Scope) (N:List Str) (wi:TI) (g:TG) (tc:TT) (te:TE):TE:=fun σ H Q=>wi σ H fun J H1=>Ke X scope N g tc te σ J H1 Q
section
variable {X:Cx} {scope:Scope} {N:List Str}
theorem Yq (sc:Hi X scope N) {pins:List (Addr × Obj)} {σ:St} {H:Hp} {s:Shared} {fp:List Addr} (I:Inv X pins σ H s) (hf:∀ b∈fp,Kc X pins H b) (dZ:∀ b∈fp,b<s.heap.objs.size) :
  (m5 X scope N s.heap.objs.size s H fp (X.pn++pins)).Ok where
 mod:=I.ok.mod
 kind:=sc.kind
 glob:=I.ok.glob
 blt:=I.ok.blt
 above:=Nat.le_refl _
 inj:=fun x y c h1 h2=>I.ok.inj x y c (Ip _ [] (fun _ _ z=>by simp at z) x c h1) (Ip _ [] (fun _ _ z=>by simp at z) y c h2)
 has:=fun x h=>Yn _ [] x sc.has (Ud sc.nocell h)
 cab:=fun x c h=>by cases h
 hd:=I.ok.hd
 frames:=I.ok.frames
 stk:=.inl rfl
 exf:=fun b hb=>⟨Nat.ne_of_lt (dZ b hb),fun x c h=>(hf b hb).2.2.2.2.1 x c (Ip _ [] (fun _ _ z=>by simp at z) x c h)⟩
 bs:=I.bs
 bsz:=Nat.le_trans I.ok.bsz I.sz
 noex:=fun b o e hb=>by
  rcases (hf b hb).2.2.2.1 with z | z
  ·exact I.ok.noex b o e z
  ·exact absurd (Nat.lt_of_lt_of_le (Heap.lt_size e) (Nat.le_trans I.ok.bsz z)) (Nat.lt_irrefl _)
 exfs:=fun b hb z=>by
  rcases List.mem_cons.mp (I.Ou b z) with e | e
  ·exact (hf b hb).2.1 e
  ·exact (hf b hb).2.2.1 e
 Ru:=I.stack
 frf:=I.Ph
theorem Vj (sc:Hi X scope N) {pins:List (Addr × Obj)} {σ aX:St} {H:Hp} {s:Shared} {fp:List Addr} {h':Heap} {m:Str->Option Value} {tk:Nat} (I:Inv X pins σ H s) (hf:∀ b∈fp,Kc X pins H b) (dZ:∀ b∈fp,b<s.heap.objs.size)
  (hl:aX.length=N.length) (h0:∀ (i:Nat) (v:V) (x:Str),aX[i]? = some (some v)->N[i]? = some x->Vis (relabel scope X.env) x->∃ k:Nat,X.N[k]? = some x/\σ[k]? = some (some v)/\a8r X scope x)
  (hn:h'.Ns s.heap.objs.size m) (hk:∀ b o,s.heap.get? b=some o->h'.get? b=some o) :
  Inv (m5 X scope N s.heap.objs.size s H fp (X.pn++pins)) [] aX H { s with heap:=h',toks:=tk } where
 ok:=Yq sc I hf dZ
 os:=rfl
 bare:=I.bare
 base:=Un.kept hk
 loc:=⟨m,hn,fun i x v e1 e2 e3=>by
  obtain ⟨k,n2,n3,ck,cv,cr⟩:=h0 i v x e2 e1 e3;obtain ⟨m0,_,hl0⟩:=I.loc;obtain ⟨u,r,l⟩:=hl0 k x v n2 n3 cv;refine ⟨u,r,.inr ⟨cr,?_⟩⟩;rcases l with ⟨l1,_⟩ | ⟨_,c,hc,z⟩
  ·rcases ck with q | q <;> (rw [l1] at q; cases q)
  ·obtain ⟨c',bJ⟩:=Yn (env:=X.env) scope.names [] x sc.has (Ud sc.nocell cr);have q:=Ip scope.names [] (fun _ _ z=>by simp at z) x c' bJ;rw [hc] at q; cases q;obtain ⟨o,ho,hd⟩:=z;exact ⟨c,bJ,o,hk _ _ ho,hd⟩⟩
 cell:=fun x c e=>by
  obtain ⟨v,o,ho,hd⟩:=I.cell x c (Ip scope.names [] (fun _ _ z=>by simp at z) x c e);exact ⟨v,o,hk _ _ ho,hd⟩
 free:=I.hok.fresh (Nat.le_refl _)
 freeC:=fun x c e=>I.freeC x c (Ip scope.names [] (fun _ _ z=>by simp at z) x c e)
 pin:=fun p hp=>by
  have bO:p∈X.pn++pins:=by simpa [m5] using hp
  obtain ⟨a,b,c,d,e⟩:=I.pin p bO;refine ⟨hk _ _ a,b,Nat.ne_of_lt (Heap.lt_size a),fun z=>?_,e⟩;rcases List.mem_cons.mp (I.Ou p.1 z) with q | q
  ·exact c q
  ·exact d q
 hok:=I.hok.kept hk
 len:=hl
theorem Rz {pins:List (Addr × Obj)} {σ σ':St} {H H':Hp} {s s':Shared} {fp:List Addr} {h':Heap} (I:Inv X pins σ H s) (hf:∀ b∈fp,Kc X pins H b)
  (J:Inv (m5 X scope N s.heap.objs.size s H fp (X.pn++pins)) [] σ' H' s') (hs:Heap.SameBut s.heap.objs.size s'.heap h'):Inv X pins σ H' { s' with heap:=h' }:=by
 have kb:∀ b o,b≠s.heap.objs.size->s'.heap.get? b=some o->h'.get? b=some o:=fun b o n e=>hs.extBut b o n e;have ne:∀ b o,s.heap.get? b=some o->b≠s.heap.objs.size:=fun b o e=>Nat.ne_of_lt (Heap.lt_size e);have fr:H' s.heap.objs.size=none:=J.free;have u0:Un (frs X.stack) fp H H' s.heap s'.heap:=J.base
 have u:Un (frs X.stack) fp H H' s.heap h':=⟨fun b o e n h1 h2=>kb b o (ne b o e) (u0.keep b o e n h1 h2),fun b o e n h1 h2=>by
   obtain ⟨sl,q⟩:=u0.slot b o e n h1 h2;exact ⟨sl,kb b _ (ne b o e) q⟩,u0.free,fun b o e h=>by
   obtain ⟨o',q⟩:=u0.there b o e h;exact ⟨o',kb b _ (ne b o e) q⟩,u0.tups,u0.frzs,u0.tbls⟩
 have hok:HOk X.prog X.w H' h':=fun b o e=>by
  refine (J.hok b o e).stay (fun c v hc q=>kb c v ?_ q) (fun _ q=>q) fun _ _ q=>q;rcases hc with z | z
  ·rw [z]; intro y; rw [y] at e; rw [fr] at e; cases e
  ·intro y; rw [y] at z; rw [fr] at z; cases z
 have fO:s'.os=s.os:=J.os;obtain ⟨hh,g,d,t,os'⟩:=s';obtain rfl:os'=s.os:=fO;exact Inv.call (X:=X) (s:=s) (H:=H) (h':=h') (g':=g) (d':=d) (t':=t) (ch:=fp) I u hok J.bare fun b hb=>⟨(hf b hb).2.2.2.1,(hf b hb).2.1,(hf b hb).2.2.2.2.1,(hf b hb).2.2.2.2.2⟩
variable {tg iter elt:Expr} {ifs:List Expr} {pos:Pos} {g:TG} {tc:TT} {te:TE}
theorem Rq {Ex:Cx->Value->Shared->Prop} (sc:Hi X scope N) (calm:X.calm=true)
  (hg:∀ C s₀ H₀ ex pn,PG (m5 X scope N C s₀ H₀ ex pn) tg g) (hc:∀ C s₀ H₀ ex pn,PTs (m5 X scope N C s₀ H₀ ex pn) ifs tc) (he:∀ C s₀ H₀ ex pn,PE ((m5 X scope N C s₀ H₀ ex pn).wish (Ex (m5 X scope N C s₀ H₀ ex pn))) elt te)
  {pins:List (Addr × Obj)} {σ:St} {H1:Hp} {av:Shared} {it:Addr} {fp:List Addr} {tn:Nat->Heap->Prop} {J:It} {Q:VK} {E:Value->Shared->Prop} {RR:Value->Addr->Result->Shared->Prop}
  (I:Inv X pins σ H1 av) (T:Turn X.prog X.w X.K tg J fp it tn) (bK:tn 0 av.heap) (f2:∀ b∈fp,Kc X pins H1 b) (q:Ke X scope N g tc te σ J H1 Q)
  (dS:∀ D ah H3 σ' H' s',Inv X pins σ H3 ah->(∀ b∈fp,Kc X pins H3 b)->Inv (m5 X scope N ah.heap.objs.size ah H3 fp (X.pn++pins)) [] σ' H' s'->Q (.ref D) H'->RR (.ref D) ah.heap.objs.size (.ok .next) s')
  (gJ:∀ D ah H3 e s',Inv X pins σ H3 ah->(∀ b∈fp,Kc X pins H3 b)->Ex (m5 X scope N ah.heap.objs.size ah H3 fp (X.pn++pins)) e s'->notedBy (model X.prog X.w) X.A (m5 X scope N ah.heap.objs.size ah H3 fp (X.pn++pins)).env (fun x z=>RR (.ref D) ah.heap.objs.size (.error x) z) e s') :
  wpAny (model X.prog X.w) X.A (newList []) (fun acc ah=>wpAny (model X.prog X.w) X.A (newFunctionEnv scope X.env.globals (Tc X.env scope.names []) [] X.env.qual none .none (some X.env)) (fun bA aW =>
   codeAny (model X.prog X.w) X.A (.compStart (.ListComp elt [⟨tg,iter,ifs,0⟩] scope pos) 0 (.ref it) acc { bA with scope:=relabel scope X.env }) (RR acc bA.locals) aW) E ah) E av:=by
 refine wpAny_newObj_type (wpAny_newFunctionEnv sc.nocell (by intro y hy; simp at hy) (fun aP aY aV=>?_) sc.kind);dsimp only at aY aV ⊢
 have I3:Inv X pins σ (upd H1 av.heap.objs.size (.lst [])) { av with heap:=av.heap.push { cls:=.type "list",dict:=none,data:=.seq ([]:List Value).toArray } } :=
  I.laid (t':=av.toks) (fun b ob q=>Heap.get?_push_of_some _ q) (Nat.le_refl _) ⟨Nat.zero_le _,[],_,.nil,Heap.get?_push_size _ rfl⟩
 generalize hs3:({ av with heap:=av.heap.push { cls:=.type "list",dict:=none,data:=.seq ([]:List Value).toArray } }:Shared)=ah at I3;have bH:av.heap.push { cls:=.type "list",dict:=none,data:=.seq ([]:List Value).toArray } = ah.heap:=by rw [<- hs3]
 have cC:∀ (h:Heap) (t:Nat),({ av with heap:=h,toks:=t }:Shared) = { ah with heap:=h,toks:=t }:=fun h t=>by rw [<- hs3]
 rw [bH] at aY aV ⊢
 have fq:∀ b∈fp,b<av.heap.objs.size:=fun b hb=>by
  obtain ⟨o,ho,_⟩:=T.obj _ _ bK b hb;exact Heap.lt_size ho
 have gQ:ah.heap.objs.size=av.heap.objs.size+1:=by rw [<- bH,Heap.size_push]
 have gi:∀ b o,av.heap.get? b=some o->ah.heap.get? b=some o:=fun b o e=>by rw [<- bH]; exact Heap.get?_push_of_some _ e
 have f3:∀ b∈fp,Kc X pins (upd H1 av.heap.objs.size (.lst [])) b:=fun b hb=>⟨by rw [d9 (Nat.ne_of_lt (fq b hb))]; exact (f2 b hb).1,(f2 b hb).2⟩;have fo:∀ b∈fp,b<ah.heap.objs.size:=fun b hb=>by rw [gQ]; exact Nat.lt_succ_of_lt (fq b hb)
 obtain ⟨aX,hl,h0,W,⟨m0,w0⟩,turn⟩:=q av.heap.objs.size (I.hok.fresh (Nat.le_refl _));have eW:∀ b o,ah.heap.get? b=some o->aP.get? b=some o:=fun b o e=>aV.extBut b o (Nat.ne_of_lt (Heap.lt_size e)) (Heap.get?_push_of_some _ e);rw [cC];have J0:=Vj (tk:=av.toks+([]:List (Str × Value)).length) sc I3 f3 fo hl h0 aY eW;have fg:tn 0 aP:=T.keep _ _ _ bK fun b _ o e=>eW b o (gi b o e)
 have key:∀ aW:Shared,aW = { ah with heap:=aP,toks:=av.toks+([]:List (Str × Value)).length }->codeAny (model X.prog X.w) X.A (.compLoop (.ListComp elt [⟨tg,iter,ifs,0⟩] scope pos) 0 (.ref it) (.ref av.heap.objs.size)
   (m5 X scope N ah.heap.objs.size ah (upd H1 av.heap.objs.size (.lst [])) fp (X.pn++pins)).env) (RR (.ref av.heap.objs.size) ah.heap.objs.size) aW:=by
  rintro aW rfl;generalize hX:m5 X scope N ah.heap.objs.size ah (upd H1 av.heap.objs.size (.lst [])) fp (X.pn++pins)=X' at J0;have hP:X'.prog=X.prog:=by rw [<- hX]; rfl
  have hW:X'.w=X.w:=by rw [<- hX]; rfl
  have hA:X'.A=X.A:=by rw [<- hX]; rfl
  have bY:X'.xe=fun _ _=>False:=by rw [<- hX]; rfl
  have hK:X'.K=X.K:=by rw [<- hX]; rfl
  have cK:X'.calm=true:=by rw [<- hX]; exact calm
  have aT:∀ {H':Hp},(∀ b∈fp,H' b=none)->∀ b∈fp,Kc X' [] H' b:=fun hn b hb=>by
   have z:=Yq sc I3 f3 fo;rw [hX] at z;refine ⟨hn b hb,(z.exf b (by rw [<- hX]; exact hb)).1,z.exfs b (by rw [<- hX]; exact hb),.inl (by rw [<- hX]; exact hb),(z.exf b (by rw [<- hX]; exact hb)).2,fun p hp=>?_⟩;have bO:p∈X.pn++pins:=by rw [<- hX] at hp; simpa [m5] using hp
   exact (f3 b hb).2.2.2.2.2 p bO
  have g7:PG X' tg g:=by rw [<- hX]; exact hg _ _ _ _ _
  have bJ:PTs X' ifs tc:=by rw [<- hX]; exact hc _ _ _ _ _
  have cG:PE (X'.wish (Ex X')) elt te:=by rw [<- hX]; exact he _ _ _ _ _
  have eB:∀ e s',Ex X' e s'->notedBy (model X.prog X.w) X.A X'.env (fun x z=>RR (.ref av.heap.objs.size) ah.heap.objs.size (.error x) z) e s':=fun e s' z=>by rw [<- hX] at z ⊢; exact gJ _ ah _ e s' I3 f3 z
  have fin:∀ σ' H' s',Inv X' [] σ' H' s'->Q (.ref av.heap.objs.size) H'->RR (.ref av.heap.objs.size) ah.heap.objs.size (.ok .next) s':=fun σ' H' s' I' q'=>dS _ ah _ σ' H' s' I3 f3 (by rw [hX]; exact I') q';have T':Turn X'.prog X'.w X'.K tg J fp it tn:=by rw [hP,hW,hK]; exact T
  rw [<- hP,<- hW,<- hA];refine Pb (J:=fun n s'=>∃ i σ' H',Inv X' [] σ' H' s'/\tn i s'.heap/\(∀ b∈fp,H' b=none)/\W i n σ' H') ?_ m0 ⟨0,aX,_,J0,fg,fun b hb=>(f3 b hb).1,w0⟩;rintro n s5 ⟨i,σ5,H5,I5,st5,fr5,w5⟩;rcases turn i n σ5 H5 w5 with ⟨stop,qn⟩ | ⟨go,step⟩
  ·refine thn (T'.done X' rfl rfl rfl cK i [] s5 σ5 H5 _ I5 (aT fr5) st5 stop) fun r s6 z0=>?_;obtain ⟨hr,I6⟩:=z0;subst hr;exact fin _ _ _ I6 qn
  ·refine thn (T'.item X' rfl rfl rfl cK i [] s5 σ5 H5 _ I5 (aT fr5) st5 go) fun r s6 z0=>?_;obtain ⟨u,hr,h6⟩:=z0;subst hr;refine thn h6 fun _ s7 z0=>?_;obtain ⟨x,H7,I7,r7,y7,st7,fr7⟩:=z0;have gA:=I7.pinned (aT fr7) (T'.obj _ _ st7);have a1:=g7 _ s7 σ5 H7 x u _ gA r7 (step x H7 y7);rw [bY] at a1;refine thn a1 fun _ s8 z0=>?_;obtain ⟨σ8,H8,I8,q8⟩:=z0;have a2:=bJ _ s8 σ8 H8 _ I8 q8;rw [bY] at a2;refine thn a2 fun ok s9 z0=>?_;obtain ⟨H9,I9,q9⟩:=z0
   have again:∀ {aS:St} {H7:Hp} {s':Shared} {m':Nat},Inv X' ([]++Oj fp s7.heap) aS H7 s'->m'<n->W (i+1) m' aS H7->∃ m,m<n/\∃ i σ' H',Inv X' [] σ' H' s'/\tn i s'.heap/\(∀ b∈fp,H' b=none)/\W i m σ' H':=fun {aS H7 s' m'} I7 hm w7=>by
    refine ⟨m',hm,i+1,aS,H7,I7.Fg,T'.keep _ _ _ st7 fun b hb o e=>(I7.pin (b,o) (List.mem_append_right _ (List.mem_append_right _ (Ag hb e)))).1,fun b hb=>?_,w7⟩;obtain ⟨o,e,d⟩:=T'.obj _ _ st7 b hb;exact (I7.pin (b,o) (List.mem_append_right _ (List.mem_append_right _ (Ag hb e)))).2.1
   cases ok with
   | false =>
    rw [if_neg Bool.false_ne_true] at q9 ⊢;obtain ⟨m',hm,w9⟩:=q9;exact again I9 hm w9
   | true =>
    rw [if_pos rfl] at q9 ⊢;refine wpAny_mono (cG _ s9 σ8 H9 _ (I9.wish _) q9) (fun xv gM z0=>?_) fun e z h=>by rw [hP,hW,hA]; exact eB e z h
    obtain ⟨y,H10,I10',r10,l,hl10,hz10,m',hm,w10⟩:=z0;have fH:=I10'.Dm;have a4:=Ac (X:=X') _ gM σ8 H10 (.ref av.heap.objs.size) [y] (.ref av.heap.objs.size) [xv] (fun _ H'=>H'=upd H10 av.heap.objs.size (.lst (l++[y]))) fH rfl (.cons r10 .nil) ⟨_,l,y,rfl,rfl,hl10,hz10,rfl⟩;rw [bY] at a4;refine thn a4 fun _ ic z0=>?_;obtain ⟨v,H11,I11,_,e11⟩:=z0;subst e11;exact again I11 hm w10
 exact codeAny_compStart_list (key _ rfl) (T.self _ 0 _ _ _ fg (key _ rfl))
theorem Js (sc:Hi X scope N) (calm:X.calm=true)
  (hg:∀ C s₀ H₀ ex pn,PG (m5 X scope N C s₀ H₀ ex pn) tg g) (hc:∀ C s₀ H₀ ex pn,PTs (m5 X scope N C s₀ H₀ ex pn) ifs tc) (he:∀ C s₀ H₀ ex pn,PE (m5 X scope N C s₀ H₀ ex pn) elt te)
  {pins:List (Addr × Obj)} {σ:St} {H1:Hp} {av:Shared} {it:Addr} {fp:List Addr} {tn:Nat->Heap->Prop} {J:It} {Q:VK} {E:Value->Shared->Prop} {RR:Value->Addr->Result->Shared->Prop}
  (I:Inv X pins σ H1 av) (T:Turn X.prog X.w X.K tg J fp it tn) (bK:tn 0 av.heap) (f2:∀ b∈fp,Kc X pins H1 b) (q:Ke X scope N g tc te σ J H1 Q)
  (dS:∀ D ah H3 σ' H' s',Inv X pins σ H3 ah->(∀ b∈fp,Kc X pins H3 b)->Inv (m5 X scope N ah.heap.objs.size ah H3 fp (X.pn++pins)) [] σ' H' s'->Q (.ref D) H'->RR (.ref D) ah.heap.objs.size (.ok .next) s') :
  wpAny (model X.prog X.w) X.A (newList []) (fun acc ah=>wpAny (model X.prog X.w) X.A (newFunctionEnv scope X.env.globals (Tc X.env scope.names []) [] X.env.qual none .none (some X.env)) (fun bA aW =>
   codeAny (model X.prog X.w) X.A (.compStart (.ListComp elt [⟨tg,iter,ifs,0⟩] scope pos) 0 (.ref it) acc { bA with scope:=relabel scope X.env }) (RR acc bA.locals) aW) E ah) E av :=
 Rq (Ex:=fun _ _ _=>False) sc calm hg hc he I T bK f2 q dS fun _ _ _ _ _ _ _ z=>z.elim
theorem a77 {wi:TI} (sc:Hi X scope N) (calm:X.calm=true) (hi:PI X tg iter wi)
  (hg:∀ C s₀ H₀ ex pn,PG (m5 X scope N C s₀ H₀ ex pn) tg g) (hc:∀ C s₀ H₀ ex pn,PTs (m5 X scope N C s₀ H₀ ex pn) ifs tc) (he:∀ C s₀ H₀ ex pn,PE (m5 X scope N C s₀ H₀ ex pn) elt te)
  (hs:∀ x,foldedSetIterable iter X.env x=pure x:=by intro _; rfl):PE X (.ListComp elt [⟨tg,iter,ifs,0⟩] scope pos) (a8n X scope N wi g tc te):=by
 intro pins s σ H Q I h;rw [eval_ListComp];refine wpAny_comprehension_free (use:=none) rfl hs (Ep sc.has) sc.kind sc.names ?_;refine wpAny_mono (hi pins s σ H _ I h) (fun x ag aP=>wpAny_mono aP (fun bQ av aZ=>?_) fun _ _ e=>e) fun _ _ e=>e;obtain ⟨it,fp,tn,J,H1,rfl,I2,T,bK,f2,q⟩:=aZ;refine Js (RR:=fun acc C=>compPost (model X.prog X.w) X.A X.xe none (EP X pins σ Q) acc C) sc calm hg hc he I2 T bK f2 q ?_;intro D ah H3 σ' H' s' I3 f3 I' qn;obtain ⟨m,hn,_⟩:=I'.loc;exact ⟨m,hn,fun h' bb=>⟨.ref D,H',Rz I3 f3 I' bb,rfl,qn⟩⟩
theorem Lg {wi:TI} {y:Str} {py cT:Pos} {i:Nat} (sc:Hi X scope N) (calm:X.calm=true) (hi:PI X tg iter wi)
  (hg:∀ C s₀ H₀ ex pn,PG (m5 X scope N C s₀ H₀ ex pn) tg g) (hc:∀ C s₀ H₀ ex pn,PTs (m5 X scope N C s₀ H₀ ex pn) ifs tc) (he:∀ C s₀ H₀ ex pn,PE (m5 X scope N C s₀ H₀ ex pn) elt te)
  (gW:PG X (.Name y py) (Kr i)) (bS:swapsWith (.ListComp elt [⟨tg,iter,ifs,0⟩] scope pos) (some (.Name y py)) cT.line X.env=pure true)
  (hs:∀ x,foldedSetIterable iter X.env x=pure x:=by intro _; rfl):PS X (.Assign [.Name y py] (.ListComp elt [⟨tg,iter,ifs,0⟩] scope pos) cT) (a9j (a8n X scope N wi g tc te) (Kr i)):=by
 intro pins s σ H D I h;rw [exec_Assign_Name_used _ _ _ _ bS];refine wpAny_bind (wpAny_standAt (wpAny_bind ?_));show wpAny _ X.A (do let _ <- comprehension (.ListComp elt [⟨tg,iter,ifs,0⟩] scope pos) scope X.env _ (newList []) false (eval iter X.env) (some (assign (.Name y py) X.env))) _ _ s;refine wpAny_bind (wpAny_mono (wpAny_comprehension_free (use:=some (assign (.Name y py) X.env)) (Q:=fun _ s'=>SP X pins D .next s') rfl hs (Ep sc.has) sc.kind sc.names ?_) (fun _ s' hq=>wpAny_pure (wpAny_pure hq)) fun _ _ e=>e);refine wpAny_mono (hi pins s σ H _ I h) (fun x ag aP=>wpAny_mono aP (fun bQ av aZ=>?_) fun _ _ e=>e) fun _ _ e=>e;obtain ⟨it,fp,tn,J,H1,rfl,I2,T,bK,f2,q⟩:=aZ;refine Js (RR:=fun acc C=>compPost (model X.prog X.w) X.A X.xe (some (assign (.Name y py) X.env)) (fun _ s'=>SP X pins D .next s') acc C) sc calm hg hc he I2 T bK f2 q ?_;intro D' ah H3 σ' H' s' I3 f3 I' qn;obtain ⟨m,hn,_⟩:=I'.loc;obtain ⟨oC,es,ep,hoC,hdC,bG⟩:=id hn;have IX:Inv X pins σ H' s':=Rz I3 f3 I' (.refl ..);have fC:Kc X pins H' ah.heap.objs.size:=I3.a8v (Nat.le_refl _) I'.free
 have hJ:=IX.pinned (fp:=[ah.heap.objs.size]) (fun b hb=>by rw [List.mem_singleton.mp hb]; exact fC) (fun b hb=>by
  rw [List.mem_singleton.mp hb];exact ⟨oC,hoC,fun v z=>by rw [hdC] at z; cases z⟩)
 show wpAny _ X.A (assign (.Name y py) X.env (.ref D')) _ _ _;refine thn (gW _ s' σ H' (.ref D') (.ref D') _ hJ rfl qn) fun _ dm z0=>?_;obtain ⟨σ'',H'',I'',q''⟩:=z0;have pC:=I''.pin (ah.heap.objs.size,oC) (List.mem_append_right _ (List.mem_append_right _ (Ag (by simp) hoC)));refine ⟨m,⟨oC,es,ep,pC.1,hdC,bG⟩,fun h' bb=>⟨σ'',H'',?_,q''⟩⟩;exact I''.Fg.turned (h':=h') (t':=dm.toks) (it:=ah.heap.objs.size) (fun b o ne e=>bb.extBut b o ne e) pC.2.1 fC.2.1 fC.2.2.2.1 fC.2.2.2.2.1 fC.2.2.2.2.2
end
end L2
end
section
namespace C
open PySem PySem.Spec PyProof.Rows L2
mutual
inductive Rep (K:PySem.W.Frag) (S:Hp) (as:List Addr):V->T->Prop where
 | non:Rep K S as .non .non
 | bl (b:Bool):Rep K S as (.bl b) (.bl b)
 | int (i:Int):Rep K S as (.int i) (.int i)
 | str (x:Str):Rep K S as (.str x) (.str x)
 | tup {a:Addr} {vs:List V} {ts:List T}:SqT K S a vs->qd K S as vs ts->Rep K S as (.ref a) (.tup ts)
 | lst {a:Addr} {vs:List V} {ts:List T}:SqL K S a vs->qd K S as vs ts->Rep K S as (.ref a) (.lst ts)
 | dic {a:Addr} {kvs:List (L2.Key × V)} {ts:List (L2.Key × T)}:Rd S a (.dK kvs)->Cr K S as kvs ts->Rep K S as (.ref a) (.dic ts)
 | obj {n:Nat} {a:Addr}:as[n]? = some a->Rep K S as (.ref a) (.obj n)
 | adr (a:Addr):Rep K S as (.ref a) (.adr a)
inductive qd (K:PySem.W.Frag) (S:Hp) (as:List Addr):List V->List T->Prop where
 | nil:qd K S as [] []
 | cons {v:V} {t:T} {vs:List V} {ts:List T}:Rep K S as v t->qd K S as vs ts->qd K S as (v::vs) (t::ts)
inductive Cr (K:PySem.W.Frag) (S:Hp) (as:List Addr):List (L2.Key × V)->List (L2.Key × T)->Prop where
 | nil:Cr K S as [] []
 | cons {k:L2.Key} {v:V} {t:T} {vs:List (L2.Key × V)} {ts:List (L2.Key × T)}:Rep K S as v t->Cr K S as vs ts->Cr K S as ((k,v)::vs) ((k,t)::ts)
end
theorem um {S S':Hp} {a:Addr} {u:HO} (e:Same S S') (h:Rd S a u):Rd S' a u:=by
 rcases h with h | ⟨o,h⟩
 ·exact .inl (e _ _ h)
 ·exact .inr ⟨o,e _ _ h⟩
theorem kj {K:PySem.W.Frag} {S S':Hp} {a:Addr} {xs:List V} (e:Same S S') (h:SqT K S a xs):SqT K S' a xs:=by
 rcases h with h | h
 ·exact .inl (um e h)
 ·exact .inr h
theorem iz {K:PySem.W.Frag} {S S':Hp} {a:Addr} {xs:List V} (e:Same S S') (h:SqL K S a xs):SqL K S' a xs:=by
 rcases h with h | h
 ·exact .inl (um e h)
 ·exact .inr h
section
variable {K:PySem.W.Frag} {S S':Hp} {as af:List Addr}
theorem Yh {α:Type} {l r:List α} {n:Nat} {a:α} (h:l[n]? = some a):(l++r)[n]? = some a:=by
 have:=(List.getElem?_eq_some_iff.mp h).1;rw [List.getElem?_append_left this]; exact h
theorem Qw {n:Nat} {a:Addr} (x:∃ l,af=as++l) (h:as[n]? = some a):af[n]? = some a:=by obtain ⟨l,rfl⟩:=x; exact Yh h
theorem Rep.mono (e:Same S S') (x:∃ l,af=as++l) {v:V} {t:T} (h:Rep K S as v t):Rep K S' af v t :=
 Rep.rec (motive_1:=fun v t _=>Rep K S' af v t) (motive_2:=fun v t _=>qd K S' af v t) (motive_3:=fun v t _=>Cr K S' af v t) .non .bl .int .str (fun h _ i=>.tup (kj e h) i) (fun h _ i=>.lst (iz e h) i) (fun h _ i=>.dic (um e h) i) (fun h=>.obj (Qw x h)) .adr .nil (fun _ _ a b=>.cons a b) .nil (fun _ _ a b=>.cons a b) h
theorem qd.mono (e:Same S S') (x:∃ l,af=as++l) {v:List V} {t:List T} (h:qd K S as v t):qd K S' af v t :=
 qd.rec (motive_1:=fun v t _=>Rep K S' af v t) (motive_2:=fun v t _=>qd K S' af v t) (motive_3:=fun v t _=>Cr K S' af v t) .non .bl .int .str (fun h _ i=>.tup (kj e h) i) (fun h _ i=>.lst (iz e h) i) (fun h _ i=>.dic (um e h) i) (fun h=>.obj (Qw x h)) .adr .nil (fun _ _ a b=>.cons a b) .nil (fun _ _ a b=>.cons a b) h
theorem Cr.mono (e:Same S S') (x:∃ l,af=as++l) {v:List (L2.Key × V)} {t:List (L2.Key × T)} (h:Cr K S as v t):Cr K S' af v t :=
 Cr.rec (motive_1:=fun v t _=>Rep K S' af v t) (motive_2:=fun v t _=>qd K S' af v t) (motive_3:=fun v t _=>Cr K S' af v t) .non .bl .int .str (fun h _ i=>.tup (kj e h) i) (fun h _ i=>.lst (iz e h) i) (fun h _ i=>.dic (um e h) i) (fun h=>.obj (Qw x h)) .adr .nil (fun _ _ a b=>.cons a b) .nil (fun _ _ a b=>.cons a b) h
inductive Tf (K:PySem.W.Frag) (S:Hp) (as:List Addr):List (Str × V)->List (Str × T)->Prop where
 | nil:Tf K S as [] []
 | cons {k:Str} {v:V} {t:T} {vs:List (Str × V)} {ts:List (Str × T)}:Rep K S as v t->Tf K S as vs ts->Tf K S as ((k,v)::vs) ((k,t)::ts)
theorem Tf.mono (e:Same S S') (x:∃ l,af=as++l) {v:List (Str × V)} {t:List (Str × T)} (h:Tf K S as v t):Tf K S' af v t:=by
 induction h with
 | nil=>exact .nil
 | cons h _ ih=>exact .cons (h.mono e x) ih
inductive a2y (K:PySem.W.Frag) (S:Hp) (as:List Addr):List (List L2.Key × V)->List (List L2.Key × T)->Prop where
 | nil:a2y K S as [] []
 | cons {k:List L2.Key} {v:V} {t:T} {vs:List (List L2.Key × V)} {ts:List (List L2.Key × T)}:Rep K S as v t->a2y K S as vs ts->a2y K S as ((k,v)::vs) ((k,t)::ts)
theorem a2y.mono (e:Same S S') (x:∃ l,af=as++l) {v:List (List L2.Key × V)} {t:List (List L2.Key × T)} (h:a2y K S as v t):a2y K S' af v t:=by
 induction h with
 | nil=>exact .nil
 | cons h _ ih=>exact .cons (h.mono e x) ih
theorem a2y.length {vs:List (List L2.Key × V)} {ts:List (List L2.Key × T)} (h:a2y K S as vs ts):vs.length=ts.length:=by
 induction h with
 | nil=>rfl
 | cons _ _ ih=>exact congrArg (· + 1) ih
theorem qd.length {vs:List V} {ts:List T} (h:qd K S as vs ts):vs.length=ts.length :=
 qd.rec (motive_1:=fun _ _ _=>True) (motive_2:=fun v t _=>v.length=t.length) (motive_3:=fun _ _ _=>True) trivial (fun _=>trivial) (fun _=>trivial) (fun _=>trivial) (fun _ _ _=>trivial) (fun _ _ _=>trivial) (fun _ _ _=>trivial) (fun _=>trivial) (fun _=>trivial) rfl (fun _ _ _ i=>congrArg (· + 1) i) trivial (fun _ _ _ _=>trivial) h
theorem Cr.length {vs:List (L2.Key × V)} {ts:List (L2.Key × T)} (h:Cr K S as vs ts):vs.length=ts.length :=
 Cr.rec (motive_1:=fun _ _ _=>True) (motive_2:=fun _ _ _=>True) (motive_3:=fun v t _=>v.length=t.length) trivial (fun _=>trivial) (fun _=>trivial) (fun _=>trivial) (fun _ _ _=>trivial) (fun _ _ _=>trivial) (fun _ _ _=>trivial) (fun _=>trivial) (fun _=>trivial) trivial (fun _ _ _ _=>trivial) rfl (fun _ _ _ i=>congrArg (· + 1) i) h
theorem qd.get:∀ {vs:List V} {ts:List T} {i:Nat} {t:T},qd K S as vs ts->ts[i]? = some t->∃ v,vs[i]? = some v/\Rep K S as v t
 | _,_,_,_,.nil,e=>by simp at e
 | _,_,0,_,.cons r _,e=>by simp at e; subst e; exact ⟨_,rfl,r⟩
 | _,_,i+1,t,.cons _ r,e=>by
  obtain ⟨v,h1,h2⟩:=qd.get (i:=i) (t:=t) r (by simpa using e);exact ⟨v,by simpa using h1,h2⟩
theorem qd.append {vs:List V} {ts:List T} {ws:List V} {us:List T} (h:qd K S as vs ts) (q:qd K S as ws us):qd K S as (vs++ws) (ts++us) :=
 qd.rec (motive_1:=fun _ _ _=>True) (motive_2:=fun v t _=>qd K S as (v++ws) (t++us)) (motive_3:=fun _ _ _=>True) trivial (fun _=>trivial) (fun _=>trivial) (fun _=>trivial) (fun _ _ _=>trivial) (fun _ _ _=>trivial) (fun _ _ _=>trivial) (fun _=>trivial) (fun _=>trivial) q (fun h _ _ i=>.cons h i) trivial (fun _ _ _ _=>trivial) h
theorem qd.drop:∀ (n:Nat) {vs:List V} {ts:List T},qd K S as vs ts->qd K S as (vs.drop n) (ts.drop n)
 | 0,_,_,r=>r
 | _+1,_,_,.nil=>.nil
 | n+1,_,_,.cons _ r=>qd.drop n r
theorem Cr.get (k:L2.Key):∀ {vs:List (L2.Key × V)} {ts:List (L2.Key × T)},Cr K S as vs ts->(∃ v t,Qu vs k=some v/\Gj k ts=some t/\Rep K S as v t)\/(Qu vs k=none/\Gj k ts=none)
 | _,_,.nil=>.inr ⟨rfl,rfl⟩
 | _,_,.cons (k:=q) (v:=v) (t:=t) (vs:=vs) (ts:=ts) h r=>by
  by_cases e:q=k
  ·exact .inl ⟨v,t,Gs (p:=(q,v)) e,by rw [Gj,if_pos e],h⟩
  ·rw [Gn (p:=(q,v)) e,Gj,if_neg e];exact Cr.get k r
end
structure Bas where
 S:Hp
 as:List Addr
 H:Hp
structure aaq (B:Bas) (S:Hp) (as:List Addr) (H:Hp):Prop where
 same:Same B.S S
 more:∃ l,as=B.as++l
 keep:∀ p o,B.H p=some o->B.S p=none->p∉B.as->H p=some o/\S p=none/\p∉as
structure Ext (S H S' H':Hp):Prop where
 s:Same S S'
 h:Same H H'
 sub:Same S' H'
 new:∀ p,S' p≠none->S p≠none\/H p=none
theorem Ext.refl {S H:Hp} (h:Same S H):Ext S H S H:=⟨Same.refl _,Same.refl _,h,fun _ q=>.inl q⟩
theorem Same.upd {H:Hp} {p:Addr} (h:H p=none) (o:HO):Same H (upd H p o):=fun b u q=>by rw [d9 (jq q h)]; exact q
theorem Ext.laid {S H:Hp} (h:Same S H) {p:Addr} (n:H p=none) (o:HO):Ext S H (upd S p o) (upd H p o) where
 s:=Same.upd (h.free n) o
 h:=Same.upd n o
 sub:=fun b u q=>by
  by_cases e:b=p
  ·subst e; rw [d8] at q ⊢; exact q
  ·rw [d9 e] at q ⊢; exact h _ _ q
 new:=fun b q=>by
  by_cases e:b=p
  ·subst e; exact .inr n
  ·rw [d9 e] at q; exact .inl q
def Own (K:PySem.W.Frag) (S:Hp) (as:List Addr) (H:Hp) (p:Addr):T->Prop
 | .lst ts=>∃ vs,H p=some (.lst vs)/\qd K S as vs ts
 | .dic ts=>∃ kvs,H p=some (.dK kvs)/\Cr K S as kvs ts
 | _=>False
structure Xi (K:PySem.W.Frag) (B:Bas) (S:Hp) (as:List Addr) (H:Hp) (p:Addr) (t:T):Prop where
 own:Own K S as H p t
 out:S p=none
 nas:p∉as
 new:B.H p=none
def a4g (K:PySem.W.Frag) (S:Hp) (as:List Addr) (H:Hp) (a:Addr):SO->Prop
 | .dic ts=>∃ kvs,H a=some (.dK kvs)/\Cr K S as kvs ts
 | .lst ts=>∃ vs,H a=some (.lst vs)/\qd K S as vs ts
 | .dit ts=>∃ kvs,H a=some (.dT kvs)/\a2y K S as kvs ts
 | .ins C fs=>∃ dx vs,H a=some (.ins C dx vs)/\Tf K S as vs fs
 | .fdc ts=>∃ kvs,(∃ o,H a=some (.frz o (.dK kvs)))/\Cr K S as kvs ts
 | .exc C f t=>∃ dx v,H a=some (.ext fun h=>∃ vs,h.get? a=some { cls:=.ref C,dict:=some dx,data:=.fields vs })/\S dx=some (.ext fun h=>∃ hs tk u,RelV v u/\h.get? dx=some (PySem.W.dictOf [⟨hs,.str f tk,u⟩] 1))/\Rep K S as v t
structure Fw (K:PySem.W.Frag) (S:Hp) (as:List Addr) (H:Hp) (sto:List SO):Prop where
 len:as.length=sto.length
 nd:as.Nodup
 at':∀ (n:Nat) so,sto[n]? = some so->∃ a,as[n]? = some a/\S a=none/\a4g K S as H a so
structure Rel (K:PySem.W.Frag) (B:Bas) (st:Sta) (σ:L2.St) (H:Hp) (ps:List (V × T)) (S:Hp) (as:List Addr):Prop where
 sub:Same S H
 grow:aaq B S as H
 slots:∀ (i:Nat) t f,st.env[i]? = some (some (t,f))->∃ v,σ[i]? = some (some v)/\(f=false->Rep K S as v t)/\(f=true->∃ p,v=.ref p/\Xi K B S as H p t)
 apart:∀ (i j:Nat) t u p,st.env[i]? = some (some (t,true))->st.env[j]? = some (some (u,true))->σ[i]? = some (some (.ref p))->σ[j]? = some (some (.ref p))->i=j
 sto:Fw K S as H st.sto
 pend:∀ p∈ps,Rep K S as p.1 p.2
 len:σ.length=st.env.length
section
variable {K:PySem.W.Frag} {B:Bas} {st:Sta} {σ:L2.St} {H H' S S':Hp} {ps:List (V × T)} {as:List Addr}
theorem nol {as:List Addr}:∃ l:List Addr,as=as++l:=⟨[],(List.append_nil _).symm⟩
theorem Own.mono {p:Addr} {t:T} (hs:Same S S') (hh:H p=H' p) (o:Own K S as H p t):Own K S' as H' p t:=by
 cases t with
 | lst ts=>obtain ⟨vs,h,r⟩:=o; exact ⟨vs,hh ▸ h,r.mono hs nol⟩
 | dic ts=>obtain ⟨vs,h,r⟩:=o; exact ⟨vs,hh ▸ h,r.mono hs nol⟩
 | _=>exact o.elim
theorem Own.there {p:Addr} {t:T} (o:Own K S as H p t):∃ ob,H p=some ob:=by
 cases t with
 | lst ts=>obtain ⟨vs,h,r⟩:=o; exact ⟨_,h⟩
 | dic ts=>obtain ⟨vs,h,r⟩:=o; exact ⟨_,h⟩
 | _=>exact o.elim
theorem a4g.mono {a:Addr} {so:SO} (hs:Same S S') (hh:H a=H' a) (o:a4g K S as H a so):a4g K S' as H' a so:=by
 cases so with
 | dic ts=>obtain ⟨vs,h,r⟩:=o; exact ⟨vs,hh ▸ h,r.mono hs nol⟩
 | lst ts=>obtain ⟨vs,h,r⟩:=o; exact ⟨vs,hh ▸ h,r.mono hs nol⟩
 | dit ts=>obtain ⟨vs,h,r⟩:=o; exact ⟨vs,hh ▸ h,r.mono hs nol⟩
 | exc C f t=>obtain ⟨dx,v,h,g,r⟩:=o; exact ⟨dx,v,hh ▸ h,hs _ _ g,r.mono hs nol⟩
 | ins C fs=>obtain ⟨dx,vs,h,r⟩:=o; exact ⟨dx,vs,hh ▸ h,r.mono hs nol⟩
 | fdc ts=>obtain ⟨vs,h,r⟩:=o; exact ⟨vs,hh ▸ h,r.mono hs nol⟩
theorem a4g.there {a:Addr} {so:SO} (o:a4g K S as H a so):∃ ob,H a=some ob:=by
 cases so with
 | dic ts=>obtain ⟨vs,h,r⟩:=o; exact ⟨_,h⟩
 | lst ts=>obtain ⟨vs,h,r⟩:=o; exact ⟨_,h⟩
 | dit ts=>obtain ⟨vs,h,r⟩:=o; exact ⟨_,h⟩
 | exc C f t=>obtain ⟨dx,v,h,g,r⟩:=o; exact ⟨_,h⟩
 | ins C fs=>obtain ⟨dx,vs,h,r⟩:=o; exact ⟨_,h⟩
 | fdc ts=>obtain ⟨vs,⟨o,h⟩,r⟩:=o; exact ⟨_,h⟩
theorem Ext.outs (x:Ext S H S' H') {p:Addr} {o:HO} (h:H p=some o) (n:S p=none):S' p=none:=by
 cases q:S' p with
 | none=>rfl
 | some u =>
  rcases x.new p (by rw [q]; exact Option.some_ne_none _) with z | z
  ·exact absurd n z
  ·rw [h] at z; cases z
theorem Fw.ext {sto:List SO} (r:Fw K S as H sto) (x:Ext S H S' H'):Fw K S' as H' sto where
 len:=r.len
 nd:=r.nd
 at':=fun n so e=>by
  obtain ⟨a,h1,h2,h3⟩:=r.at' n so e;obtain ⟨ob,ho⟩:=h3.there;exact ⟨a,h1,x.outs ho h2,h3.mono x.s (by rw [ho,x.h _ _ ho])⟩
theorem Rel.ext (r:Rel K B st σ H ps S as) (x:Ext S H S' H'):Rel K B st σ H' ps S' as where
 sub:=x.sub
 grow:=⟨r.grow.same.trans x.s,r.grow.more,fun p o h1 h2 h3=>by
  obtain ⟨a,b,c⟩:=r.grow.keep p o h1 h2 h3;exact ⟨x.h _ _ a,x.outs a b,c⟩⟩
 slots:=fun i t f e=>by
  obtain ⟨v,h1,h2,h3⟩:=r.slots i t f e;refine ⟨v,h1,fun q=>(h2 q).mono x.s nol,fun q=>?_⟩;obtain ⟨p,e,o⟩:=h3 q;obtain ⟨ob,ho⟩:=o.own.there;exact ⟨p,e,o.own.mono x.s (by rw [ho,x.h _ _ ho]),x.outs ho o.out,o.nas,o.new⟩
 apart:=r.apart
 sto:=r.sto.ext x
 pend:=fun p hp=>(r.pend p hp).mono x.s nol
 len:=r.len
theorem Rel.push (r:Rel K B st σ H ps S as) {v:V} {t:T} (h:Rep K S as v t):Rel K B st σ H ((v,t)::ps) S as :=
 ⟨r.sub,r.grow,r.slots,r.apart,r.sto,fun p hp=>by
  rcases List.mem_cons.mp hp with rfl | z
  ·exact h
  ·exact r.pend p z,r.len⟩
theorem Rel.drop {p:V × T} (r:Rel K B st σ H (p::ps) S as):Rel K B st σ H ps S as :=
 ⟨r.sub,r.grow,r.slots,r.apart,r.sto,fun q hq=>r.pend q (List.mem_cons_of_mem _ hq),r.len⟩
theorem Rel.top {v:V} {t:T} (r:Rel K B st σ H ((v,t)::ps) S as):Rep K S as v t:=r.pend (v,t) List.mem_cons_self
theorem Rel.top2 {v:V} {t:T} {q:V × T} (r:Rel K B st σ H (q::(v,t)::ps) S as):Rep K S as v t:=r.pend (v,t) (List.mem_cons_of_mem _ List.mem_cons_self)
end
inductive tOf (K:PySem.W.Frag) (B:Bas) (m:M T) (σ:L2.St) (H:Hp) (Q:VK):Prop
 | mk (st:Sta) (ps:List (V × T)) (S:Hp) (as:List Addr) (R:Rel K B st σ H ps S as) (t:T) (aa:Sta) (e:m st=some (t,aa)) (q:∀ v H' S' af,Rel K B aa σ H' ((v,t)::ps) S' af->Q v H')
inductive cOf (K:PySem.W.Frag) (B:Bas) (m:M Bool) (σ:L2.St) (H:Hp) (Q:Bool->Hp->Prop):Prop
 | mk (st:Sta) (ps:List (V × T)) (S:Hp) (as:List Addr) (R:Rel K B st σ H ps S as) (b:Bool) (aa:Sta) (e:m st=some (b,aa)) (q:∀ H' S' af,Rel K B aa σ H' ps S' af->Q b H')
inductive aOf (K:PySem.W.Frag) (B:Bas) (m:M (List T)) (σ:L2.St) (H:Hp) (Q:List V->Hp->Prop):Prop
 | mk (st:Sta) (ps:List (V × T)) (S:Hp) (as:List Addr) (R:Rel K B st σ H ps S as) (ts:List T) (aa:Sta) (e:m st=some (ts,aa)) (q:∀ vs H' S' af,Rel K B aa σ H' ps S' af->qd K S' af vs ts->Q vs H')
theorem _root_.L2.PE.imp {X:Cx} {e:Expr} {t t':TE} (h:PE X e t) (i:∀ σ H Q,t' σ H Q->t σ H Q):PE X e t':=fun pins s σ H Q I q=>h pins s σ H Q I (i σ H Q q)
theorem _root_.L2.PT.imp {X:Cx} {e:Expr} {t t':TT} (h:PT X e t) (i:∀ σ H Q,t' σ H Q->t σ H Q):PT X e t':=fun pins s σ H Q I q=>h pins s σ H Q I (i σ H Q q)
theorem _root_.L2.PA.imp {X:Cx} {e:List Expr} {t t':TA} (h:PA X e t) (i:∀ σ H Q,t' σ H Q->t σ H Q):PA X e t':=fun pos pins s σ H Q I q=>h pos pins s σ H Q I (i σ H Q q)
theorem _root_.L2.PS.imp {X:Cx} {e:Stmt} {t t':TS} (h:PS X e t) (i:∀ D σ H,t' D σ H->t D σ H):PS X e t':=fun pins s σ H D I q=>h pins s σ H D I (i D σ H q)
theorem _root_.L2.PSs.imp {X:Cx} {e:List Stmt} {t t':TS} (h:PSs X e t) (i:∀ D σ H,t' D σ H->t D σ H):PSs X e t':=fun pins s σ H D I q=>h pins s σ H D I (i D σ H q)
noncomputable def r2 (K:PySem.W.Frag) (f:T->T->Option T):R2:=fun x y H Q=>∃ S as t u w,Same S H/\Rep K S as x t/\Rep K S as y u/\f t u=some w/\∀ v H' S',Ext S H S' H'->Rep K S' as v w->Q v H'
def r1 (K:PySem.W.Frag) (f:T->Option T):V->Hp->VK->Prop:=fun x H Q=>∃ S as t w,Same S H/\Rep K S as x t/\f t=some w/\∀ v H' S',Ext S H S' H'->Rep K S' as v w->Q v H'
def rL (K:PySem.W.Frag) (f:List T->Option T):List V->Hp->VK->Prop:=fun xs H Q=>∃ S as ts w,Same S H/\qd K S as xs ts/\f ts=some w/\∀ v H' S',Ext S H S' H'->Rep K S' as v w->Q v H'
abbrev OpT (X:Cx) (f:Value->Value->Sem Value) (g:T->T->Option T):Prop:=OpR X f (r2 X.K g)
abbrev UnT (X:Cx) (f:Value->Sem Value) (g:T->Option T):Prop:=UnR X f (r1 X.K g)
abbrev Jh (X:Cx) (f:Value) (g:List T->Option T):Prop:=Ej X f (rL X.K g)
section
variable {X:Cx} {B:Bas} {a b c:Expr} {m m1 m2:M T} {pos:Pos}
theorem Dd {v:V} {t:T} {e:Expr} (h:PE X e (tC v)) (r:∀ S as,Rep X.K S as v t):PE X e (tOf X.K B (ak t)):=h.imp fun σ H Q z9=>by
 obtain ⟨st,ps,S,as,R,t',aa,e,q⟩:=z9;cases e;exact q v H S as (R.push (r S as))
theorem bf {i:Int} {j:Nat}:PE X (.Constant (.int i) j pos) (tOf X.K B (ak (.int i))):=Dd a5b fun _ _=>.int i
theorem O8 {i:Bool} {j:Nat}:PE X (.Constant (.bool i) j pos) (tOf X.K B (ak (.bl i))):=Dd aar fun _ _=>.bl i
theorem iu {i:Str} {j:Nat}:PE X (.Constant (.str i) j pos) (tOf X.K B (ak (.str i))):=Dd Y5 fun _ _=>.str i
theorem a9p {j:Nat}:PE X (.Constant .none j pos) (tOf X.K B (ak .non)):=Dd aat fun _ _=>.non
theorem dh {op:Operator} {f:T->T->Option T} (ho:OpT X (binaryOp op) f) (ha:PE X a (tOf X.K B m1)) (hb:PE X b (tOf X.K B m2)):PE X (.BinOp a op b pos) (tOf X.K B (mOp f m1 m2)) :=
 (a5o ho ha hb).imp fun σ H Q z9=>by
  obtain ⟨st,ps,S,as,R,t,aa,e,q⟩:=z9;obtain ⟨t1,s1,t2,e1,e2,e3⟩:=M9 e;refine ⟨st,ps,S,as,R,t1,s1,e1,fun v H1 S1 ae R1=>⟨s1,_,S1,ae,R1,t2,aa,e2,fun u H2 S2 ax R2=>?_⟩⟩;exact ⟨S2,ax,t1,t2,t,R2.sub,R2.top2,R2.top,e3,fun w H3 S3 x r=>q w H3 S3 ax ((R2.drop.drop.ext x).push r)⟩
end
section
variable {K:PySem.W.Frag} {B:Bas} {st:Sta} {σ:L2.St} {H H' S S':Hp} {ps:List (V × T)} {as:List Addr}
theorem Rel.freeze (r:Rel K B st σ H ps S as) {i:Nat} {t:T} (e:st.env[i]? = some (some (t,true))) :
  ∃ v S',σ[i]? = some (some v)/\Rel K B { st with env:=st.env.set i (some (t,false)) } σ H ((v,t)::ps) S' as:=by
 obtain ⟨v,h1,_,h3⟩:=r.slots i t true e;obtain ⟨p,rfl,o⟩:=h3 rfl;obtain ⟨ob,ho⟩:=o.own.there;have hi:i<st.env.length:=(List.getElem?_eq_some_iff.mp e).1;have sS:Same S (upd S p ob):=Same.upd o.out ob
 have rep:Rep K (upd S p ob) as (.ref p) t:=by
  have w:=o.own;cases t with
  | lst ts=>obtain ⟨vs,h,q⟩:=w; rw [ho] at h; cases h; exact .lst (SqL.of d8) (q.mono sS nol)
  | dic ts=>obtain ⟨vs,h,q⟩:=w; rw [ho] at h; cases h; exact .dic (.inl d8) (q.mono sS nol)
  | _=>exact w.elim
 have outs:∀ q,S q=none->q≠p->upd S p ob q=none:=fun q h n=>by rw [d9 n]; exact h
 refine ⟨.ref p,upd S p ob,h1,?_⟩;refine Rel.push (v:=.ref p) (t:=t) ⟨?_,?_,?_,?_,?_,?_,?_⟩ rep
 ·intro b u q
  by_cases z:b=p
  ·subst z; rw [d8] at q; cases q; exact ho
  ·rw [d9 z] at q; exact r.sub _ _ q
 ·refine ⟨r.grow.same.trans sS,r.grow.more,fun q w a b c=>?_⟩;obtain ⟨x,y,z⟩:=r.grow.keep q w a b c;refine ⟨x,outs q y fun n=>?_,z⟩;subst n; rw [o.new] at a; cases a
 ·intro j u f ej
  by_cases aE:i=j
  ·subst aE;rw [List.getElem?_set_self hi] at ej;cases ej;exact ⟨.ref p,h1,fun _=>rep,fun z=>by cases z⟩
  ·rw [List.getElem?_set_ne aE] at ej;obtain ⟨v',a1,a2,a3⟩:=r.slots j u f ej;refine ⟨v',a1,fun z=>(a2 z).mono sS nol,fun z=>?_⟩;subst z;obtain ⟨p',rfl,o'⟩:=a3 rfl;refine ⟨p',rfl,o'.own.mono sS rfl,outs p' o'.out fun n=>?_,o'.nas,o'.new⟩;subst n;exact aE (r.apart i j t u p' e ej h1 a1)
 ·intro j k u w q ej ek
  have hj:st.env[j]? = some (some (u,true)):=by
   by_cases aE:i=j
   ·subst aE; rw [List.getElem?_set_self hi] at ej; cases ej
   ·rwa [List.getElem?_set_ne aE] at ej
  have hk:st.env[k]? = some (some (w,true)):=by
   by_cases aE:i=k
   ·subst aE; rw [List.getElem?_set_self hi] at ek; cases ek
   ·rwa [List.getElem?_set_ne aE] at ek
  exact r.apart j k u w q hj hk
 ·refine ⟨r.sto.len,r.sto.nd,fun n so en=>?_⟩;obtain ⟨a,a1,a2,a3⟩:=r.sto.at' n so en;refine ⟨a,a1,outs a a2 fun z=>?_,a3.mono sS rfl⟩;subst z;exact o.nas (List.mem_of_getElem? a1)
 ·exact fun q hq=>(r.pend q hq).mono sS nol
 ·show σ.length=(st.env.set i _).length;rw [List.length_set]; exact r.len
end
section
variable {X:Cx} {B:Bas} {a b c:Expr} {m m1 m2:M T} {pos:Pos}
theorem aj (i:Nat) {e:Expr} (h:PE X e (Zf i)):PE X e (tOf X.K B (aq i)):=h.imp fun σ H Q z9=>by
 obtain ⟨st,ps,S,as,R,t,aa,e,q⟩:=z9;rcases a0j e with ⟨e1,rfl⟩ | ⟨e1,rfl⟩
 ·obtain ⟨v,h1,h2,_⟩:=R.slots i t false e1;exact ⟨v,h1,q v H S as (R.push (h2 rfl))⟩
 ·obtain ⟨v,S',h1,R'⟩:=R.freeze e1;exact ⟨v,h1,q v H S' as R'⟩
theorem cj:PA X [] (aOf X.K B d7):=xr.imp fun σ H Q z9=>by
 obtain ⟨st,ps,S,as,R,ts,aa,e,q⟩:=z9;cases e;exact q [] H S as R .nil
theorem au {es:List Expr} {ms:M (List T)} (ha:PE X a (tOf X.K B m)) (hr:PA X es (aOf X.K B ms)) (hs:starEach (a::es) X.env=(false,eval a X.env)::starEach es X.env:=by rfl):PA X (a::es) (aOf X.K B (ao m ms)) :=
 (mq ha hr hs).imp fun σ H Q z9=>by
  obtain ⟨st,ps,S,as,R,ts,aa,e,q⟩:=z9;obtain ⟨t,s1,us,e1,e2,rfl⟩:=qt e;refine ⟨st,ps,S,as,R,t,s1,e1,fun v H1 S1 ae R1=>⟨s1,_,S1,ae,R1,us,aa,e2,fun vs H2 S2 ax R2 rs=>?_⟩⟩;exact q (v::vs) H2 S2 ax R2.drop (.cons R2.top rs)
theorem Ek {es:List Expr} {ms:M (List T)} {k:Nat} (h:PA X es (aOf X.K B ms)) (hm:∀ st ts aa,ms st=some (ts,aa)->ts.length<=1000):PE X (.Tuple es k pos) (tOf X.K B (gk (fun l=>some (.tup l)) ms)) :=
 (a3v h).imp fun σ H Q z9=>by
  obtain ⟨st,ps,S,as,R,t,aa,e,q⟩:=z9;obtain ⟨ts,e1,e2⟩:=Am e;cases e2;refine ⟨st,ps,S,as,R,ts,aa,e1,fun vs H1 S1 ae R1 rs=>⟨?_,fun p hp=>?_⟩⟩
  ·rw [rs.length]; exact Nat.le_of_lt (Cm (hm _ _ _ e1))
  ·have x:=Ext.laid R1.sub hp (.tup vs);exact q _ _ _ _ ((R1.ext x).push (.tup (SqT.of d8) (rs.mono x.s nol)))
theorem Af {es:List Expr} {ms:M (List T)} (h:PA X es (aOf X.K B ms)) (hm:∀ st ts aa,ms st=some (ts,aa)->ts.length<=1000):PE X (.List es pos) (tOf X.K B (gk (fun l=>some (.lst l)) ms)) :=
 (Zi h).imp fun σ H Q z9=>by
  obtain ⟨st,ps,S,as,R,t,aa,e,q⟩:=z9;obtain ⟨ts,e1,e2⟩:=Am e;cases e2;refine ⟨st,ps,S,as,R,ts,aa,e1,fun vs H1 S1 ae R1 rs=>⟨?_,fun p hp=>?_⟩⟩
  ·rw [rs.length]; exact Nat.le_of_lt (Cm (hm _ _ _ e1))
  ·have x:=Ext.laid R1.sub hp (.lst vs);exact q _ _ _ _ ((R1.ext x).push (.lst (SqL.of d8) (rs.mono x.s nol)))
theorem mz:∀ st ts aa,d7 st=some (ts,aa)->ts.length<=0:=fun st ts aa e=>by cases e; exact Nat.le_refl _
theorem iy {r:M (List T)} {n:Nat} (h:∀ st ts aa,r st=some (ts,aa)->ts.length<=n):∀ st ts aa,ao m r st=some (ts,aa)->ts.length<=n+1:=fun st ts aa e=>by
 obtain ⟨t,s1,us,e1,e2,rfl⟩:=qt e;exact Nat.succ_le_succ (h _ _ _ e2)
theorem gj {ms:M (List T)} {f:List T->Option T} {e:Expr} (h:PE X e (tCB (rL X.K f) (aOf X.K B ms))):PE X e (tOf X.K B (gk f ms)) :=
 h.imp fun σ H Q z9=>by
  obtain ⟨st,ps,S,as,R,t,aa,e,q⟩:=z9;obtain ⟨ts,e1,e2⟩:=Am e;refine ⟨st,ps,S,as,R,ts,aa,e1,fun vs H1 S1 ae R1 rs=>⟨S1,ae,ts,t,R1.sub,rs,e2,fun v H2 S2 x r=>?_⟩⟩;exact q v H2 S2 ae ((R1.ext x).push r)
theorem T6 {f:T->T->Option T} {e:Expr} (h:PE X e (tOp (r2 X.K f) (tOf X.K B m1) (tOf X.K B m2))):PE X e (tOf X.K B (mOp f m1 m2)) :=
 h.imp fun σ H Q z9=>by
  obtain ⟨st,ps,S,as,R,t,aa,e,q⟩:=z9;obtain ⟨t1,s1,t2,e1,e2,e3⟩:=M9 e;refine ⟨st,ps,S,as,R,t1,s1,e1,fun v H1 S1 ae R1=>⟨s1,_,S1,ae,R1,t2,aa,e2,fun u H2 S2 ax R2=>?_⟩⟩;exact ⟨S2,ax,t1,t2,t,R2.sub,R2.top2,R2.top,e3,fun w H3 S3 x r=>q w H3 S3 ax ((R2.drop.drop.ext x).push r)⟩
theorem a2c {f:T->Option T} {e:Expr} (h:PE X e (tUn (r1 X.K f) (tOf X.K B m))):PE X e (tOf X.K B (mUn f m)) :=
 h.imp fun σ H Q z9=>by
  obtain ⟨st,ps,S,as,R,t,aa,e,q⟩:=z9;obtain ⟨t1,e1,e3⟩:=Xj e;refine ⟨st,ps,S,as,R,t1,aa,e1,fun v H1 S1 ae R1=>⟨S1,ae,t1,t,R1.sub,R1.top,e3,fun w H3 S3 x r=>q w H3 S3 ae ((R1.drop.ext x).push r)⟩⟩
theorem Al {op:CmpOp} {f:T->T->Option T} (ho:OpT X (compareOp op) f) (ha:PE X a (tOf X.K B m1)) (hb:PE X b (tOf X.K B m2)) (hm:behindInMarks op b=false):PE X (.Compare a [op] [b] pos) (tOf X.K B (mOp f m1 m2)):=T6 (a7y ho ha hb hm)
theorem abv {op:UnaryOp} {f:T->Option T} (ho:UnT X (unaryOp op) f) (ha:PE X a (tOf X.K B m)):PE X (.UnaryOp op a pos) (tOf X.K B (mUn f m)):=a2c (ae5 ho ha)
theorem Jz {e:Expr} (h:PT X e (aa7 (tOf X.K B m))):PT X e (cOf X.K B (bw m)):=h.imp fun σ H Q z9=>by
 obtain ⟨st,ps,S,as,R,t,aa,e,q⟩:=z9;refine ⟨st,ps,S,as,R,.bl t,aa,v8 e,fun v H1 S1 ae R1=>?_⟩;cases R1.top;exact ⟨t,rfl,q H1 S1 ae R1.drop⟩
theorem j5 {op:CmpOp} {f:T->T->Option T} (ho:OpT X (compareOp op) f) (ha:PE X a (tOf X.K B m1)) (hb:PE X b (tOf X.K B m2)) (hm:behindInMarks op b=false):PT X (.Compare a [op] [b] pos) (cOf X.K B (bw (mOp f m1 m2))) :=
 Jz ((a6t ho ha hb hm).imp fun σ H Q z9=>by
  obtain ⟨st,ps,S,as,R,t,aa,e,q⟩:=z9;obtain ⟨t1,s1,t2,e1,e2,e3⟩:=M9 e;refine ⟨st,ps,S,as,R,t1,s1,e1,fun v H1 S1 ae R1=>⟨s1,_,S1,ae,R1,t2,aa,e2,fun u H2 S2 ax R2=>?_⟩⟩;exact ⟨S2,ax,t1,t2,t,R2.sub,R2.top2,R2.top,e3,fun w H3 S3 x r=>q w H3 S3 ax ((R2.drop.drop.ext x).push r)⟩)
theorem vg {e:Expr} (h:PE X e (tOf X.K B m)) (he:∀ whole,isTrue e X.env whole=(do let v <- whole; standAt e.pos; holding [v] (truthy v)):=by intro _; rfl):PT X e (cOf X.K B (bw m)) :=
 Jz ((ab8 h he).imp fun σ H Q h=>h)
theorem Fl {c1:M Bool} (ha:PT X a (cOf X.K B c1)):PT X (.UnaryOp .Not a pos) (cOf X.K B (Gi c1)):=(a9m ha).imp fun σ H Q z9=>by
 obtain ⟨st,ps,S,as,R,t,aa,e,q⟩:=z9;obtain ⟨k,e1,rfl⟩:=Rw e;exact ⟨st,ps,S,as,R,k,aa,e1,q⟩
theorem a66 {c1:M Bool} (ha:PT X a (cOf X.K B c1)):PW X (.BoolOp .And [a] pos) (cOf X.K B c1):=pw_and1 ha
theorem Ge {c1:M Bool} (ha:PT X a (cOf X.K B c1)):PW X (.BoolOp .Or [a] pos) (cOf X.K B c1):=pw_or1 ha
theorem aan {e:Expr} {t t':TT} (h:PW X e t) (i:∀ σ H Q,t' σ H Q->t σ H Q):PW X e t':=fun whole pins s σ H Q I q=>h whole pins s σ H Q I (i σ H Q q)
theorem ac2 {c1 c2:M Bool} {rest:List Expr} (ha:PT X a (cOf X.K B c1)) (hb:PW X (.BoolOp .And (b::rest) pos) (cOf X.K B c2)):PW X (.BoolOp .And (a::b::rest) pos) (cOf X.K B (Ox c1 c2)) :=
 aan (pw_and ha hb) fun σ H Q z9=>by
  obtain ⟨st,ps,S,as,R,t,aa,e,q⟩:=z9;rcases Tv e with ⟨s1,e1,e2⟩ | ⟨e1,rfl⟩
  ·exact ⟨st,ps,S,as,R,true,s1,e1,fun H1 S1 ae R1=>Yo (⟨s1,ps,S1,ae,R1,t,aa,e2,q⟩)⟩
  ·exact ⟨st,ps,S,as,R,false,aa,e1,fun H1 S1 ae R1=>Wv (q H1 S1 ae R1)⟩
theorem Jg {c1 c2:M Bool} {rest:List Expr} (ha:PT X a (cOf X.K B c1)) (hb:PW X (.BoolOp .Or (b::rest) pos) (cOf X.K B c2)):PW X (.BoolOp .Or (a::b::rest) pos) (cOf X.K B (mOr c1 c2)) :=
 aan (pw_or ha hb) fun σ H Q z9=>by
  obtain ⟨st,ps,S,as,R,t,aa,e,q⟩:=z9;rcases Xm e with ⟨s1,e1,e2⟩ | ⟨e1,rfl⟩
  ·exact ⟨st,ps,S,as,R,false,s1,e1,fun H1 S1 ae R1=>Wv (⟨s1,ps,S1,ae,R1,t,aa,e2,q⟩)⟩
  ·exact ⟨st,ps,S,as,R,true,aa,e1,fun H1 S1 ae R1=>Yo (q H1 S1 ae R1)⟩
theorem Ey {c1:M Bool} (hc:PT X c (cOf X.K B c1)) (ha:PE X a (tOf X.K B m1)) (hb:PE X b (tOf X.K B m2)):PE X (.IfExp c a b pos) (tOf X.K B (mIf c1 m1 m2)) :=
 (a1q hc ha hb).imp fun σ H Q z9=>by
  obtain ⟨st,ps,S,as,R,t,aa,e,q⟩:=z9;rcases a84 e with ⟨s1,e1,e2⟩ | ⟨s1,e1,e2⟩
  ·exact ⟨st,ps,S,as,R,true,s1,e1,fun H1 S1 ae R1=>Yo (⟨s1,ps,S1,ae,R1,t,aa,e2,q⟩)⟩
  ·exact ⟨st,ps,S,as,R,false,s1,e1,fun H1 S1 ae R1=>Wv (⟨s1,ps,S1,ae,R1,t,aa,e2,q⟩)⟩
theorem a9d (ha:PE X a (tOf X.K B m)):PE X (.UnaryOp .Not a pos) (tOf X.K B (yc (Gi (bw m)))):=(abg ha).imp fun σ H Q z9=>by
 obtain ⟨st,ps,S,as,R,t,aa,e,q⟩:=z9;obtain ⟨b,e1,rfl⟩:=Gu e;obtain ⟨k,e2,rfl⟩:=Rw e1;refine ⟨st,ps,S,as,R,.bl k,aa,v8 e2,fun v H1 S1 ae R1=>?_⟩;cases R1.top;exact ⟨k,rfl,q _ H1 S1 ae (R1.drop.push (.bl _))⟩
theorem Zn {op:BoolOp} (ha:PE X a (tOf X.K B m)):PE X (.BoolOp op [a] pos) (tOf X.K B m):=aa0 ha
theorem Mx {rest:List Expr} (ha:PE X a (tOf X.K B m1)) (hb:PE X (.BoolOp .And (b::rest) pos) (tOf X.K B m2)):PE X (.BoolOp .And (a::b::rest) pos) (tOf X.K B (yc (Ox (bw m1) (bw m2)))) :=
 (a91 ha hb).imp fun σ H Q z9=>by
  obtain ⟨st,ps,S,as,R,t,aa,e,q⟩:=z9;obtain ⟨b,e1,rfl⟩:=Gu e;rcases Tv e1 with ⟨s1,e2,e3⟩ | ⟨e2,rfl⟩
  ·refine ⟨st,ps,S,as,R,.bl true,s1,v8 e2,fun v H1 S1 ae R1=>?_⟩;cases R1.top;exact ⟨true,rfl,Yo (⟨s1,ps,S1,ae,R1.drop,.bl b,aa,v8 e3,q⟩)⟩
  ·refine ⟨st,ps,S,as,R,.bl false,aa,v8 e2,fun v H1 S1 ae R1=>?_⟩;cases R1.top;exact ⟨false,rfl,Wv (q _ H1 S1 ae (R1.drop.push (.bl _)))⟩
theorem ad3 {rest:List Expr} (ha:PE X a (tOf X.K B m1)) (hb:PE X (.BoolOp .Or (b::rest) pos) (tOf X.K B m2)):PE X (.BoolOp .Or (a::b::rest) pos) (tOf X.K B (yc (mOr (bw m1) (bw m2)))) :=
 (ady ha hb).imp fun σ H Q z9=>by
  obtain ⟨st,ps,S,as,R,t,aa,e,q⟩:=z9;obtain ⟨b,e1,rfl⟩:=Gu e;rcases Xm e1 with ⟨s1,e2,e3⟩ | ⟨e2,rfl⟩
  ·refine ⟨st,ps,S,as,R,.bl false,s1,v8 e2,fun v H1 S1 ae R1=>?_⟩;cases R1.top;exact ⟨false,rfl,Wv (⟨s1,ps,S1,ae,R1.drop,.bl b,aa,v8 e3,q⟩)⟩
  ·refine ⟨st,ps,S,as,R,.bl true,aa,v8 e2,fun v H1 S1 ae R1=>?_⟩;cases R1.top;exact ⟨true,rfl,Yo (q _ H1 S1 ae (R1.drop.push (.bl _)))⟩
end
theorem a2z {a b:S} {s s':Sta} {fl:Flow} (h:jf a b s=some (fl,s')):(∃ s1,a s=some (.next,s1)/\b s1=some (fl,s'))\/(a s=some (fl,s')/\fl≠.next):=by
 unfold jf at h;split at h
 ·rename_i s1 e; exact .inl ⟨s1,e,h⟩
 ·rename_i r hr; exact .inr ⟨h,fun z=>by subst z; exact hr _ h⟩
theorem a06 {e:M T} {s s':Sta} {fl:Flow} (h:sy e s=some (fl,s')):∃ t,e s=some (t,s')/\fl=.ret t:=by
 unfold sy at h;split at h
 ·rename_i t s1 e; cases h; exact ⟨t,e,rfl⟩
 ·cases h
theorem a6a {c:M Bool} {a b:S} {s s':Sta} {fl:Flow} (h:sIf c a b s=some (fl,s')):(∃ s1,c s=some (true,s1)/\a s1=some (fl,s'))\/(∃ s1,c s=some (false,s1)/\b s1=some (fl,s')):=by
 unfold sIf at h;split at h
 ·rename_i s1 e; exact .inl ⟨s1,e,h⟩
 ·rename_i s1 e; exact .inr ⟨s1,e,h⟩
 ·cases h
theorem a2d {i:Nat} {e:M T} {s s':Sta} {fl:Flow} (h:j8 i e s=some (fl,s')):∃ t s1,e s=some (t,s1)/\fl=.next/\s'=ig i t false s1:=by
 unfold j8 at h;split at h
 ·rename_i t s1 e; cases h; exact ⟨t,s1,e,rfl,rfl⟩
 ·cases h
theorem a1w {i:Nat} {e:M T} {s s':Sta} {fl:Flow} (h:sNew i e s=some (fl,s')):∃ t s1,e s=some (t,s1)/\fl=.next/\s'=ig i t true s1:=by
 unfold sNew at h;split at h
 ·rename_i t s1 e; cases h; exact ⟨t,s1,e,rfl,rfl⟩
 ·cases h
theorem a1n {g:G} {it:M (List T)} {b:S} {s s':Sta} {fl:Flow} (h:J7 g it b s=some (fl,s')):∃ ts s1,it s=some (ts,s1)/\forL g b ts s1=some (fl,s'):=by
 unfold J7 at h;split at h
 ·rename_i ts s1 e; exact ⟨ts,s1,e,h⟩
 ·cases h
theorem Qm {i:Nat} {e:M T} {s s':Sta} {fl:Flow} (h:u6 i e s=some (fl,s')) :
  G5 i s=true/\∃ t s1 xs,e s=some (t,s1)/\s1.env[i]? = some (some (.lst xs,true))/\xs.length<lim/\fl=.next/\s'=ig i (.lst (xs++[t])) true s1:=by
 unfold u6 at h;split at h
 ·rename_i hd;refine ⟨hd,?_⟩;split at h
  ·rename_i t s1 e;split at h
   ·rename_i xs ex;split at h
    ·rename_i hl; cases h; exact ⟨t,s1,xs,e,ex,hl,rfl,rfl⟩
    ·cases h
   ·cases h
  ·cases h
 ·cases h
theorem Rb {i:Nat} {k v:M T} {s s':Sta} {fl:Flow} (h:vp i k v s=some (fl,s')) :
  ∃ t s1 kt s2 kvs q,v s=some (t,s1)/\Li i s1=true/\k s1=some (kt,s2)/\s2.env[i]? = some (some (.dic kvs,true))/\keyOf kt=some q/\kvs.length<lim/\fl=.next/\s'=ig i (.dic (Vt q t kvs)) true s2:=by
 unfold vp at h;split at h
 ·rename_i t s1 e;split at h
  ·rename_i hd;split at h
   ·rename_i kt s2 ek;split at h
    ·rename_i kvs q ex eq;split at h
     ·rename_i hl; cases h; exact ⟨t,s1,kt,s2,_,_,e,hd,ek,ex,eq,hl,rfl,rfl⟩
     ·cases h
    ·cases h
   ·cases h
  ·cases h
 ·cases h
theorem Pz {o k v:M T} {s s':Sta} {fl:Flow} (h:Ed o k v s=some (fl,s')) :
  ∃ t s1 n s2 kt s3 kvs q,v s=some (t,s1)/\o s1=some (.obj n,s2)/\k s2=some (kt,s3)/\s3.sto[n]? = some (.dic kvs)/\keyOf kt=some q/\kvs.length<lim/\fl=.next/\s' = { s3 with sto:=s3.sto.set n (.dic (Vt q t kvs)) }:=by
 unfold Ed at h;split at h
 ·rename_i t s1 e;split at h
  ·rename_i n s2 eo;split at h
   ·rename_i kt s3 ek;split at h
    ·rename_i kvs q ex eq;split at h
     ·rename_i hl; cases h; exact ⟨t,s1,n,s2,kt,s3,_,_,e,eo,ek,ex,eq,hl,rfl,rfl⟩
     ·cases h
    ·cases h
   ·cases h
  ·cases h
 ·cases h
section
variable {K:PySem.W.Frag} {B:Bas} {st:Sta} {σ:L2.St} {H H' S S':Hp} {ps cU:List (V × T)} {as af:List Addr}
theorem Rel.pick (r:Rel K B st σ H ps S as) (h:∀ p∈cU,p∈ps):Rel K B st σ H cU S as :=
 ⟨r.sub,r.grow,r.slots,r.apart,r.sto,fun p hp=>r.pend p (h p hp),r.len⟩
theorem M5 {α:Type} {l:List α} {i:Nat} {x:α} (h:l.length<=i):l.set i x=l:=List.set_eq_of_length_le h
theorem Rel.put (r:Rel K B st σ H ps S as) {i:Nat} {v:V} {t:T} (h:Rep K S as v t):Rel K B (ig i t false st) (σ.set i (some v)) H ps S as:=by
 by_cases hi:i<st.env.length
 ·have hs:i<σ.length:=by rw [r.len]; exact hi
  refine ⟨r.sub,r.grow,fun j u f e=>?_,fun j k u w p ej ek sj sk=>?_,r.sto,r.pend,by show _=(st.env.set i _).length; rw [List.length_set,List.length_set]; exact r.len⟩
  ·have e:(st.env.set i (some (t,false)))[j]? = some (some (u,f)):=e
   by_cases aE:i=j
   ·subst aE;rw [List.getElem?_set_self hi] at e; cases e;exact ⟨v,List.getElem?_set_self hs,fun _=>h,fun z=>by cases z⟩
   ·rw [List.getElem?_set_ne aE] at e ⊢;exact r.slots j u f e
  ·have ej:(st.env.set i (some (t,false)))[j]? = some (some (u,true)):=ej;have ek:(st.env.set i (some (t,false)))[k]? = some (some (w,true)):=ek;have aE:i≠j:=fun z=>by subst z; rw [List.getElem?_set_self hi] at ej; cases ej
   have b5:i≠k:=fun z=>by subst z; rw [List.getElem?_set_self hi] at ek; cases ek
   rw [List.getElem?_set_ne aE] at ej sj;rw [List.getElem?_set_ne b5] at ek sk;exact r.apart j k u w p ej ek sj sk
 ·have e1:ig i t false st=st:=by unfold ig; rw [M5 (Nat.le_of_not_lt hi)]
  have e2:σ.set i (some v)=σ:=M5 (by rw [r.len]; exact Nat.le_of_not_lt hi);rw [e1,e2]; exact r
def Ji (st:Sta) (σ:L2.St) (p:Addr):Prop:=∀ (j:Nat) u,st.env[j]? = some (some (u,true))->σ[j]? = some (some (.ref p))->False
theorem Rel.a5d (r:Rel K B st σ H ps S as) {i:Nat} {p:Addr} {t:T} (h:Xi K B S as H p t) (hn:Ji st σ p):Rel K B (ig i t true st) (σ.set i (some (.ref p))) H ps S as:=by
 by_cases hi:i<st.env.length
 ·have hs:i<σ.length:=by rw [r.len]; exact hi
  refine ⟨r.sub,r.grow,fun j u f e=>?_,fun j k u w q ej ek sj sk=>?_,r.sto,r.pend,by show _=(st.env.set i _).length; rw [List.length_set,List.length_set]; exact r.len⟩
  ·have e:(st.env.set i (some (t,true)))[j]? = some (some (u,f)):=e
   by_cases aE:i=j
   ·subst aE;rw [List.getElem?_set_self hi] at e; cases e;exact ⟨.ref p,List.getElem?_set_self hs,(fun z=>by cases z),fun _=>⟨p,rfl,h⟩⟩
   ·rw [List.getElem?_set_ne aE] at e ⊢;exact r.slots j u f e
  ·have ej:(st.env.set i (some (t,true)))[j]? = some (some (u,true)):=ej;have ek:(st.env.set i (some (t,true)))[k]? = some (some (w,true)):=ek
   by_cases aE:i=j
   ·by_cases b5:i=k
    ·rw [<- aE,<- b5]
    ·subst aE;rw [List.getElem?_set_self hs] at sj; cases sj;rw [List.getElem?_set_ne b5] at ek sk;exact (hn k w ek sk).elim
   ·rw [List.getElem?_set_ne aE] at ej sj
    by_cases b5:i=k
    ·subst b5;rw [List.getElem?_set_self hs] at sk; cases sk;exact (hn j u ej sj).elim
    ·rw [List.getElem?_set_ne b5] at ek sk;exact r.apart j k u w q ej ek sj sk
 ·have e1:ig i t true st=st:=by unfold ig; rw [M5 (Nat.le_of_not_lt hi)]
  have e2:σ.set i (some (.ref p))=σ:=M5 (by rw [r.len]; exact Nat.le_of_not_lt hi);rw [e1,e2]; exact r
theorem Rel.turn (r:Rel K B st σ H ps S as) {i:Nat} {t t':T} {p:Addr} {ob:HO} (e:st.env[i]? = some (some (t,true))) (hp:σ[i]? = some (some (.ref p))) (h:Own K S as (upd H p ob) p t') :
  Rel K B (ig i t' true st) σ (upd H p ob) ps S as:=by
 obtain ⟨v,h1,_,h3⟩:=r.slots i t true e;rw [hp] at h1; cases h1;obtain ⟨p',ep,o⟩:=h3 rfl;cases ep;have hi:i<st.env.length:=(List.getElem?_eq_some_iff.mp e).1;have other:∀ q,q≠p->H q=upd H p ob q:=fun q n=>(d9 n).symm;refine ⟨fun b u q=>?_,⟨r.grow.same,r.grow.more,fun q w a b c=>?_⟩,fun j u f ej=>?_,fun j k u w q ej ek sj sk=>?_,⟨r.sto.len,r.sto.nd,fun n so en=>?_⟩,r.pend,by show _=(st.env.set i _).length; rw [List.length_set]; exact r.len⟩
 ·have n:b≠p:=fun z=>by subst z; rw [o.out] at q; cases q
  rw [d9 n]; exact r.sub _ _ q
 ·obtain ⟨x,y,z⟩:=r.grow.keep q w a b c;have n:q≠p:=fun z=>by subst z; rw [o.new] at a; cases a
  exact ⟨by rw [d9 n]; exact x,y,z⟩
 ·have ej:(st.env.set i (some (t',true)))[j]? = some (some (u,f)):=ej
  by_cases aE:i=j
  ·subst aE;rw [List.getElem?_set_self hi] at ej; cases ej;exact ⟨.ref p,hp,(fun z=>by cases z),fun _=>⟨p,rfl,h,o.out,o.nas,o.new⟩⟩
  ·rw [List.getElem?_set_ne aE] at ej;obtain ⟨v',a1,a2,a3⟩:=r.slots j u f ej;refine ⟨v',a1,a2,fun z=>?_⟩;subst z;obtain ⟨p',rfl,o'⟩:=a3 rfl;have n:p'≠p:=fun z=>by subst z; exact aE (r.apart i j t u p' e ej hp a1)
   exact ⟨p',rfl,o'.own.mono (Same.refl _) (other p' n),o'.out,o'.nas,o'.new⟩
 ·have back:∀ (j:Nat) u,(st.env.set i (some (t',true)))[j]? = some (some (u,true))->∃ u',st.env[j]? = some (some (u',true)):=fun j u ej=>by
   by_cases aE:i=j
   ·subst aE; exact ⟨t,e⟩
   ·rw [List.getElem?_set_ne aE] at ej; exact ⟨u,ej⟩
  obtain ⟨u',ej'⟩:=back j u ej;obtain ⟨w',ek'⟩:=back k w ek;exact r.apart j k u' w' q ej' ek' sj sk
 ·obtain ⟨a,a1,a2,a3⟩:=r.sto.at' n so en;have n:a≠p:=fun z=>by subst z; exact o.nas (List.mem_of_getElem? a1)
  exact ⟨a,a1,a2,a3.mono (Same.refl _) (other a n)⟩
theorem Rel.W5 (r:Rel K B st σ H ps S as) {n:Nat} {so eZ:SO} {a:Addr} {ob:HO} (e:st.sto[n]? = some so) (ha:as[n]? = some a) (h:a4g K S as (upd H a ob) a eZ) :
  Rel K B { st with sto:=st.sto.set n eZ } σ (upd H a ob) ps S as:=by
 have ma:a∈as:=List.mem_of_getElem? ha;have hn:n<st.sto.length:=(List.getElem?_eq_some_iff.mp e).1
 have sa:S a=none:=by
  obtain ⟨a',a1,a2,_⟩:=r.sto.at' n so e;rw [ha] at a1; cases a1; exact a2
 have other:∀ q,q≠a->H q=upd H a ob q:=fun q n=>(d9 n).symm;refine ⟨fun b u q=>?_,⟨r.grow.same,r.grow.more,fun q w x y z=>?_⟩,fun j u f ej=>?_,r.apart,⟨by rw [List.length_set]; exact r.sto.len,r.sto.nd,fun k c5 en=>?_⟩,r.pend,r.len⟩
 ·have n:b≠a:=fun z=>by subst z; rw [sa] at q; cases q
  rw [d9 n]; exact r.sub _ _ q
 ·obtain ⟨x1,y1,z1⟩:=r.grow.keep q w x y z;have n:q≠a:=fun z=>by subst z; exact z1 ma
  exact ⟨by rw [d9 n]; exact x1,y1,z1⟩
 ·obtain ⟨v',a1,a2,a3⟩:=r.slots j u f ej;refine ⟨v',a1,a2,fun z=>?_⟩;obtain ⟨p',rfl,o'⟩:=a3 z;have n:p'≠a:=fun z=>by subst z; exact o'.nas ma
  exact ⟨p',rfl,o'.own.mono (Same.refl _) (other p' n),o'.out,o'.nas,o'.new⟩
 ·by_cases hk:n=k
  ·subst hk;rw [List.getElem?_set_self hn] at en; cases en;exact ⟨a,ha,sa,h⟩
  ·rw [List.getElem?_set_ne hk] at en;obtain ⟨b,b1,b2,b3⟩:=r.sto.at' k c5 en
   have n:b≠a:=fun z=>by
    subst z;have l1:=(List.getElem?_eq_some_iff.mp b1).1;have l2:=(List.getElem?_eq_some_iff.mp ha).1;exact hk ((List.getElem?_inj (i:=n) (j:=k) l2 r.sto.nd).mp (by rw [ha,b1]))
   exact ⟨b,b1,b2,b3.mono (Same.refl _) (other b n)⟩
end
def Fin (K:PySem.W.Frag) (B:Bas) (D:Ends) (ps:List (V × T)):Flow->Sta->Prop
 | .next,aa=>∀ σ' H' S' af,Rel K B aa σ' H' ps S' af->D.nx σ' H'
 | .ret t,aa=>∀ v σ' H' S' af,Rel K B aa σ' H' ((v,t)::ps) S' af->D.rt v H'
 | .brk,aa=>∀ σ' H' S' af,Rel K B aa σ' H' ps S' af->D.bk σ' H'
 | .cont,aa=>∀ σ' H' S' af,Rel K B aa σ' H' ps S' af->D.ct σ' H'
inductive sOf (K:PySem.W.Frag) (B:Bas) (s:S) (D:Ends) (σ:L2.St) (H:Hp):Prop
 | mk (st:Sta) (ps:List (V × T)) (S0:Hp) (as:List Addr) (R:Rel K B st σ H ps S0 as) (fl:Flow) (aa:Sta) (e:s st=some (fl,aa)) (q:Fin K B D ps fl aa)
inductive gOf (K:PySem.W.Frag) (B:Bas) (g:G) (v:V) (σ:L2.St) (H:Hp) (Q:L2.St->Hp->Prop):Prop
 | mk (st:Sta) (ps:List (V × T)) (S:Hp) (as:List Addr) (t:T) (R:Rel K B st σ H ((v,t)::ps) S as) (aa:Sta) (e:g t st=some aa) (q:∀ σ' H' S' af,Rel K B aa σ' H' ps S' af->Q σ' H')
inductive fOf (K:PySem.W.Frag) (B:Bas) (m:M T) (σ:L2.St) (H:Hp) (Q:VK):Prop
 | mk (st:Sta) (ps:List (V × T)) (S:Hp) (as:List Addr) (R:Rel K B st σ H ps S as) (t:T) (aa:Sta) (e:m st=some (t,aa)) (q:∀ p H' S' af,Rel K B aa σ H' ps S' af->Xi K B S' af H' p t->Ji aa σ p->Q (.ref p) H')
section
variable {X:Cx} {B:Bas} {a b c e:Expr} {m m1 m2:M T} {pos:Pos} {u v:S}
theorem jg:PSs X [] (sOf X.K B yd):=a6f.imp fun D σ H z9=>by
 obtain ⟨st,ps,S,as,R,fl,aa,e,q⟩:=z9;cases e; exact q σ H S as R
theorem cu {st:Stmt} {rest:List Stmt} (h1:PS X st (sOf X.K B u)) (h2:PSs X rest (sOf X.K B v)):PSs X (st::rest) (sOf X.K B (jf u v)):=(Ry h1 h2).imp fun D σ H z9=>by
 obtain ⟨st,ps,S,as,R,fl,aa,e,q⟩:=z9;rcases a2z e with ⟨s1,e1,e2⟩ | ⟨e1,hn⟩
 ·exact ⟨st,ps,S,as,R,.next,s1,e1,fun σ' H' S' af R'=>⟨s1,ps,S',af,R',fl,aa,e2,q⟩⟩
 ·refine ⟨st,ps,S,as,R,fl,aa,e1,?_⟩;cases fl with
  | next=>exact absurd rfl hn
  | ret t=>exact q
  | brk=>exact q
  | cont=>exact q
theorem dj {st:Stmt} (h1:PS X st (sOf X.K B u)):PSs X [st] (sOf X.K B u):=Ld h1
theorem gn (he:PE X e (tOf X.K B m)):PS X (.Return (some e) pos) (sOf X.K B (sy m)):=(a3x he).imp fun D σ H z9=>by
 obtain ⟨st,ps,S,as,R,fl,aa,e,q⟩:=z9;obtain ⟨t,e1,rfl⟩:=a06 e;exact ⟨st,ps,S,as,R,t,aa,e1,fun v H' S' af R'=>q v σ H' S' af R'⟩
theorem tu {c1:M Bool} {sa sb:List Stmt} (hc:PT X c (cOf X.K B c1)) (ha:PSs X sa (sOf X.K B u)) (hb:PSs X sb (sOf X.K B v)):PS X (.If c sa sb pos) (sOf X.K B (sIf c1 u v)):=(abt hc ha hb).imp fun D σ H z9=>by
 obtain ⟨st,ps,S,as,R,fl,aa,e,q⟩:=z9;rcases a6a e with ⟨s1,e1,e2⟩ | ⟨s1,e1,e2⟩
 ·exact ⟨st,ps,S,as,R,true,s1,e1,fun H1 S1 ae R1=>Yo ⟨s1,ps,S1,ae,R1,fl,aa,e2,q⟩⟩
 ·exact ⟨st,ps,S,as,R,false,s1,e1,fun H1 S1 ae R1=>Wv ⟨s1,ps,S1,ae,R1,fl,aa,e2,q⟩⟩
theorem uh (i:Nat) {tg:Expr} (h:PG X tg (Kr i)):PG X tg (gOf X.K B (hName i)):=fun pins s σ H x u Q I r z9=>h pins s σ H x u Q I r (by
 obtain ⟨st,ps,S,as,t,R,aa,e,q⟩:=z9;cases e;exact q _ H S as (R.drop.put R.top))
theorem Tw (i:Nat) {te:TE} {s:Stmt} (h:PS X s (a9j te (Kr i))) (hm:∀ σ H Q,tOf X.K B m σ H Q->te σ H Q):PS X s (sOf X.K B (j8 i m)):=h.imp fun D σ H z9=>by
 obtain ⟨st,ps,S,as,R,fl,aa,e,q⟩:=z9;obtain ⟨t,s1,e1,rfl,rfl⟩:=a2d e;exact hm σ H _ ⟨st,ps,S,as,R,t,s1,e1,fun v H' S' af R'=>q _ H' S' af (R'.drop.put R'.top)⟩
theorem K8 (i:Nat) {te:TE} {s:Stmt} (h:PS X s (a9j te (Kr i))) (hm:∀ σ H Q,fOf X.K B m σ H Q->te σ H Q):PS X s (sOf X.K B (sNew i m)):=h.imp fun D σ H z9=>by
 obtain ⟨st,ps,S,as,R,fl,aa,e,q⟩:=z9;obtain ⟨t,s1,e1,rfl,rfl⟩:=a1w e;exact hm σ H _ ⟨st,ps,S,as,R,t,s1,e1,fun p H' S' af R' o n=>q _ H' S' af (R'.a5d o n)⟩
end
section
variable {K:PySem.W.Frag} {B:Bas} {st:Sta} {σ:L2.St} {H H' S S':Hp} {ps cU:List (V × T)} {as af:List Addr}
theorem Own.more {p:Addr} {t:T} (hs:Same S S') (x:∃ l,af=as++l) (hh:H p=H' p) (o:Own K S as H p t):Own K S' af H' p t:=by
 cases t with
 | lst ts=>obtain ⟨vs,h,r⟩:=o; exact ⟨vs,hh ▸ h,r.mono hs x⟩
 | dic ts=>obtain ⟨vs,h,r⟩:=o; exact ⟨vs,hh ▸ h,r.mono hs x⟩
 | _=>exact o.elim
theorem Rel.call {aw:List SO} (r:Rel K B st σ H ps S as) (g:aaq ⟨S,as,H⟩ S' af H') (sub:Same S' H') (so:Fw K S' af H' aw):Rel K B { st with sto:=aw } σ H' ps S' af where
 sub:=sub
 grow:=by
  refine ⟨r.grow.same.trans g.same,?_,fun p o a b c=>?_⟩
  ·obtain ⟨l,e⟩:=r.grow.more;obtain ⟨l',e'⟩:=g.more;exact ⟨l++l',by rw [e',e,List.append_assoc]⟩
  ·obtain ⟨x,y,z⟩:=r.grow.keep p o a b c;exact g.keep p o x y z
 slots:=fun i t f e=>by
  obtain ⟨v,h1,h2,h3⟩:=r.slots i t f e;refine ⟨v,h1,fun q=>(h2 q).mono g.same g.more,fun q=>?_⟩;obtain ⟨p,rfl,o⟩:=h3 q;obtain ⟨ob,ho⟩:=o.own.there;obtain ⟨x,y,z⟩:=g.keep p ob ho o.out o.nas;exact ⟨p,rfl,o.own.more g.same g.more (by rw [ho,x]),y,z,o.new⟩
 apart:=r.apart
 sto:=so
 pend:=fun p hp=>(r.pend p hp).mono g.same g.more
 len:=r.len
end
noncomputable def spF (K:PySem.W.Frag) (ar:Nat) (F:Fn):Sp:=fun vs H Q _=>∃ S as sto ts t aw,Same S H/\Fw K S as H sto/\qd K S as vs ts/\ts.length=ar/\F ts sto=some (t,aw) /\
 ∀ v H' S' af,aaq ⟨S,as,H⟩ S' af H'->Same S' H'->Fw K S' af H' aw->Rep K S' af v t->Q v H'
section
variable {X:Cx} {B:Bas} {a b c e:Expr} {m m1 m2:M T} {pos p:Pos} {u v:S} {es:List Expr} {ms:M (List T)} {k:Nat} {f:Addr} {fd:FuncData} {pn:List Str} {F:Fn} {x:Str}
theorem a8o (G:Aw X.prog X.w X.K X.mg X.base CX0 k f fd pn (spF X.K pn.length F)) (hr:xu k X.A) (hg:Gl X x) (hm:X.mg x=some (.ref f)) (hk:PySem.W.keepIn X.K (.ref f)=true) (hb:Binds X.K fd pn [])
  (ha:PA X (e::es) (aOf X.K B ms)) (hl:∀ st ts aa,ms st=some (ts,aa)->ts.length=pn.length) (aJ:(x==("__debug__" : Str))=false:=by decide)
  (he:starEach (e::es) X.env=(false,eval e X.env)::starEach es X.env:=by rfl) (aD:(backTo pos (starEach es X.env)).any (·.1)=false:=by rfl) :
  PE X (.Call (.Name x p) (e::es) [] pos) (tOf X.K B (dw F ms)) :=
 (Wy G hr hg hm hk hb .nil a7j ha aJ he aD).imp fun σ H Q z9=>by
  obtain ⟨st,ps,S,as,R,t,aa,e,q⟩:=z9;obtain ⟨ts,s1,sto,e1,e2,rfl⟩:=Yy e;refine ⟨st,ps,S,as,R,ts,s1,e1,fun vs H1 S1 ae R1 rs=>?_⟩;show spF X.K pn.length F (vs++[]) H1 Q E0;rw [List.append_nil];exact ⟨S1,ae,s1.sto,ts,t,sto,R1.sub,R1.sto,rs,hl _ _ _ e1,e2,fun v H2 S2 ax g sub so r=>q v H2 S2 ax ((R1.call g sub so).push r)⟩
theorem eq_nil:∀ st ts aa,d7 st=some (ts,aa)->ts.length=0:=fun st ts aa e=>by cases e; rfl
theorem bh {r:M (List T)} {n:Nat} (h:∀ st ts aa,r st=some (ts,aa)->ts.length=n):∀ st ts aa,ao m r st=some (ts,aa)->ts.length=n+1:=fun st ts aa e=>by
 obtain ⟨t,s1,us,e1,e2,rfl⟩:=qt e;exact congrArg (· + 1) (h _ _ _ e2)
end
section
variable {P:Program} {w:World} {K:PySem.W.Frag} {mg:Str->Option Value} {base:Heap}
theorem Zy {N:List Str} {vs:List V} {i:Nat} {v:V} (h:vs[i]? = some v):(L2.start N vs)[i]? = some (some v):=by
 unfold L2.start;have hi:=(List.getElem?_eq_some_iff.mp h).1;rw [List.getElem?_append_left (by rw [List.length_map]; exact hi),List.getElem?_map,h]; rfl
theorem Ol {S H:Hp} {as:List Addr} {sto:List SO} {vs:List V} {ts:List T} {N:List Str} (h1:Same S H) (h2:Fw K S as H sto) (h3:qd K S as vs ts) (hN:ts.length<=N.length) :
  Rel K ⟨S,as,H⟩ ⟨ts.map (fun t=>some (t,false))++List.replicate (N.length - ts.length) none,sto⟩ (L2.start N vs) H [] S as:=by
 have key:∀ (i:Nat) t fl,(ts.map (fun t=>some (t,false))++List.replicate (N.length - ts.length) (none:Slot))[i]? = some (some (t,fl))->fl=false/\ts[i]? = some t:=fun i t fl e=>by
  by_cases hi:i<ts.length
  ·rw [List.getElem?_append_left (by rw [List.length_map]; exact hi),List.getElem?_map] at e;cases z:ts[i]? with
   | none=>rw [z] at e; cases e
   | some t'=>rw [z] at e; cases e; exact ⟨rfl,rfl⟩
  ·rw [List.getElem?_append_right (by rw [List.length_map]; exact Nat.le_of_not_lt hi)] at e;have:=List.eq_of_mem_replicate (List.mem_of_getElem? e);cases this
 refine ⟨h1,⟨Same.refl _,nol,fun p o a b c=>⟨a,b,c⟩⟩,fun i t fl e=>?_,fun i j t u p ei ej=>?_,h2,(fun p hp=>by cases hp),?_⟩
 ·obtain ⟨rfl,e'⟩:=key i t fl e;obtain ⟨v,hv,r⟩:=h3.get e';exact ⟨v,Zy hv,fun _=>r,fun z=>by cases z⟩
 ·obtain ⟨z,_⟩:=key i t true ei; cases z
 ·unfold L2.start;rw [List.length_append,List.length_append,List.length_map,List.length_map,List.length_replicate,List.length_replicate,h3.length]
theorem a5v {x qual:Str} {st:Stmt} {f:Addr} {fd:FuncData} {N ps:List Str} {k:Nat} {b:S} (F:Fun K x qual st f fd) (Sc:zp N ps (f9 st)) (hN:ps.length<=N.length)
  (hb:∀ (az:Value) (A:Around) (outer:List Env) (s:Shared) (H:Hp) (E:XK) (B:Bas),xu k (A.deeper (envOfC qual (f9 st) s.heap.objs.size f az)) ->
   PSs (Pg CX0 P w K mg base N qual (f9 st) f az A outer s H E).nox (u9 st) (sOf K B b)):Aw P w K mg base CX0 (k+1) f fd ps (spF K ps.length (qp N.length b)):=by
 refine F.ok Sc (fun vs H Q E h=>?_) fun az A outer s H vs Q E hr h=>?_
 ·obtain ⟨S,as,sto,ts,t,aw,h1,h2,h3,h4,_⟩:=h;rw [h3.length,h4]
 ·obtain ⟨S,as,sto,ts,t,aw,h1,h2,h3,h4,h5,q⟩:=h;refine ⟨_,hb az A outer s H E ⟨S,as,H⟩ hr,?_⟩;have lv:vs.length=ps.length:=by rw [h3.length,h4]
  have R:Rel K ⟨S,as,H⟩ ⟨ts.map (fun t=>some (t,false))++List.replicate (N.length - ts.length) none,sto⟩ (L2.start N vs) H [] S as:=Ol h1 h2 h3 (by rw [h4]; exact hN);unfold qp at h5;split at h5
  ·rename_i t' s' e;cases h5;exact ⟨_,[],S,as,R,.ret t,s',e,fun v σ' H' S' af R'=>q v H' S' af R'.grow R'.sub R'.sto R'.top⟩
  ·rename_i s' e;cases h5;exact ⟨_,[],S,as,R,.next,s',e,fun σ' H' S' af R'=>q .non H' S' af R'.grow R'.sub R'.sto .non⟩
  ·cases h5
end
theorem a0r {g:G} {b:S} {t:T} {r:List T} {s s':Sta} {fl:Flow} (h:forL g b (t::r) s=some (fl,s')):∃ s1 fb s2,g t s=some s1/\b s1=some (fb,s2) /\
  (match fb with | .next=>forL g b r s2=some (fl,s') | .cont=>forL g b r s2=some (fl,s') | .brk=>fl=.next/\s'=s2 | .ret v=>fl=.ret v/\s'=s2):=by
 rw [forL] at h;dsimp only at h;split at h
 ·rename_i s1 e1;split at h
  ·rename_i s2 e2; exact ⟨s1,.next,s2,e1,e2,h⟩
  ·rename_i s2 e2; exact ⟨s1,.cont,s2,e1,e2,h⟩
  ·rename_i s2 e2; cases h; exact ⟨s1,.brk,_,e1,e2,rfl,rfl⟩
  ·rename_i v s2 e2; cases h; exact ⟨s1,.ret v,_,e1,e2,rfl,rfl⟩
  ·cases h
 ·cases h
structure Hr (K:PySem.W.Frag) (S:Hp) (as:List Addr) (H:Hp) (J:It) (ts:List T):Prop where
 go:∀ (i:Nat) t,ts[i]? = some t->J.go i H/\∀ x H',J.yld i H x H'->∃ S',Ext S H S' H'/\Rep K S' as x t
 stop:∀ i,ts.length<=i->J.stop i H
inductive iOf (K:PySem.W.Frag) (B:Bas) (m:M (List T)) (σ:L2.St) (H:Hp) (R:It->Hp->Prop):Prop
 | mk (st:Sta) (ps:List (V × T)) (S:Hp) (as:List Addr) (R0:Rel K B st σ H ps S as) (ts:List T) (aa:Sta) (e:m st=some (ts,aa)) (z:ts.length<=sizeLine) (q:∀ J H' S' af a8,Rel K B aa σ H' (a8++ps) S' af->(∀ S as H,(∀ p∈a8,Rep K S as p.1 p.2)->Same S H->Hr K S as H J ts)->R J H')
section
variable {X:Cx} {tg l:Expr} {tl:TE}
noncomputable def iSq (K:PySem.W.Frag) (tl:TE):TI:=fun σ H R=>tl σ H fun x H1=>∃ a,x=.ref a/\(((∃ xs,SqL K H1 a xs)/\R (Itl K a) H1)\/((∃ xs,SqT K H1 a xs)/\R (Itt K a) H1))
theorem acs (hl:PE X l tl):PI X tg l (iSq X.K tl):=by
 intro pins s σ H R I h;refine thn (hl pins s σ H _ I h) fun v s1 z0=>?_;obtain ⟨x,H1,I1,r1,q1⟩:=z0;obtain ⟨a,e,q⟩:=q1;subst e;cases r1;rcases q with ⟨⟨xs,hq⟩,q⟩ | ⟨⟨xs,hq⟩,q⟩
 ·obtain ⟨its,rv,p,hz⟩:=I1.list hq;refine wpAny_pyIter_list p.isList ?_;refine ⟨s1.heap.objs.size,[s1.heap.objs.size],_,_,H1,rfl,I1.kept (t':=s1.toks) fun b o e=>Heap.get?_push_of_some _ e,Yc a _,⟨_,Heap.get?_push_size _ rfl,rfl,rfl⟩,fun b hb=>?_,q⟩;have e:b=s1.heap.objs.size:=by simpa using hb
  subst e;exact I1.a8v (Nat.le_refl _) (I1.hok.fresh (Nat.le_refl _))
 ·obtain ⟨its,rv,p,hz⟩:=I1.tuple hq;refine wpAny_pyIter_tuple (show s1.heap.IsTuple a its.toArray from p) ?_;refine ⟨s1.heap.objs.size,[s1.heap.objs.size],_,_,H1,rfl,I1.kept (t':=s1.toks) fun b o e=>Heap.get?_push_of_some _ e,Vh a _,⟨_,Heap.get?_push_size _ rfl,rfl,rfl⟩,fun b hb=>?_,q⟩;have e:b=s1.heap.objs.size:=by simpa using hb
  subst e;exact I1.a8v (Nat.le_refl _) (I1.hok.fresh (Nat.le_refl _))
end
section
variable {X:Cx} {B:Bas} {a b c e tg iter:Expr} {m m1 m2:M T} {pos p:Pos} {u v:S} {g:G} {it:M (List T)} {body:List Stmt}
theorem itL {K:PySem.W.Frag} {S:Hp} {as:List Addr} {H:Hp} {p:Addr} {vs:List V} {ts:List T} (sub:Same S H) (h:SqL K H p vs) (r:qd K S as vs ts):Hr K S as H (Itl K p) ts where
 go:=fun i t e=>by
  obtain ⟨v,hv,rv⟩:=r.get e;exact ⟨⟨vs,v,h,hv⟩,fun x H' y=>⟨S,by rw [y.1]; exact Ext.refl sub,by have:=y.2 vs h; rw [hv] at this; cases this; exact rv⟩⟩
 stop:=fun i hi=>⟨vs,h,by rw [r.length]; exact hi⟩
theorem itT {K:PySem.W.Frag} {S:Hp} {as:List Addr} {H:Hp} {p:Addr} {vs:List V} {ts:List T} (sub:Same S H) (h:SqT K H p vs) (r:qd K S as vs ts):Hr K S as H (Itt K p) ts where
 go:=fun i t e=>by
  obtain ⟨v,hv,rv⟩:=r.get e;exact ⟨⟨vs,v,h,hv⟩,fun x H' y=>⟨S,by rw [y.1]; exact Ext.refl sub,by have:=y.2 vs h; rw [hv] at this; cases this; exact rv⟩⟩
 stop:=fun i hi=>⟨vs,h,by rw [r.length]; exact hi⟩
theorem je:lim<=sizeLine:=by rw [sizeLine_eq]; decide
theorem yr (h:PE X iter (tOf X.K B m)):PI X tg iter (iOf X.K B (yx m)):=by
 intro pins s σ H R I hw;refine acs h pins s σ H R I ?_;obtain ⟨st,ps,S,as,Rl,ts,aa,e,hz,q⟩:=hw;unfold yx at e;split at e
 ·rename_i xs s1 e1;split at e
  ·rename_i hl;cases e;refine ⟨st,ps,S,as,Rl,_,_,e1,fun v H1 S1 ae R1=>?_⟩;have top:=R1.top;cases top with
   | @lst a vs _ hs hr =>
    refine ⟨a,rfl,.inl ⟨⟨vs,iz R1.sub hs⟩,q _ H1 S1 ae [(.ref a,.lst _)] R1 fun S2 ax H2 hp hh=>?_⟩⟩;have:=hp _ List.mem_cons_self;cases this with
    | @lst _ vs2 _ aM bz=>exact itL hh (iz hh aM) bz
  ·cases e
 ·rename_i xs s1 e1;split at e
  ·rename_i hl;cases e;refine ⟨st,ps,S,as,Rl,_,_,e1,fun v H1 S1 ae R1=>?_⟩;have top:=R1.top;cases top with
   | @tup a vs _ hs hr =>
    refine ⟨a,rfl,.inr ⟨⟨vs,kj R1.sub hs⟩,q _ H1 S1 ae [(.ref a,.tup _)] R1 fun S2 ax H2 hp hh=>?_⟩⟩;have:=hp _ List.mem_cons_self;cases this with
    | @tup _ vs2 _ aM bz=>exact itT hh (kj hh aM) bz
  ·cases e
 ·cases e
theorem Ka {a:M T} {ts:List T} {s s':Sta} (h:Bm a s=some (ts,s')):∃ n:Int,a s=some (.int n,s')/\(-1000000<n/\n<1000000)/\ts=rangeT n.toNat:=by
 unfold Bm at h;split at h
 ·rename_i n s1 e;split at h
  ·rename_i hl; cases h; exact ⟨n,e,by have:n.natAbs<1000000:=hl; omega,rfl⟩
  ·cases h
 ·cases h
theorem V1 {n i:Nat} {t:T} (h:(rangeT n)[i]? = some t):i<n/\t=.int (i:Int):=by
 unfold rangeT at h;rw [List.getElem?_map] at h;cases z:(List.range n)[i]? with
 | none=>rw [z] at h; cases h
 | some k =>
  rw [z] at h; cases h;obtain ⟨hi,e⟩:=List.getElem?_eq_some_iff.mp z;rw [List.getElem_range] at e; subst e;rw [List.length_range] at hi;exact ⟨hi,rfl⟩
theorem Lw (hg:Gl X "range") (hm:X.mg "range" = none) (h:PE X a (tOf X.K B m)) (hs:starEach [a] X.env=[(false,eval a X.env)]:=by rfl):PI X tg (.Call (.Name "range" p) [a] [] pos) (iOf X.K B (Bm m)):=by
 intro pins s σ H R I hw;refine Zw (ta:=V0 (tOf X.K B m) a8u) hg hm (mq h xr hs) hs pins s σ H R I ?_;obtain ⟨st,ps,S,as,Rl,ts,aa,e,hz,q⟩:=hw;obtain ⟨n,e1,hl,rfl⟩:=Ka e;refine ⟨st,ps,S,as,Rl,_,_,e1,fun v H1 S1 ae R1=>?_⟩;cases R1.top;refine ⟨n,rfl,by omega,by omega,q _ H1 S1 ae [] R1.drop fun S2 ax H2 _ hh=>⟨fun i t e=>?_,fun i hi=>?_⟩⟩
 ·obtain ⟨hi,rfl⟩:=V1 e;refine ⟨hi,fun x H' y=>⟨S2,by rw [y.1]; exact Ext.refl hh,?_⟩⟩;have:=y.2; subst this;rw [Int.zero_add]; exact .int _
 ·show n.toNat<=i;unfold rangeT at hi
  rwa [List.length_map,List.length_range] at hi
theorem Ig (hp:PassesOwn (model X.prog X.w) X.A X.env X.xe) (hc:X.calm=true) (hi:PI X tg iter (iOf X.K B it)) (hg:PG X tg (gOf X.K B g)) (hb:PSs X body (sOf X.K B u)) (hsz:∀ st ts aa,it st=some (ts,aa)->ts.length<=sizeLine)
  (hs:∀ x,foldedSetIterable iter X.env x=pure x:=by intro _; rfl):PS X (.For tg iter body [] pos) (sOf X.K B (J7 g it u)):=(aah hp hc hi hg hb hs).imp fun D σ H z9=>by
 obtain ⟨st,ps,S,as,R,fl,aa,e,q⟩:=z9;obtain ⟨ts,s1,e1,e2⟩:=a1n e;refine ⟨st,ps,S,as,R,ts,s1,e1,hsz _ _ _ e1,fun J H1 S1 ae a8 R1 facts=>?_⟩;refine ⟨fun i m σ H=>m=ts.length - i/\i<=ts.length/\∃ aC Si aA,Rel X.K B aC σ H (a8++ps) Si aA/\forL g u (ts.drop i) aC=some (fl,aa),⟨ts.length,by simp,Nat.zero_le _,s1,S1,ae,R1,by simpa using e2⟩,?_⟩;rintro i m br H2 ⟨rfl,hi,aC,Si,aA,Ri,ei⟩;have F:=facts Si aA H2 (fun p hp=>Ri.pend p (List.mem_append_left _ hp)) Ri.sub;have sub:∀ p∈ps,p∈a8++ps:=fun p hp=>List.mem_append_right _ hp
 by_cases aK:i<ts.length
 ·rw [List.drop_eq_getElem_cons aK] at ei;obtain ⟨s2,fb,s3,eg,eb,er⟩:=a0r ei;have ht:ts[i]? = some ts[i]:=List.getElem?_eq_getElem aK;refine .inr ⟨(F.go i _ ht).1,fun σ' H'=>∃ aC Si aA,Rel X.K B aC σ' H' (a8++ps) Si aA/\forL g u (ts.drop (i+1)) aC=some (fl,aa),fun σ' H' h=>⟨ts.length - (i+1),by omega,rfl,aK,h⟩,fun x H' y=>?_⟩;obtain ⟨S',ex,rx⟩:=(F.go i _ ht).2 x H' y;refine ⟨aC,a8++ps,S',aA,_,(Ri.ext ex).push rx,s2,eg,fun bq H3 S3 aF R3=>⟨s2,a8++ps,S3,aF,R3,fb,s3,eb,?_⟩⟩;cases fb with
  | next=>exact fun σ' H' S' af R'=>⟨s3,S',af,R',er⟩
  | cont=>exact fun σ' H' S' af R'=>⟨s3,S',af,R',er⟩
  | brk =>
   obtain ⟨rfl,rfl⟩:=er;exact fun σ' H' S' af R'=>q σ' H' S' af (R'.pick sub)
  | ret v =>
   obtain ⟨rfl,rfl⟩:=er
   exact fun v σ' H' S' af R'=>q v σ' H' S' af (R'.pick fun p hp=>by
    rcases List.mem_cons.mp hp with rfl | z
    ·exact List.mem_cons_self
    ·exact List.mem_cons_of_mem _ (sub p z))
 ·have eJ:i=ts.length:=by omega
  subst eJ;rw [List.drop_length] at ei;cases ei;exact .inl ⟨F.stop _ (Nat.le_refl _),q br H2 Si aA (Ri.pick sub)⟩
end
section
variable {K:PySem.W.Frag} {B:Bas} {st:Sta} {σ:L2.St} {H H' S S':Hp} {ps cU:List (V × T)} {as af:List Addr}
theorem Rel.Yg (r:Rel K B st σ H ps S as) {i:Nat} {t:T} (e:st.env[i]? = some (some (t,true))):∃ S',Rel K B { st with env:=st.env.set i (some (t,false)) } σ H ps S' as:=by
 obtain ⟨v,S',_,R⟩:=r.freeze e;exact ⟨S',R.drop⟩
theorem Rel.jj:∀ (ai:List Nat) {st:Sta} {S:Hp},Rel K B st σ H ps S as->∃ S',Rel K B { st with env:=jj ai st.env } σ H ps S' as
 | [],st,S,r=>⟨S,r⟩
 | i::l,st,S,r=>by
  unfold C.jj;rw [List.foldl_cons];split
  ·rename_i t f e;cases f with
   | true =>
    obtain ⟨S1,R1⟩:=r.Yg e;exact Rel.jj l R1
   | false =>
    have e2:st.env.set i (some (t,false))=st.env:=by
     apply List.ext_getElem?;intro j
     by_cases aE:i=j
     ·subst aE;rw [List.getElem?_set_self (List.getElem?_eq_some_iff.mp e).1,e]
     ·rw [List.getElem?_set_ne aE]
    rw [e2];exact Rel.jj l r
  ·exact Rel.jj l r
noncomputable def Dj (env:List Slot):Nat->List Slot
 | 0=>env
 | n+1=>match (Dj env n)[n]? with
  | some (some (t,_))=>(Dj env n).set n (some (t,false))
  | _=>Dj env n
theorem Ia (env:List Slot):∀ n,(Dj env n).length=env.length
 | 0=>rfl
 | n+1=>by
  rw [Dj];split
  ·rw [List.length_set]; exact Ia env n
  ·exact Ia env n
theorem Gv (env:List Slot):∀ (n j:Nat),(Dj env n)[j]? = if j<n then (env[j]?).map Uw else env[j]?
 | 0,j=>by rw [if_neg (Nat.not_lt_zero _)]; rfl
 | n+1,j=>by
  have dC:=Gv env n n;rw [if_neg (Nat.lt_irrefl _)] at dC;have gR:=Gv env n j;rw [Dj,dC]
  by_cases hj:j=n
  ·subst hj;rw [if_pos (Nat.lt_succ_self _)];cases z:env[j]? with
   | none=>simp only [z,Option.map_none]; rw [dC,z]
   | some s =>
    have hl:j<(Dj env j).length:=by rw [Ia]; exact (List.getElem?_eq_some_iff.mp z).1
    cases s with
    | none=>simp only [Option.map_some]; rw [dC,z]; rfl
    | some p=>obtain ⟨t,f⟩:=p; simp only [Option.map_some]; rw [List.getElem?_set_self hl]; rfl
  ·have e1:(if j<n+1 then (env[j]?).map Uw else env[j]?)=(if j<n then (env[j]?).map Uw else env[j]?):=by
    by_cases aK:j<n
    ·rw [if_pos aK,if_pos (Nat.lt_succ_of_lt aK)]
    ·rw [if_neg aK,if_neg (by omega)]
   rw [e1,<- gR];split
   ·rw [List.getElem?_set_ne (Ne.symm hj)]
   ·rfl
theorem Wq (env:List Slot):Dj env env.length=env.map Uw:=by
 apply List.ext_getElem?;intro j;rw [Gv,List.getElem?_map]
 by_cases hj:j<env.length
 ·rw [if_pos hj]
 ·rw [if_neg hj,List.getElem?_eq_none (Nat.le_of_not_lt hj)]; rfl
theorem Rel.Dj (r:Rel K B st σ H ps S as):∀ n,∃ S',Rel K B { st with env:=C.Dj st.env n } σ H ps S' as
 | 0=>⟨S,r⟩
 | n+1=>by
  obtain ⟨S1,R1⟩:=Rel.Dj r n;rw [C.Dj];split
  ·rename_i t f e;cases f with
   | true=>exact R1.Yg e
   | false =>
    have e2:(C.Dj st.env n).set n (some (t,false))=C.Dj st.env n:=by
     apply List.ext_getElem?;intro j
     by_cases aE:n=j
     ·subst aE;rw [List.getElem?_set_self (List.getElem?_eq_some_iff.mp e).1,e]
     ·rw [List.getElem?_set_ne aE]
    rw [e2];exact ⟨S1,R1⟩
  ·exact ⟨S1,R1⟩
theorem Rel.j9 (r:Rel K B st σ H ps S as):∃ S',Rel K B (j9 st) σ H ps S' as:=by
 obtain ⟨S',R⟩:=r.Dj st.env.length;rw [Wq] at R;exact ⟨S',R⟩
def Rv (st:Sta):Prop:=∀ (i:Nat) t,st.env[i]?≠some (some (t,true))
theorem yw (st:Sta):Rv (C.j9 st):=fun i t e=>by
 unfold C.j9 at e;rw [List.getElem?_map] at e;cases z:st.env[i]? with
 | none=>rw [z] at e; cases e
 | some s =>
  rw [z] at e;cases s with
  | none=>cases e
  | some p=>obtain ⟨t,f⟩:=p; cases e
theorem Rel.rebase (r:Rel K B st σ H ps S as) (n:Rv st):Rel K ⟨S,as,H⟩ st σ H ps S as :=
 ⟨r.sub,⟨Same.refl _,nol,fun p o a b c=>⟨a,b,c⟩⟩,fun i t f e=>by
  obtain ⟨v,h1,h2,_⟩:=r.slots i t f e;exact ⟨v,h1,h2,fun z=>by subst z; exact absurd e (n i t)⟩,r.apart,r.sto,r.pend,r.len⟩
end
theorem Wx {g:G} {c:M Bool} {e:M T} {t:T} {r acc us:List T} {s s':Sta} (h:Dk g c e (t::r) s acc=some (us,s')):∃ s1 b s2,g t s=some s1/\c s1=some (b,s2) /\
  ((b=true/\∃ u s3,e s2=some (u,s3)/\acc.length<lim/\Dk g c e r (j9 s3) (acc++[u])=some (us,s'))\/(b=false/\Dk g c e r (j9 s2) acc=some (us,s'))):=by
 rw [Dk] at h;split at h
 ·rename_i s1 e1;split at h
  ·rename_i s2 e2;split at h
   ·rename_i u s3 e3;split at h
    ·rename_i hl; exact ⟨s1,true,s2,e1,e2,.inl ⟨rfl,u,s3,e3,hl,h⟩⟩
    ·cases h
   ·cases h
  ·rename_i s2 e2; exact ⟨s1,false,s2,e1,e2,.inr ⟨rfl,h⟩⟩
  ·cases h
 ·cases h
theorem Xc {nv:Nat} {ai:List Nat} {g:G} {it:M (List T)} {c:M Bool} {e:M T} {s s':Sta} {v:T} (h:lu nv ai g it c e s=some (v,s')):∃ ts s1 us s2,it s=some (ts,s1) /\
  Dk g c e ts ⟨List.replicate nv none++ai.map (fun i=>((jj ai s1.env)[i]?).getD none),s1.sto⟩ []=some (us,s2)/\v=.lst us/\s'=⟨jj ai s1.env,s2.sto⟩:=by
 unfold lu at h;split at h
 ·rename_i ts s1 e1;dsimp only at h;split at h
  ·rename_i us s2 e2; cases h; exact ⟨ts,s1,us,s2,e1,e2,rfl,rfl⟩
  ·cases h
 ·cases h
section
variable {K:PySem.W.Frag} {B:Bas} {st:Sta} {σ:L2.St} {H H' S S':Hp} {ps cU:List (V × T)} {as af:List Addr} {D:Addr} {ob:HO}
theorem Fw.mem {sto:List SO} (r:Fw K S as H sto) {a:Addr} (h:a∈as):∃ o,H a=some o:=by
 obtain ⟨n,hn⟩:=List.getElem?_of_mem h;have hl:=(List.getElem?_eq_some_iff.mp hn).1;rw [r.len] at hl;obtain ⟨a',h1,h2,h3⟩:=r.at' n _ (List.getElem?_eq_getElem hl);rw [hn] at h1; cases h1;exact h3.there
theorem Rel.fresh (r:Rel K B st σ H ps S as) (h:H D=none):B.H D=none/\S D=none/\D∉as/\Ji st σ D:=by
 have sD:S D=none:=r.sub.free h;have nD:D∉as:=fun z=>by obtain ⟨o,e⟩:=r.sto.mem z; rw [h] at e; cases e
 refine ⟨?_,sD,nD,fun j u e1 e2=>?_⟩
 ·cases q:B.H D with
  | none=>rfl
  | some o =>
   have b1:B.S D=none:=by
    cases z:B.S D with
    | none=>rfl
    | some u=>have:=r.grow.same _ _ z; rw [sD] at this; cases this
   have b2:D∉B.as:=fun z=>by obtain ⟨l,e⟩:=r.grow.more; exact nD (by rw [e]; exact List.mem_append_left _ z)
   have:=(r.grow.keep D o q b1 b2).1;rw [h] at this; cases this
 ·obtain ⟨v,h1,_,h3⟩:=r.slots j u true e1;rw [e2] at h1; cases h1;obtain ⟨p,ep,o⟩:=h3 rfl;cases ep;obtain ⟨ob,ho⟩:=o.own.there;rw [h] at ho; cases ho
theorem Rel.abx (r:Rel K B st σ H ps S as) (bD:B.H D=none) (sD:S D=none) (nD:D∉as) (no:Ji st σ D):Rel K B st σ (upd H D ob) ps S as:=by
 have ne:∀ b u,S b=some u->b≠D:=fun b u e z=>by subst z; rw [sD] at e; cases e
 refine ⟨fun b u e=>by rw [d9 (ne b u e)]; exact r.sub _ _ e,⟨r.grow.same,r.grow.more,fun p o x y z=>?_⟩,fun i t f e=>?_,r.apart,⟨r.sto.len,r.sto.nd,fun n so e=>?_⟩,r.pend,r.len⟩
 ·obtain ⟨a,b,c⟩:=r.grow.keep p o x y z;exact ⟨by rw [d9 (fun w=>by subst w; rw [bD] at x; cases x)]; exact a,b,c⟩
 ·obtain ⟨v,h1,h2,h3⟩:=r.slots i t f e;refine ⟨v,h1,h2,fun z=>?_⟩;obtain ⟨p,rfl,o⟩:=h3 z;have n:p≠D:=fun w=>by subst w; subst z; exact no i t e h1
  exact ⟨p,rfl,o.own.mono (Same.refl _) (d9 n).symm,o.out,o.nas,o.new⟩
 ·obtain ⟨a,h1,h2,h3⟩:=r.sto.at' n so e;exact ⟨a,h1,h2,h3.mono (Same.refl _) (d9 (fun w=>by subst w; exact nD (List.mem_of_getElem? h1))).symm⟩
theorem Rel.abe (r:Rel K B st σ H ps S as) (no:Rv st) (sD:S D=none) (nD:D∉as):Rel K ⟨S,as,upd H D ob⟩ st σ (upd H D ob) ps S as:=by
 have ne:∀ b u,S b=some u->b≠D:=fun b u e z=>by subst z; rw [sD] at e; cases e
 refine ⟨fun b u e=>by rw [d9 (ne b u e)]; exact r.sub _ _ e,⟨Same.refl _,nol,fun p o x y z=>⟨x,y,z⟩⟩,fun i t f e=>?_,r.apart,⟨r.sto.len,r.sto.nd,fun n so e=>?_⟩,r.pend,r.len⟩
 ·obtain ⟨v,h1,h2,_⟩:=r.slots i t f e;exact ⟨v,h1,h2,fun z=>by subst z; exact absurd e (no i t)⟩
 ·obtain ⟨a,h1,h2,h3⟩:=r.sto.at' n so e;exact ⟨a,h1,h2,h3.mono (Same.refl _) (d9 (fun w=>by subst w; exact nD (List.mem_of_getElem? h1))).symm⟩
end
theorem Eo:∀ (ai:List Nat) (env:List Slot) (k:Nat),(∀ t,env[k]?≠some (some (t,true)))->∀ t,(jj ai env)[k]?≠some (some (t,true))
 | [],env,k,h=>h
 | i::l,env,k,h=>by
  have e:jj (i::l) env=jj l (match env[i]? with | some (some (t,_))=>env.set i (some (t,false)) | _=>env):=rfl;rw [e];refine Eo l _ k fun t=>?_;split
  ·rename_i t' f e'
   by_cases hk:i=k
   ·subst hk;rw [List.getElem?_set_self (List.getElem?_eq_some_iff.mp e').1];intro z; cases z
   ·rw [List.getElem?_set_ne hk]; exact h t
  ·exact h t
theorem Ie:∀ (ai:List Nat) (env:List Slot) (k:Nat),k∈ai->∀ t,(jj ai env)[k]?≠some (some (t,true))
 | [],env,k,h=>by simp at h
 | i::l,env,k,h=>by
  have e:jj (i::l) env=jj l (match env[i]? with | some (some (t,_))=>env.set i (some (t,false)) | _=>env):=rfl;rw [e];rcases List.mem_cons.mp h with rfl | h'
  ·refine Eo l _ k fun t=>?_;split
   ·rename_i t' f e';rw [List.getElem?_set_self (List.getElem?_eq_some_iff.mp e').1];intro z; cases z
   ·rename_i hx;intro z;exact hx _ _ z
  ·exact Ie l _ k h'
def gE (K:PySem.W.Frag) (g:G):TG:=fun v σ H Q=>∃ B,gOf K B g v σ H Q
def cE (K:PySem.W.Frag) (c:M Bool):TT:=fun σ H Q=>∃ B,cOf K B c σ H Q
def eE (K:PySem.W.Frag) (e:M T):TE:=fun σ H Q=>∃ B,tOf K B e σ H Q
theorem pgE {X:Cx} {tg:Expr} {g:G} (h:∀ B,PG X tg (gOf X.K B g)):PG X tg (gE X.K g):=fun pins s σ H x u Q I r ⟨B,q⟩=>h B pins s σ H x u Q I r q
theorem ptE {X:Cx} {e:Expr} {c:M Bool} (h:∀ B,PT X e (cOf X.K B c)):PT X e (cE X.K c):=fun pins s σ H Q I ⟨B,q⟩=>h B pins s σ H Q I q
theorem peE {X:Cx} {e:Expr} {m:M T} (h:∀ B,PE X e (tOf X.K B m)):PE X e (eE X.K m):=fun pins s σ H Q I ⟨B,q⟩=>h B pins s σ H Q I q
theorem w6 {X:Cx}:PTs X [] (cE X.K v9):=fun pins s σ H Q I z9=>by
 obtain ⟨B,st,ps,S,as,R,b,aa,e,q⟩:=z9;cases e;exact a6u pins s σ H Q I (q H S as R)
theorem Gm {X:Cx} {e:Expr} {c:M Bool} (h:∀ B,PT X e (cOf X.K B c)):PTs X [e] (cE X.K c):=a5z (ptE h)
section
variable {X:Cx} {scope:Scope} {N:List Str}
inductive CI (K:PySem.W.Frag) (B:Bas) (g:G) (c:M Bool) (e:M T) (ts us:List T) (env:List Slot) (s2:Sta) (σ:L2.St) (pp:List (V × T)) (D:Addr) (i m:Nat) (σ':L2.St) (H':Hp):Prop where
 | mk (aC:Sta) (Si:Hp) (aA:List Addr) (acc:List T) (aG:List V) (hm:m=ts.length - i) (hi:i<=ts.length) (Ri:Rel K ⟨Si,aA,H'⟩ aC σ' H' [] Si aA) (no:Rv aC) (Ro:Rel K B ⟨env,aC.sto⟩ σ H' pp Si aA) (hD:H' D=some (.lst aG)) (sD:Si D=none) (nD:D∉aA) (rA:qd K Si aA aG acc) (ei:Dk g c e (ts.drop i) aC acc=some (us,s2)):CI K B g c e ts us env s2 σ pp D i m σ' H'
theorem X5 {B:Bas} {nv:Nat} {ai:List Nat} {env:List Slot} {aU:List SO} {σ:L2.St} {H1 S1:Hp} {ae:List Addr} {pp:List (V × T)} {D:Addr}
  (hN:N.length=nv+ai.length) (aI:∀ (j k:Nat),ai[j]? = some k->∃ x,N[nv+j]? = some x/\X.N[k]? = some x/\a8r X scope x)
  (R1:Rel X.K B ⟨env,aU⟩ σ H1 pp S1 ae) (cM:∀ k∈ai,∀ t,env[k]?≠some (some (t,true))) (hD:H1 D=none) :
  ∃ aX:L2.St,aX.length=N.length/\(∀ (i:Nat) (v:V) (x:Str),aX[i]? = some (some v)->N[i]? = some x->Vis (relabel scope X.env) x->∃ k:Nat,X.N[k]? = some x/\σ[k]? = some (some v)/\a8r X scope x) /\
   Rel X.K ⟨S1,ae,upd H1 D (.lst [])⟩ ⟨List.replicate nv none++ai.map (fun i=>(env[i]?).getD none),aU⟩ aX (upd H1 D (.lst [])) [] S1 ae/\Rv ⟨List.replicate nv none++ai.map (fun i=>(env[i]?).getD none),aU⟩ /\
   Rel X.K B ⟨env,aU⟩ σ (upd H1 D (.lst [])) pp S1 ae:=by
 obtain ⟨bD,sD1,nD1,noD⟩:=R1.fresh hD
 have bM:∀ (i:Nat) s,(List.replicate nv (none:Slot)++ai.map (fun i=>(env[i]?).getD none))[i]? = some (some s)->∃ j k,i=nv+j/\ai[j]? = some k/\env[k]? = some (some s):=fun i s h=>by
  by_cases hi:i<nv
  ·rw [List.getElem?_append_left (by rw [List.length_replicate]; exact hi)] at h;have:=List.eq_of_mem_replicate (List.mem_of_getElem? h); cases this
  ·rw [List.getElem?_append_right (by rw [List.length_replicate]; exact Nat.le_of_not_lt hi),List.length_replicate,List.getElem?_map] at h;cases z:ai[i - nv]? with
   | none=>rw [z] at h; cases h
   | some k =>
    rw [z] at h;refine ⟨i - nv,k,by omega,z,?_⟩;cases w:env[k]? with
    | none=>simp [w] at h
    | some s'=>simp [w] at h; rw [h]
 have sig:∀ (j k:Nat) v,ai[j]? = some k->σ[k]? = some (some v)->(List.replicate nv (none:Option V)++ai.map (fun i=>(σ[i]?).getD none))[nv+j]? = some (some v):=fun j k v h1 h2=>by
  rw [List.getElem?_append_right (by rw [List.length_replicate]; omega),List.length_replicate,Nat.add_sub_cancel_left,List.getElem?_map,h1];simp [h2]
 refine ⟨List.replicate nv none++ai.map (fun i=>(σ[i]?).getD none),by rw [List.length_append,List.length_replicate,List.length_map,hN],fun i v x h1 h2 _=>?_,?_⟩
 ·by_cases hi:i<nv
  ·rw [List.getElem?_append_left (by rw [List.length_replicate]; exact hi)] at h1;have:=List.eq_of_mem_replicate (List.mem_of_getElem? h1); cases this
  ·rw [List.getElem?_append_right (by rw [List.length_replicate]; exact Nat.le_of_not_lt hi),List.length_replicate,List.getElem?_map] at h1;cases z:ai[i - nv]? with
   | none=>rw [z] at h1; cases h1
   | some k =>
    rw [z] at h1;obtain ⟨y,n1,n2,ck⟩:=aI _ _ z;have e:nv+(i - nv)=i:=by omega
    rw [e,h2] at n1; cases n1;refine ⟨k,n2,?_,ck⟩;cases w:σ[k]? with
    | none=>simp [w] at h1
    | some s'=>simp [w] at h1; rw [h1]
 refine ⟨?_,?_,?_⟩
 ·refine Rel.abe (B:=B) (H:=H1) ⟨R1.sub,R1.grow,fun i t f h=>?_,fun i j t u p hi hj=>?_,R1.sto,(fun p hp=>by cases hp),?_⟩ (fun i t h=>?_) sD1 nD1
  ·obtain ⟨j,k,rfl,hk,ek⟩:=bM i _ h;obtain ⟨v,h1,h2,h3⟩:=R1.slots k t f ek;exact ⟨v,sig j k v hk h1,h2,h3⟩
  ·obtain ⟨j,k,rfl,hk,ek⟩:=bM i _ hi;exact absurd ek (cM k (List.mem_of_getElem? hk) t)
  ·show (List.replicate nv (none:Option V)++ai.map _).length=(List.replicate nv (none:Slot)++ai.map _).length;rw [List.length_append,List.length_append,List.length_replicate,List.length_replicate,List.length_map,List.length_map]
  ·obtain ⟨j,k,rfl,hk,ek⟩:=bM i _ h;exact absurd ek (cM k (List.mem_of_getElem? hk) t)
 ·intro i t h;obtain ⟨j,k,rfl,hk,ek⟩:=bM i _ h;exact absurd ek (cM k (List.mem_of_getElem? hk) t)
 ·exact R1.abx bD sD1 nD1 noD
theorem Wb {B:Bas} {nv:Nat} {ai:List Nat} {g:G} {c:M Bool} {e:M T} {ts us:List T} {env:List Slot} {aU:List SO} {s2:Sta} {σ:L2.St} {H1 S1:Hp} {ae:List Addr} {ps a8:List (V × T)} {J:It} {Q:VK}
  (hN:N.length=nv+ai.length) (hv:∀ i x,i<nv->N[i]? = some x->True)
  (aI:∀ (j k:Nat),ai[j]? = some k->∃ x,N[nv+j]? = some x/\X.N[k]? = some x/\a8r X scope x)
  (R1:Rel X.K B ⟨env,aU⟩ σ H1 (a8++ps) S1 ae) (cM:∀ k∈ai,∀ t,env[k]?≠some (some (t,true)))
  (facts:∀ S as H,Same B.S S->(∃ l,as=B.as++l)->(∀ p∈a8,Rep X.K S as p.1 p.2)->Same S H->Hr X.K S as H J ts)
  (hc:Dk g c e ts ⟨List.replicate nv none++ai.map (fun i=>(env[i]?).getD none),aU⟩ []=some (us,s2))
  (fin:∀ D H' S' af,Rel X.K B ⟨env,s2.sto⟩ σ H' (a8++ps) S' af->Xi X.K B S' af H' D (.lst us)->Ji ⟨env,s2.sto⟩ σ D->Q (.ref D) H') :
  Ke X scope N (gE X.K g) (cE X.K c) (eE X.K e) σ J H1 Q:=by
 intro D hD;obtain ⟨bD,sD1,nD1,noD⟩:=R1.fresh hD;obtain ⟨aX,z1,z2,z3,z4,z5⟩:=X5 hN aI R1 cM hD;refine ⟨aX,z1,z2,fun i m σ' H'=>CI X.K B g c e ts us env s2 σ (a8++ps) D i m σ' H',⟨ts.length,.mk _ S1 ae [] [] (by simp) (Nat.zero_le _) z3 z4 z5 d8 sD1 nD1 .nil hc⟩,?_⟩;rintro i m σ' H' ⟨aC,Si,aA,acc,aG,rfl,hi,Ri,no,Ro,hD',sD,nD,rA,ei⟩;have F:=facts Si aA H' Ro.grow.same Ro.grow.more (fun p hp=>Ro.pend p (List.mem_append_left _ hp)) Ri.sub
 by_cases aK:i<ts.length
 ·rw [List.drop_eq_getElem_cons aK] at ei;obtain ⟨s3,b,s4,eg,ec,er⟩:=Wx ei;have ht:ts[i]? = some ts[i]:=List.getElem?_eq_getElem aK;refine .inr ⟨(F.go i _ ht).1,fun x H2 y=>?_⟩;obtain ⟨S2,ex,rx⟩:=(F.go i _ ht).2 x H2 y;refine ⟨⟨Si,aA,H'⟩,aC,[],S2,aA,_,(Ri.ext ex).push rx,s3,eg,fun bq H3 S3 aF R3=>⟨⟨Si,aA,H'⟩,s3,[],S3,aF,R3,b,s4,ec,fun H4 S4 cO R4=>?_⟩⟩;rcases er with ⟨rfl,w,s5,ee,hlen,erest⟩ | ⟨rfl,erest⟩
  ·refine Yo ⟨⟨Si,aA,H'⟩,s4,[],S4,cO,R4,w,s5,ee,fun y H5 S5 fF R5=>?_⟩;obtain ⟨S6,R6⟩:=R5.j9;obtain ⟨k1,k2,k3⟩:=R6.grow.keep D _ hD' sD nD;have dW:=Ro.call R6.grow R6.sub R6.sto;refine ⟨aG,k1,?_,ts.length - (i+1),by omega,.mk (j9 s5) S6 fF (acc++[w]) (aG++[y]) rfl aK (R6.drop.abe (yw _) k2 k3) (yw _) (dW.abx bD k2 k3 noD) d8 k2 k3 ((rA.mono R6.grow.same R6.grow.more).append (.cons R6.top .nil)) erest⟩;rw [rA.length]; exact Nat.lt_of_lt_of_le hlen je
  ·refine Wv ?_;obtain ⟨S6,R6⟩:=R4.j9;obtain ⟨k1,k2,k3⟩:=R6.grow.keep D _ hD' sD nD;have dW:=Ro.call R6.grow R6.sub R6.sto;exact ⟨ts.length - (i+1),by omega,.mk (j9 s4) S6 cO acc aG rfl aK (R6.rebase (yw _)) (yw _) dW k1 k2 k3 (rA.mono R6.grow.same R6.grow.more) erest⟩
 ·have eJ:i=ts.length:=by omega
  subst eJ;rw [List.drop_length] at ei;cases ei;exact .inl ⟨F.stop _ (Nat.le_refl _),fin D H' Si aA Ro ⟨⟨aG,hD',rA⟩,sD,nD,bD⟩ noD⟩
theorem Rel.give {K:PySem.W.Frag} {B:Bas} {st:Sta} {σ:L2.St} {H S:Hp} {ps:List (V × T)} {as:List Addr} {p:Addr} {t:T} (r:Rel K B st σ H ps S as) (o:Xi K B S as H p t) (no:Ji st σ p):∃ S',Rel K B st σ H ((.ref p,t)::ps) S' as:=by
 obtain ⟨ob,ho⟩:=o.own.there;have sS:Same S (upd S p ob):=Same.upd o.out ob
 have rep:Rep K (upd S p ob) as (.ref p) t:=by
  have w:=o.own;cases t with
  | lst ts=>obtain ⟨vs,h,q⟩:=w; rw [ho] at h; cases h; exact .lst (SqL.of d8) (q.mono sS nol)
  | dic ts=>obtain ⟨vs,h,q⟩:=w; rw [ho] at h; cases h; exact .dic (.inl d8) (q.mono sS nol)
  | _=>exact w.elim
 have outs:∀ q,S q=none->q≠p->upd S p ob q=none:=fun q h n=>by rw [d9 n]; exact h
 refine ⟨upd S p ob,Rel.push (v:=.ref p) (t:=t) ⟨?_,?_,?_,r.apart,?_,fun q hq=>(r.pend q hq).mono sS nol,r.len⟩ rep⟩
 ·intro b u q
  by_cases z:b=p
  ·subst z; rw [d8] at q; cases q; exact ho
  ·rw [d9 z] at q; exact r.sub _ _ q
 ·refine ⟨r.grow.same.trans sS,r.grow.more,fun q w a b c=>?_⟩;obtain ⟨x,y,z⟩:=r.grow.keep q w a b c;refine ⟨x,outs q y fun n=>?_,z⟩;subst n; rw [o.new] at a; cases a
 ·intro j u f ej;obtain ⟨v',a1,a2,a3⟩:=r.slots j u f ej;refine ⟨v',a1,fun z=>(a2 z).mono sS nol,fun z=>?_⟩;subst z;obtain ⟨p',rfl,o'⟩:=a3 rfl;refine ⟨p',rfl,o'.own.mono sS rfl,outs p' o'.out fun n=>?_,o'.nas,o'.new⟩;subst n;exact no j u ej a1
 ·refine ⟨r.sto.len,r.sto.nd,fun n so en=>?_⟩;obtain ⟨a,a1,a2,a3⟩:=r.sto.at' n so en;refine ⟨a,a1,outs a a2 fun z=>?_,a3.mono sS rfl⟩;subst z;exact o.nas (List.mem_of_getElem? a1)
theorem Y9 {K:PySem.W.Frag} {B:Bas} {m:M T} {σ:L2.St} {H:Hp} {Q:VK} (h:tOf K B m σ H Q):fOf K B m σ H Q:=by
 obtain ⟨st,ps,S,as,R,t,aa,e,q⟩:=h;refine ⟨st,ps,S,as,R,t,aa,e,fun p H' S' af R' o n=>?_⟩;obtain ⟨S2,R2⟩:=R'.give o n;exact q _ H' S2 af R2
theorem wg {e:Expr} {B:Bas} {m:M T} (h:PE X e (fOf X.K B m)):PE X e (tOf X.K B m):=h.imp fun σ H Q=>Y9
variable {B:Bas} {nv:Nat} {ai:List Nat} {g:G} {it:M (List T)} {c:M Bool} {e:M T} {tg iter elt:Expr} {ifs:List Expr} {pos:Pos}
structure ab9 (X:Cx) (scope:Scope) (N:List Str) (nv:Nat) (ai:List Nat):Prop where
 len:N.length=nv+ai.length
 at':∀ (j k:Nat),ai[j]? = some k->∃ x,N[nv+j]? = some x/\X.N[k]? = some x/\a8r X scope x
theorem N8 (co:ab9 X scope N nv ai) (hsz:∀ st ts aa,it st=some (ts,aa)->ts.length<=sizeLine) {σ:L2.St} {H:Hp} {Q:VK} (h:fOf X.K B (lu nv ai g it c e) σ H Q) :
  a8n X scope N (iOf X.K B it) (gE X.K g) (cE X.K c) (eE X.K e) σ H Q:=by
 obtain ⟨st,ps,S,as,R,t,aa,e,q⟩:=h;obtain ⟨ts,s1,us,s2,e1,e2,rfl,rfl⟩:=Xc e;refine ⟨st,ps,S,as,R,ts,s1,e1,hsz _ _ _ e1,fun J H1 S1 ae a8 R1 facts=>?_⟩;obtain ⟨S2,R2⟩:=R1.jj ai;exact Wb co.len (fun _ _ _ _=>trivial) co.at' R2 (fun k hk=>Ie ai s1.env k hk) (fun S as H _ _=>facts S as H) e2 fun D H' S' af R' o n=>q D H' S' af (R'.pick fun p hp=>List.mem_append_right _ hp) o n
theorem Aq (co:ab9 X scope N nv ai) (sc:Hi X scope N) (calm:X.calm=true) (hi:PI X tg iter (iOf X.K B it)) (hsz:∀ st ts aa,it st=some (ts,aa)->ts.length<=sizeLine)
  (hg:∀ C s₀ H₀ ex pn,PG (m5 X scope N C s₀ H₀ ex pn) tg (gE X.K g)) (hc:∀ C s₀ H₀ ex pn,PTs (m5 X scope N C s₀ H₀ ex pn) ifs (cE X.K c)) (he:∀ C s₀ H₀ ex pn,PE (m5 X scope N C s₀ H₀ ex pn) elt (eE X.K e))
  (hs:∀ x,foldedSetIterable iter X.env x=pure x:=by intro _; rfl):PE X (.ListComp elt [⟨tg,iter,ifs,0⟩] scope pos) (fOf X.K B (lu nv ai g it c e)) :=
 (a77 sc calm hi hg hc he hs).imp fun σ H Q h=>N8 co hsz h
end
section
variable {X:Cx}
theorem Om {f:Value->Value->Sem Value} {g:T->T->Option T} {r:R2} (h:OpR X f r)
  (k:∀ S as x y t u w,Rep X.K S as x t->Rep X.K S as y u->g t u=some w->∀ (H:Hp) (Q:VK),Same S H->(∀ v H' S',Ext S H S' H'->Rep X.K S' as v w->Q v H')->r x y H Q):OpT X f g:=by
 intro pins s σ H x y v u Q I rx ry z8;obtain ⟨S,as,t,w,z,sub,ht,hu,hf,q⟩:=z8;exact h pins s σ H x y v u Q I rx ry (k S as x y t w z ht hu hf H Q sub q)
structure OI (g:T->Option T):Prop where
 n:g .non=none
 b:∀ x,g (.bl x)=none
 s:∀ x,g (.str x)=none
 t:∀ x,g (.tup x)=none
 l:∀ x,g (.lst x)=none
 d:∀ x,g (.dic x)=none
 o:∀ x,g (.obj x)=none
 a:∀ x,g (.adr x)=none
theorem OI.int {g:T->Option T} {w t:T} (h:OI g) (e:g t=some w):∃ i,t=.int i:=by
 cases t with
 | int i=>exact ⟨i,rfl⟩
 | non=>exact fu (h.n.symm.trans e)
 | bl x=>exact fu ((h.b x).symm.trans e)
 | str x=>exact fu ((h.s x).symm.trans e)
 | tup x=>exact fu ((h.t x).symm.trans e)
 | lst x=>exact fu ((h.l x).symm.trans e)
 | dic x=>exact fu ((h.d x).symm.trans e)
 | obj x=>exact fu ((h.o x).symm.trans e)
 | adr x=>exact fu ((h.a x).symm.trans e)
theorem yp {K:PySem.W.Frag} {S:Hp} {as:List Addr} {x y:V} {t u w:T} {g:T->T->Option T} {P:Prop} (ht:Rep K S as x t) (hu:Rep K S as y u) (hf:g t u=some w)
  (n1:∀ u,OI (g · u)) (n2:∀ i,OI (g (.int i))) (k:∀ i j,x=.int i->y=.int j->g (.int i) (.int j)=some w->P):P:=by
 obtain ⟨i,rfl⟩:=(n1 u).int hf;obtain ⟨j,rfl⟩:=(n2 i).int hf;cases ht; cases hu;exact k i j rfl rfl hf
theorem Av:OpT X (binaryOp .Sub) Qs:=Om a99 fun S as x y t u w ht hu hf H Q sub q =>
 yp (g:=Qs) ht hu hf (fun u=>⟨rfl,fun _=>rfl,fun _=>rfl,fun _=>rfl,fun _=>rfl,fun _=>rfl,fun _=>rfl,fun _=>rfl⟩) (fun i=>⟨rfl,fun _=>rfl,fun _=>rfl,fun _=>rfl,fun _=>rfl,fun _=>rfl,fun _=>rfl,fun _=>rfl⟩) fun i j ex ey hf=>by
 subst ex ey; cases hf;exact ⟨_,_,rfl,rfl,q _ H S (Ext.refl sub) (.int _)⟩
theorem m8:OpT X (binaryOp .Mod) Dg:=Om a3t fun S as x y t u w ht hu hf H Q sub q =>
 yp (g:=Dg) ht hu hf (fun u=>⟨rfl,fun _=>rfl,fun _=>rfl,fun _=>rfl,fun _=>rfl,fun _=>rfl,fun _=>rfl,fun _=>rfl⟩) (fun i=>⟨rfl,fun _=>rfl,fun _=>rfl,fun _=>rfl,fun _=>rfl,fun _=>rfl,fun _=>rfl,fun _=>rfl⟩) fun i j ex ey hf=>by
 subst ex ey;obtain ⟨hc,hf⟩:=vq hf;cases hf; exact ⟨_,_,rfl,rfl,hc,q _ H S (Ext.refl sub) (.int _)⟩
def acn (i j:Int):Prop:=0<j/\(j<1073741824\/j.natAbs<fdl)
theorem a2q:OpR X (binaryOp .FloorDiv) (rI acn fun i j=>.int (i / j)):=opI fun i j _ _ _ _ _ hc q=>by
 have h1:(0:Int)<j:=hc.1
 have h2:j.natAbs<2 ^ 200:=by
  rcases hc.2 with h | h
  ·exact Nat.lt_trans (show j.natAbs<1073741824 by omega) (by decide)
  ·exact h
 exact floordiv_int (by omega) (by rw [Int.fdiv_eq_ediv_of_nonneg i (by omega)]; exact q) (.inl (PyProof.noPylong_of_log2 (Nat.lt_trans ((Nat.log2_lt (by omega)).mpr h2) (by decide))))
theorem yt:OpT X (binaryOp .FloorDiv) Ck:=Om a2q fun S as x y t u w ht hu hf H Q sub q =>
 yp (g:=Ck) ht hu hf (fun u=>⟨rfl,fun _=>rfl,fun _=>rfl,fun _=>rfl,fun _=>rfl,fun _=>rfl,fun _=>rfl,fun _=>rfl⟩) (fun i=>⟨rfl,fun _=>rfl,fun _=>rfl,fun _=>rfl,fun _=>rfl,fun _=>rfl,fun _=>rfl,fun _=>rfl⟩) fun i j ex ey hf=>by
 subst ex ey;obtain ⟨hc,hf⟩:=vq hf;cases hf; exact ⟨_,_,rfl,rfl,hc,q _ H S (Ext.refl sub) (.int _)⟩
theorem Hy:OpT X (binaryOp .Pow) Qo:=Om abd fun S as x y t u w ht hu hf H Q sub q =>
 yp (g:=Qo) ht hu hf (fun u=>⟨rfl,fun _=>rfl,fun _=>rfl,fun _=>rfl,fun _=>rfl,fun _=>rfl,fun _=>rfl,fun _=>rfl⟩) (fun i=>⟨rfl,fun _=>rfl,fun _=>rfl,fun _=>rfl,fun _=>rfl,fun _=>rfl,fun _=>rfl,fun _=>rfl⟩) fun i j ex ey hf=>by
 subst ex ey;obtain ⟨h,hf⟩:=vq hf;cases hf; exact ⟨_,_,rfl,rfl,⟨h.1,by omega,by omega⟩,q _ H S (Ext.refl sub) (.int _)⟩
theorem Dq:OpT X (compareOp .Lt) ltT:=Om ae6 fun S as x y t u w ht hu hf H Q sub q =>
 yp (g:=ltT) ht hu hf (fun u=>⟨rfl,fun _=>rfl,fun _=>rfl,fun _=>rfl,fun _=>rfl,fun _=>rfl,fun _=>rfl,fun _=>rfl⟩) (fun i=>⟨rfl,fun _=>rfl,fun _=>rfl,fun _=>rfl,fun _=>rfl,fun _=>rfl,fun _=>rfl,fun _=>rfl⟩) fun i j ex ey hf=>by
 subst ex ey; cases hf;exact ⟨_,_,rfl,rfl,q _ H S (Ext.refl sub) (.bl _)⟩
theorem a3n:OpT X (compareOp .LtE) leT:=Om acj fun S as x y t u w ht hu hf H Q sub q =>
 yp (g:=leT) ht hu hf (fun u=>⟨rfl,fun _=>rfl,fun _=>rfl,fun _=>rfl,fun _=>rfl,fun _=>rfl,fun _=>rfl,fun _=>rfl⟩) (fun i=>⟨rfl,fun _=>rfl,fun _=>rfl,fun _=>rfl,fun _=>rfl,fun _=>rfl,fun _=>rfl,fun _=>rfl⟩) fun i j ex ey hf=>by
 subst ex ey; cases hf;exact ⟨_,_,rfl,rfl,q _ H S (Ext.refl sub) (.bl _)⟩
theorem Uh:OpT X (compareOp .Gt) gtT:=Om ad9 fun S as x y t u w ht hu hf H Q sub q =>
 yp (g:=gtT) ht hu hf (fun u=>⟨rfl,fun _=>rfl,fun _=>rfl,fun _=>rfl,fun _=>rfl,fun _=>rfl,fun _=>rfl,fun _=>rfl⟩) (fun i=>⟨rfl,fun _=>rfl,fun _=>rfl,fun _=>rfl,fun _=>rfl,fun _=>rfl,fun _=>rfl,fun _=>rfl⟩) fun i j ex ey hf=>by
 subst ex ey; cases hf;exact ⟨_,_,rfl,rfl,q _ H S (Ext.refl sub) (.bl _)⟩
theorem a9y:OpT X (compareOp .GtE) geT:=Om adi fun S as x y t u w ht hu hf H Q sub q =>
 yp (g:=geT) ht hu hf (fun u=>⟨rfl,fun _=>rfl,fun _=>rfl,fun _=>rfl,fun _=>rfl,fun _=>rfl,fun _=>rfl,fun _=>rfl⟩) (fun i=>⟨rfl,fun _=>rfl,fun _=>rfl,fun _=>rfl,fun _=>rfl,fun _=>rfl,fun _=>rfl,fun _=>rfl⟩) fun i j ex ey hf=>by
 subst ex ey; cases hf;exact ⟨_,_,rfl,rfl,q _ H S (Ext.refl sub) (.bl _)⟩
theorem Zh:UnT X (unaryOp .USub) a1o:=by
 intro pins s σ H x v Q I rx z8;obtain ⟨S,as,t,w,sub,ht,hf,q⟩:=z8;cases ht <;> simp only [a1o,reduceCtorEq] at hf
 cases hf;exact aa1 pins s σ H _ v Q I rx ⟨_,rfl,q _ H S (Ext.refl sub) (.int _)⟩
noncomputable def aee (K:PySem.W.Frag):R2:=fun x y H Q=>∃ l b xs zs,x=.ref l/\y=.ref b/\SqL K H l xs/\SqL K H b zs/\xs.length+zs.length<=sizeLine/\∀ p,H p=none->Q (.ref p) (upd H p (.lst (xs++zs)))
theorem a5t:OpR X (binaryOp .Add) (aee X.K):=by
 intro pins s σ H x y v u Q I rx ry h;obtain ⟨l,b,xs,zs,rfl,rfl,hH,hB,hz,q⟩:=h;cases rx;cases ry;obtain ⟨its,r,p1,hl⟩:=I.list hH;obtain ⟨its2,r2,p2,hl2⟩:=I.list hB;obtain ⟨⟨cls,dd,data,sl⟩,n,ho,hc,hd0,hd⟩:=id p1;obtain ⟨⟨cls2,dd2,data2,sl2⟩,n2,ho2,hc2,hd02,hd2⟩:=id p2;simp only at hc hd hc2 hd2;subst hc hd hc2 hd2
 refine concat_meets ⟨_,ho,rfl⟩ ⟨_,ho2,rfl⟩ noFill_list_add seq_list_add PySem.F.slot_list_add PySem.F.entry_list_add (PySem.F.args_list_add_2 _ _)
   (list_addW l b its.toArray its2.toArray n n2 dd dd2 sl sl2 (by rw [List.size_toArray,List.size_toArray,<- r.length,<- r2.length]; exact hz)) ⟨ho,ho2,?_⟩
 have ea:its.toArray++its2.toArray=(its++its2).toArray:=by simp
 rw [ea];exact ⟨.ref _,_,I.afd (t':=s.toks) (r.append r2) (by rw [List.length_append]; exact hz),rfl,q _ I.fresh⟩
noncomputable def aak (K:PySem.W.Frag):R2:=fun x y H Q=>∃ a b ys,x=.ref a/\y=.ref b/\SqT K H a []/\SqT K H b ys/\Q (.ref b) H
theorem a2h:OpR X (binaryOp .Add) (aak X.K):=by
 intro pins s σ H x y v u Q I rx ry h;obtain ⟨a,b,ys,rfl,rfl,ha,hb,q⟩:=h;cases rx;cases ry;obtain ⟨its,r1,p1,_⟩:=I.tuple ha;obtain ⟨its2,r2,p2,_⟩:=I.tuple hb;cases r1;obtain ⟨⟨cls,dd,data,sl⟩,ho,hc,n,hd⟩:=id p1;obtain ⟨⟨cls2,dd2,data2,sl2⟩,ho2,hc2,n2,hd2⟩:=id p2;simp only at hc hd hc2 hd2;subst hc hd hc2 hd2
 exact concat_meets ⟨_,ho,rfl⟩ ⟨_,ho2,rfl⟩ noFill_tuple_add seq_tuple_add PySem.F.slot_tuple_add PySem.F.entry_tuple_add (PySem.F.args_tuple_add_2 _ _)
   (tuple_addW0 a b _ its2.toArray n n2 dd dd2 sl sl2 (by rfl)) ⟨ho,ho2,⟨.ref b,H,I,rfl,q⟩⟩
theorem gb:OpT X (binaryOp .Add) jm:=by
 intro pins s σ H x y v u Q I rx ry z8;obtain ⟨S,as,t,t2,w,sub,ht,hu,hf,q⟩:=z8;cases ht <;> first | exact nomatch (show none=some w from hf) | cases hu <;> first | exact nomatch (show none=some w from hf) | simp only [jm] at hf
 ·cases hf;exact a4h pins s σ H _ _ v u Q I rx ry ⟨_,_,rfl,rfl,q _ H S (Ext.refl sub) (.int _)⟩
 ·split at hf
  ·rename_i hl; cases hf;exact Uz pins s σ H _ _ v u Q I rx ry ⟨_,_,rfl,rfl,Nat.le_trans (Nat.le_of_lt hl) je,q _ H S (Ext.refl sub) (.str _)⟩
  ·cases hf
 ·rename_i a vs ts hs hr b ws us aM bz;split at hf
  ·rename_i hl; cases hf;have hz:vs.length+ws.length<=sizeLine:=by rw [hr.length,bz.length]; exact Nat.le_trans (Nat.le_of_lt hl) je
   cases hr with
   | nil=>exact a2h pins s σ H _ _ v u Q I rx ry ⟨_,_,_,rfl,rfl,kj sub hs,kj sub aM,q _ H S (Ext.refl sub) (.tup aM bz)⟩
   | @cons v0 t0 vs0 ts0 h1 h2 =>
    refine a6r pins s σ H _ _ v u Q I rx ry ⟨_,_,_,_,rfl,rfl,kj sub hs,kj sub aM,by simp,hz,fun z=>?_,fun z p hp=>?_⟩
    ·subst z;cases bz;rw [List.append_nil] at q;exact q _ H S (Ext.refl sub) (.tup hs (.cons h1 h2))
    ·have x:=Ext.laid sub hp (.tup ((v0::vs0)++ws));exact q _ _ _ x (.tup (SqT.of d8) (((qd.cons h1 h2).append bz).mono x.s nol))
  ·cases hf
 ·rename_i a vs ts hs hr b ws us aM bz;split at hf
  ·rename_i hl; cases hf;have hz:vs.length+ws.length<=sizeLine:=by rw [hr.length,bz.length]; exact Nat.le_trans (Nat.le_of_lt hl) je
   refine a5t pins s σ H _ _ v u Q I rx ry ⟨_,_,_,_,rfl,rfl,iz sub hs,iz sub aM,hz,fun p hp=>?_⟩;have x:=Ext.laid sub hp (.lst (vs++ws));exact q _ _ _ x (.lst (SqL.of d8) ((hr.append bz).mono x.s nol))
  ·cases hf
theorem a8l (x:Str) (n:Int) (h:0<=n):Txt.mul x n=⟨((List.replicate n.toNat x.cps.toList).flatten).toArray⟩:=by
 have key:∀ (k:Nat) (acc:Array Nat),(List.replicate k x.cps).foldl (· ++ ·) acc=acc++((List.replicate k x.cps.toList).flatten).toArray:=by
  intro k
  induction k with
  | zero=>intro acc; simp
  | succ k ih =>
   intro acc;rw [List.replicate_succ,List.foldl_cons,ih,List.replicate_succ,List.flatten_cons];apply Array.ext';simp
 unfold Txt.mul
 by_cases h1:n<1
 ·have:n=0:=by omega
  subst this;rw [if_pos h1]; rfl
 ·rw [if_neg h1]
  by_cases h2:(n==1||x.length==0)=true
  ·rw [if_pos h2];rw [Bool.or_eq_true] at h2;rcases h2 with h2 | h2
   ·have:n=1:=by simpa using h2
    subst this;cases x; simp
   ·have h3:x.cps.size=0:=by simpa [Str.length] using h2
    obtain ⟨c⟩:=x;have h4:c = #[]:=Array.eq_empty_of_size_eq_zero h3;subst h4;congr 1;apply Array.ext';simp
  ·rw [if_neg h2,key];congr 1;apply Array.ext';simp
theorem ou:OpT X (binaryOp .Mult) yg:=by
 intro pins s σ H x y v u Q I rx ry z8;obtain ⟨S,as,t,t2,w,sub,ht,hu,hf,q⟩:=z8;cases ht <;> first | exact nomatch (show none=some w from hf) | cases hu <;> first | exact nomatch (show none=some w from hf) | simp only [yg] at hf
 ·split at hf
  ·rename_i hb; cases hf;refine a96 pins s σ H _ _ v u Q I rx ry ⟨_,_,rfl,rfl,?_,q _ H S (Ext.refl sub) (.int _)⟩;rw [Bool.or_eq_true] at hb;rcases hb with h | h
   ·exact .inl (of_decide_eq_true h)
   ·exact .inr (of_decide_eq_true h)
  ·cases hf
 ·rename_i z j;split at hf
  ·rename_i hb; cases hf;obtain ⟨t',rfl⟩:=rx;obtain ⟨fe,rfl⟩:=ry;refine SB.mul ⟨?_,fun _ _=>?_,fun _ _=>?_⟩ fun t3 k=>⟨.str (Txt.mul z j),H,I.tok _,⟨_,rfl⟩,?_⟩
   ·have h1:¬ j < -(2 ^ 63:Int):=by omega
    have h2:¬ j >= 2 ^ 63:=by omega
    rw [decide_eq_false h1,decide_eq_false h2]; rfl
   ·have h1:(z.length:Int)<=100:=by omega
    have h2:(100:Int)<=(2 ^ 63 - 1) / j:=by
     have hj:0<j:=by
      rcases Int.lt_or_le 0 j with h | h
      ·exact h
      ·exfalso;have:j=0:=by omega
       subst this;rename_i a _; exact a (by decide)
     exact (Int.le_ediv_iff_mul_le hj).mpr (by omega)
    omega
   ·have h3:z.length * j.toNat<=100 * 1000:=Nat.mul_le_mul hb.2.2 (by omega);unfold Builtin.Str.tooLong;rw [sizeLine_eq];exact decide_eq_false (by omega)
   ·rw [a8l z j hb.1]; exact q _ H S (Ext.refl sub) (.str _)
  ·cases hf
end
section
variable {X:Cx} {B:Bas} {a b c e o:Expr} {m m1 m2:M T} {pos p:Pos}
theorem Wa (n:Nat) (i:Int):ixI n i=ixN n i:=rfl
theorem Us {K:PySem.W.Frag} {S:Hp} {as:List Addr} {y:V} {t:T} {q:L2.Key} (r:Rep K S as y t) (h:keyOf t=some q):y=kV q:=by
 cases r <;> simp only [keyOf,reduceCtorEq] at h <;> (cases h; rfl)
def adk:R2:=fun x y H Q=>∃ a v,x=.ref a/\a0x H a y (some v)/\Q v H
theorem a7t (hu:X.A.units+1<cLine):IxR X adk:=by
 intro value slice pins s σ H x y v u Q I rx ry z8 hs;obtain ⟨a,w,ex,g,q⟩:=z8;subst ex;cases rx;refine tail_any (Hu I g) slot_dict_getitem.lookup (Ny hu I g ry fun w' s' I' r'=>⟨w,H,I',r',q⟩) hs
theorem a05 (hu:X.A.units+1<cLine):IxR X (r2 X.K dg):=by
 intro value slice pins s σ H x y v u Q I rx ry z8 hs;obtain ⟨S,as,t,t2,w,sub,ht,hu2,hf,q⟩:=z8;cases ht with
 | @tup a vs ts h1 h2 =>
  cases hu2 <;> first | exact fu hf | skip
  rename_i i;obtain ⟨j,e1,e2⟩:=Option.bind_eq_some_iff.mp hf;obtain ⟨z,hz,rz⟩:=h2.get e2;refine aao value slice pins s σ H _ _ v u Q I rx ry ⟨a,vs,i,z,rfl,rfl,kj sub h1,?_,q z H S (Ext.refl sub) rz⟩ hs;rw [Wa,<- h2.length] at e1;unfold atI; rw [e1]; exact hz
 | @lst a vs ts h1 h2 =>
  cases hu2 <;> first | exact fu hf | skip
  rename_i i;obtain ⟨j,e1,e2⟩:=Option.bind_eq_some_iff.mp hf;obtain ⟨z,hz,rz⟩:=h2.get e2;refine a72 value slice pins s σ H _ _ v u Q I rx ry ⟨a,vs,i,z,rfl,rfl,iz sub h1,?_,q z H S (Ext.refl sub) rz⟩ hs;rw [Wa,<- h2.length] at e1;unfold atI; rw [e1]; exact hz
 | str z =>
  cases hu2 <;> first | exact fu hf | skip
  rename_i i;obtain ⟨hl,hf⟩:=vq hf;obtain ⟨j,e1,e2⟩:=Option.bind_eq_some_iff.mp hf;obtain ⟨cc,e3,e4⟩:=Option.map_eq_some_iff.mp e2;subst e4;refine aag value slice pins s σ H _ _ v u Q I rx ry ⟨z,i,cc,rfl,rfl,Nat.le_trans (Nat.le_of_lt hl) je,?_,q _ H S (Ext.refl sub) (.str _)⟩ hs;rw [Wa] at e1;unfold atI; rw [e1]; exact e3
 | @dic a kvs ts h1 h2 =>
  obtain ⟨k,e1,e2⟩:=Option.bind_eq_some_iff.mp hf;have ey:=Us hu2 e1;subst ey;rcases h2.get k with ⟨z,t',a1,a2,a3⟩ | ⟨_,a2⟩
  ·rw [e2] at a2; cases a2;exact a7t hu value slice pins s σ H _ _ v u Q I rx ry ⟨a,z,rfl,.inl ⟨kvs,k,um sub h1,rfl,a1.symm⟩,q z H S (Ext.refl sub) a3⟩ hs
  ·rw [e2] at a2; cases a2
 | _=>exact fu hf
theorem kh (hu:X.A.units+1<cLine) (ha:PE X a (tOf X.K B m1)) (hb:PE X b (tOf X.K B m2)) (hs:Yk b):PE X (.Subscript a b pos) (tOf X.K B (mOp dg m1 m2)):=T6 (ada (a05 hu) ha hb hs)
theorem qm:Jh X (.builtin "len") Ax:=by
 intro pins s σ H xs us Q I rs z8;obtain ⟨S,as,ts,w,sub,hr,hf,q⟩:=z8;cases hr with
 | nil=>simp only [Ax,reduceCtorEq] at hf
 | @cons x t bI ts' h1 h2 =>
  cases h2 with
  | cons h3 h4=>simp only [Ax,reduceCtorEq] at hf
  | nil =>
   cases h1 with
   | tup g1 g2=>simp only [Ax] at hf; cases hf; exact Bx pins s σ H _ us Q I rs ⟨_,_,rfl,.inr (kj sub g1),by rw [g2.length]; exact q _ H S (Ext.refl sub) (.int _)⟩
   | lst g1 g2=>simp only [Ax] at hf; cases hf; exact Bx pins s σ H _ us Q I rs ⟨_,_,rfl,.inl (iz sub g1),by rw [g2.length]; exact q _ H S (Ext.refl sub) (.int _)⟩
   | str z =>
    simp only [Ax] at hf;split at hf
    ·rename_i hl; cases hf; exact Nr pins s σ H _ us Q I rs ⟨_,rfl,Nat.le_trans (Nat.le_of_lt hl) je,q _ H S (Ext.refl sub) (.int _)⟩
    ·cases hf
   | @dic a kvs ts g1 g2 =>
    simp only [Ax] at hf; cases hf;obtain ⟨u,rfl,ru⟩:=rs.one;cases ru;exact abk I (um sub g1) fun t s' I'=>⟨.int kvs.length,H,I',⟨t,rfl⟩,by rw [g2.length]; exact q _ H S (Ext.refl sub) (.int _)⟩
   | _=>simp only [Ax,reduceCtorEq] at hf
theorem Ef:Jh X (.type "tuple") Bw:=by
 intro pins s σ H xs us Q I rs z8;obtain ⟨S,as,ts,w,sub,hr,hf,q⟩:=z8;cases hr with
 | nil=>simp only [Bw,reduceCtorEq] at hf
 | @cons x t bI ts' h1 h2 =>
  cases h2 with
  | cons h3 h4=>simp only [Bw,reduceCtorEq] at hf
  | nil =>
   cases h1 with
   | @tup a vs ts g1 g2=>simp only [Bw] at hf; cases hf; exact Fo pins s σ H _ us Q I rs ⟨_,_,rfl,.inr ⟨kj sub g1,q _ H S (Ext.refl sub) (.tup g1 g2)⟩⟩
   | @lst a vs ts g1 g2 =>
    simp only [Bw] at hf; cases hf;refine Fo pins s σ H _ us Q I rs ⟨_,_,rfl,.inl ⟨iz sub g1,fun p hp=>?_⟩⟩;have x:=Ext.laid sub hp (.tup vs);exact q _ _ _ x (.tup (SqT.of d8) (g2.mono x.s nol))
   | _=>simp only [Bw,reduceCtorEq] at hf
theorem Cr.put {K:PySem.W.Frag} {S:Hp} {as:List Addr} {k:L2.Key} {v:V} {t:T} (r:Rep K S as v t):∀ {vs:List (L2.Key × V)} {ts:List (L2.Key × T)},Cr K S as vs ts->Cr K S as (putK vs k v) (Vt k t ts):=by
 intro vs ts h
 have any:∀ {vs:List (L2.Key × V)} {ts:List (L2.Key × T)},Cr K S as vs ts->(vs.any fun kv=>decide (kv.1=k))=(ts.any fun p=>decide (p.1=k)):=by
  intro vs ts h
  induction vs generalizing ts with
  | nil=>cases h; rfl
  | cons p r ih=>cases h with | cons h1 h2=>rw [List.any_cons,List.any_cons,ih h2]
 have mp:∀ {vs:List (L2.Key × V)} {ts:List (L2.Key × T)},Cr K S as vs ts->Cr K S as (vs.map fun kv=>if kv.1=k then (kv.1,v) else kv) (ts.map fun p=>if p.1=k then (p.1,t) else p):=by
  intro vs ts h
  induction vs generalizing ts with
  | nil=>cases h; exact .nil
  | cons p rr ih =>
   cases h with
   | @cons q v0 t0 _ _ h1 h2 =>
    rw [List.map_cons,List.map_cons]
    by_cases e:q=k
    ·rw [if_pos e,if_pos e]; exact .cons r (ih h2)
    ·rw [if_neg e,if_neg e]; exact .cons h1 (ih h2)
 have ap:∀ {vs:List (L2.Key × V)} {ts:List (L2.Key × T)},Cr K S as vs ts->Cr K S as (vs++[(k,v)]) (ts++[(k,t)]):=by
  intro vs ts h
  induction vs generalizing ts with
  | nil=>cases h; exact .cons r .nil
  | cons p rr ih=>cases h with | cons h1 h2=>exact .cons h1 (ih h2)
 unfold putK Vt;rw [any h];split
 ·exact mp h
 ·exact ap h
end
theorem Ov {o k:M T} {s s':Sta} {t:T} (h:uy o k s=some (t,s')):∃ n s1 kt kvs q,o s=some (.obj n,s1)/\k s1=some (kt,s')/\s'.sto[n]? = some (.dic kvs)/\keyOf kt=some q/\Gj q kvs=some t:=by
 unfold uy at h;split at h
 ·rename_i n s1 e1;split at h
  ·rename_i kt s2 e2;split at h
   ·rename_i kvs e3;split at h
    ·rename_i t' e4;cases h;obtain ⟨q,e5,e6⟩:=Option.bind_eq_some_iff.mp e4;exact ⟨n,s1,kt,kvs,q,e1,e2,e3,e5,e6⟩
    ·cases h
   ·cases h
  ·cases h
 ·cases h
theorem Qp {i:Nat} {k d:M T} {s s':Sta} {t:T} (h:vo i k d s=some (t,s')):Li i s=true/\∃ kt s1 dt kvs f q,k s=some (kt,s1)/\d s1=some (dt,s')/\s'.env[i]? = some (some (.dic kvs,f))/\keyOf kt=some q/\t=(Gj q kvs).getD dt:=by
 unfold vo at h;split at h
 ·rename_i hd;refine ⟨hd,?_⟩;split at h
  ·rename_i kt s1 e1;split at h
   ·rename_i dt s2 e2;split at h
    ·rename_i kvs f e3;split at h
     ·rename_i q e4;cases h;exact ⟨kt,s1,dt,kvs,f,q,e1,e2,e3,e4,rfl⟩
     ·cases h
    ·cases h
   ·cases h
  ·cases h
 ·cases h
theorem Qh {i:Nat} {s s':Sta} {t:T} (h:Dy i s=some (t,s')):s'=s/\((∃ xs f,s.env[i]? = some (some (.lst xs,f))/\t=.int xs.length)\/(∃ xs f,s.env[i]? = some (some (.dic xs,f))/\t=.int xs.length)):=by
 unfold Dy at h;split at h
 ·rename_i xs f e; cases h; exact ⟨rfl,.inl ⟨xs,f,e,rfl⟩⟩
 ·rename_i xs f e; cases h; exact ⟨rfl,.inr ⟨xs,f,e,rfl⟩⟩
 ·cases h
section
variable {K:PySem.W.Frag} {B:Bas} {st:Sta} {σ:L2.St} {H S:Hp} {ps:List (V × T)} {as:List Addr}
theorem Rel.dictAt (r:Rel K B st σ H ps S as) {i:Nat} {kvs:List (L2.Key × T)} {f:Bool} (e:st.env[i]? = some (some (.dic kvs,f))):∃ p vs,σ[i]? = some (some (.ref p))/\Rd H p (.dK vs)/\Cr K S as vs kvs:=by
 obtain ⟨v,h1,h2,h3⟩:=r.slots i _ f e;cases f with
 | false =>
  have h:=h2 rfl;cases h with
  | dic a b=>exact ⟨_,_,h1,um r.sub a,b⟩
 | true =>
  obtain ⟨p,rfl,o⟩:=h3 rfl;obtain ⟨vs,h,q⟩:=o.own;exact ⟨p,vs,h1,.inl h,q⟩
end
section
variable {X:Cx} {B:Bas} {a b c e o k d:Expr} {m mo mk md mv:M T} {pos p:Pos}
theorem Ah (hu:X.A.units+1<cLine) (ho:PE X o (tOf X.K B mo)) (hk:PE X k (tOf X.K B mk)) (hs:ado k):PE X (.Subscript o k pos) (tOf X.K B (uy mo mk)):=(a5q hu ho hk hs).imp fun σ H Q z9=>by
 obtain ⟨st,ps,S,as,R,t,aa,e,q⟩:=z9;obtain ⟨n,s1,kt,kvs,qk,e1,e2,e3,e4,e5⟩:=Ov e;refine ⟨st,ps,S,as,R,_,s1,e1,fun v H1 S1 ae R1=>⟨s1,_,S1,ae,R1,kt,aa,e2,fun u H2 S2 ax R2=>?_⟩⟩;have t2:=R2.top2;cases t2 with
 | @obj _ a ha =>
  obtain ⟨a',h1,h2,vs,h3,h4⟩:=R2.sto.at' n _ e3;rw [ha] at h1; cases h1;have ey:=Us R2.top e4;subst ey;rcases h4.get qk with ⟨z,t',a1,a2,a3⟩ | ⟨_,a2⟩
  ·rw [e5] at a2; cases a2;exact ⟨a,z,rfl,.inl ⟨vs,qk,.inl h3,rfl,a1.symm⟩,q z H2 S2 ax (R2.drop.drop.push a3)⟩
  ·rw [e5] at a2; cases a2
theorem Nh {i:Nat} {s:Sta} (h:Li i s=true):∃ kvs f,s.env[i]? = some (some (.dic kvs,f)):=by
 unfold Li at h;split at h
 ·rename_i kvs f e; exact ⟨kvs,f,e⟩
 ·cases h
theorem Oq {i:Nat} {s:Sta} (h:G5 i s=true):∃ kvs f,s.env[i]? = some (some (.lst kvs,f)):=by
 unfold G5 at h;split at h
 ·rename_i kvs f e; exact ⟨kvs,f,e⟩
 ·cases h
theorem Hz (i:Nat) {apos:Pos} (hu:X.A.units+1<cLine) (ho:PE X o (Zf i)) (hk:PE X k (tOf X.K B mk)) (hd:PE X d (tOf X.K B md)) (m:M2 X o "get" apos k d pos):PE X (.Call (.Attribute o "get" apos) [k,d] [] pos) (tOf X.K B (vo i mk md)) :=
 (a1f hu ho hk hd m).imp fun σ H Q z9=>by
  obtain ⟨st,ps,S,as,R,t,aa,e,q⟩:=z9;obtain ⟨hd,kt,s1,dt,kvs,f,qk,e1,e2,e3,e4,rfl⟩:=Qp e;obtain ⟨kvs0,f0,e0⟩:=Nh hd;obtain ⟨p0,vs0,s0,rd0,_⟩:=R.dictAt e0;refine ⟨_,s0,p0,rfl,.inl ⟨vs0,rd0⟩,st,ps,S,as,R,kt,s1,e1,fun u H1 S1 ae R1=>⟨s1,_,S1,ae,R1,dt,aa,e2,fun w H2 S2 ax R2=>?_⟩⟩;obtain ⟨p1,vs1,z1,rd1,h4⟩:=R2.dictAt e3;rw [s0] at z1; cases z1;have ey:=Us R2.top2 e4;subst ey;refine ⟨Qu vs1 qk,.inl ⟨vs1,qk,rd1,rfl,rfl⟩,?_⟩;rcases h4.get qk with ⟨z,t',a1,a2,a3⟩ | ⟨a1,a2⟩
  ·rw [a1]; rw [a2] at q; exact q z H2 S2 ax (R2.drop.drop.push a3)
  ·rw [a1]; rw [a2] at q; exact q w H2 S2 ax (R2.drop.drop.push R2.top)
theorem Nm {pos':Pos} (hu:X.A.units+1<cLine) (ho:PE X o (tOf X.K B mo)) (hk:PE X k (tOf X.K B mk)) (hv:PE X e (tOf X.K B mv)) (hs:swapsWith e (some (.Subscript o k pos')) pos.line X.env=pure false) :
  PS X (.Assign [.Subscript o k pos'] e pos) (sOf X.K B (Ed mo mk mv)):=(Wk hu ho hk hv hs).imp fun D σ H z9=>by
 obtain ⟨st,ps,S,as,R,fl,aa,e,q⟩:=z9;obtain ⟨t,s1,n,s2,kt,s3,kvs,qk,e1,e2,e3,e4,e5,hl,rfl,rfl⟩:=Pz e;refine ⟨st,ps,S,as,R,t,s1,e1,fun v H1 S1 ae R1=>⟨s1,_,S1,ae,R1,_,s2,e2,fun x H2 S2 ax R2=>⟨s2,_,S2,ax,R2,kt,s3,e3,fun y H3 S3 aF R3=>?_⟩⟩⟩;have t2:=R3.top2;cases t2 with
 | @obj _ a ha =>
  obtain ⟨a',h1,h2,vs,h3,h4⟩:=R3.sto.at' n _ e4;rw [ha] at h1; cases h1;have ey:=Us R3.top e5;subst ey;have tv:Rep X.K S3 aF v t:=R3.pend _ (List.mem_cons_of_mem _ (List.mem_cons_of_mem _ List.mem_cons_self));refine ⟨a,_,rfl,a5k.k h3 (by rw [h4.length]; exact Nat.lt_of_lt_of_le hl je),q _ _ S3 aF (R3.drop.drop.drop.W5 e4 ha ⟨_,d8,h4.put tv⟩)⟩
theorem Ii (i:Nat) {pos':Pos} (hu:X.A.units+1<cLine) (ho:PE X o (Zf i)) (hk:PE X k (tOf X.K B mk)) (hv:PE X e (tOf X.K B mv)) (hs:swapsWith e (some (.Subscript o k pos')) pos.line X.env=pure false) :
  PS X (.Assign [.Subscript o k pos'] e pos) (sOf X.K B (vp i mk mv)):=(Wk hu ho hk hv hs).imp fun D σ H z9=>by
 obtain ⟨st,ps,S,as,R,fl,aa,e,q⟩:=z9;obtain ⟨t,s1,kt,s2,kvs,qk,e1,hd,e3,e4,e5,hl,rfl,rfl⟩:=Rb e;obtain ⟨kvs0,f0,e0⟩:=Nh hd;refine ⟨st,ps,S,as,R,t,s1,e1,fun v H1 S1 ae R1=>?_⟩;obtain ⟨p0,vs0,s0,rd0,_⟩:=R1.dictAt e0;refine ⟨_,s0,s1,_,S1,ae,R1,kt,s2,e3,fun y H3 S3 aF R3=>?_⟩;obtain ⟨w,h1,_,h3⟩:=R3.slots i _ true e4;rw [s0] at h1; cases h1;obtain ⟨p',ep,ow⟩:=h3 rfl;cases ep;obtain ⟨vs,hH,h4⟩:=ow.own;have ey:=Us R3.top e5;subst ey;exact ⟨p0,_,rfl,a5k.k hH (by rw [h4.length]; exact Nat.lt_of_lt_of_le hl je),q _ _ S3 aF (R3.drop.drop.turn e4 s0 ⟨_,d8,h4.put R3.top2⟩)⟩
end
theorem ni {ms:M (List T)} {n:Nat} (h:∀ st ts aa,ms st=some (ts,aa)->ts.length<=n) (hn:n<=1000):∀ st ts aa,ms st=some (ts,aa)->ts.length<=1000:=fun st ts aa e=>Nat.le_trans (h st ts aa e) hn
theorem yh {m:M T}:∀ st ts aa,yx m st=some (ts,aa)->ts.length<=sizeLine:=fun st ts aa e=>by
 unfold yx at e;split at e
 ·split at e
  ·rename_i h; cases e; exact Nat.le_trans (Nat.le_of_lt h) je
  ·cases e
 ·split at e
  ·rename_i h; cases e; exact Nat.le_trans (Nat.le_of_lt h) je
  ·cases e
 ·cases e
theorem Kg {m:M T}:∀ st ts aa,Bm m st=some (ts,aa)->ts.length<=sizeLine:=fun st ts aa e=>by
 obtain ⟨n,_,h,rfl⟩:=Ka e;unfold rangeT;rw [List.length_map,List.length_range];refine Nat.le_trans ?_ je;show n.toNat<=1000000;omega
def vm (P:Program) (w:World) (K:PySem.W.Frag) (mg:Str->Option Value) (base:Heap) (x:Str) (k:Nat) (ps:List Str) (F:Fn):Prop :=
 ∃ f fd,Aw P w K mg base CX0 k f fd ps (spF K ps.length F)/\Binds K fd ps []/\PySem.W.keepIn K (.ref f)=true/\mg x=some (.ref f)
theorem vm.mono {P:Program} {w:World} {K:PySem.W.Frag} {mg:Str->Option Value} {base:Heap} {x:Str} {j k:Nat} {ps:List Str} {F:Fn} (d:vm P w K mg base x j ps F) (h:j<=k):vm P w K mg base x k ps F:=by
 obtain ⟨f,fd,h1,h2⟩:=d;exact ⟨f,fd,h1.mono h,h2⟩
section
variable {X:Cx} {B:Bas} {a b c e o k:Expr} {m m1 m2:M T} {pos p:Pos} {es:List Expr} {ms:M (List T)} {F:Fn} {x:Str} {n:Nat} {pn:List Str}
theorem g8 (D:vm X.prog X.w X.K X.mg X.base x n pn F) (hr:xu n X.A) (hg:Gl X x)
  (ha:PA X (e::es) (aOf X.K B ms)) (hl:∀ st ts aa,ms st=some (ts,aa)->ts.length=pn.length) (aJ:(x==("__debug__" : Str))=false:=by decide)
  (he:starEach (e::es) X.env=(false,eval e X.env)::starEach es X.env:=by rfl) (aD:(backTo pos (starEach es X.env)).any (·.1)=false:=by rfl) :
  PE X (.Call (.Name x p) (e::es) [] pos) (tOf X.K B (dw F ms)):=by
 obtain ⟨f,fd,h1,h2,h3,h4⟩:=D;exact a8o h1 hr hg h4 h3 h2 ha hl aJ he aD
theorem a4z (h:PA X es (aOf X.K B ms)) (hm:∀ st ts aa,ms st=some (ts,aa)->ts.length<=1000):PE X (.List es pos) (fOf X.K B (gk (fun l=>some (.lst l)) ms)) :=
 (Zi h).imp fun σ H Q z9=>by
  obtain ⟨st,ps,S,as,R,t,aa,e,q⟩:=z9;obtain ⟨ts,e1,e2⟩:=Am e;cases e2;refine ⟨st,ps,S,as,R,ts,aa,e1,fun vs H1 S1 ae R1 rs=>⟨?_,fun p hp=>?_⟩⟩
  ·rw [rs.length]; exact Nat.le_of_lt (Cm (hm _ _ _ e1))
  ·obtain ⟨bD,sD,nD,no⟩:=R1.fresh hp;exact q p _ S1 ae (R1.abx bD sD nD no) ⟨⟨vs,d8,rs⟩,sD,nD,bD⟩ no
theorem W8:PE X (.Dict [] [] pos) (fOf X.K B (ak (.dic []))):=a1d.imp fun σ H Q z9=>by
 obtain ⟨st,ps,S,as,R,t,aa,e,q⟩:=z9;cases e;intro p hp;obtain ⟨bD,sD,nD,no⟩:=R.fresh hp;exact q p _ S as (R.abx bD sD nD no) ⟨⟨[],d8,.nil⟩,sD,nD,bD⟩ no
theorem Rel.listAt {K:PySem.W.Frag} {B:Bas} {st:Sta} {σ:L2.St} {H S:Hp} {ps:List (V × T)} {as:List Addr} (r:Rel K B st σ H ps S as) {i:Nat} {xs:List T} {f:Bool} (e:st.env[i]? = some (some (.lst xs,f))):∃ p vs,σ[i]? = some (some (.ref p))/\SqL K H p vs/\qd K S as vs xs:=by
 obtain ⟨v,h1,h2,h3⟩:=r.slots i _ f e;cases f with
 | false =>
  have h:=h2 rfl;cases h with
  | lst a b=>exact ⟨_,_,h1,iz r.sub a,b⟩
 | true =>
  obtain ⟨p,rfl,o⟩:=h3 rfl;obtain ⟨vs,h,q⟩:=o.own;exact ⟨p,vs,h1,SqL.of h,q⟩
theorem Et (i:Nat) {st:Stmt} (h:PS X st (a7k (tBM X.K "list" Qv (Zf i) (V0 (tOf X.K B m) a8u)))):PS X st (sOf X.K B (u6 i m)):=h.imp fun D σ H z9=>by
 obtain ⟨st,ps,S,as,R,fl,aa,e,q⟩:=z9;obtain ⟨hd,t,s1,xs,e1,e2,hl,rfl,rfl⟩:=Qm e;obtain ⟨xs0,f0,e0⟩:=Oq hd;obtain ⟨p0,vs0,s0,q0,_⟩:=R.listAt e0;refine ⟨_,s0,.inl ⟨rfl,_,q0⟩,st,ps,S,as,R,t,s1,e1,fun v H1 S1 ae R1=>?_⟩;obtain ⟨w,h1,_,h3⟩:=R1.slots i _ true e2;rw [s0] at h1; cases h1;obtain ⟨p',ep,ow⟩:=h3 rfl;cases ep;obtain ⟨vs,hH,h4⟩:=ow.own;exact ⟨p0,vs,v,rfl,rfl,hH,by rw [h4.length]; exact Nat.lt_of_lt_of_le hl je,q _ _ S1 ae (R1.drop.turn e2 s0 ⟨_,d8,h4.append (.cons R1.top .nil)⟩)⟩
end
section
variable {X:Cx} {B:Bas} {a b c e o k:Expr} {m m1 m2:M T} {pos p:Pos}
theorem Il {K:PySem.W.Frag} {S:Hp} {as:List Addr}:∀ {vs:List V} {ts:List T} {l:List Int},qd K S as vs ts->Oh ts=some l->vs=l.map V.int
 | _,[],l,h0,h=>by cases h0; cases h; rfl
 | _,_::_,l,h0,h=>by
  cases h0 with | cons h1 h2=>?_
  cases h1 <;> first | exact fu h | skip
  obtain ⟨l',e1,e2⟩:=Option.map_eq_some_iff.mp h;subst e2;rw [Il h2 e1]; rfl
theorem Fy {K:PySem.W.Frag} {S:Hp} {as:List Addr}:∀ {vs:List V} {ts:List T} {l:List Bool},qd K S as vs ts->Gh ts=some l->vs=l.map V.bl
 | _,_,l,.nil,h=>by cases h; rfl
 | _,_,l,.cons (t:=t) h1 h2,h=>by
  cases h1 <;> first | exact fu h | skip
  obtain ⟨l',e1,e2⟩:=Option.map_eq_some_iff.mp h;subst e2;rw [Fy h2 e1]; rfl
theorem O6 {K:PySem.W.Frag} {S:Hp} {as:List Addr}:∀ {vs:List V} {ts:List T} {l:List Str},qd K S as vs ts->Ga ts=some l->vs=l.map V.str
 | _,_,l,.nil,h=>by cases h; rfl
 | _,_,l,.cons (t:=t) h1 h2,h=>by
  cases h1 <;> first | exact fu h | skip
  obtain ⟨l',e1,e2⟩:=Option.map_eq_some_iff.mp h;subst e2;rw [O6 h2 e1]; rfl
theorem a1p {l:List Int} {us:List Value} (r:Vals (l.map V.int) us) {i:Nat} {v:Value} (h:us.toArray[i]? = some v):∃ t,v=.int (l.getD i 0) t:=by
 rw [List.getElem?_toArray] at h;have hi:i<(l.map V.int).length:=by rw [r.length]; exact (List.getElem?_eq_some_iff.mp h).1
 rw [List.length_map] at hi;have e:(l.map V.int)[i]? = some (.int l[i]):=by rw [List.getElem?_map,List.getElem?_eq_getElem hi]; rfl
 obtain ⟨u,h1,t,h2⟩:=r.get e;rw [h] at h1; cases h1;exact ⟨t,by rw [h2,List.getD_eq_getElem?_getD,List.getElem?_eq_getElem hi]; rfl⟩
theorem Og {l:List Bool} {us:List Value} (r:Vals (l.map V.bl) us) {i:Nat} {v:Value} (h:us.toArray[i]? = some v):v=.bool (l.getD i true):=by
 rw [List.getElem?_toArray] at h;have hi:i<(l.map V.bl).length:=by rw [r.length]; exact (List.getElem?_eq_some_iff.mp h).1
 rw [List.length_map] at hi;have e:(l.map V.bl)[i]? = some (.bl l[i]):=by rw [List.getElem?_map,List.getElem?_eq_getElem hi]; rfl
 obtain ⟨u,h1,h2⟩:=r.get e;rw [h] at h1; cases h1;rw [h2,List.getD_eq_getElem?_getD,List.getElem?_eq_getElem hi]; rfl
theorem Inv.G5 {pins:List (Addr × Obj)} {σ:L2.St} {H:Hp} {s:Shared} {a:Addr} {xs:List V} (I:L2.Inv X pins σ H s) (h:SqL X.K H a xs):a<s.heap.objs.size:=by
 obtain ⟨its,_,⟨o,n,h1,_⟩,_⟩:=I.list h;exact Heap.lt_size h1
theorem Vz (hc:X.calm=true):Jh X (.builtin "sum") ac5:=by
 intro pins s σ H xs us Q I rs z8;obtain ⟨S,as,ts,w,sub,hr,hf,q⟩:=z8;cases hr with
 | nil=>exact fu hf
 | @cons x t bI ts' h1 h2 =>
  cases h2 with
  | cons h3 h4=>cases h1 <;> exact fu hf
  | nil =>
   cases h1 with
   | @lst a vs ts g1 g2 =>
    obtain ⟨l,e1,e2⟩:=Option.map_eq_some_iff.mp hf;subst e2;have ev:=Il g2 e1;subst ev;obtain ⟨u,rfl,ru⟩:=rs.one;cases ru;obtain ⟨its,r,p,hz⟩:=I.list (iz sub g1);have aK:=Inv.G5 I (iz sub g1);refine call_sum_walkG (wpAny_pyIter_list p.isList ?_);refine ⟨_,_,_,_,_,_,fun i=>l.getD i 0,rfl,Walks.list (A:=X.A.in1) (show X.A.in1.handled=none from I.ok.hd hc) s.heap.objs.size a (Nat.ne_of_lt aK) its.toArray,And.intro ⟨_,Heap.get?_push_size _ rfl,rfl,rfl⟩ (PlainL.keeps p fun b o e=>Heap.get?_push_of_some _ e).isList,fun b hb=>?_,fun i v hv=>a1p r hv,fun h' tk t' hk=>?_⟩
    ·rw [Heap.size_push];rcases List.mem_cons.mp hb with rfl | hb
     ·exact Nat.lt_succ_self _
     ·rw [List.mem_singleton.mp hb]; exact Nat.lt_succ_of_lt aK
    ·have hl:its.toArray.size=l.length:=by rw [List.size_toArray,<- r.length,List.length_map]
     rw [hl,preSum_getD,List.take_length];exact ⟨.int l.sum,H,I.kept (h':=h') (t':=tk) fun b u e=>hk b u (by simp; exact Nat.ne_of_lt (Heap.lt_size e)) (Heap.get?_push_of_some _ e),⟨_,rfl⟩,q _ H S (Ext.refl sub) (.int _)⟩
   | _=>exact fu hf
theorem all_range (l:List Bool) (d:Bool):((List.range l.length).all fun i=>l.getD i d)=l.all id:=by
 induction l with
 | nil=>rfl
 | cons x r ih =>
  rw [List.length_cons,List.range_succ_eq_map,List.all_cons,List.all_map,List.all_cons,<- ih];rfl
theorem any_range (l:List Bool) (d:Bool):((List.range l.length).any fun i=>l.getD i d)=l.any id:=by
 induction l with
 | nil=>rfl
 | cons x r ih =>
  rw [List.length_cons,List.range_succ_eq_map,List.any_cons,List.any_map,List.any_cons,<- ih];rfl
theorem Nj (hc:X.calm=true):Jh X (.builtin "all") aae:=by
 intro pins s σ H xs us Q I rs z8;obtain ⟨S,as,ts,w,sub,hr,hf,q⟩:=z8;cases hr with
 | nil=>exact fu hf
 | @cons x t bI ts' h1 h2 =>
  cases h2 with
  | cons h3 h4=>cases h1 <;> exact fu hf
  | nil =>
   cases h1 with
   | @lst a vs ts g1 g2 =>
    obtain ⟨l,e1,e2⟩:=Option.map_eq_some_iff.mp hf;subst e2;have ev:=Fy g2 e1;subst ev;obtain ⟨u,rfl,ru⟩:=rs.one;cases ru;obtain ⟨its,r,p,hz⟩:=I.list (iz sub g1);have aK:=Inv.G5 I (iz sub g1);refine call_all_walk (wpAny_pyIter_list p.isList ?_);refine ⟨_,_,_,_,_,_,fun i=>l.getD i true,rfl,Walks.list (A:=X.A.in1) (show X.A.in1.handled=none from I.ok.hd hc) s.heap.objs.size a (Nat.ne_of_lt aK) its.toArray,And.intro ⟨_,Heap.get?_push_size _ rfl,rfl,rfl⟩ (PlainL.keeps p fun b o e=>Heap.get?_push_of_some _ e).isList,fun i v s Q E hv hq=>?_,fun h' tk hk=>?_⟩
    ·have e:=Og r hv;subst e;exact wpAny_truthy_bool hq
    ·have hl:its.toArray.size=l.length:=by rw [List.size_toArray,<- r.length,List.length_map]
     rw [hl,all_range];exact ⟨.bl (l.all id),H,I.kept (h':=h') (t':=tk) fun b u e=>hk b u (by simp; exact Nat.ne_of_lt (Heap.lt_size e)) (Heap.get?_push_of_some _ e),rfl,q _ H S (Ext.refl sub) (.bl _)⟩
   | _=>exact fu hf
theorem Z1 (hc:X.calm=true):Jh X (.builtin "any") acf:=by
 intro pins s σ H xs us Q I rs z8;obtain ⟨S,as,ts,w,sub,hr,hf,q⟩:=z8;cases hr with
 | nil=>exact fu hf
 | @cons x t bI ts' h1 h2 =>
  cases h2 with
  | cons h3 h4=>cases h1 <;> exact fu hf
  | nil =>
   cases h1 with
   | @lst a vs ts g1 g2 =>
    obtain ⟨l,e1,e2⟩:=Option.map_eq_some_iff.mp hf;subst e2;have ev:=Fy g2 e1;subst ev;obtain ⟨u,rfl,ru⟩:=rs.one;cases ru;obtain ⟨its,r,p,hz⟩:=I.list (iz sub g1);have aK:=Inv.G5 I (iz sub g1);refine call_any_walk (wpAny_pyIter_list p.isList ?_);refine ⟨_,_,_,_,_,_,fun i=>l.getD i true,rfl,Walks.list (A:=X.A.in1) (show X.A.in1.handled=none from I.ok.hd hc) s.heap.objs.size a (Nat.ne_of_lt aK) its.toArray,And.intro ⟨_,Heap.get?_push_size _ rfl,rfl,rfl⟩ (PlainL.keeps p fun b o e=>Heap.get?_push_of_some _ e).isList,fun i v s Q E hv hq=>?_,fun h' tk hk=>?_⟩
    ·have e:=Og r hv;subst e;exact wpAny_truthy_bool hq
    ·have hl:its.toArray.size=l.length:=by rw [List.size_toArray,<- r.length,List.length_map]
     rw [hl,any_range];exact ⟨.bl (l.any id),H,I.kept (h':=h') (t':=tk) fun b u e=>hk b u (by simp; exact Nat.ne_of_lt (Heap.lt_size e)) (Heap.get?_push_of_some _ e),rfl,q _ H S (Ext.refl sub) (.bl _)⟩
   | _=>exact fu hf
theorem Jp:∀ {l:List Str} {us:List Value},Vals (l.map V.str) us->StrsAre us l
 | [],_,r=>by cases r; exact .nil
 | x::l,_,r=>by
  rw [List.map_cons] at r;cases r with
  | cons r1 r2=>obtain ⟨t,rfl⟩:=r1; exact .cons x t (Jp r2)
theorem Mp {l:List Str} {us:List Value} (h:StrsAre us l):Vals (l.map V.str) us:=by
 induction h with
 | nil=>exact .nil
 | cons x t _ ih=>exact .cons ⟨t,rfl⟩ ih
abbrev Di (a b:Str):Prop:=¬ b.cps.toList<a.cps.toList
theorem Iu {a b c:Str} (h1:Di a b) (h2:Di b c):Di a c:=fun h=>by
 have h3:a.cps.toList<=b.cps.toList:=List.not_lt.mp h1;have h4:b.cps.toList<=c.cps.toList:=List.not_lt.mp h2;exact List.not_lt.mpr (List.le_trans h3 h4) h
theorem V8 {a b:Str} (h1:Di a b) (h2:Di b a):a=b:=by
 have h3:a.cps.toList<=b.cps.toList:=List.not_lt.mp h1;have h4:b.cps.toList<=a.cps.toList:=List.not_lt.mp h2;have h5:=List.le_antisymm h3 h4;cases a; cases b;simp at h5; subst h5; rfl
theorem Gz:∀ (p:Str) (l:List Str),risingS p l=true->(p::l).Pairwise Di
 | p,[],_=>by simp
 | p,x::r,h=>by
  rw [risingS,Bool.and_eq_true] at h;have ih:=Gz x r h.2
  have hx:Di p x:=fun z=>by
   have:=h.1;rw [ltCps_eq,decide_eq_true z] at this;cases this
  refine List.pairwise_cons.mpr ⟨fun y hy=>?_,ih⟩;rcases List.mem_cons.mp hy with rfl | hy
  ·exact hx
  ·exact Iu hx (List.rel_of_pairwise_cons ih hy)
theorem Q8 (l:List Str) (h:sortedS l=true):l.Pairwise Di:=by
 cases l with
 | nil=>exact .nil
 | cons x r=>exact Gz x r h
theorem Hs (x:Str):∀ l,(Ei x l).Perm (x::l)
 | []=>.refl _
 | y::r=>by
  rw [Ei];split
  ·exact .refl _
  ·exact ((Hs x r).cons y).trans (.swap x y r)
theorem Oc (x:Str):∀ l:List Str,l.Pairwise Di->(Ei x l).Pairwise Di
 | [],_=>by simp [Ei]
 | y::r,h=>by
  rw [Ei];split
  ·rename_i hx;have hx:=of_decide_eq_true hx;have fh:Di x y:=fun z=>List.lt_irrefl _ (List.lt_trans hx z);refine List.pairwise_cons.mpr ⟨fun z hz=>?_,h⟩;rcases List.mem_cons.mp hz with rfl | hz
   ·exact fh
   ·exact Iu fh (List.rel_of_pairwise_cons h hz)
  ·rename_i hx;have hx:Di y x:=fun z=>hx (decide_eq_true z);refine List.pairwise_cons.mpr ⟨fun z hz=>?_,Oc x r (List.pairwise_cons.mp h).2⟩;rcases List.mem_cons.mp ((Hs x r).mem_iff.mp hz) with rfl | hz
   ·exact hx
   ·exact List.rel_of_pairwise_cons h hz
theorem wj:∀ (l acc:List Str),acc.Pairwise Di->(l.foldl (fun acc x=>Ei x acc) acc).Pairwise Di/\(l.foldl (fun acc x=>Ei x acc) acc).Perm (l++acc)
 | [],acc,h=>⟨h,.refl _⟩
 | x::l,acc,h=>by
  obtain ⟨h1,h2⟩:=wj l (Ei x acc) (Oc x acc h);exact ⟨h1,h2.trans (((Hs x acc).append_left l).trans (List.perm_middle))⟩
theorem Ve (l:List Str):(n8 l).Pairwise Di:=(wj l [] .nil).1
theorem Ft (l:List Str):(n8 l).Perm l:=by
 have:=(wj l [] .nil).2
 rwa [List.append_nil] at this
theorem T7 {l l':List Str} (h1:sortedS l'=true) (h2:l'.Perm l):l'=n8 l :=
 List.Perm.eq_of_pairwise (le:=Di) (fun _ _ _ _=>V8) (Q8 l' h1) (Ve l) (h2.trans (Ft l).symm)
theorem Hh {K:PySem.W.Frag} {S:Hp} {as:List Addr}:∀ l:List Str,qd K S as (l.map V.str) (l.map T.str)
 | []=>.nil
 | x::l=>.cons (.str x) (Hh l)
theorem Uq {pins:List (Addr × Obj)} {σ:L2.St} {H S:Hp} {s:Shared} {as:List Addr} {a:Addr} {l:List Str} {Q:VK} (I:L2.Inv X pins σ H s) (sub:Same S H) (g1:SqL X.K H a (l.map V.str)) (bu:l.length<64)
  (q:∀ v H' S',Ext S H S' H'->Rep X.K S' as v (.lst ((n8 l).map .str))->Q v H'):wpAny (model X.prog X.w) X.A (call (.builtin "sorted") [.ref a]) (EP X pins σ Q) X.xe s:=by
 obtain ⟨its,r,p,hz⟩:=I.list g1;refine sorted_strs p.isList (Jp r) (by rw [<- r.length,List.length_map]; exact bu) fun out g9 a1 a2 a3=>?_;have es:=T7 a3 a2;subst es;obtain ⟨e,he⟩:=sortedAll_at s.heap its out
 have hl:(List.map V.str (n8 l)).length<=sizeLine:=by
  rw [List.length_map,(Ft l).length_eq];exact Nat.le_trans (Nat.le_of_lt bu) (by rw [sizeLine_eq]; decide)
 have hn:H (s.heap.objs.size+1)=none:=I.hok.fresh (Nat.le_succ _);have x:=Ext.laid sub hn (.lst ((n8 l).map V.str));refine ⟨.ref (s.heap.objs.size+1),_,I.laid (a:=s.heap.objs.size+1) (o:=.lst ((n8 l).map V.str)) (h':=sortedAll s.heap its out) (t':=s.toks) (fun _ _=>sortedAll_old) (Nat.le_succ _) ⟨hl,out.toList,e,Mp a1,he⟩,rfl,q _ _ _ x (.lst (SqL.of d8) (Hh _))⟩
theorem Ln:Ej X (.builtin "sorted") (fun xs H Q=>∃ S as ts l,Same S H/\qd X.K S as xs [.lst ts]/\ts.length<64/\Ga ts=some l/\∀ v H' S',Ext S H S' H'->Rep X.K S' as v (.lst ((n8 l).map .str))->Q v H'):=by
 intro pins s σ H xs us Q I rs z8;obtain ⟨S,as,ts,l,sub,hr,bu,e1,q⟩:=z8;cases hr with
 | cons h1 h2 =>
  cases h2;cases h1 with
  | @lst a vs _ g1 g2 =>
   have ev:=O6 g2 e1;subst ev;obtain ⟨u,rfl,ru⟩:=rs.one;cases ru;have hl:=g2.length;rw [List.length_map] at hl;exact Uq I sub (iz sub g1) (by omega) q
noncomputable def tyOf:T->Option Value
 | .non=>some (.type "NoneType")
 | .bl _=>some (.type "bool")
 | .int _=>some (.type "int")
 | .str _=>some (.type "str")
 | .tup _=>some (.type "tuple")
 | .lst _=>some (.type "list")
 | .dic _=>some (.type "dict")
 | .obj _=>none
 | .adr _=>none
theorem a9u {pins:List (Addr × Obj)} {σ:L2.St} {H S:Hp} {s:Shared} {as:List Addr} {x:V} {u c:Value} {t:T} {ty:Value} {b:Bool} {Q:Value->Shared->Prop} {E:Value->Shared->Prop} (I:L2.Inv X pins σ H s) (sub:Same S H) (rx:RelV x u) (r:Rep X.K S as x t) (a7:tyOf t=some ty)
  (e:PySem.W.kitOne X.K ty c=some b) (h:∀ tk,Q (.bool b) { s with toks:=tk }):wpAny (model X.prog X.w) X.A (call (.builtin "isinstance") [u,c]) Q E s:=by
 cases r with
 | non=>cases a7; exact Eu I rx .non e h
 | bl y=>cases a7; exact Eu I rx (.bl y) e h
 | int y=>cases a7; exact Eu I rx (.int y) e h
 | str y=>cases a7; exact Eu I rx (.str y) e h
 | @tup a vs ts g1 g2 =>
  cases a7;cases (show u=Value.ref a from rx);obtain ⟨its,_,⟨o,h1,h2,_⟩,_⟩:=I.tuple (kj sub g1);exact PySem.W.kia_one PySem.W.kitx_tuple I.kIn ⟨o,h1,h2⟩ e (fun z=>nomatch z) h
 | @lst a vs ts g1 g2 =>
  cases a7;cases (show u=Value.ref a from rx);obtain ⟨its,_,⟨o,n,h1,h2,_⟩,_⟩:=I.list (iz sub g1);exact PySem.W.kia_one PySem.W.kitx_list I.kIn ⟨o,h1,h2⟩ e (fun z=>nomatch z) h
 | @dic a kvs ts g1 g2 =>
  cases a7;cases (show u=Value.ref a from rx);obtain ⟨_,_,vs,_,o,es,ep,h1,h2,_⟩:=Gb I.hok (um sub g1);exact PySem.W.kia_one PySem.W.kitx_dict I.kIn ⟨o,h1,h2.1⟩ e (fun z=>nomatch z) h
 | obj h=>cases a7
 | adr h=>cases a7
def aa4 (f:Value->Bool):List T->Option T
 | [t]=>(tyOf t).map fun ty=>.bl (f ty)
 | _=>none
theorem Wo {cn:String} {f:Value->Bool} {pc:Pos} (hg:Gl X "isinstance") (hm:X.mg "isinstance" = none) (cz:Gl X (Str.ofString cn)) (cD:X.mg (Str.ofString cn)=none) (hv:bootBuiltins (Str.ofString cn)=some (.type cn))
  (hf:∀ t ty,tyOf t=some ty->PySem.W.kitOne X.K ty (.type cn)=some (f ty)) (ha:PE X a (tOf X.K B m)) (hd:((Str.ofString cn)==("__debug__" : Str))=false) (hn:(Str.ofString cn) ≠ "__name__")
  (he:starEach [a,.Name (Str.ofString cn) pc] X.env=(false,eval a X.env)::starEach [.Name (Str.ofString cn) pc] X.env:=by rfl) (gG:starEach [.Name (Str.ofString cn) pc] X.env=(false,eval (.Name (Str.ofString cn) pc) X.env)::starEach [] X.env:=by rfl)
  (aD:(backTo pos (starEach [.Name (Str.ofString cn) pc] X.env)).any (·.1)=false:=by rfl) :
  PE X (.Call (.Name "isinstance" p) [a,.Name (Str.ofString cn) pc] [] pos) (tOf X.K B (gk (aa4 f) (ao m d7))):=by
 have hc:Ej X (.builtin "isinstance") (fun xs H Q=>∃ S as x t ty,xs=[x,.ty cn]/\Same S H/\Rep X.K S as x t/\tyOf t=some ty/\Q (.bl (f ty)) H):=by
  intro pins s σ H xs us Q I rs z8;obtain ⟨S,as,x,t,ty,ex,sub,r,a7,q⟩:=z8;subst ex;obtain ⟨u,w,rfl,r1,r2⟩:=rs.two;cases r2;exact a9u I sub r1 r a7 (hf t ty a7) fun tk=>⟨.bl (f ty),H,I.tok _,rfl,q⟩
 have gX:PE X (.Name (Str.ofString cn) pc) (tC (.ty cn)):=Xn cz cD hv rfl hn hd;refine (gw hc hg hm PyProof.Rows.boot_isinstance (mq ha (mq gX xr gG) he) (by decide) (by decide) he aD).imp fun σ H Q z0=>?_;obtain ⟨st,ps,S,as,R,t,aa,e,q⟩:=z0;obtain ⟨ts,e1,e2⟩:=Am e;obtain ⟨t1,s1,us,ea,en,rfl⟩:=qt e1;cases en;simp only [aa4] at e2;obtain ⟨ty,e3,e4⟩:=Option.map_eq_some_iff.mp e2;subst e4;exact ⟨st,ps,S,as,R,t1,_,ea,fun v H1 S1 ae R1=>⟨S1,ae,v,t1,ty,rfl,R1.sub,R1.top,e3,q _ H1 S1 ae (R1.drop.push (.bl _))⟩⟩
example (K:PySem.W.Frag):PySem.W.kitOne K (.type "bool") (.type "int")=some true:=by rfl
example (K:PySem.W.Frag):PySem.W.kitOne K (.type "str") (.type "int")=some false:=by rfl
end
section
variable {X:Cx} {B:Bas} {m:M T}
end
theorem Rel.newObj {K:PySem.W.Frag} {B:Bas} {st:Sta} {σ:L2.St} {H S:Hp} {ps:List (V × T)} {as:List Addr} {p:Addr} {ob:HO} {so:SO} (r:Rel K B st σ H ps S as) (hp:H p=none) (h:a4g K S (as++[p]) (upd H p ob) p so) :
  Rel K B { st with sto:=st.sto++[so] } σ (upd H p ob) ((.ref p,.obj st.sto.length)::ps) S (as++[p]):=by
 obtain ⟨bD,sD,nD,no⟩:=r.fresh hp;have mo:∃ l,as++[p]=as++l:=⟨[p],rfl⟩;have other:∀ q,q≠p->H q=upd H p ob q:=fun q n=>(d9 n).symm;refine Rel.push (st:={ st with sto:=st.sto++[so] }) (H:=upd H p ob) (v:=.ref p) (t:=.obj st.sto.length) ⟨fun b u e=>?_,⟨r.grow.same,?_,fun q o a b c=>?_⟩,fun i t f e=>?_,r.apart,⟨?_,?_,fun n c5 e=>?_⟩,fun q hq=>(r.pend q hq).mono (Same.refl _) mo,r.len⟩ (.obj ?_)
 ·rw [d9 (fun z=>by subst z; rw [sD] at e; cases e)]; exact r.sub _ _ e
 ·obtain ⟨l,e⟩:=r.grow.more;exact ⟨l++[p],by rw [e,List.append_assoc]⟩
 ·obtain ⟨x,y,z⟩:=r.grow.keep q o a b c;have n:q≠p:=fun w=>by subst w; rw [bD] at a; cases a
  refine ⟨by rw [d9 n]; exact x,y,fun m=>?_⟩;rcases List.mem_append.mp m with m | m
  ·exact z m
  ·exact n (List.mem_singleton.mp m)
 ·obtain ⟨v,h1,h2,h3⟩:=r.slots i t f e;refine ⟨v,h1,fun z=>(h2 z).mono (Same.refl _) mo,fun z=>?_⟩;obtain ⟨q,rfl,o⟩:=h3 z;have n:q≠p:=fun w=>by subst w; subst z; exact no i t e h1
  refine ⟨q,rfl,o.own.more (Same.refl _) mo (other q n),o.out,fun m=>?_,o.new⟩;rcases List.mem_append.mp m with m | m
  ·exact o.nas m
  ·exact n (List.mem_singleton.mp m)
 ·show (as++[p]).length=(st.sto++[so]).length;rw [List.length_append,List.length_append,r.sto.len]; rfl
 ·refine List.nodup_append.mpr ⟨r.sto.nd,by simp,fun a ha b hb=>?_⟩;rw [List.mem_singleton.mp hb];intro z; subst z; exact nD ha
 ·have e:(st.sto++[so])[n]? = some c5:=e
  by_cases hn:n<st.sto.length
  ·rw [List.getElem?_append_left hn] at e;obtain ⟨a,h1,h2,h3⟩:=r.sto.at' n c5 e;have na:a≠p:=fun z=>by subst z; exact nD (List.mem_of_getElem? h1)
   refine ⟨a,Yh h1,h2,?_⟩;cases c5 with
   | dic ts=>obtain ⟨vs,x,y⟩:=h3; exact ⟨vs,by rw [d9 na]; exact x,y.mono (Same.refl _) mo⟩
   | lst ts=>obtain ⟨vs,x,y⟩:=h3; exact ⟨vs,by rw [d9 na]; exact x,y.mono (Same.refl _) mo⟩
   | dit ts=>obtain ⟨vs,x,y⟩:=h3; exact ⟨vs,by rw [d9 na]; exact x,y.mono (Same.refl _) mo⟩
   | exc C f t=>obtain ⟨dx,v,x,g,y⟩:=h3; exact ⟨dx,v,by rw [d9 na]; exact x,g,y.mono (Same.refl _) mo⟩
   | ins C fs=>obtain ⟨dx,vs,x,y⟩:=h3; exact ⟨dx,vs,by rw [d9 na]; exact x,y.mono (Same.refl _) mo⟩
   | fdc ts=>obtain ⟨vs,x,y⟩:=h3; exact ⟨vs,by rw [d9 na]; exact x,y.mono (Same.refl _) mo⟩
  ·rw [List.getElem?_append_right (Nat.le_of_not_lt hn)] at e
   have gH:n - st.sto.length=0:=by
    have:=(List.getElem?_eq_some_iff.mp e).1;simp at this; omega
   rw [gH] at e; cases e;have bV:n=as.length:=by rw [r.sto.len]; omega
   subst bV;exact ⟨p,by rw [List.getElem?_append_right (Nat.le_refl _),Nat.sub_self]; rfl,sD,h⟩
 ·rw [<- r.sto.len,List.getElem?_append_right (Nat.le_refl _),Nat.sub_self]; rfl
def PN (X:Cx) (e:Expr) (N:L2.St->V->Prop):Prop:=PE X e (fun σ H Q=>∃ v,N σ v/\Q v H)
def MN (K:PySem.W.Frag) (m:M T) (N:L2.St->V->Prop):Prop:=∀ (B:Bas) (st:Sta) (σ:L2.St) (H:Hp) (ps:List (V × T)) (S:Hp) (as:List Addr) (t:T) (aa:Sta),Rel K B st σ H ps S as->m st=some (t,aa)->aa=st/\∃ v,N σ v/\Rep K S as v t
structure PM (X:Cx) (e:Expr) (m:M T) (N:L2.St->V->Prop):Prop where
 p:PN X e N
 m:MN X.K m N
section
variable {X:Cx} {B:Bas} {a b e e1 e2:Expr} {m m1 m2:M T} {N N1 N2:L2.St->V->Prop} {pos p:Pos}
theorem a5j (i:Nat) (h:PE X e (Zf i)):PN X e (fun σ v=>σ[i]? = some (some v)):=h
theorem a5l {i:Int} {j:Nat}:PN X (.Constant (.int i) j pos) (fun _ v=>v=.int i):=a5b.imp fun σ H Q ⟨v,e,q⟩=>by subst e; exact q
theorem aal {i:Bool} {j:Nat}:PN X (.Constant (.bool i) j pos) (fun _ v=>v=.bl i):=aar.imp fun σ H Q ⟨v,e,q⟩=>by subst e; exact q
theorem a4w {K:PySem.W.Frag} (i:Nat):MN K (a8t i) (fun σ v=>σ[i]? = some (some v)):=fun B st σ H ps S as t aa R e=>by
 unfold a8t at e;split at e
 ·rename_i t' e';cases e;obtain ⟨v,h1,h2,_⟩:=R.slots i t false e';exact ⟨rfl,v,h1,h2 rfl⟩
 ·cases e
theorem a4t {K:PySem.W.Frag} {i:Int}:MN K (ak (.int i)) (fun _ v=>v=.int i):=fun B st σ H ps S as t aa R e=>by cases e; exact ⟨rfl,_,rfl,.int i⟩
theorem aaz {K:PySem.W.Frag} {i:Bool}:MN K (ak (.bl i)) (fun _ v=>v=.bl i):=fun B st σ H ps S as t aa R e=>by cases e; exact ⟨rfl,_,rfl,.bl i⟩
theorem aau {op:Operator} {f:T->T->Option T} {g:Int->Int->Int} {C:Int->Int->Prop} (ho:OpR X (binaryOp op) (rI C fun i j=>.int (g i j))) (hf:∀ t u w,f t u=some w->∃ i j,t=.int i/\u=.int j/\C i j/\w=.int (g i j))
  (h1:PM X a m1 N1) (h2:PM X b m2 N2):PM X (.BinOp a op b pos) (mOp f m1 m2) (fun σ v=>∃ i j,N1 σ (.int i)/\N2 σ (.int j)/\C i j/\v=.int (g i j)) where
 p:=(a5o ho h1.p h2.p).imp fun σ H Q ⟨v,⟨i,j,n1,n2,c,ev⟩,q⟩=>by subst ev; exact ⟨_,n1,_,n2,i,j,rfl,rfl,c,q⟩
 m:=fun B st σ H ps S as t aa R e=>by
  obtain ⟨t1,s1,t2,e1,e2,e3⟩:=M9 e;obtain ⟨rfl,v1,n1,r1⟩:=h1.m B st σ H ps S as t1 s1 R e1;obtain ⟨rfl,v2,n2,r2⟩:=h2.m B _ σ H ps S as t2 _ R e2;obtain ⟨i,j,rfl,rfl,c,rfl⟩:=hf _ _ _ e3;cases r1; cases r2;exact ⟨rfl,_,⟨i,j,n1,n2,c,rfl⟩,.int _⟩
theorem aam (h1:PM X a m1 N1) (h2:PM X b m2 N2):PM X (.BinOp a .Add b pos) (mOp acg m1 m2) (fun σ v=>∃ i j,N1 σ (.int i)/\N2 σ (.int j)/\True/\v=.int (i+j)) :=
 aau (C:=fun _ _=>True) (fun pins s σ H x y v u Q I rx ry z7=>by obtain ⟨i,j,h1,h2,_,q⟩:=z7; exact a4h pins s σ H x y v u Q I rx ry ⟨i,j,h1,h2,q⟩) (fun t u w h=>by
  cases t <;> cases u <;> simp only [acg,reduceCtorEq] at h
  cases h; exact ⟨_,_,rfl,rfl,trivial,rfl⟩) h1 h2
theorem a9h (h1:PM X a m1 N1) (h2:PM X b m2 N2):PM X (.BinOp a .Mod b pos) (mOp Dg m1 m2) (fun σ v=>∃ i j,N1 σ (.int i)/\N2 σ (.int j)/\0<j/\v=.int (i%j)) :=
 aau a3t (fun t u w h=>by
  cases t <;> cases u <;> simp only [Dg,reduceCtorEq] at h
  split at h
  ·cases h; exact ⟨_,_,rfl,rfl,by assumption,rfl⟩
  ·cases h) h1 h2
theorem Ss {k1 k2:Str} {j1 j2:Nat} {p1 p2:Pos} (h1:PM X e1 m1 N1) (h2:PM X e2 m2 N2) (hk:k1≠k2) :
  PE X (.Dict [some (.Constant (.str k1) j1 p1),some (.Constant (.str k2) j2 p2)] [e1,e2] pos) (tOf X.K B (Fz [.inr k1,.inr k2] (ao m1 (ao m2 d7)))) :=
 (a6d (Tn Y5 h1.p (Tn Y5 h2.p a8b)) rfl rfl (by simp) (by simp)).imp fun σ H Q z9=>by
  obtain ⟨st,ps,S,as,R,t,aa,e,q⟩:=z9;intro p hp;unfold Fz at e;split at e
  ·rename_i ts s1 ea;cases e;obtain ⟨t1,s2,us,e1,er,rfl⟩:=qt ea;obtain ⟨t2,s3,us2,e2,er2,rfl⟩:=qt er;cases er2;obtain ⟨rfl,v1,n1,r1⟩:=h1.m B st σ H ps S as t1 s2 R e1;obtain ⟨rfl,v2,n2,r2⟩:=h2.m B _ σ H ps S as t2 _ R e2;refine ⟨v1,n1,v2,n2,d8,[(.inr k1,v1),(.inr k2,v2)],rfl,by simp,?_⟩
   have em:J1 [] [((.inr k1:L2.Key),v1),(.inr k2,v2)]=[(.inr k1,v1),(.inr k2,v2)]:=by
    have bV:¬ ((.inr k1:L2.Key)=.inr k2):=fun z=>hk (Sum.inr.inj z);simp [J1,putK,bV]
   rw [em,a6l];exact q _ _ S (as++[p]) (R.newObj hp ⟨_,d8,.cons (r1.mono (Same.refl _) ⟨[p],rfl⟩) (.cons (r2.mono (Same.refl _) ⟨[p],rfl⟩) .nil)⟩)
  ·cases e
end
inductive a1j:List Expr->List Str->Prop where
 | nil:a1j [] []
 | cons {x:Str} {k:Nat} {q:Pos} {es:List Expr} {xs:List Str}:a1j es xs->a1j (.Constant (.str x) k q::es) (x::xs)
theorem Cg {X:Cx} {B:Bas}:∀ {es:List Expr} {xs:List Str},a1j es xs->PA X es (aOf X.K B (Dl xs))
 | _,_,.nil=>cj
 | _,_,.cons h=>au iu (Cg h)
theorem len_strs:∀ (xs:List Str) (st:Sta) (ts:List T) (aa:Sta),Dl xs st=some (ts,aa)->ts.length<=xs.length
 | [],st,ts,aa,e=>mz st ts aa e
 | _::xs,st,ts,aa,e=>iy (len_strs xs) st ts aa e
section
variable {X:Cx} {B:Bas} {a b c e o k:Expr} {m m1 m2:M T} {pos p p2:Pos}
theorem a3f (l:List T):isTup l=aa4 (fun ty=>ty == .type "tuple") l:=by
 match l with
 | []=>rfl
 | [t]=>cases t <;> rfl
 | x::y::r=>cases x <;> rfl
theorem a5w (l:List T):abl l=aa4 (fun ty=>ty == .type "bool") l:=by
 match l with
 | []=>rfl
 | [t]=>cases t <;> rfl
 | x::y::r=>cases x <;> rfl
theorem a0l (l:List T):isStr l=aa4 (fun ty=>ty == .type "str") l:=by
 match l with
 | []=>rfl
 | [t]=>cases t <;> rfl
 | x::y::r=>cases x <;> rfl
theorem Vf:bootBuiltins "bool" = some (.type "bool"):=by decide +kernel
theorem Z5:bootBuiltins "str" = some (.type "str"):=by decide +kernel
theorem Gf {pc:Pos} (hg:Gl X "isinstance") (hm:X.mg "isinstance" = none) (cz:Gl X "tuple") (cD:X.mg "tuple" = none) (ha:PE X a (tOf X.K B m)) (he:starEach [a,.Name "tuple" pc] X.env=(false,eval a X.env)::starEach [.Name "tuple" pc] X.env:=by rfl) :
  PE X (.Call (.Name "isinstance" p) [a,.Name "tuple" pc] [] pos) (tOf X.K B (gk isTup (ao m d7))):=by
 rw [show isTup=_ from funext a3f];exact Wo (cn := "tuple") hg hm cz cD boot_tuple (fun t ty h=>by cases t <;> cases h <;> rfl) ha (by decide) (by decide) he
theorem Rc {pc:Pos} (hg:Gl X "isinstance") (hm:X.mg "isinstance" = none) (cz:Gl X "bool") (cD:X.mg "bool" = none) (ha:PE X a (tOf X.K B m)) (he:starEach [a,.Name "bool" pc] X.env=(false,eval a X.env)::starEach [.Name "bool" pc] X.env:=by rfl) :
  PE X (.Call (.Name "isinstance" p) [a,.Name "bool" pc] [] pos) (tOf X.K B (gk abl (ao m d7))):=by
 rw [show abl=_ from funext a5w];exact Wo (cn := "bool") hg hm cz cD Vf (fun t ty h=>by cases t <;> cases h <;> rfl) ha (by decide) (by decide) he
theorem Yi (i:Nat) (hm:X.mg "len" = none) {es:Expr} (hg:Gl X "len") (h:PE X es (Zf i)) (he:starEach [es] X.env=(false,eval es X.env)::starEach [] X.env:=by rfl) (aD:(backTo pos (starEach [] X.env)).any (·.1)=false:=by rfl) :
  PE X (.Call (.Name "len" p) [es] [] pos) (tOf X.K B (Dy i)):=by
 have hc:Ej X (.builtin "len") (fun xs H Q=>∃ q,xs=[.ref q]/\((∃ ys,SqL X.K H q ys/\Q (.int ys.length) H)\/(∃ kvs,Rd H q (.dK kvs)/\Q (.int kvs.length) H))):=by
  intro pins s σ H xs us Q I rs z8;obtain ⟨q,ex,h⟩:=z8;rcases h with ⟨ys,h1,h2⟩ | ⟨kvs,h1,h2⟩
  ·exact Bx pins s σ H xs us Q I rs ⟨q,ys,ex,.inl h1,h2⟩
  ·subst ex;obtain ⟨u,rfl,ru⟩:=rs.one;cases ru;exact abk I h1 fun t s' I'=>⟨.int kvs.length,H,I',⟨t,rfl⟩,h2⟩
 refine (gw hc hg hm PySem.boot_len (mq h xr he) (by decide) (by decide) he aD).imp fun σ H Q z0=>?_;obtain ⟨st,ps,S,as,R,t,aa,e,q⟩:=z0;obtain ⟨rfl,h⟩:=Qh e;rcases h with ⟨xs,f,e1,rfl⟩ | ⟨xs,f,e1,rfl⟩
 ·obtain ⟨p0,vs,s0,h1,h2⟩:=R.listAt e1;exact ⟨_,s0,p0,rfl,.inl ⟨vs,h1,by rw [h2.length]; exact q _ H S as (R.push (.int _))⟩⟩
 ·obtain ⟨p0,vs,s0,h1,h2⟩:=R.dictAt e1;exact ⟨_,s0,p0,rfl,.inr ⟨vs,h1,by rw [h2.length]; exact q _ H S as (R.push (.int _))⟩⟩
end
section
variable {X:Cx} {pins:List (Addr × Obj)} {σ:L2.St} {H S:Hp} {s:Shared} {as:List Addr}
theorem Ym (I:L2.Inv X pins σ H s) (sub:Same S H):(∀ {v:V} {t:T},Rep X.K S as v t->∀ {d:PyData} {u:Value},dat t=some d->RelV v u->∃ bs,Reads s.heap u d bs)/\∀ {vs:List V} {ts:List T},qd X.K S as vs ts->∀ {ds:List PyData} {us:List Value},J9 ts=some ds->Vals vs us->∃ bs,ReadsAll s.heap us ds bs:=by
 have tp:∀ {a:Addr} {vs:List V} {ts:List T},SqT X.K S a vs->qd X.K S as vs ts->(∀ {ds:List PyData} {us:List Value},J9 ts=some ds->Vals vs us->∃ bs,ReadsAll s.heap us ds bs)->∀ {d:PyData} {u:Value},dat (.tup ts)=some d->RelV (.ref a) u->∃ bs,Reads s.heap u d bs:=by
  intro a vs ts h _ q d u e r;simp only [dat] at e;obtain ⟨l,e1,e2⟩:=Option.map_eq_some_iff.mp e;subst e2;cases r;obtain ⟨its,rv,⟨o,h1,h2,n,h3⟩,_⟩:=I.tuple (kj sub h);obtain ⟨bs,rb⟩:=q e1 rv;exact ⟨_,.tuple h1 h2 h3 rb⟩
 have ls:∀ {a:Addr} {vs:List V} {ts:List T},SqL X.K S a vs->qd X.K S as vs ts->(∀ {ds:List PyData} {us:List Value},J9 ts=some ds->Vals vs us->∃ bs,ReadsAll s.heap us ds bs)->∀ {d:PyData} {u:Value},dat (.lst ts)=some d->RelV (.ref a) u->∃ bs,Reads s.heap u d bs:=by
  intro a vs ts h _ q d u e r;simp only [dat] at e;obtain ⟨l,e1,e2⟩:=Option.map_eq_some_iff.mp e;subst e2;cases r;obtain ⟨its,rv,⟨o,n,h1,h2,_,h3⟩,_⟩:=I.list (iz sub h);obtain ⟨bs,rb⟩:=q e1 rv;exact ⟨_,.list h1 h2 h3 rb⟩
 have st:∀ (x:Str) {d:PyData} {u:Value},dat (.str x)=some d->RelV (.str x) u->∃ bs,Reads s.heap u d bs:=by
  intro x d u e r;simp only [dat] at e;split at e
  ·cases e; obtain ⟨t,rfl⟩:=r; exact ⟨_,.str x t⟩
  ·cases e
 have cn:∀ {v:V} {t:T} {vs:List V} {ts:List T},Rep X.K S as v t->qd X.K S as vs ts->(∀ {d:PyData} {u:Value},dat t=some d->RelV v u->∃ bs,Reads s.heap u d bs)->(∀ {ds:List PyData} {us:List Value},J9 ts=some ds->Vals vs us->∃ bs,ReadsAll s.heap us ds bs)->∀ {ds:List PyData} {us:List Value},J9 (t::ts)=some ds->Vals (v::vs) us->∃ bs,ReadsAll s.heap us ds bs:=by
  intro v t vs ts _ _ h q ds us e r;obtain ⟨a,l,e1,e2,e3⟩:=a00 e;subst e3;cases r with
  | cons r1 r2 =>
   obtain ⟨b1,x1⟩:=h e1 r1;obtain ⟨b2,x2⟩:=q e2 r2;exact ⟨_,.cons x1 x2⟩
 have nl:∀ {ds:List PyData} {us:List Value},J9 []=some ds->Vals [] us->∃ bs,ReadsAll s.heap us ds bs:=by
  intro ds us e r; simp only [J9] at e; cases e; cases r; exact ⟨_,.nil⟩
 have no:∀ {d:PyData} {u:Value},dat .non=some d->RelV .non u->∃ bs,Reads s.heap u d bs:=by
  intro d u e r; simp only [dat] at e; cases e; cases r; exact ⟨_,.none⟩
 have bo:∀ (b:Bool) {d:PyData} {u:Value},dat (.bl b)=some d->RelV (.bl b) u->∃ bs,Reads s.heap u d bs:=by
  intro b d u e r; simp only [dat] at e; cases e; cases r; exact ⟨_,.bool b⟩
 have it:∀ (i:Int) {d:PyData} {u:Value},dat (.int i)=some d->RelV (.int i) u->∃ bs,Reads s.heap u d bs:=by
  intro i d u e r; simp only [dat] at e; cases e; obtain ⟨t,rfl⟩:=r; exact ⟨_,.int i t⟩
 have di:∀ {a:Addr} {ts:List (L2.Key × T)} {d:PyData} {u:Value},dat (.dic ts)=some d->RelV (.ref a) u->∃ bs,Reads s.heap u d bs:=by
  intro a ts d u e; simp only [dat] at e; cases e
 have ob:∀ {a:Addr} {n:Nat} {d:PyData} {u:Value},dat (.obj n)=some d->RelV (.ref a) u->∃ bs,Reads s.heap u d bs:=by
  intro a n d u e; simp only [dat] at e; cases e
 have ad:∀ (a:Addr) {d:PyData} {u:Value},dat (.adr a)=some d->RelV (.ref a) u->∃ bs,Reads s.heap u d bs:=by
  intro a d u e; simp only [dat] at e; cases e
 exact ⟨fun h=>Rep.rec (motive_1:=fun v t _=>∀ {d:PyData} {u:Value},dat t=some d->RelV v u->∃ bs,Reads s.heap u d bs) (motive_2:=fun vs ts _=>∀ {ds:List PyData} {us:List Value},J9 ts=some ds->Vals vs us->∃ bs,ReadsAll s.heap us ds bs) (motive_3:=fun _ _ _=>True) no bo it st tp ls (fun _ _ _=>di) (fun _=>ob) ad nl cn trivial (fun _ _ _ _=>trivial) h,
  fun h=>qd.rec (motive_1:=fun v t _=>∀ {d:PyData} {u:Value},dat t=some d->RelV v u->∃ bs,Reads s.heap u d bs) (motive_2:=fun vs ts _=>∀ {ds:List PyData} {us:List Value},J9 ts=some ds->Vals vs us->∃ bs,ReadsAll s.heap us ds bs) (motive_3:=fun _ _ _=>True) no bo it st tp ls (fun _ _ _=>di) (fun _=>ob) ad nl cn trivial (fun _ _ _ _=>trivial) h⟩
theorem Rep.reads (I:L2.Inv X pins σ H s) (sub:Same S H) {v:V} {t:T} (h:Rep X.K S as v t) {d:PyData} {u:Value} (e:dat t=some d) (r:RelV v u):∃ bs,Reads s.heap u d bs:=(Ym I sub).1 h e r
theorem a4o (I:L2.Inv X pins σ H s) (sub:Same S H) {x y:V} {t u:T} {v w:Value} {b:Bool} {A:Around} (hx:Rep X.K S as x t) (hy:Rep X.K S as y u) (rx:RelV x v) (ry:RelV y w) (e:eqD t u=some b) (hu:A.units+40<cLine):SeqAt.EqAt A s v w b:=by
 obtain ⟨dx,dy,e1,e2,hd,rfl⟩:=Py e;obtain ⟨b1,x1⟩:=hx.reads I sub e1 rx;obtain ⟨b2,x2⟩:=hy.reads I sub e2 ry;exact SeqAt.eqAt_reads dx dy A s v w b1 b2 x1 x2 (Bj _ e1) (Bj _ e2) (by have:=Nat.min_le_left dx.depth dy.depth; omega)
theorem Yz (I:L2.Inv X pins σ H s) (sub:Same S H) {A:Around} (hu:A.units+40<cLine) {kb:List (L2.Key × V)} {ub:List (L2.Key × T)} {wb:List (L2.Key × Value)} (rb:Cr X.K S as kb ub) (vb:KV kb wb) :
  ∀ {ka:List (L2.Key × V)} {ua:List (L2.Key × T)} {wa:List (L2.Key × Value)} {r:Bool},Cr X.K S as ka ua->KV ka wa->a8w ua ub=some r->PySem.W.KeqHits A s wb wa r
 | _,[],_,_,h0,va,e=>by
  cases h0;simp only [a8w] at e; cases e;cases va;exact .nil
 | _,(k,_)::_,_,_,h0,va,e=>by
  cases h0 with | cons h q=>?_
  simp only [a8w] at e;cases va with
  | @cons _ p2 _ _ hp hr =>
   obtain ⟨pk,pv⟩:=p2;obtain ⟨ek,rv⟩:=hp;dsimp only at ek rv;subst ek;rcases rb.get k with ⟨z,t',a1,a2,a3⟩ | ⟨a1,a2⟩
   ·rw [a2] at e;dsimp only at e;have rel:=KV.val vb k;rw [a1] at rel;obtain ⟨w',hw,a5⟩:=Kd.some_of rel;split at e
    ·rename_i eb he;obtain ⟨b',e1,e2⟩:=Option.map_eq_some_iff.mp e;subst e2;exact .hit hw (a4o I sub h a3 rv a5 he hu) (Yz I sub hu rb vb q hr e1)
    ·cases e
   ·rw [a2] at e;cases e;have rel:=KV.val vb k;rw [a1] at rel;exact .miss (Kd.none_of rel)
end
section
variable {X:Cx}
theorem Nk {op:CmpOp} {neg:Bool} (cb:(op=.Eq/\neg=false)\/(op=.NotEq/\neg=true)) {g:T->T->Option T} (hg:∀ t u w,g t u=some w->∃ b,eqT t u=some b/\w=.bl (xor neg b)) (hu:X.A.units+64<cLine):OpT X (compareOp op) g:=by
 intro pins s σ H x y v u Q I rx ry z8;obtain ⟨S,as,t,t2,w,sub,ht,hu2,hf,q⟩:=z8;obtain ⟨b,e,rfl⟩:=hg _ _ _ hf;have fin:EP X pins σ Q (.bool (xor neg b)) s:=⟨.bl (xor neg b),H,I,rfl,q _ H S (Ext.refl sub) (.bl _)⟩;rcases a7r e with ⟨xs,ys,rfl,rfl,hd⟩ | he
 ·cases ht with
  | @dic a kvs _ g1 g2 =>
   cases hu2 with
   | @dic a' kvs' _ k1 k2 =>
    cases rx;cases ry;obtain ⟨z,hs,vs,rel,dd⟩:=Gb I.hok (um sub g1);obtain ⟨z',bb,vs',rel',bp⟩:=Gb I.hok (um sub k1);have l1:vs.length=xs.length:=by rw [<- rel.length]; exact g2.length
    have l2:vs'.length=ys.length:=by rw [<- rel'.length]; exact k2.length
    have dA:X.A.in1.units+40<cLine:=by show X.A.units+1+40<cLine; omega
    rcases hd with ⟨hl,eb⟩ | ⟨hl,rfl⟩
    ·have hits:vs.length=vs'.length->PySem.W.KeqHits X.A.in1 s vs' vs b:=fun _=>Yz I sub dA k2 rel' g2 rel eb;have el:(vs.length==vs'.length)=true:=by rw [l1,l2,hl]; exact beq_self_eq_true _
     rcases cb with ⟨rfl,rfl⟩ | ⟨rfl,rfl⟩
     ·refine PySem.W.keq_eq hs bb dd bp (by omega) hits ?_;rw [el]; simpa using fin
     ·refine PySem.W.keq_ne hs bb dd bp (by omega) hits ?_;rw [el]; simpa using fin
    ·have hits:vs.length=vs'.length->PySem.W.KeqHits X.A.in1 s vs' vs true:=fun h=>absurd (by rw [<- l1,<- l2]; exact h) hl;have el:(vs.length==vs'.length)=false:=by rw [l1,l2]; exact beq_eq_false_iff_ne.mpr hl
     rcases cb with ⟨rfl,rfl⟩ | ⟨rfl,rfl⟩
     ·refine PySem.W.keq_eq hs bb dd bp (by omega) hits ?_;rw [el]; simpa using fin
     ·refine PySem.W.keq_ne hs bb dd bp (by omega) hits ?_;rw [el]; simpa using fin
 ·obtain ⟨dx,dy,e1,e2,hd,rfl⟩:=Py he;obtain ⟨b1,x1⟩:=ht.reads I sub e1 rx;obtain ⟨b2,x2⟩:=hu2.reads I sub e2 ry;have hm:X.A.units+min dx.depth dy.depth<cLine:=by have:=Nat.min_le_left dx.depth dy.depth; omega
  rcases cb with ⟨rfl,rfl⟩ | ⟨rfl,rfl⟩
  ·exact SeqAt.compareEq_reads x1 x2 (Bj _ e1) (Bj _ e2) hm (by simpa using fin)
  ·exact SeqAt.compareNe_reads x1 x2 (Bj _ e1) (Bj _ e2) hm (by simpa using fin)
theorem qx (hu:X.A.units+64<cLine):OpT X (compareOp .Eq) eqO:=Nk (.inl ⟨rfl,rfl⟩) (fun t u w h=>by
 unfold eqO at h;split at h
 ·rename_i b e; cases h; exact ⟨b,e,by simp⟩
 ·cases h) hu
theorem Bt (hu:X.A.units+64<cLine):OpT X (compareOp .NotEq) neO:=Nk (.inr ⟨rfl,rfl⟩) (fun t u w h=>by
 unfold neO at h;split at h
 ·rename_i b e; cases h; exact ⟨b,e,by simp⟩
 ·cases h) hu
open Classical in
noncomputable def a5f (h:Heap) (dx:PyData) (y:Value):Bool:=if e:∃ d bs,Reads h y d bs/\d.canLay0=true then PyData.eqv (Classical.choose e) dx else false
theorem a5r {h:Heap} {dx d:PyData} {y:Value} {bs:List Addr} (r:Reads h y d bs) (l:d.canLay0=true):a5f h dx y=PyData.eqv d dx:=by
 have e:∃ d bs,Reads h y d bs/\d.canLay0=true:=⟨d,bs,r,l⟩;unfold a5f;rw [dif_pos e];obtain ⟨bs',r',l'⟩:=Classical.choose_spec e;rw [SeqAt.Reads.unique _ _ _ _ _ l' r' r]
theorem X8 {pins:List (Addr × Obj)} {σ:L2.St} {H S:Hp} {s:Shared} {as:List Addr} {A:Around} (I:L2.Inv X pins σ H s) (sub:Same S H) (hu:A.units+40<cLine) {x:V} {t:T} {v:Value} {dx:PyData} (hx:Rep X.K S as x t) (rx:RelV x v) (ex:dat t=some dx) :
  ∀ {vs:List V} {ts:List T} {us:List Value} {b:Bool},qd X.K S as vs ts->Vals vs us->inL t ts=some b->(∀ y∈us,SeqAt.EqAt A s y v (a5f s.heap dx y))/\us.any (a5f s.heap dx)=b
 | _,[],_,_,h0,r,e=>by cases h0; simp only [inL] at e; cases e; cases r; exact ⟨fun y h=>(nomatch h),rfl⟩
 | _,_::_,_,_,h0,r,e=>by
  cases h0 with | cons h q=>?_
  simp only [inL] at e;cases r with
  | @cons _ u1 _ us1 r1 r2 =>
   split at e
   ·rename_i eb he;obtain ⟨b',e1,e2⟩:=Option.map_eq_some_iff.mp e;subst e2;obtain ⟨i1,i2⟩:=X8 I sub hu hx rx ex q r2 e1;obtain ⟨dy,dx',f1,f2,hd,rfl⟩:=Py he;rw [ex] at f2; cases f2;obtain ⟨b1,x1⟩:=h.reads I sub f1 r1;have hb:=a5r (dx:=dx) x1 (Bj _ f1);refine ⟨fun y hy=>?_,by rw [List.any_cons,i2,hb]⟩;rcases List.mem_cons.mp hy with rfl | hy
    ·rw [hb]; exact a4o I sub h hx r1 rx he hu
    ·exact i1 y hy
   ·cases e
theorem X7 {t u w:T} (h:inT t u=some w):(∃ ys b,(u=.tup ys\/u=.lst ys)/\inL t ys=some b/\(dat t).isSome=true/\w=.bl b)\/(∃ kvs q,u=.dic kvs/\keyOf t=some q/\w=.bl (Gj q kvs).isSome):=by
 unfold inT at h;split at h
 ·obtain ⟨q,e1,e2⟩:=Option.map_eq_some_iff.mp h;exact .inr ⟨_,q,rfl,e1,e2.symm⟩
 ·split at h
  ·rename_i hd;split at h
   ·obtain ⟨b,e1,e2⟩:=Option.map_eq_some_iff.mp h; exact .inl ⟨_,b,.inl rfl,e1,hd,e2.symm⟩
   ·obtain ⟨b,e1,e2⟩:=Option.map_eq_some_iff.mp h; exact .inl ⟨_,b,.inr rfl,e1,hd,e2.symm⟩
   ·cases h
  ·cases h
theorem Ng {op:CmpOp} {neg:Bool} (cb:(op=.In/\neg=false)\/(op=.NotIn/\neg=true)) {g:T->T->Option T} (hg:∀ t u w,g t u=some w->∃ w',inT t u=some w'/\∃ b,w'=.bl b/\w=.bl (xor neg b)) (hu:X.A.units+64<cLine):OpT X (compareOp op) g:=by
 intro pins s σ H x y v u Q I rx ry z8;obtain ⟨S,as,t,t2,w,sub,ht,hu2,hf,q⟩:=z8;obtain ⟨w',ei,b0,rfl,rfl⟩:=hg _ _ _ hf;rcases X7 ei with ⟨ys,b,hy,e,hdt,eb⟩ | ⟨kvs,qk,rfl,ek,eb⟩
 ·cases eb;obtain ⟨dx,ex⟩:=Option.isSome_iff_exists.mp hdt;have fin:EP X pins σ Q (.bool (xor neg b0)) s:=⟨.bl (xor neg b0),H,I,rfl,q _ H S (Ext.refl sub) (.bl _)⟩;have dA:X.A.in1.units+40<cLine:=by show X.A.units+1+40<cLine; omega
  rcases hy with rfl | rfl
  ·cases hu2 with
   | @tup a vs _ g1 g2 =>
    cases ry;obtain ⟨its,r,p,hz⟩:=I.tuple (kj sub g1);obtain ⟨i1,i2⟩:=X8 I sub dA ht rx ex g2 r e;have he:∀ y,y∈its.toArray->SeqAt.EqAt X.A.in1 s y v (a5f s.heap dx y):=fun y hy=>i1 y (by simpa using hy);have ha:its.toArray.any (a5f s.heap dx)=b0:=by rw [<- i2]; simp
    rcases cb with ⟨rfl,rfl⟩ | ⟨rfl,rfl⟩
    ·exact SeqAt.in_tupleAt _ (show s.heap.IsTuple a its.toArray from p) he (by rw [ha]; simpa using fin)
    ·exact SeqAt.notIn_tupleAt _ (show s.heap.IsTuple a its.toArray from p) he (by rw [ha]; simpa using fin)
  ·cases hu2 with
   | @lst a vs _ g1 g2 =>
    cases ry;obtain ⟨its,r,p,hz⟩:=I.list (iz sub g1);obtain ⟨i1,i2⟩:=X8 I sub dA ht rx ex g2 r e;have he:∀ y,y∈its.toArray->SeqAt.EqAt X.A.in1 s y v (a5f s.heap dx y):=fun y hy=>i1 y (by simpa using hy);have ha:its.toArray.any (a5f s.heap dx)=b0:=by rw [<- i2]; simp
    rcases cb with ⟨rfl,rfl⟩ | ⟨rfl,rfl⟩
    ·exact SeqAt.in_listAt _ p.isList he (by rw [ha]; simpa using fin)
    ·exact SeqAt.notIn_listAt _ p.isList he (by rw [ha]; simpa using fin)
 ·cases eb;cases hu2 with
  | @dic a kv _ g1 g2 =>
   cases ry;have ey:=Us ht ek;subst ey
   have hs:(Gj qk kvs).isSome=(Qu kv qk).isSome:=by
    rcases g2.get qk with ⟨z,t',a1,a2,_⟩ | ⟨a1,a2⟩
    ·simp [a1,a2]
    ·simp [a1,a2]
   rw [hs] at q;have gd:a0x H a (kV qk) (Qu kv qk):=.inl ⟨kv,qk,um sub g1,rfl,rfl⟩;rcases cb with ⟨rfl,rfl⟩ | ⟨rfl,rfl⟩
   ·exact afy (by omega) I gd rx fun s' I'=>⟨.bl _,H,I',rfl,by simpa using q _ H S (Ext.refl sub) (.bl _)⟩
   ·exact a80 (by omega) I gd rx fun s' I'=>⟨.bl _,H,I',rfl,by simpa using q _ H S (Ext.refl sub) (.bl _)⟩
theorem Wi (hu:X.A.units+64<cLine):OpT X (compareOp .In) inT:=Ng (.inl ⟨rfl,rfl⟩) (fun t u w h=>by
 rcases X7 h with ⟨ys,b,h1,h2,h3,rfl⟩ | ⟨kvs,q,rfl,h2,rfl⟩
 ·exact ⟨_,h,b,rfl,by simp⟩
 ·exact ⟨_,h,_,rfl,by simp⟩) hu
theorem X6 (hu:X.A.units+64<cLine):OpT X (compareOp .NotIn) Mi:=Ng (.inr ⟨rfl,rfl⟩) (fun t u w h=>by
 unfold Mi at h;split at h
 ·rename_i b e;cases h;exact ⟨_,e,b,rfl,by simp⟩
 ·cases h) hu
end
section
variable {X:Cx} {B:Bas} {a b c e:Expr} {m m1 m2:M T} {pos p:Pos} {u v:S} {es:List Expr} {ms:M (List T)} {k n:Nat} {f:Addr} {fd:FuncData} {pn:List Str} {F:Fn} {x:Str}
end
section
variable {X:Cx} {B:Bas} {a b c e:Expr} {m m1 m2:M T} {pos p:Pos} {es:List Expr} {ms:M (List T)} {n:Nat} {pn:List Str} {F:Fn} {x:Str}
end
section
variable {P:Program} {w:World} {K:PySem.W.Frag} {mg:Str->Option Value} {base:Heap}
end
section
variable {X:Cx} {B:Bas} {a b c e:Expr} {m m1 m2:M T} {pos p p2 gr:Pos}
theorem wk:Jh X (.builtin "abs") Gp:=by
 intro pins s σ H xs us Q I rs z8;obtain ⟨S,as,ts,w,sub,hr,hf,q⟩:=z8;cases hr with
 | nil=>exact fu hf
 | @cons x t bI ts' h1 h2 =>
  cases h2 with
  | cons h3 h4=>cases h1 <;> exact fu hf
  | nil =>
   cases h1 <;> first | exact fu hf | skip
   cases hf;exact a1e pins s σ H _ us Q I rs ⟨_,rfl,q _ H S (Ext.refl sub) (.int _)⟩
def Vx:List Nat->TGs
 | []=>aem
 | i::is=>aai (Kr i) (Vx is)
theorem Uj {K:PySem.W.Frag} {H S:Hp} {as:List Addr} {ps:List (V × T)}:∀ (is:List Nat) {vs:List V} {xs:List T} {st:Sta} {σ:L2.St} {Q:L2.St->Hp->Prop},Rel K B st σ H ps S as->qd K S as vs xs->xs.length=is.length ->
  (∀ σ',Rel K B ((is.zip xs).foldl (fun s p=>ig p.1 p.2 false s) st) σ' H ps S as->Q σ' H)->Vx is vs σ H Q
 | [],_,_,_,_,_,R,.nil,_,q=>⟨rfl,q _ R⟩
 | i::is,_,_,_,_,_,R,.cons r rs,hl,q=>⟨_,_,rfl,Uj is (R.put (i:=i) r) rs (by simpa using hl) q⟩
 | [],_,_,_,_,_,_,.cons _ _,hl,_=>by simp at hl
 | _::_,_,_,_,_,_,_,.nil,hl,_=>by simp at hl
theorem Hj {is:List Nat} {tg:Expr} (h:PG X tg (aep X.K is.length (Vx is))):PG X tg (gOf X.K B (Gq is)):=fun pins s σ H x u Q I r z9=>h pins s σ H x u Q I r (by
 obtain ⟨st,ps,S,as,t,R,aa,e,q⟩:=z9;have top:=R.top;cases t with
 | tup xs =>
  cases top with
  | @tup a vs _ g1 g2 =>
   obtain ⟨hl,e⟩:=vq e;cases e;exact ⟨a,vs,rfl,kj R.sub g1,by rw [g2.length]; exact hl,Uj is R.drop g2 hl fun σ' R'=>q σ' H S as R'⟩
 | _=>exact fu e)
end
end C
namespace C
open PySem PySem.Spec PyProof.Rows L2
section
variable {X:Cx} {B:Bas} {a b c e lo hi:Expr} {m m1 m2 ml mh:M T} {pos p p2:Pos}
theorem Qt (xs:List V) (i j:Nat):a0t xs (some (i:Int)) (some (j:Int))=(xs.take j).drop i:=by
 unfold a0t;rw [HT.Xq,HT.Xq];rw [List.drop_take]
 by_cases h:i<=xs.length
 ·rw [Nat.min_eq_left h]
  by_cases h2:j<=xs.length
  ·rw [Nat.min_eq_left h2]
  ·have e2:min j xs.length=xs.length:=by omega
   rw [e2,List.take_of_length_le (i:=xs.length - i) (by rw [List.length_drop]; exact Nat.le_refl _),List.take_of_length_le (by rw [List.length_drop]; omega)]
 ·have e1:min i xs.length=xs.length:=by omega
  rw [e1,List.drop_of_length_le (Nat.le_refl _),List.drop_of_length_le (i:=i) (by omega),List.take_nil,List.take_nil]
end
theorem qd.set {K:PySem.W.Frag} {S:Hp} {as:List Addr} {v:V} {t:T} (h:Rep K S as v t):∀ {vs:List V} {ts:List T} (j:Nat),qd K S as vs ts->qd K S as (vs.set j v) (ts.set j t)
 | _,_,_,.nil=>.nil
 | _,_,0,.cons _ r=>.cons h r
 | _,_,j+1,.cons q r=>.cons q (qd.set h j r)
section
variable {X:Cx} {B:Bas} {a b c e o k:Expr} {m mo mk mv:M T} {pos p:Pos}
end
section
variable {X:Cx} {B:Bas} {pins:List (Addr × Obj)} {σ:L2.St} {H S:Hp} {s:Shared} {as:List Addr} {Q:VK}
theorem gather {R:List Value->Shared->Prop} {A:Around} {E:Value->Shared->Prop} {T:String} {r d:Addr} {n:Nat} {P:Nat->Value->Prop} {OK:Heap->Prop} (KS:PySem.W.KdlSrc X.prog X.w T r d n P OK) (nh:A.handled=none) (fi:OK s.heap) (sz:n<=sizeLine)
  (k:∀ (h1:Heap) (tk:Nat) (got:Array Value),s.heap.objs.size<h1.objs.size->(∀ b o,s.heap.get? b=some o->h1.get? b=some o)->ItemsOf P got n->R got.toList { s with heap:=h1,toks:=tk }) :
  wpAny (model X.prog X.w) A (collect (.ref r)) R E s:=by
 have eS:=KS.there _ fi;unfold collect
 refine wpAny_bind (wpAny_runValue
  (codeAny_builtin entry_proto_collect' ?_))
 rw [Around.under_plainId
  PySem.F.plain_proto_collect _]
 show wpAny _ A.in1 (newList [] >>= fun z=>again (.builtin "list.__iadd__" ⟨[z,.ref r],[]⟩)) _ _ s;refine wpAny_bind (wpAny_newObj_type (wpAny_pure ⟨plainId_quiet PySem.F.plain_list_iadd _,codeAny_builtin entry_list_iadd' ?_⟩))
 rw [Around.under_plainId
  PySem.F.plain_list_iadd _]
 change wpAny _ A.in1 (Builtin.List.listExtendWith (.ref s.heap.objs.size) (.ref r) (.ref s.heap.objs.size)) _ _ _;have eC:(s.heap.push { cls:=.type "list",data:=.seq ([]:List Value).toArray }).get? s.heap.objs.size=some { cls:=.type "list",data:=.seq #[] }:=Heap.get?_push_size _ rfl
 have walk:=PySem.W.kdl_extend (A:=A) (s:={ s with heap:=s.heap.push { cls:=.type "list",data:=.seq ([]:List Value).toArray } })
  (R:=fun (f:Result) (s1:Shared)=>∃ (h1:Heap) (tk:Nat) (got:Array Value) (c1:Nat),f=.ok (.ret (.ref s.heap.objs.size))/\s1 = { s with heap:=h1,toks:=tk }/\(∀ b o,s.heap.get? b=some o->h1.get? b=some o) /\
   h1.get? s.heap.objs.size=some { cls:=.type "list",dict:=none,data:=.seq got c1,slots:=#[] }/\ItemsOf P got n)
  KS nh (KS.keep _ _ fi fun b _ o e=>Heap.get?_push_of_some _ e) s.heap.objs.size (Nat.ne_of_gt eS.1) (Nat.ne_of_gt eS.2) (.ref s.heap.objs.size) 0 eC
  (fun h1 tk got c1 old bL its=>⟨h1,tk,got,c1,rfl,rfl,fun b o e=>old b o (Nat.ne_of_lt (Heap.lt_size e)) (Heap.get?_push_of_some _ e),bL,its⟩) sz
 have last:∀ (h1:Heap) (tk:Nat) (got:Array Value) (c1:Nat),(∀ b o,s.heap.get? b=some o->h1.get? b=some o)->h1.get? s.heap.objs.size=some { cls:=.type "list",dict:=none,data:=.seq got c1,slots:=#[] }->ItemsOf P got n ->
   wpAny (model X.prog X.w) A (load s.heap.objs.size >>= fun o=>match o.data with | .seq xs _=>pure xs.toList | _=>unsupported "internal:collect") R E { s with heap:=h1,toks:=tk } :=
  fun h1 tk got c1 old bL its=>wpAny_bind (wpAny_load bL (wpAny_pure (k h1 tk got (Heap.lt_size bL) old its)))
 refine wpAny_mono walk (fun fin s1 x=>?_) fun e s1 x=>?_
 ·cases fin with
  | done f =>
   obtain ⟨h1,tk,got,c1,ef,rfl,old,bL,its⟩:=x;cases ef;exact last h1 tk got c1 old bL its
  | again c =>
   refine ⟨x.1,codeAny_mono x.2 fun f s2 y=>?_⟩;obtain ⟨h1,tk,got,c1,rfl,rfl,old,bL,its⟩:=y;exact last h1 tk got c1 old bL its
 ·obtain ⟨_,_,_,_,ef,_⟩:=x;cases ef
theorem Xe {T:String} {r d:Addr} {n:Nat} {P:Nat->Value->Prop} {OK:Heap->Prop} {l:List Str} (KS:PySem.W.KdlSrc X.prog X.w T r d n P OK) (hc:X.calm=true) (I:L2.Inv X pins σ H s) (sub:Same S H) (hok:OK s.heap) (bu:n<64)
  (hi:∀ vs:List Value,vs.length=n->(∀ (j:Nat) (v:Value),vs[j]? = some v->P j v)->∃ l',StrsAre vs l'/\l'.Perm l)
  (q:∀ v H' S',Ext S H S' H'->Rep X.K S' as v (.lst ((n8 l).map .str))->Q v H'):wpAny (model X.prog X.w) X.A (call (.builtin "sorted") [.ref r]) (EP X pins σ Q) X.xe s:=by
 have hn:n<=sizeLine:=Nat.le_trans (Nat.le_of_lt bu) (by rw [sizeLine_eq]; decide)
 refine Calls.call_function_entry kind_sorted plain_sorted
  entry_sorted (args_sorted1 _) ?_
 unfold Builtin.«sorted»;refine wpAny_bind (m:=checkCount "sorted" 1 1 _) (wpAny_pure (wpAny_bind ?_));refine (gather (A:=X.A.in1) KS (show X.A.in1.handled=none from I.ok.hd hc) hok hn fun h' tk acc aK hk cS=>?_);have hl:acc.toList.length=n:=Array.length_toList.trans cS.1;obtain ⟨l',hS,hp⟩:=hi acc.toList hl fun j v e=>cS.2 j v (by rw [<- Array.getElem?_toList]; exact e);refine wpAny_bind (wpAny_newList ?_ (hl ▸ hn));have cI:(h'.push (seqObj "list" acc.toList.toArray 0)).get? h'.objs.size=some (seqObj "list" acc.toList.toArray 0):=Heap.get?_push_size _ rfl;refine wpAny_bind (wpAny_holding (wpAny_call_entry slot_list_sort ⟨_,cI,rfl⟩ entry_list_sort (list_sort_treeK strKind_oneLt cI hS.keysOf (fun fK fN rest e=>keyKind_strs (by rw [<- e]; exact hS)) (by rw [hl]; exact bu) fun aa a1 a2=>⟨_,rfl,?_⟩) (args_list_sort _)));refine wpAny_pure ⟨_,rfl,(?_:EP X pins σ Q _ _)⟩;obtain ⟨g9,b1,b2,b3⟩:=sorted_out_str hS a1 a2;have es:=T7 b3 (b2.trans hp);subst es;have hle:=Nat.le_of_lt aK;obtain ⟨e,he⟩:=sortedHeap_at (out:=(arrOf aa).map (·.2)) cI
 have hsz:(List.map V.str (n8 l)).length<=sizeLine:=by
  rw [List.length_map,(Ft l).length_eq,<- hp.length_eq,<- hS.length,hl];exact hn
 have gz:H h'.objs.size=none:=I.hok.fresh hle;have x:=Ext.laid sub gz (.lst ((n8 l).map V.str));refine ⟨.ref h'.objs.size,_,I.laid (a:=h'.objs.size) (o:=.lst ((n8 l).map V.str)) (t':=tk) (fun b u eb=>?_) hle ⟨hsz,_,e,Mp b1,he⟩,rfl,q _ _ _ x (.lst (SqL.of d8) (Hh _))⟩;have hb:=Heap.lt_size (hk _ _ eb);rw [sortedHeap_old (Nat.ne_of_lt hb) (by rw [Heap.size_push]; exact Nat.lt_succ_of_lt hb)];exact Heap.get?_push_of_some _ (hk _ _ eb)
theorem Mr:∀ {kvs:List (L2.Key × V)} {ts:List (L2.Key × T)} {l:List Str},kvs.map (·.1)=ts.map (·.1)->Ga (ts.map fun p=>Je p.1)=some l->kvs.map (·.1)=l.map Sum.inr
 | [],[],l,_,h=>by simp only [List.map_nil,Ga] at h; cases h; rfl
 | (k,v)::kvs,(k2,t)::ts,l,e,h=>by
  simp only [List.map_cons,List.cons.injEq] at e;obtain ⟨e1,e2⟩:=e;subst e1;cases k with
  | inl i=>simp only [List.map_cons,Je,Ga,reduceCtorEq] at h
  | inr x =>
   simp only [List.map_cons,Je,Ga] at h;obtain ⟨l',h1,h2⟩:=Option.map_eq_some_iff.mp h;subst h2;rw [List.map_cons,List.map_cons,Mr e2 h1]
theorem Cr.keys {K:PySem.W.Frag} {S:Hp} {as:List Addr}:∀ {kvs:List (L2.Key × V)} {ts:List (L2.Key × T)},Cr K S as kvs ts->kvs.map (·.1)=ts.map (·.1)
 | _,_,.nil=>rfl
 | _,_,.cons h q=>by rw [List.map_cons,List.map_cons,Cr.keys q]
theorem Gd {prog:Program} {w:World}:∀ {vs:List (L2.Key × Value)} {us:List Value} {l:List Str},vs.map (·.1)=l.map Sum.inr->us.length=vs.length->(∀ (j:Nat) (v:Value),us[j]? = some v->∃ k x,vs[j]? = some (k,x)/\(jr prog w).is k v=true)->StrsAre us l
 | [],us,l,e,hl,h=>by
  cases us with
  | cons _ _=>simp at hl
  | nil=>cases l with
   | nil=>exact .nil
   | cons _ _=>simp at e
 | (k,x)::vs,us,l,e,hl,h=>by
  cases us with
  | nil=>simp at hl
  | cons u us =>
   cases l with
   | nil=>simp at e
   | cons y l =>
    simp only [List.map_cons,List.cons.injEq] at e;obtain ⟨e1,e2⟩:=e;subst e1;obtain ⟨k',x',h1,h2⟩:=h 0 u rfl;simp only [List.getElem?_cons_zero,Option.some.injEq,Prod.mk.injEq] at h1;obtain ⟨rfl,rfl⟩:=h1;rw [Uo] at h2
    have hu:∃ t,u=.str y t:=by
     rcases jt h2 with ⟨i,t,e',_⟩ | ⟨z,t,e',hz⟩
     ·cases e'
     ·cases e'; exact ⟨t,hz⟩
    obtain ⟨t,rfl⟩:=hu;exact .cons y t (Gd e2 (by simpa using hl) fun j v ev=>by simpa using h (j+1) v (by simpa using ev))
theorem Cj (hc:X.calm=true):Jh X (.builtin "sorted") Bb:=by
 intro pins s σ H xs us Q I rs z8;obtain ⟨S,as,ts,w,sub,hr,hf,q⟩:=z8;cases hr with
 | nil=>exact fu hf
 | @cons x t bI ts' h1 h2 =>
  cases h2 with
  | cons h3 h4=>cases h1 <;> exact fu hf
  | nil =>
   cases h1 with
   | @lst a vs ts g1 g2 =>
    obtain ⟨bu,hf⟩:=vq hf;obtain ⟨l,e1,e2⟩:=Option.map_eq_some_iff.mp hf;subst e2;exact Ln pins s σ H _ us Q I rs ⟨S,as,ts,l,sub,.cons (.lst g1 g2) .nil,bu,e1,q⟩
   | @dic a kvs ts g1 g2 =>
    obtain ⟨bu,hf⟩:=vq hf;obtain ⟨l,e1,e2⟩:=Option.map_eq_some_iff.mp hf;subst e2;obtain ⟨u,rfl,ru⟩:=rs.one;cases ru;obtain ⟨z,hd,vs,rel,dd⟩:=Gb I.hok (um sub g1);obtain ⟨ep,hat⟩:=dd.dictAt;have hlen:vs.length=ts.length:=by rw [<- rel.length]; exact g2.length
    have hk:=Mr g2.keys e1;rw [KV.keys rel] at hk;exact Xe (PySem.W.kdl_dict (knd:=jr X.prog X.w) (kvs:=vs) (ep:=ep) hd) hc I sub hat (by rw [hlen]; exact bu) (fun us hl hp=>⟨l,Gd hk hl hp,.refl _⟩) q
   | _=>exact fu hf
end
section
variable {prog:Program} {w:World} {A:Around} {E:Value->Shared->Prop} {s:Shared}
end
section
variable {prog:Program} {w:World} {A:Around} {R:Result->Shared->Prop} {I:Addr} {fp wr:List Addr} {G:Array GenState->Array GenState->Prop} {n:Nat} {P:Nat->Value->Prop} {St:Nat->Shared->Prop} {κ:Type} [DecidableEq κ] {knd:PySem.KeyKind prog w κ}
end
section
variable {prog:Program} {w:World} {A:Around} {E:Value->Shared->Prop} {s:Shared} {κ:Type} [DecidableEq κ] {knd:PySem.KeyKind prog w κ}
end
section
variable {X:Cx} {pins:List (Addr × Obj)} {σ:L2.St} {H S:Hp} {s:Shared} {as:List Addr}
inductive Iz (h:Heap) (prog:Program) (w:World):List Value->List L2.Key->List Value->Prop where
 | nil:Iz h prog w [] [] []
 | cons {t:Addr} {kx wv:Value} {o:Obj} {n:Nat} {q:L2.Key} {us:List Value} {qs:List L2.Key} {ws:List Value}:h.get? t=some o->o.cls=.type "tuple" -> o.data=.seq #[kx,wv] n->(jr prog w).is q kx=true ->
   Iz h prog w us qs ws->Iz h prog w (.ref t::us) (q::qs) (wv::ws)
theorem Iz.len {h:Heap} {prog:Program} {w:World}:∀ {us:List Value} {qs:List L2.Key} {ws:List Value},Iz h prog w us qs ws->us.length=qs.length/\us.length=ws.length:=by
 intro us qs ws h
 induction h with
 | nil=>exact ⟨rfl,rfl⟩
 | cons _ _ _ _ _ ih=>exact ⟨congrArg (· + 1) ih.1,congrArg (· + 1) ih.2⟩
end
section
variable {X:Cx} {B:Bas} {a:Expr} {m:M T} {pos p:Pos}
end
theorem vm.zero {P:Program} {w:World} {K:PySem.W.Frag} {mg:Str->Option Value} {base:Heap} {x qual:Str} {st:Stmt} {f:Addr} {fd:FuncData} {ps:List Str} {k:Nat} (F:Fun K x qual st f fd) (h:mg x=some (.ref f)) (b:Binds K fd ps []):vm P w K mg base x k ps (fun _ _=>none):=by
 have no:∀ vs H Q E,¬ spF K ps.length (fun _ _=>none) vs H Q E:=fun vs H Q E z=>by
  obtain ⟨S,as,sto,ts,t,aw,_,_,_,_,e,_⟩:=z;cases e
 exact ⟨f,fd,⟨fun vs H Q E z=>absurd z (no vs H Q E),fun A outer s H args us vs Q E _ _ _ _ z=>absurd z (no vs H Q E)⟩,b,F.kp,h⟩
end C
end
section
namespace C
open PySem
noncomputable def Aj:Nat->M Bool->S->S
 | 0,_,_=>fun _=>none
 | n+1,c,b=>fun s=>match c s with
  | some (false,s1)=>some (.next,s1)
  | some (true,s1)=>match b s1 with
   | some (.next,s2)=>Aj n c b s2
   | some (.cont,s2)=>Aj n c b s2
   | some (.brk,s2)=>some (.next,s2)
   | some (.ret v,s2)=>some (.ret v,s2)
   | none=>none
  | none=>none
noncomputable def a04:List T->Option T
 | [.int i]=>some (.int i)
 | [.bl k]=>some (.int (if k then 1 else 0))
 | _=>none
end C
end
section
namespace C
open PySem PySem.Spec PyProof.Rows L2
theorem Vo {n:Nat} {c:M Bool} {b:S} {s s':Sta} {fl:Flow} (h:Aj (n+1) c b s=some (fl,s')):(∃ s1,c s=some (false,s1)/\fl=.next/\s'=s1) \/
  ∃ s1 fb s2,c s=some (true,s1)/\b s1=some (fb,s2)/\(match fb with | .next=>Aj n c b s2=some (fl,s') | .cont=>Aj n c b s2=some (fl,s') | .brk=>fl=.next/\s'=s2 | .ret v=>fl=.ret v/\s'=s2):=by
 rw [Aj] at h;dsimp only at h;split at h
 ·rename_i s1 e1; cases h; exact .inl ⟨_,e1,rfl,rfl⟩
 ·rename_i s1 e1;split at h
  ·rename_i s2 e2; exact .inr ⟨s1,.next,s2,e1,e2,h⟩
  ·rename_i s2 e2; exact .inr ⟨s1,.cont,s2,e1,e2,h⟩
  ·rename_i s2 e2; cases h; exact .inr ⟨s1,.brk,_,e1,e2,rfl,rfl⟩
  ·rename_i v s2 e2; cases h; exact .inr ⟨s1,.ret v,_,e1,e2,rfl,rfl⟩
  ·cases h
 ·cases h
section
variable {X:Cx} {B:Bas} {c e:Expr} {m:M T} {pos p:Pos} {u:S} {body:List Stmt}
theorem a2w (n:Nat) {mc:M Bool} (hp:PassesOwn (model X.prog X.w) X.A X.env X.xe) (hc:PT X c (cOf X.K B mc)) (hb:PSs X body (sOf X.K B u)):PS X (.While c body [] pos) (sOf X.K B (Aj n mc u)):=(Ua hp hc hb).imp fun D σ H z9=>by
 obtain ⟨st,ps,S,as,R,fl,aa,e,q⟩:=z9;refine ⟨fun k σ H=>∃ aC Si aA,Rel X.K B aC σ H ps Si aA/\Aj k mc u aC=some (fl,aa),⟨n,st,S,as,R,e⟩,?_⟩;rintro k br H2 ⟨aC,Si,aA,Ri,ei⟩;cases k with
 | zero=>rw [Aj] at ei; cases ei
 | succ k =>
  rcases Vo ei with ⟨s1,e1,rfl,rfl⟩ | ⟨s1,fb,s2,e1,e2,er⟩
  ·exact ⟨aC,ps,Si,aA,Ri,false,_,e1,fun H3 S3 aF R3=>Wv (q br H3 S3 aF R3)⟩
  ·refine ⟨aC,ps,Si,aA,Ri,true,s1,e1,fun H3 S3 aF R3=>Yo ⟨fun σ' H'=>∃ aC Si aA,Rel X.K B aC σ' H' ps Si aA/\Aj k mc u aC=some (fl,aa),fun σ' H' h=>⟨k,Nat.lt_succ_self _,h⟩,s1,ps,S3,aF,R3,fb,s2,e2,?_⟩⟩;cases fb with
   | next=>exact fun σ' H' S' af R'=>⟨s2,S',af,R',er⟩
   | cont=>exact fun σ' H' S' af R'=>⟨s2,S',af,R',er⟩
   | brk =>
    obtain ⟨rfl,rfl⟩:=er;exact fun σ' H' S' af R'=>q σ' H' S' af R'
   | ret v =>
    obtain ⟨rfl,rfl⟩:=er;exact fun v σ' H' S' af R'=>q v σ' H' S' af R'
theorem Hg:Jh X (.type "int") a04:=by
 intro pins s σ H xs us Q I rs z8;obtain ⟨S,as,ts,w,sub,hr,hf,q⟩:=z8;cases hr with
 | nil=>exact fu hf
 | @cons x t bI ts' h1 h2 =>
  cases h2 with
  | cons h3 h4=>cases h1 <;> exact fu hf
  | nil =>
   cases h1 <;> first | exact fu hf | skip
   ·cases hf;exact O5 pins s σ H _ us Q I rs (.inr ⟨_,rfl,q _ H S (Ext.refl sub) (.int _)⟩)
   ·cases hf;exact O5 pins s σ H _ us Q I rs (.inl ⟨_,rfl,q _ H S (Ext.refl sub) (.int _)⟩)
end
section
variable {X:Cx} {B:Bas} {e st:Expr} {te:TE} {m:M T} {pos p2 p3 p4:Pos} {j:Nat}
end
end C
end
section
namespace C
open PySem
def a4k (xs ys:List T):List T:=(xs.zip ys).map fun p=>.tup [p.1,p.2]
noncomputable def a3o (a b:M T):M (List T):=fun s=>match a s with
 | some (.lst xs,s1)=>match b s1 with
  | some (.lst ys,s2)=>if xs.length<lim/\ys.length<lim then some (a4k xs ys,s2) else none
  | _=>none
 | _=>none
noncomputable def sIx (n d:Nat):Option Int->Nat
 | none=>d
 | some v=>if v<0 then (v+(n:Int)).toNat else min v.toNat n
noncomputable def abw (xs:List T) (lo hi:Option Int):List T:=(xs.drop (sIx xs.length 0 lo)).take (sIx xs.length xs.length hi - sIx xs.length 0 lo)
def a9g (lo hi:Option Int):T->Option T
 | .lst xs=>some (.lst (abw xs lo hi))
 | _=>none
def W3:M (Option Int):=fun s=>some (none,s)
noncomputable def Cw (e:M T):M (Option Int):=fun s=>match e s with
 | some (.int i,s1)=>some (some i,s1)
 | _=>none
noncomputable def Hw (m:M T) (lo hi:M (Option Int)):M T:=fun s=>match m s with
 | some (t,s1)=>match lo s1 with
  | some (l,s2)=>match hi s2 with
   | some (h,s3)=>match a9g l h t with
    | some u=>some (u,s3)
    | none=>none
   | none=>none
  | none=>none
 | none=>none
end C
end
section
namespace C
open PySem PySem.Spec PyProof.Rows L2
theorem Inv.a7h {X:Cx} {pins:List (Addr × Obj)} {σ:L2.St} {H:Hp} {s:Shared} {h':Heap} {t':Nat} {ch:List Addr} {n:Addr} {o:HO} (I:L2.Inv X pins σ H s) (aL:∀ b∈ch,Kc X pins H b)
  (k:∀ b u,b∉ch->s.heap.get? b=some u->h'.get? b=some u) (hp:s.heap.objs.size<=n) (new:qu X.prog X.w (upd H n o) h' n o):L2.Inv X pins σ (upd H n o) { s with heap:=h',toks:=t' }:=by
 have fr:=I.hok.fresh hp;have nn:∀ b u,s.heap.get? b=some u->b≠n:=fun b u e=>Nat.ne_of_lt (Nat.lt_of_lt_of_le (Heap.lt_size e) hp);have bE:∀ b u,H b=some u->b∉ch:=fun b u e z=>by rw [(aL b z).1] at e; cases e
 refine I.step (g':=s.gens) (d':=s.drawn) (ch:=ch) (fun b hb=>?_) (fun b u _ _ hc e _=>k b u hc e) (fun b u _ _ hc e _=>⟨u.slots,k b u hc e⟩) (fun b u _ e z=>by rw [d9 (nn b u e)]; exact z)
  (fun b u hc e=>⟨u,k b u hc e⟩) (fun b xs e=>by rw [d9 (jq e fr)]; exact e) (fun b u xs e=>by rw [d9 (jq e fr)]; exact e) (fun b ps e=>⟨#[],by rw [d9 (jq e fr),e]; simp⟩) (fun m hm=>?_) (fun b u e=>?_) I.bare
 ·obtain ⟨f0,f1,f2,f3,f4,f5⟩:=aL b hb;exact ⟨f3,f1,f4,f5⟩
 ·obtain ⟨ob,es,ep,ho,r⟩:=hm;exact ⟨ob,es,ep,k _ ob (fun z=>(aL _ z).2.1 rfl) ho,r⟩
 ·by_cases hb:b=n
  ·subst hb; rw [d8] at e; cases e; exact new
  ·rw [d9 hb] at e;refine (I.hok b u e).stay (fun c v hc q=>k c v ?_ q) (fun c q=>by rw [d9 (jq q fr)]; exact q) fun c xs q=>by rw [d9 (jq q fr)]; exact q
   rcases hc with rfl | hc
   ·exact bE _ _ e
   ·exact bE _ _ hc
theorem Inv.a76 {X:Cx} {pins:List (Addr × Obj)} {σ:L2.St} {H:Hp} {s:Shared} {h':Heap} {t':Nat} {ch:List Addr} (I:L2.Inv X pins σ H s) (aL:∀ b∈ch,Kc X pins H b)
  (k:∀ b u,b∉ch->s.heap.get? b=some u->h'.get? b=some u):L2.Inv X pins σ H { s with heap:=h',toks:=t' }:=by
 have bE:∀ b u,H b=some u->b∉ch:=fun b u e z=>by rw [(aL b z).1] at e; cases e
 refine I.step (g':=s.gens) (d':=s.drawn) (ch:=ch) (fun b hb=>?_) (fun b u _ _ hc e _=>k b u hc e) (fun b u _ _ hc e _=>⟨u.slots,k b u hc e⟩) (fun b u _ e z=>z)
  (fun b u hc e=>⟨u,k b u hc e⟩) (fun b xs e=>e) (fun b u xs e=>e) (fun b ps e=>⟨#[],by rw [e]; simp⟩) (fun m hm=>?_) (fun b u e=>?_) I.bare
 ·obtain ⟨f0,f1,f2,f3,f4,f5⟩:=aL b hb;exact ⟨f3,f1,f4,f5⟩
 ·obtain ⟨ob,es,ep,ho,r⟩:=hm;exact ⟨ob,es,ep,k _ ob (fun z=>(aL _ z).2.1 rfl) ho,r⟩
 ·refine (I.hok b u e).stay (fun c v hc q=>k c v ?_ q) (fun c q=>q) fun c xs q=>q;rcases hc with rfl | hc
  ·exact bE _ _ e
  ·exact bE _ _ hc
theorem IsListIter.to' {h h':Heap} {it a:Addr} {i:Nat} (x:h.IsListIter it a i) (e:∀ o,h.get? it=some o->h'.get? it=some o):h'.IsListIter it a i:=by
 obtain ⟨o,ho,r⟩:=x; exact ⟨o,e o ho,r⟩
theorem a2u {X:Cx} {pins:List (Addr × Obj)} {σ:L2.St} {H:Hp} {s:Shared} {a:Addr} {xs:List V} (I:L2.Inv X pins σ H s) {b:Addr} (h:SqL X.K H a xs) (f:Kc X pins H b):a≠b:=by
 rintro rfl;rcases h with e | ⟨o,_,_,e,_⟩
 ·rcases e with e | ⟨o,e⟩ <;> rw [f.1] at e <;> cases e
 ·have eb:=I.mod.kin a o e;rcases f.2.2.2.1 with q | q
  ·exact I.ok.noex a o eb q
  ·exact absurd (Nat.lt_of_lt_of_le (Heap.lt_size (I.ok.bs a o eb).1) q) (Nat.lt_irrefl _)
theorem apart {z ti bX i1 i2 a1 a2:Addr} (D:[z,ti,bX,i1,i2].Nodup) (f1:∀ b∈[z,ti,bX,i1,i2],a1≠b) (f2:∀ b∈[z,ti,bX,i1,i2],a2≠b):ZipApart z ti bX i1 i2 a1 a2:=by
 simp only [List.nodup_cons,List.mem_cons,List.not_mem_nil,or_false,not_or] at D;simp only [List.mem_cons,List.not_mem_nil,or_false,forall_eq_or_imp,forall_eq] at f1 f2;obtain ⟨⟨a,b,c,d⟩,⟨e,f,g⟩,⟨h,i⟩,j,_⟩:=D;exact ⟨Ne.symm a,Ne.symm b,Ne.symm c,Ne.symm d,e,f,g,h,i,j,f1.1,f1.2.2.1,f1.2.2.2.1,f1.2.2.2.2,f2.1,f2.2.2.1,f2.2.2.2.1,f2.2.2.2.2⟩
noncomputable def Itz (K:PySem.W.Frag) (a1 a2:Addr):It :=
 ⟨fun i H=>∃ xs ys x y,SqL K H a1 xs/\SqL K H a2 ys/\xs[i]? = some x/\ys[i]? = some y,
   fun i H v H'=>∃ p x y,H p=none/\v=.ref p/\H'=upd H p (.tup [x,y])/\(∀ xs,SqL K H a1 xs->xs[i]? = some x)/\∀ ys,SqL K H a2 ys->ys[i]? = some y,
   fun i H=>∃ xs ys,SqL K H a1 xs/\SqL K H a2 ys/\(xs.length<=i\/ys.length<=i)⟩
theorem a2j {P:Program} {w:World} {K:PySem.W.Frag} {elts:List Expr} {x1:Nat} {pos:Pos} {a1 a2 z ti bX i1 i2:Addr} (D:[z,ti,bX,i1,i2].Nodup) :
  Turn P w K (.Tuple elts x1 pos) (Itz K a1 a2) [z,ti,bX,i1,i2] z (fun i h=>IsZip h z ti bX .none/\IsPair h ti (.ref i1) (.ref i2)/\(∃ a b,IsPair h bX a b)/\h.IsListIter i1 a1 i/\h.IsListIter i2 a2 i) where
 mem:=by simp
 obj:=fun i h ⟨zz,its,⟨a,b,kp⟩,⟨o1,g1,_,e1⟩,o2,g2,_,e2⟩ b hb=>by
  simp only [List.mem_cons,List.not_mem_nil,or_false] at hb;rcases hb with rfl | rfl | rfl | rfl | rfl
  ·exact ⟨_,zz,fun v q=>by cases q⟩
  ·exact ⟨_,its,fun v q=>by cases q⟩
  ·exact ⟨_,kp,fun v q=>by cases q⟩
  ·exact ⟨_,g1,fun v q=>by rw [e1] at q; cases q⟩
  ·exact ⟨_,g2,fun v q=>by rw [e2] at q; cases q⟩
 keep:=fun i h h' ⟨zz,its,⟨a,b,kp⟩,t1,t2⟩ e=>⟨e z (by simp) _ zz,e ti (by simp) _ its,⟨a,b,e bX (by simp) _ kp⟩,IsListIter.to' t1 fun o q=>e i1 (by simp) o q,IsListIter.to' t2 fun o q=>e i2 (by simp) o q⟩
 item:=by
  intro X hP hw hK hc i pins s σ H E I hf ⟨zz,its,⟨a,b,kp⟩,t1,t2⟩ ⟨xs,ys,x,y,q1,q2,e1,e2⟩;subst hP hw hK;obtain ⟨its1,v1,r1,_⟩:=I.list q1;obtain ⟨its2,v2,r2,_⟩:=I.list q2;obtain ⟨u1,g1,ru1⟩:=v1.get e1;obtain ⟨u2,g2,ru2⟩:=v2.get e2;have Z:=apart D (fun b hb=>a2u I q1 (hf b hb)) fun b hb=>a2u I q2 (hf b hb);refine wpAny_pyNext_zip_item Z zz its kp t1 t2 r1.isList r2.isList (by simpa using g1) (by simpa using g2) fun h' z1 fL fQ fe hp _ kk=>?_;refine ⟨_,rfl,wpAny_letOwnedTupleGo_zip (s:={ s with heap:=h' }) z1 fun h2 z2 s2=>?_⟩
  have lt:∀ b∈[z,ti,bX,i1,i2],s.heap.objs.size≠b:=fun b hb=>by
   have ob:∃ o,s.heap.get? b=some o:=by
    simp only [List.mem_cons,List.not_mem_nil,or_false] at hb;rcases hb with rfl | rfl | rfl | rfl | rfl
    ·exact ⟨_,zz⟩
    ·exact ⟨_,its⟩
    ·exact ⟨_,kp⟩
    ·exact ⟨_,t1.choose_spec.1⟩
    ·exact ⟨_,t2.choose_spec.1⟩
   obtain ⟨o,e⟩:=ob;exact Nat.ne_of_gt (Heap.lt_size e)
  have pair:IsPair h2 s.heap.objs.size u1 u2:=s2.extBut _ _ (lt z (by simp)) hp
  have J:L2.Inv X pins σ (upd H s.heap.objs.size (.tup [x,y])) { s with heap:=h2,toks:=s.toks }:=Inv.a7h (ch:=[z,ti,bX,i1,i2]) I hf (fun b u hb e=>by
   simp only [List.mem_cons,List.not_mem_nil,or_false,not_or] at hb;exact s2.extBut _ _ hb.1 (kk b u hb.1 hb.2.2.1 hb.2.2.2.1 hb.2.2.2.2 e)) (Nat.le_refl _) ⟨by show 2<=sizeLine; rw [sizeLine_eq]; decide,[u1,u2],.cons ru1 (.cons ru2 .nil),⟨_,pair,rfl,rfl,0,rfl⟩⟩
  refine ⟨.ref s.heap.objs.size,_,J,rfl,⟨s.heap.objs.size,x,y,I.hok.fresh (Nat.le_refl _),rfl,rfl,fun bI h=>by rw [I.Ma h q1]; exact e1,fun ij h=>by rw [I.Ma h q2]; exact e2⟩,?_,fun b hb=>?_⟩
  ·exact ⟨z2,s2.extBut _ _ Z.TIz (kk _ _ Z.TIz Z.TITO Z.TIi1 Z.TIi2 its),⟨_,_,s2.extBut _ _ Z.TOz fL⟩,IsListIter.to' fQ fun o q=>s2.extBut _ _ Z.i1z q,IsListIter.to' fe fun o q=>s2.extBut _ _ Z.i2z q⟩
  ·rw [d9 (Ne.symm (lt b hb))]; exact (hf b hb).1
 done:=by
  intro X hP hw hK hc i pins s σ H E I hf ⟨zz,its,⟨a,b,kp⟩,t1,t2⟩ ⟨xs,ys,q1,q2,e⟩;subst hP hw hK;obtain ⟨its1,v1,r1,_⟩:=I.list q1;obtain ⟨its2,v2,r2,_⟩:=I.list q2;have l1:=v1.length;have l2:=v2.length;refine wpAny_pyNext_zip_end (I.ok.hd hc) (apart D (fun b hb=>a2u I q1 (hf b hb)) fun b hb=>a2u I q2 (hf b hb)) zz its kp t1 t2 r1.isList r2.isList ?_ fun h' kk=>⟨rfl,Inv.a76 (t':=s.toks) (ch:=[z,ti,bX,i1,i2]) I hf fun b u hb e=>?_⟩
  ·rcases e with e | e
   ·exact .inl (by simp; omega)
   ·exact .inr (by simp; omega)
  ·simp only [List.mem_cons,List.not_mem_nil,or_false,not_or] at hb;exact kk b u hb.1 hb.2.2.1 hb.2.2.2.1 hb.2.2.2.2 e
 self:=fun _ _ _ _ _ ⟨Z,_⟩ h=>wpAny_pyIter_zip Z h
noncomputable def iZp (K:PySem.W.Frag) (ta:TA):TI:=fun σ H R=>ta σ H fun vs H1=>∃ a1 a2 xs ys,vs=[.ref a1,.ref a2]/\SqL K H1 a1 xs/\SqL K H1 a2 ys/\R (Itz K a1 a2) H1
section
variable {X:Cx} {B:Bas} {a b:Expr} {m m1 m2:M T} {pos p:Pos} {elts:List Expr} {x1:Nat} {aH:Pos}
theorem abr {ta:TA} (hg:Gl X "zip") (hm:X.mg "zip" = none) (ha:PA X [a,b] ta) (hs:starEach [a,b] X.env=[(false,eval a X.env),(false,eval b X.env)]:=by rfl) (aM:starEach [b] X.env=[(false,eval b X.env)]:=by rfl) :
  PI X (.Tuple elts x1 aH) (.Call (.Name "zip" p) [a,b] [] pos) (iZp X.K ta):=by
 intro pins s σ H R I h;refine Call_ (K6 I hg hm boot_zip (PyProof.Rows.callWith_type1 (thn (ha pos pins s σ H _ I h) fun us s1 z0=>?_) (by rw [hs,aM]) (by rw [aM]; rfl)));obtain ⟨vs,H1,I1,r1,q1⟩:=z0;obtain ⟨a1,a2,xs,ys,e,w1,w2,q⟩:=q1;subst e;cases r1 with
 | cons r rr =>
  cases rr with
  | cons r' rr =>
   cases rr;cases r;cases r';obtain ⟨its1,v1,r1,_⟩:=I1.list w1;obtain ⟨its2,v2,r2,_⟩:=I1.list w2;refine call_zip_2 r1.isList r2.isList fun h' zz hi ho t1 t2 _ kp=>wpAny_pyIter_zip zz ?_;refine ⟨_,_,_,_,H1,rfl,I1.kept (t':=s1.toks) kp,a2j (by simp),⟨zz,hi,⟨_,_,ho⟩,t1,t2⟩,fun b hb=>?_,q⟩
   have hle:s1.heap.objs.size<=b:=by
    simp only [List.mem_cons,List.not_mem_nil,or_false] at hb;rcases hb with rfl | rfl | rfl | rfl | rfl <;> first | exact Nat.le_add_right _ _ | exact Nat.le_refl _
   exact I1.a8v hle (I1.hok.fresh hle)
theorem U0 {ts:List T} {s s':Sta} (h:a3o m1 m2 s=some (ts,s')):∃ s1 xs ys,m1 s=some (.lst xs,s1)/\m2 s1=some (.lst ys,s')/\xs.length<lim/\ys.length<lim/\ts=a4k xs ys:=by
 unfold a3o at h;split at h
 ·rename_i xs s1 e1;split at h
  ·rename_i ys s2 e2;split at h
   ·rename_i hl; cases h; exact ⟨s1,xs,ys,e1,e2,hl.1,hl.2,rfl⟩
   ·cases h
  ·cases h
 ·cases h
theorem a95:∀ st ts aa,a3o m1 m2 st=some (ts,aa)->ts.length<=sizeLine:=fun st ts aa e=>by
 obtain ⟨s1,xs,ys,_,_,l1,_,rfl⟩:=U0 e;unfold a4k;rw [List.length_map,List.length_zip];have:=je;omega
theorem a1l {xs ys:List T} {i:Nat} {t:T} (h:(a4k xs ys)[i]? = some t):∃ x y,xs[i]? = some x/\ys[i]? = some y/\t=.tup [x,y]:=by
 unfold a4k at h;rw [List.getElem?_map] at h;obtain ⟨p,e,rfl⟩:=Option.map_eq_some_iff.mp h;obtain ⟨e1,e2⟩:=List.getElem?_zip_eq_some.mp e;exact ⟨p.1,p.2,e1,e2,rfl⟩
theorem a2m {K:PySem.W.Frag} {S:Hp} {as:List Addr} {v:V} {xs:List T} (r:Rep K S as v (.lst xs)):∃ a vs,v=.ref a/\SqL K S a vs/\qd K S as vs xs:=by
 cases r with
 | lst g1 g2=>exact ⟨_,_,rfl,g1,g2⟩
theorem ac3 (hg:Gl X "zip") (hm:X.mg "zip" = none) (h1:PE X a (tOf X.K B m1)) (h2:PE X b (tOf X.K B m2)) (hs:starEach [a,b] X.env=[(false,eval a X.env),(false,eval b X.env)]:=by rfl) (aM:starEach [b] X.env=[(false,eval b X.env)]:=by rfl) :
  PI X (.Tuple elts x1 aH) (.Call (.Name "zip" p) [a,b] [] pos) (iOf X.K B (a3o m1 m2)):=by
 intro pins s σ H R I hw;refine abr (ta:=V0 (tOf X.K B m1) (V0 (tOf X.K B m2) a8u)) hg hm (mq h1 (mq h2 xr (by rw [aM]; rfl)) (by rw [hs,aM])) hs aM pins s σ H R I ?_;obtain ⟨st,ps,S,as,Rl,ts,aa,e,hz,q⟩:=hw;obtain ⟨s1,xs,ys,e1,e2,l1,l2,rfl⟩:=U0 e;refine ⟨st,ps,S,as,Rl,.lst xs,s1,e1,fun v H1 S1 ae R1=>⟨s1,_,S1,ae,R1,.lst ys,aa,e2,fun v2 H2 S2 ax R2=>?_⟩⟩;obtain ⟨a1,vs1,rfl,w1,p1⟩:=a2m R2.top2;obtain ⟨a2,vs2,rfl,w2,p2⟩:=a2m R2.top;refine ⟨a1,a2,vs1,vs2,rfl,iz R2.sub w1,iz R2.sub w2,q _ H2 S2 ax [(.ref a2,.lst ys),(.ref a1,.lst xs)] R2 fun S3 aF H3 hp hh=>?_⟩;obtain ⟨_,us1,g1,y1,z1⟩:=a2m (hp (.ref a1,.lst xs) (by simp));obtain ⟨_,us2,g2,y2,z2⟩:=a2m (hp (.ref a2,.lst ys) (by simp));cases g1; cases g2;have y1:=iz hh y1;have y2:=iz hh y2;refine ⟨fun i tt et=>?_,fun i hi=>⟨us1,us2,y1,y2,?_⟩⟩
 ·obtain ⟨x,y,f1,f2,rfl⟩:=a1l et;obtain ⟨vx,gx,rx⟩:=z1.get f1;obtain ⟨vy,gy,ry⟩:=z2.get f2;refine ⟨⟨us1,us2,vx,vy,y1,y2,gx,gy⟩,fun v H' z0=>?_⟩;obtain ⟨pp,x',y',hn,hv,hH,b1,b2⟩:=z0;have c1:=b1 _ y1;have c2:=b2 _ y2;rw [gx] at c1; rw [gy] at c2;cases c1; cases c2;subst hv hH;have x:=Ext.laid hh hn (.tup [vx,vy]);exact ⟨_,x,.tup (SqT.of d8) (.cons (rx.mono x.s nol) (.cons (ry.mono x.s nol) .nil))⟩
 ·rw [z1.length,z2.length];unfold a4k at hi;rw [List.length_map,List.length_zip] at hi;omega
end
section
variable {X:Cx}
variable {B:Bas} {o e:Expr} {m1 m2:M T} {apos ay:Pos}
end
theorem a3m (n d:Nat) (o:Option Int):sIx n d o=HT.sIx n d o:=by cases o <;> rfl
inductive oOf (K:PySem.W.Frag) (B:Bas) (m:M (Option Int)) (σ:L2.St) (H:Hp) (Q:Option Int->Hp->Prop):Prop
 | mk (st:Sta) (ps:List (V × T)) (S:Hp) (as:List Addr) (R:Rel K B st σ H ps S as) (o:Option Int) (aa:Sta) (e:m st=some (o,aa)) (q:∀ H' S' af,Rel K B aa σ H' ps S' af->Q o H')
section
variable {X:Cx} {B:Bas} {a e:Expr} {m:M T} {ml mh:M (Option Int)} {lo hi:Option Expr} {pos p2:Pos}
theorem a7s:PO X none (oOf X.K B W3):=fun pins s σ H Q I ⟨st,ps,S,as,R,o,aa,e,q⟩=>a6z pins s σ H Q I (by cases e; exact q H S as R)
theorem Du (h:PE X e (tOf X.K B m)):PO X (some e) (oOf X.K B (Cw m)):=fun pins s σ H Q I z9=>a7l h pins s σ H Q I (by
 obtain ⟨st,ps,S,as,R,o,aa,eo,q⟩:=z9;unfold Cw at eo;split at eo
 ·rename_i i s1 e1;cases eo;refine ⟨st,ps,S,as,R,.int i,_,e1,fun v H1 S1 ae R1=>?_⟩;cases R1.top;exact ⟨i,rfl,q H1 S1 ae R1.drop⟩
 ·cases eo)
theorem Vi {s s':Sta} {v:T} (h:Hw m ml mh s=some (v,s')):∃ t s1 l s2 u,m s=some (t,s1)/\ml s1=some (l,s2)/\mh s2=some (u,s')/\a9g l u t=some v:=by
 unfold Hw at h;split at h
 ·rename_i t s1 e1;split at h
  ·rename_i l s2 e2;split at h
   ·rename_i u s3 e3;split at h
    ·rename_i w e4; cases h; exact ⟨t,s1,l,s2,u,e1,e2,e3,e4⟩
    ·cases h
   ·cases h
  ·cases h
 ·cases h
theorem qd.takes {K:PySem.W.Frag} {S:Hp} {as:List Addr}:∀ (n:Nat) {vs:List V} {ts:List T},qd K S as vs ts->qd K S as (vs.take n) (ts.take n)
 | 0,_,_,_=>.nil
 | _+1,_,_,.nil=>.nil
 | n+1,_,_,.cons h r=>.cons h (qd.takes n r)
theorem a1b {K:PySem.W.Frag} {S:Hp} {as:List Addr} {vs:List V} {ts:List T} (r:qd K S as vs ts) (lo hi:Option Int):qd K S as (a0t vs lo hi) (abw ts lo hi):=by
 unfold a0t abw;rw [a3m,a3m,r.length];exact qd.takes _ (r.drop _)
theorem a0z (ha:PE X a (tOf X.K B m)) (hl:PO X lo (oOf X.K B ml)) (hh:PO X hi (oOf X.K B mh)):PE X (.Subscript a (.Slice lo hi none p2) pos) (tOf X.K B (Hw m ml mh)) :=
 (Ti a6c ha hl hh).imp fun σ H Q z9=>by
  obtain ⟨st,ps,S,as,R,t,aa,e,q⟩:=z9;obtain ⟨t1,s1,l,s2,u,e1,e2,e3,e4⟩:=Vi e;refine ⟨st,ps,S,as,R,t1,s1,e1,fun v H1 S1 ae R1=>⟨s1,_,S1,ae,R1,l,s2,e2,fun H2 S2 ax R2=>⟨s2,_,S2,ax,R2,u,aa,e3,fun H3 S3 aF R3=>?_⟩⟩⟩;have top:=R3.top;cases top with
  | @lst b vs ts g1 g2 =>
   simp only [a9g] at e4; cases e4;refine ⟨b,vs,rfl,iz R3.sub g1,fun p hp=>?_⟩;have x:=Ext.laid R3.sub hp (.lst (a0t vs l u));exact q _ _ _ _ ((R3.drop.ext x).push (.lst (SqL.of d8) ((a1b g2 l u).mono x.s nol)))
  | _=>exact fu e4
end
section
variable {prog:Program} {w:World} {A:Around} {E:Value->Shared->Prop} {s:Shared}
end
section
variable {X:Cx} {B:Bas} {e:Expr} {te:TE} {m m1 m2:M T} {pos p p2 p3 p4:Pos} {j:Nat}
theorem Ku {x:Str} {i:Int} (hg:Gl X x) (h:∃ tk,X.mg x=some (.int i tk)) (hd:(x==("__debug__" : Str))=false:=by decide):PE X (.Name x pos) (tOf X.K B (ak (.int i))):=by
 obtain ⟨tk,h⟩:=h;exact Dd (v:=.int i) (Ls hg h (show RelV (.int i) _ from ⟨tk,rfl⟩) hd) fun _ _=>.int i
theorem Vp {a:Expr} {pc:Pos} (hg:Gl X "isinstance") (hm:X.mg "isinstance" = none) (cz:Gl X "str") (cD:X.mg "str" = none) (ha:PE X a (tOf X.K B m)) (he:starEach [a,.Name "str" pc] X.env=(false,eval a X.env)::starEach [.Name "str" pc] X.env:=by rfl) :
  PE X (.Call (.Name "isinstance" p) [a,.Name "str" pc] [] pos) (tOf X.K B (gk isStr (ao m d7))):=by
 rw [show isStr=_ from funext a0l];exact Wo (cn := "str") hg hm cz cD Z5 (fun t ty h=>by cases t <;> cases h <;> rfl) ha (by decide) (by decide) he
end
end C
end
section
end
section
namespace C
open PySem PySem.Spec L2
def Held (K:PySem.W.Frag) (u:Value) (t:T):Prop:=∃ v,RelV v u/\∀ S as,Rep K S as v t
def jz (K:PySem.W.Frag) (us:List Value) (ts:List T):Prop:=∃ vs,Vals vs us/\∀ S as,qd K S as vs ts
section
variable {K:PySem.W.Frag}
theorem Held.str {x:Str} {tk:Tok}:Held K (.str x tk) (.str x):=⟨.str x,⟨tk,rfl⟩,fun _ _=>.str x⟩
theorem jz.nil:jz K [] []:=⟨[],.nil,fun _ _=>.nil⟩
theorem jz.cons {u:Value} {t:T} {us:List Value} {ts:List T} (h:Held K u t) (hs:jz K us ts):jz K (u::us) (t::ts):=by
 obtain ⟨v,r,e⟩:=h;obtain ⟨vs,rs,es⟩:=hs;exact ⟨v::vs,.cons r rs,fun S as=>.cons (e S as) (es S as)⟩
theorem Held.tup {a:Addr} {us:List Value} {n:Nat} {sl:Array (Option Value)} {ts:List T} (h:K.lookup a=some ⟨.type "tuple",none,.seq us.toArray n,sl⟩) (hz:us.length<=1000) (hs:jz K us ts):Held K (.ref a) (.tup ts):=by
 obtain ⟨vs,rs,es⟩:=hs;refine ⟨.ref a,rfl,fun S as=>.tup (.inr ⟨_,us.toArray,n,h,rfl,rfl,rfl,?_,?_⟩) (es S as)⟩
 ·rw [List.size_toArray,sizeLine_eq]; omega
 ·exact rs
end
section
variable {X:Cx} {B:Bas} {pos:Pos}
theorem yu {x:Str} {t:T} (hg:Gl X x) (h:∃ u,X.mg x=some u/\Held X.K u t) (hd:(x==("__debug__" : Str))=false:=by decide):PE X (.Name x pos) (tOf X.K B (ak t)):=by
 obtain ⟨u,h,v,r,e⟩:=h;exact Dd (v:=v) (Ls hg h r hd) e
end
end C
end
section
namespace C
open PySem PySem.Spec PyProof.Rows
section
variable {prog:Program} {w:World} {A:Around} {E:Value->Shared->Prop} {s:Shared}
end
section
variable {prog:Program} {w:World} {A:Around} {R:Result->Shared->Prop} {I:Addr} {fp wr:List Addr} {G:Array GenState->Array GenState->Prop} {n:Nat} {P:Nat->Value->Prop} {St:Nat->Shared->Prop}
end
section
variable {prog:Program} {w:World} {A:Around} {E:Value->Shared->Prop} {s:Shared}
end
section
variable {prog:Program} {w:World} {A:Around} {E:Value->Shared->Prop} {s:Shared}
end
section
variable {prog:Program} {w:World} {A:Around} {E:Value->Shared->Prop} {s:Shared}
end
section
variable {prog:Program} {w:World} {A:Around} {E:Value->Shared->Prop} {s:Shared} {I a:Addr} {i n ep:Nat} {o:Obj} {es:Array (Int × Value)} {t:SetTable} {Q:Option Value->Shared->Prop}
end
section
variable {prog:Program} {w:World} {A:Around} {E:Value->Shared->Prop} {s:Shared} {I a q:Addr} {i n ep:Nat} {o:Obj} {es:Array (Int × Value)} {t:SetTable} {Q:Option Value->Shared->Prop} {ps:List Nat}
end
section
variable {prog:Program} {w:World} {A:Around} {E:Value->Shared->Prop} {s:Shared} {I a q:Addr} {n ep:Nat} {o:Obj} {es:Array (Int × Value)} {t:SetTable} {ps:List Nat}
end
section
variable {prog:Program} {w:World} {A:Around} {E:Value->Shared->Prop} {s:Shared} {a:Addr} {o:Obj} {l:List Str}
end
section
variable {prog:Program} {w:World} {A:Around} {E:Value->Shared->Prop} {s:Shared} {a:Addr} {o:Obj} {l:List Str}
end
end C
end
section
namespace C
open PySem PySem.Spec PyProof.Rows L2
section
variable {X:Cx} {B:Bas} {e:Expr} {m1:M T} {p1 p2 p3 p4:Pos}
end
open AutoSeq1 (wpAny_loadPart') -- here
open MeetsSeq MeetsSeq2 MeetsSeq3 -- here
section
variable {prog:Program} {w:World}
end
section
variable {X:Cx} {pins:List (Addr × Obj)} {σ:L2.St} {H S:Hp} {s:Shared} {as:List Addr}
end
end C
end
section
namespace C
open PySem PySem.Spec PyProof.Rows L2
theorem a8g {K:PySem.W.Frag} {F:Fn} {H:Hp} {a:Addr} {ns:List Int} (hS:SqL K H a (ns.map V.int)) (hE:∃ st,F [.lst (ns.map T.int)] []=some (.bl true,st)):spF K 1 F [.ref a] H (fun v _=>v=.bl true) fun _ _ _=>False:=by
 obtain ⟨st,hF⟩:=hE
 have dQ:∀ (S:Hp) (l:List Int),qd K S [] (l.map V.int) (l.map T.int):=fun S l=>by
  induction l with
  | nil=>exact .nil
  | cons x l ih=>exact .cons (.int x) ih
 let S:Hp:=fun p=>if p=a then H p else none
 have sa:S a=H a:=if_pos rfl
 have sub:Same S H:=fun p u h=>by
  by_cases e:p=a
  ·subst e; rw [<- sa]; exact h
  ·have:S p=none:=if_neg e;rw [this] at h; cases h
 have sq:SqL K S a (ns.map V.int):=by
  rcases hS with h | h
  ·refine .inl ?_;unfold Rd at h ⊢;rw [sa]; exact h
  ·exact .inr h
 refine ⟨S,[],[],[.lst (ns.map T.int)],.bl true,st,sub,⟨rfl,.nil,fun n so e=>by simp at e⟩,.cons (.lst sq (dQ S ns)) .nil,rfl,hF,fun v H' S' af _ _ _ r=>?_⟩;cases r;rfl
end C
end
section
namespace C
open PySem
abbrev FnX:=List T->List SO->Option ((T ⊕ T) × List SO)
abbrev SX:=Sta->Option ((Flow ⊕ T) × Sta)
def lx (u:S):SX:=fun s=>match u s with
 | some (fl,s1)=>some (.inl fl,s1)
 | none=>none
def Aa (a b:SX):SX:=fun s=>match a s with
 | some (.inl .next,s1)=>b s1
 | r=>r
noncomputable def xIf (c:M Bool) (a b:SX):SX:=fun s=>match c s with
 | some (true,s1)=>a s1
 | some (false,s1)=>b s1
 | none=>none
def Cu (m:M T):SX:=fun s=>match m s with
 | some (t,s1)=>some (.inr t,s1)
 | none=>none
noncomputable def qw (n:Nat) (b:SX):FnX:=fun ts sto=>match b ⟨ts.map (fun t=>some (t,false))++List.replicate (n - ts.length) none,sto⟩ with
 | some (.inl (.ret t),s)=>some (.inl t,s.sto)
 | some (.inl .next,s)=>some (.inl .non,s.sto)
 | some (.inr t,s)=>some (.inr t,s.sto)
 | _=>none
def norm (F:FnX):Fn:=fun ts sto=>match F ts sto with
 | some (.inl t,s)=>some (t,s)
 | _=>none
def clr (i:Nat) (s:Sta):Sta:={ s with env:=s.env.set i none }
noncomputable def mXf (c:Nat) (f:Str) (m:M T):M T:=fun s=>match m s with
 | some (.obj n,s1)=>match s1.sto[n]? with
  | some (.exc d g t)=>if d=c/\g=f then some (t,s1) else none
  | _=>none
 | _=>none
noncomputable def a8s (tb:List (Nat × Str × Bool)) (m:M T):M T:=fun s=>match m s with
 | some (.obj n,s1)=>match s1.sto[n]? with
  | some (.exc d g _)=>match tb.find? (fun p=>p.1==d&&p.2.1==g) with
   | some p=>some (.bl p.2.2,s1)
   | none=>none
  | _=>none
 | _=>none
noncomputable def Z9 (c:Nat) (f:Str) (F:FnX) (a:M (List T)) (i j:Nat):S:=fun s=>match a s with
 | some (ts,s1)=>match F ts s1.sto with
  | some (.inr t,sto)=>some (.next,clr i (ig j (.obj sto.length) false (clr i { s1 with sto:=sto++[.exc c f t] })))
  | _=>none
 | none=>none
end C
end
section
namespace My
open PySem PySem.W PySem.Calls PyProof.Rows PySem.Spec
abbrev vB:List Value:=[.type "ValueError",.type "Exception",.type "BaseException",.type "object"]
theorem ae7 {K:Frag} {h:Heap} {D:Addr} {newId:String} (X:K.In h) (q:excIn K D vB newId=true):OwnTail h vB (.ref D::vB):=by
 refine tail_of_in X ?_;unfold excIn at q;unfold tailIn;split at q
 ·rename_i dd cd sl ho;split at q
  ·simp only [Bool.and_eq_true] at q;dsimp only;rw [ho];dsimp only;rw [q.1.2,q.2];have z:tailIn K vB vB=true:=by unfold tailIn; rfl
   rw [z];simp
  ·cases q
 ·cases q
abbrev Wc (C t:Addr):Obj:={ cls:=.ref C,data:=.fields #[.ref t,.none,.none,.none,.bool false,.none] }
abbrev a4d (vs:List Value):Obj:={ cls:=.type "tuple",data:=.seq vs.toArray }
section
variable {prog:Program} {w:World} {A:Around} {E:Value->Shared->Prop} {s:Shared} {h₀:Heap} {L:Addr} {m:Str->Option Value} {news:List (Addr × Obj)} {K:Frag}
variable {nm q:Str} {C D Na:Addr} {bs:List Value} {hdct:Bool} {sn:List Str} {sub:List Value} {ab:Bool} {col:Option Bool} {dd:Option Addr} {k0 k1 k2 k3 k5:Option Value}
theorem Jc {h:Heap} {g:Array GenState} {d:Drawn} {t:Nat} {os:OsState} {rest:List Value} {fI:Addr} {R:Fin->Shared->Prop} (X:K.In h)
  (hC:h.get? C=some (excClassObj nm q C Na bs (.ref D::vB) hdct sn sub ab col dd k0 k1 k2 k3 k5 "ValueError.__new__")) (T:OwnTail h vB (.ref D::vB))
  (hi:findIn K (.ref C) "__init__" = some (some (.ref fI))) (hf:typeIn K (.ref fI)=some (.type "function"))
  (hq:wpAny (model prog w) A (call (.ref fI) (.ref (h.objs.size+1)::rest)) (fun r s'=>r=.none/\R (.done (.ret (.ref (h.objs.size+1)))) s') E ⟨(h.push (a4d rest)).push (Wc C h.objs.size),g,d,t,os⟩) (bG:rest.length<=sizeLine) :
  wpAny (model prog w) A (Builtin.«type.__call__» ⟨.ref C::rest,[]⟩) R E ⟨h,g,d,t,os⟩:=by
 have Fv:=PySem.F.excBase_ValueError;have hv:vB.contains (.type "ValueError")=true:=by decide
 repeat (first | with_reducible refine wpAny_loadPart_at hC ?_ | with_reducible refine wpAny_madeBy_exc hC ?_ | wp_step) -- here
 refine codeAny_call_builtin_code (Code.quiet_builtin _ Fv.quiet) (wpAny_check_new_subU Fv hv T hC ?_);refine codeAny_exc_new_subU Fv hv Fv T hC ?_ bG;show wpAny _ _ _ _ _ _;have kp:∀ b o,h.get? b=some o->((h.push (a4d rest)).push (Wc C h.objs.size)).get? b=some o:=fun b o e=>Heap.get?_push_of_some _ (Heap.get?_push_of_some _ e);have X1:=X.keeps kp;have eh:((h.push (a4d rest)).push (Wc C h.objs.size)).get? (h.objs.size+1)=some (Wc C h.objs.size):=by heap_get
 have gD:(Value.ref C :: .ref D::vB).contains (.ref C)=true:=by simp
 have gB:=kp _ _ hC;unfold isInstance
 repeat (first | with_reducible refine wpAny_loadPart_at eh ?_ | (with_reducible refine wpAny_isSubtype_exc gB ?_; rw [gD]) | wp_step)
 show wpAny _ _ (typeLookup (.ref C) _) _ _ _;refine looks_findIn X1 hi _ _ _ _ (fun _ _ e=>e) ?_;refine wpAny_holding (wpAny_bind ?_);refine bind_fn X1 _ hf _ _ _ _ (fun _ _ e=>e) ?_;refine wpAny_bind (wpAny_mono hq (fun r s' hr=>?_) fun _ _ x=>x);obtain ⟨rfl,hQ⟩:=hr
 wp_walk
 exact hQ
end
end My
end
section
namespace My
open PySem PySem.W PySem.Calls PyProof.Rows PySem.Spec Builtin.ObjectAttr
abbrev a0k (C t dx:Addr):Obj:={ cls:=.ref C,dict:=some dx,data:=.fields #[.ref t,.none,.none,.none,.bool false,.none] }
theorem adv (self:Value):refuseLoop self "__setattr__" vB=pure ():=by kernel_rfl
section
variable {prog:Program} {w:World} {A:Around} {E:Value->Shared->Prop} {s:Shared} {h₀:Heap} {L:Addr} {m:Str->Option Value} {news:List (Addr × Obj)} {K:Frag} {x C D t:Addr} {cd:ClassData} {name:Str} {v:Value} {g:Obj->List (Addr × Obj)}
end
theorem Sg:builtinKind "BaseException.__getattribute__" = some .slot:=by decide +kernel
theorem Ot:splitId "BaseException.__getattribute__" = some ("BaseException","__getattribute__"):=by decide +kernel
section
variable {prog:Program} {w:World} {A:Around} {E:Value->Shared->Prop} {s:Shared} {K:Frag} {x C:Addr} {ox:Obj} {od:Option Obj} {name:Str} {v:Value} {expr:Bool}
theorem a2k {Q:Value->Shared->Prop} (X:K.In s.heap) (I:InstAt s.heap x ox C od) (cf:findIn K (.ref C) "__getattribute__" = some (some (.builtin "BaseException.__getattribute__")))
  (bW:findIn K (.ref C) "__getattr__" = some none) (hb:mroIn K C (.type "BaseException")=some true) (hf:findObj K C od name=some (.value v)) (hh:handedIn v=true) (h:Q v { s with toks:=s.toks+1 }) :
  wpAny (model prog w) A (getAttr (.ref x) name expr) Q E s:=by
 obtain ⟨hp,g,d,tk,os⟩:=s;have FB:=PySem.F.excAttr_ValueError;have f3:=FB.ga.bind (.ref x);have L0:=I.type (M:=model prog w);have L1:=looks_findIn (M:=model prog w) X cf;have L2:=looks_findIn (M:=model prog w) X bW;have L3:=looks_find (M:=model prog w) X I hf;have L4:Looks (model prog w) hp (isInstance (.ref x) (.type "BaseException")) true:=I.type.andThen (looks_mroIn X hb);have d3:(expr&&onTheHeap (Value.builtin "BaseException.__getattribute__"))=false:=by cases expr <;> rfl
 have dP:(Value.builtin "BaseException.__getattribute__" == Value.builtin "object.__getattribute__")=false:=by decide +kernel
 unfold getAttr getAttrBy;refine wpAny_bind (wpAny_mkText (wpAny_holding (wpAny_bind (L0.at (wpAny_bind (L1.at ?_))))));dsimp only;rw [dP,Bool.and_false];rw [if_neg (by decide)];unfold getAttrByItsOwn;have LH:Looks (model prog w) hp (hookBefore (.ref C)) none:=looks_hook (mc:=.ref C) X (by rw [if_pos (show onTheHeap (.ref C)=true from rfl)]; exact bW);refine wpAny_bind (LH.at (wpAny_bind (wpAny_attempt (wpAny_holding ?_))));unfold callGetattribute;rw [d3,if_neg (by decide)];unfold boundAndCalled;rw [f3];refine wpAny_bind (wpAny_pure ?_);show wpAny _ _ (call (.builtin "BaseException.__getattribute__") [.ref x,.str name tk]) _ _ _;refine wpAny_call (codeAny_call_builtin FB.ga.plain PySem.F.entry_bexc_ga (@check_slot (model prog w) _ _ _ "BaseException.__getattribute__" "BaseException" "__getattribute__" (.ref x) [.str name tk] [] _ Sg Ot L4 (PySem.F.args_bexc_ga (.ref x) (.str name tk)) ?_));unfold Builtin.«object.__getattribute__»;refine wpAny_bind (wpAny_pure (wpAny_bind (wpAny_pure (wpAny_bind (L0.at (wpAny_bind (L3.at ?_)))))));refine wpAny_pure ?_;show wpAny _ _ (handedOut v) _ _ _;rw [handedOut_of hh];exact wpAny_pure h
end
section
variable {prog:Program} {w:World} {A:Around} {E:Value->Shared->Prop} {s:Shared} {K:Frag} {x C:Addr} {ox od:Obj} {name:Str} {tk:Tok} {v:Value} {fill expr:Bool}
theorem Xw {Q:Value->Shared->Prop} (X:K.In s.heap) (I:InstAt s.heap x ox C (some od)) (cf:findIn K (.ref C) "__getattribute__" = some (some (.builtin "BaseException.__getattribute__")))
  (bW:findIn K (.ref C) "__getattr__" = some none) (hb:mroIn K C (.type "BaseException")=some true)
  (h:∀ A',wpAny (model prog w) A' (Builtin.«object.__getattribute__» ⟨[.ref x,.str name tk],[]⟩) (fun fin s'=>∃ v,fin=.done (.ret v)/\handedIn v=true/\Q v s') (fun _ _=>False) s) :
  wpAny (model prog w) A (getAttrBy (.ref x) (.str name tk) fill expr) Q E s:=by
 obtain ⟨hp,g,d,tt,os⟩:=s;have FB:=PySem.F.attr_ValueError;have f3:=FB.ga.bind (.ref x);have L0:=I.type (M:=model prog w);have L1:=looks_findIn (M:=model prog w) X cf;have L4:Looks (model prog w) hp (isInstance (.ref x) (.type "BaseException")) true:=I.type.andThen (looks_mroIn X hb);have d3:(expr&&onTheHeap (Value.builtin "BaseException.__getattribute__"))=false:=by cases expr <;> rfl
 have dP:(Value.builtin "BaseException.__getattribute__" == Value.builtin "object.__getattribute__")=false:=by decide +kernel
 unfold getAttrBy;refine wpAny_holding (wpAny_bind (L0.at (wpAny_bind (L1.at ?_))));dsimp only;rw [dP,Bool.and_false,if_neg (by decide)];unfold getAttrByItsOwn;have LH:Looks (model prog w) hp (hookBefore (.ref C)) none:=looks_hook (mc:=.ref C) X (by rw [if_pos (show onTheHeap (.ref C)=true from rfl)]; exact bW);refine wpAny_bind (LH.at (wpAny_bind (wpAny_attempt (wpAny_holding ?_))));unfold callGetattribute;rw [d3,if_neg (by decide)];unfold boundAndCalled;rw [f3];refine wpAny_bind (wpAny_pure ?_);show wpAny _ _ (call (.builtin "BaseException.__getattribute__") [.ref x,.str name tk]) _ _ _;refine wpAny_call (codeAny_call_builtin FB.ga.plain PySem.F.entry_bexc_ga (@check_slot (model prog w) _ _ _ "BaseException.__getattribute__" "BaseException" "__getattribute__" (.ref x) [.str name tk] [] _ Sg Ot L4 (PySem.F.args_bexc_ga (.ref x) (.str name tk)) ?_));refine wpAny_mono (h _) (fun fin s' z=>?_) fun _ _ z=>z.elim;obtain ⟨v,rfl,hh,q⟩:=z;show wpAny _ _ (handedOut v) _ _ _;rw [handedOut_of hh];exact wpAny_pure q
theorem Wj {Q:Option Value->Shared->Prop} (X:K.In s.heap) (I:InstAt s.heap x ox C (some od)) (cf:findIn K (.ref C) "__getattribute__" = some (some (.builtin "BaseException.__getattribute__")))
  (bW:findIn K (.ref C) "__getattr__" = some none) (hb:mroIn K C (.type "BaseException")=some true) (hh:hasDictIn K C=true)
  (ha:findIn K (.ref C) "__class__" = some (some (.builtin "object.__class__"))) (hn:specialIn K (.builtin "object.__class__") "__get__" = some (some (.builtin "getset_descriptor.__get__"))) (ht:takesIn K (.builtin "object.__class__")=some true)
  (hm:mroIn K C (.type "object")=some true) (h:Q (some (.ref C)) { s with toks:=s.toks+1 }):wpAny (model prog w) A (getAttr? (.ref x) "__class__") Q E s:=by
 unfold getAttr?;refine wpAny_bind (wpAny_mkText ?_);unfold getAttrBy?;refine wpAny_bind (wpAny_attempt (Xw (s:={ s with toks:=s.toks+1 }) X I cf bW hb fun A'=>?_));have L0:=I.type (M:=model prog w);have L3:=looks_find (M:=model prog w) X I (name := "__class__") (findObj_data (by obtain ⟨cd,hc,_⟩:=any_some hh; rw [hc]; rfl) ha hn ht);unfold Builtin.«object.__getattribute__»;refine wpAny_bind (wpAny_pure (wpAny_bind (wpAny_pure (wpAny_bind (L0 _ _ _ _ (fun _ _ e=>e) (wpAny_bind (L3 _ _ _ _ (fun _ _ e=>e) ?_)))))));dsimp only;unfold bindTo;refine wpAny_bind (wpAny_holding (wpAny_call (class_get (ox:=ox) (od:=some od) X I hm (wpAny_pure ⟨_,rfl,rfl,wpAny_pure h⟩))))
theorem a1g (cf:findIn K (.ref C) "__getattribute__" = some (some (.builtin "BaseException.__getattribute__")))
  (bW:findIn K (.ref C) "__getattr__" = some none) (hb:mroIn K C (.type "BaseException")=some true) (hh:hasDictIn K C=true)
  (ha:findIn K (.ref C) "__class__" = some (some (.builtin "object.__class__"))) (hn:specialIn K (.builtin "object.__class__") "__get__" = some (some (.builtin "getset_descriptor.__get__"))) (ht:takesIn K (.builtin "object.__class__")=some true)
  (hm:mroIn K C (.type "object")=some true):KitX K (.ref x) (.ref C) (fun h=>InstAt h x ox C (some od)) where
 ty:=fun _ _ _ I=>I.type
 it:=fun _ _ X _=>by
  obtain ⟨cd0,hc0,_⟩:=any_some hh;unfold clsIn at hc0;split at hc0
  ·rename_i ho;intro A' Q' E' s' k q;unfold isType loadHead;exact wpAny_bind (wpAny_loadPart (k _ _ (X _ _ ho)) (wpAny_pure q))
  ·cases hc0
 ne:=fun h tp dd its n sl X hU=>by
  obtain ⟨cd0,hc0,_⟩:=any_some hh;refine Bool.eq_false_iff.mpr fun q=>?_;have e:C=tp:=Value.ref.inj (beq_iff_eq.mp q);subst e;unfold clsIn at hc0;split at hc0
  ·rename_i ho;cases (X _ _ ho).symm.trans hU
  ·cases hc0
 ca:=fun X I k=>Wj X I cf bW hb hh ha hn ht hm k
end
end My
end
section
namespace L2
open PySem PySem.Spec PyProof.Rows
abbrev Tr (C dx:Addr) (vs:Array Value):Obj:={ cls:=.ref C,dict:=some dx,data:=.fields vs }
structure XAt (h:Heap) (e C dx T:Addr) (fl:Value):Prop where
 ne:T≠e
 at_:∃ vs,h.get? e=some (Tr C dx vs)/\vs[1]? = some (.ref T)
 tb:∃ o ts,h.get? T=some o/\o.data=.fields ts/\ts[3]? = some fl
structure Kp (fs ch:List Addr) (h h':Heap):Prop where
 keep:∀ b o,h.get? b=some o->b∉fs->b∉ch->h'.get? b=some o
 slot:∀ b o,h.get? b=some o->b∉ch->∃ sl,h'.get? b=some { o with slots:=sl }
 there:∀ b o,h.get? b=some o->∃ o',h'.get? b=some o'
 size:h.objs.size<=h'.objs.size
theorem Kp.trans {fs ch:List Addr} {h h1 h2:Heap} (a:Kp fs ch h h1) (b:Kp fs ch h1 h2):Kp fs ch h h2 where
 keep:=fun c o q n m=>b.keep c o (a.keep c o q n m) n m
 slot:=fun c o q m=>by
  obtain ⟨sl,e1⟩:=a.slot c o q m;obtain ⟨dv,e2⟩:=b.slot c _ e1 m;exact ⟨dv,e2⟩
 there:=fun c o q=>by
  obtain ⟨o',e1⟩:=a.there c o q;exact b.there c o' e1
 size:=Nat.le_trans a.size b.size
theorem Kp.mono {fs ch cQ ch':List Addr} {h h':Heap} (a:Kp fs ch h h') (hf:∀ b∈fs,b∈cQ) (hc:∀ b∈ch,b∈ch'):Kp cQ ch' h h' where
 keep:=fun c o q n m=>a.keep c o q (fun z=>n (hf _ z)) fun z=>m (hc _ z)
 slot:=fun c o q m=>a.slot c o q fun z=>m (hc _ z)
 there:=a.there
 size:=a.size
theorem Kp.slots {fs:List Addr} {h h':Heap} (x:Heap.SlotsOnly fs h h'):Kp fs [] h h' where
 keep:=fun b o q n _=>(x.2.1 b n).trans q
 slot:=fun b o q _=>x.2.2 b o q
 there:=fun b o q=>let ⟨sl,e⟩:=x.2.2 b o q; ⟨_,e⟩
 size:=Nat.le_of_eq x.1.symm
theorem Kp.pushed {fs ch:List Addr} {h:Heap} (o:Obj):Kp fs ch h (h.push o) where
 keep:=fun b u q _ _=>Heap.get?_push_of_some _ q
 slot:=fun b u q _=>⟨u.slots,Heap.get?_push_of_some _ q⟩
 there:=fun b u q=>⟨u,Heap.get?_push_of_some _ q⟩
 size:=by rw [Heap.size_push]; exact Nat.le_succ _
theorem Kp.field {fs:List Addr} {h:Heap} {e:Addr} {o:Obj} {vs:Array Value} (he:h.get? e=some o) (hd:o.data=.fields vs) (f:Array Value->Array Value):Kp fs [e] h (h.update e (Obj.mapFields f)) where
 keep:=fun b u q _ m=>by rw [Heap.get?_update_other _ _ (fun z=>m (by simp [z]))]; exact q
 slot:=fun b u q m=>⟨u.slots,by rw [Heap.get?_update_other _ _ (fun z=>m (by simp [z]))]; exact q⟩
 there:=fun b u q=>by
  by_cases z:e=b
  ·subst z; exact ⟨_,Heap.get?_update_self _ he (Obj.isFreed_of_fields (Obj.data_mapFields hd f))⟩
  ·exact ⟨u,by rw [Heap.get?_update_other _ _ z]; exact q⟩
 size:=Nat.le_of_eq (Heap.size_after_update ..).symm
section
variable {M:Model} {A:Around} {E:Value->Shared->Prop} {s:Shared} {base:Heap} {env:Env} {outer:List Env} {L e C dx T:Addr} {fl:Value} {vs:Array Value} {Q:Unit->Shared->Prop}
theorem Jr {head:Value} {hn:Bool} (hfr:A.frames=some (env::outer)) (hl:s.heap.FunFrames base (env::outer)) (hf:env.frame=some L) (he:s.heap.get? e=some (Tr C dx vs)) (h1:1<vs.size)
  (dr:e∉frs (env::outer))
  (h:∀ h' T,s.heap.objs.size<=T->Kp (frs (env::outer)) [e] s.heap h'->XAt h' e C dx T (rawInt L)->Q () { s with heap:=h' }) :
  wpAny M A (frameOf env >>= fun a=>entryPlaceOf L hn >>= fun pl=>EntryCells.newEntry head a .none (rawInt L) .none pl >>= fun b=>setField (.ref e) 1 b) Q E s:=by
 refine wpAny_bind (wpAny_frameOf_fun hfr hl hf fun cH hs=>?_);refine wpAny_bind (wpAny_entryPlaceOf fun pl aD=>?_);unfold EntryCells.newEntry newFields;have e1:cH.get? e=some (Tr C dx vs):=(hs.2.1 e dr).trans he;refine wpAny_bind (wpAny_newObj_type ?_ (aD.sizeOk5 _ _ _ _ _));refine wpAny_setField (Heap.get?_push_of_some _ e1) rfl h1 ?_;have ne:cH.objs.size≠e:=Nat.ne_of_gt (Heap.lt_size e1);refine h _ cH.objs.size (Nat.le_of_eq hs.1.symm) ?_ ⟨ne,⟨vs.setIfInBounds 1 (.ref cH.objs.size),?_,by simp [h1]⟩,?_⟩
 ·exact (((Kp.slots hs).mono (ch':=[e]) (fun _ z=>z) (fun _ z=>nomatch z)).trans (Kp.pushed _)).trans (Kp.field (Heap.get?_push_of_some _ e1) rfl _)
 ·exact Heap.get?_update_self _ (Heap.get?_push_of_some _ e1) rfl
 ·refine ⟨_,_,(Heap.get?_update_other _ _ (Ne.symm ne)).trans (Heap.get?_push_size _ rfl),rfl,?_⟩;rcases aD with rfl | ⟨_,_,_,_,_,_,_,rfl⟩ <;> simp
theorem V7 (hfr:A.frames=some (env::outer)) (hl:s.heap.FunFrames base (env::outer)) (hf:env.frame=some L) (he:s.heap.get? e=some (Tr C dx vs)) (h1:vs[1]? = some .none) (dr:e∉frs (env::outer))
  (h:∀ h' T,s.heap.objs.size<=T->Kp (frs (env::outer)) [e] s.heap h'->XAt h' e C dx T (rawInt L)->Q () { s with heap:=h' }):wpAny M A (noteFrame (.ref e) env) Q E s:=by
 unfold noteFrame;simp only [hf];refine wpAny_bind (wpAny_field he rfl h1 ?_);rw [if_neg (by decide)];exact Jr hfr hl hf he (Array.getElem?_eq_some_iff.mp h1).1 dr h
theorem Xk (hfr:A.frames=some (env::outer)) (hl:s.heap.FunFrames base (env::outer)) (hf:env.frame=some L) (x:XAt s.heap e C dx T .none) (dr:e∉frs (env::outer)) (ia:T∉frs (env::outer))
  (h:∀ h' T',s.heap.objs.size<=T'->Kp (frs (env::outer)) [e,T] s.heap h'->XAt h' e C dx T' (rawInt L)->Q () { s with heap:=h' }):wpAny M A (noteFrame (.ref e) env) Q E s:=by
 obtain ⟨ne,⟨vs,he,h1⟩,o,ts,hT,hd,h3⟩:=x;have k1:Kp (frs (env::outer)) [T] s.heap (s.heap.update T (Obj.mapFields (·.setIfInBounds 3 Value.none))):=Kp.field hT hd _;unfold noteFrame;simp only [hf];refine wpAny_bind (wpAny_field he rfl h1 ?_);rw [if_pos (show (Value.ref T != Value.none)=true from by simp)];refine wpAny_bind (wpAny_field hT hd h3 ?_);rw [if_neg (show ¬ ((Value.none==rawInt L)=true) from by simp [rawInt])];refine wpAny_bind (wpAny_setField hT hd (Array.getElem?_eq_some_iff.mp h3).1 ?_);have cG:(s.heap.update T (Obj.mapFields (·.setIfInBounds 3 Value.none))).get? e=some (Tr C dx vs):=(Heap.get?_update_other _ _ ne).trans he;refine Jr (base:=base) hfr (hl.of_keeps fun b u q nf=>?_) hf cG (Array.getElem?_eq_some_iff.mp h1).1 dr fun h' T' hz k2 x=>h h' T' (Nat.le_trans k1.size hz) ((k1.mono (fun _ z=>z) (by simp)).trans (k2.mono (fun _ z=>z) (by simp))) x;refine ⟨u,?_,rfl⟩;have:T≠b:=fun z=>by subst z; rw [hT] at q; cases q; exact nf ts hd
 rw [Heap.get?_update_other _ _ this]; exact q
theorem G4 (x:XAt s.heap e C dx T fl) (h:∀ h',Kp [] [T] s.heap h'->XAt h' e C dx T .none->Q () { s with heap:=h' }):wpAny M A (setFlight (.ref e) none) Q E s:=by
 obtain ⟨ne,⟨vs,he,h1⟩,o,ts,hT,hd,h3⟩:=x;have z3:=(Array.getElem?_eq_some_iff.mp h3).1;unfold setFlight;refine wpAny_bind (wpAny_field he rfl h1 ?_);rw [if_pos (show (Value.ref T != Value.none)=true from by simp)];refine wpAny_setField hT hd z3 (h _ (Kp.field hT hd _) ⟨ne,⟨vs,(Heap.get?_update_other _ _ ne).trans he,h1⟩,_,_,Heap.get?_update_self _ hT (Obj.isFreed_of_fields (Obj.data_mapFields hd _)),Obj.data_mapFields hd _,by simp [z3]⟩)
end
end L2
end
section
namespace My
open PySem PySem.W PySem.Calls PyProof.Rows PySem.Spec Builtin.ObjectAttr
section
variable {prog:Program} {w:World} {A:Around} {E:Value->Shared->Prop} {s:Shared} {K:Frag} {x C D t:Addr} {cd:ClassData} {name:Str} {v:Value}
theorem a0n {Q:Unit->Shared->Prop} (X:K.In s.heap) (hx:s.heap.get? x=some (Wc C t))
  (hs:findIn K (.ref C) "__setattr__" = some (some (.builtin "object.__setattr__"))) (hc:clsIn K C=some cd) (hm:cd.mro=.ref C :: .ref D::vB) (hd:cd.hasDict=true)
  (ho:mroIn K C (.type "object")=some true) (ha:findIn K (.ref C) name=some none)
  (h:∀ h',(∀ b o,b≠x->s.heap.get? b=some o->h'.get? b=some o)->h'.get? x=some (a0k C t s.heap.objs.size)->h'.get? s.heap.objs.size=some (dictOf [⟨PyData.keyHash w.params name,.str name (s.toks+1),v⟩] 1)->Q () { s with heap:=h',toks:=s.toks+2 }) :
  wpAny (model prog w) A (setAttr (.ref x) name v) Q E s:=by
 have I:InstAt s.heap x (Wc C t) C none:=⟨hx,rfl,rfl,trivial⟩;refine set_plain X I hs ?_;have SF:=PySem.F.store_object;have sub:Looks (model prog w) s.heap (isInstance (.ref x) (.type "object")) true:=I.type.andThen (looks_mroIn X ho);refine codeAny_call_builtin SF.slot.plain SF.entry (@check_slot (model prog w) _ _ _ "object.__setattr__" "object" "__setattr__" (.ref x) [.str name s.toks,v] [] _ SF.kind SF.split sub (SF.args (.ref x) (.str name s.toks) v) ?_);have fR:Looks (model prog w) s.heap (mroOf (.ref C)) cd.mro:=(looks_clsIn X hc).andThen .now;rw [osa_eq,refuse_eq];refine wpAny_bind (wpAny_bind (I.type _ _ _ _ (fun _ _ e=>e) (wpAny_bind (fR _ _ _ _ (fun _ _ e=>e) ?_))));rw [hm,refuseLoop_ref,refuseLoop_ref,adv];refine wpAny_pure (wpAny_bind (I.type _ _ _ _ (fun _ _ e=>e) (wpAny_bind (looks_findIn X ha _ _ _ _ (fun _ _ e=>e) (wpAny_bind (wpAny_pure ?_))))));dsimp only;refine wpAny_bind (wpAny_pure (wpAny_bind (wpAny_bind (wpAny_loadPart hx (wpAny_bind (looks_clsIn X hc _ _ _ _ (fun _ _ e=>e) ?_))))));rw [hd];show wpAny _ _ (alloc { cls:=.type "dict",data:=.dict #[] } >>= fun dx=>update x (fun o=>{ o with dict:=some dx }) >>= fun _=>dictMade (.ref C) x dx) _ _ _;have lx:x<s.heap.objs.size:=Heap.lt_size hx;have g1:=Heap.get?_push_of_some (h:=s.heap) (dictOf [] 0) hx;have g2:((s.heap.push (dictOf [] 0)).update x (fun o=>{ o with dict:=some s.heap.objs.size })).get? x=some (a0k C t s.heap.objs.size):=Heap.get?_update_self _ g1 rfl;have g3:((s.heap.push (dictOf [] 0)).update x (fun o=>{ o with dict:=some s.heap.objs.size })).get? s.heap.objs.size=some (dictOf [] 0):=(Heap.get?_update_other _ _ (Nat.ne_of_lt lx)).trans (Heap.get?_push_size _ rfl);refine wpAny_bind (wpAny_alloc (wpAny_bind (wpAny_update g1 ?_)));refine wpAny_pure (a:=some s.heap.objs.size) (wpAny_bind (wpAny_pure (wpAny_bind ?_)));unfold nsSet;refine wpAny_bind (wpAny_bind (wpAny_askSetting (wpAny_pure (wpAny_bind (wpAny_mkText (wpAny_bind (wpAny_loadPart g3 ?_)))))));have c:aRefKeyMayBeTheName name [].toArray=false:=by rw [aRefKeyMayBeTheName_at]; simp
 show wpAny _ _ (if aRefKeyMayBeTheName name [].toArray=true then _ else _) _ _ _;rw [c];refine wpAny_updatePart g3 ?_;have g4:=Heap.get?_update_self (Obj.putName name (PyData.keyHash w.params name) (.str name (s.toks+1)) v) g3 (by rw [putName_dict]; rfl);refine wpAny_bind (wpAny_lookBehind g4 (pastItsLine_dict (by rw [List.size_toArray,sizeLine_eq]; show 1<=_; decide)) ?_);refine wpAny_pure (h _ (fun b o nb q=>?_) ?_ ?_)
 ·have l:=Heap.lt_size q;rw [Heap.get?_update_other _ _ (Nat.ne_of_gt l),Heap.get?_update_other _ _ (Ne.symm nb)];exact Heap.get?_push_of_some _ q
 ·rw [Heap.get?_update_other _ _ (Nat.ne_of_gt lx)]; exact g2
 ·exact g4
end
end My
end
section
namespace L2
open PySem PySem.Spec PyProof.Rows
structure XC (K:PySem.W.Frag) (C D fI:Addr) (f:Str):Prop where
 lk:∃ nm q Na bs sn sub ab col dd k0 k1 k2 k3 k5,K.lookup C=some (excClassObj nm q C Na bs (.ref D::My.vB) true sn sub ab col dd k0 k1 k2 k3 k5 "ValueError.__new__")
 base:PySem.W.excIn K D My.vB "ValueError.__new__" = true
 init:PySem.W.findIn K (.ref C) "__init__" = some (some (.ref fI))
 fn:PySem.W.isFn K (.ref fI)=true
 sa:PySem.W.findIn K (.ref C) "__setattr__" = some (some (.builtin "object.__setattr__"))
 ob:PySem.W.mroIn K C (.type "object")=some true
 na:PySem.W.findIn K (.ref C) f=some none
 kp:PySem.W.keepIn K (.ref C)=true
def ac8 (e C t:Addr):HO:=.ext fun h=>h.get? e=some (My.Wc C t)
def Xr (e C t dx:Addr):HO:=.ext fun h=>h.get? e=some (My.a0k C t dx)
noncomputable def Bp (dx:Addr) (f:Str) (v:V):HO:=.ext fun h=>∃ hs tk u,RelV v u/\h.get? dx=some (PySem.W.dictOf [⟨hs,.str f tk,u⟩] 1)
theorem a3s {P:Program} {w:World} {H:Hp} {h:Heap} {a:Addr} {o:Obj} (e:h.get? a=some o):qu P w H h a (.ext fun h=>h.get? a=some o):=⟨e,⟨_,e⟩,fun _ _ q k=>k _ q⟩
theorem a0g {P:Program} {w:World} {H:Hp} {h:Heap} {dx:Addr} {f:Str} {v:V} {hs:Int} {tk:Tok} {u:Value} (r:RelV v u) (e:h.get? dx=some (PySem.W.dictOf [⟨hs,.str f tk,u⟩] 1)):qu P w H h dx (Bp dx f v) :=
 ⟨⟨hs,tk,u,r,e⟩,⟨_,e⟩,fun _ _ ⟨a,b,c,r,q⟩ k=>⟨a,b,c,r,k _ q⟩⟩
section
variable {X:Cx} {pins:List (Addr × Obj)} {σ:St} {H:Hp} {s:Shared} {e C D fI t:Addr} {f:Str} {v:V} {u:Value} {A:Around} {E:Value->Shared->Prop}
theorem Inv.abm {h':Heap} {dx:Addr} {o p:HO} {t':Nat} (I:Inv X pins σ H s) (he:Mut (H e)) (hz:s.heap.objs.size<=dx) (k:∀ b u,b≠e->s.heap.get? b=some u->h'.get? b=some u) (fS:∃ u,h'.get? e=some u)
  (n1:∀ H',qu X.prog X.w H' h' e o) (n2:∀ H',qu X.prog X.w H' h' dx p):Inv X pins σ (upd (upd H dx p) e o) { s with heap:=h',toks:=t' }:=by
 have eQ:H dx=none:=I.hok.fresh hz;have ne:dx≠e:=fun z=>by subst z; rw [eQ] at he; exact he
 have nb:∀ b,H b=none->b≠e:=fun b n z=>by subst z; rw [n] at he; exact he
 have ns:∀ b u,s.heap.get? b=some u->b≠dx:=fun b u q z=>by subst z; exact absurd (Nat.lt_of_lt_of_le (Heap.lt_size q) hz) (Nat.lt_irrefl _)
 have nm:∀ b u,H b=some u->¬ Mut (some u)->b≠e/\b≠dx:=fun b u q n=>⟨fun z=>by subst z; rw [q] at he; exact n he,fun z=>by subst z; rw [eQ] at q; cases q⟩;have up:∀ b,b≠e->b≠dx->upd (upd H dx p) e o b=H b:=fun b n m=>by rw [d9 n,d9 m]
 refine I.un (t':=t') ⟨fun b u q n _ _=>k b u (nb b n) q,fun b u q n _ _=>⟨u.slots,k b u (nb b n) q⟩,fun b u q n _=>by rw [up b (nb b n) (ns b u q)]; exact n,fun b u q _=>?_,
  fun b xs q=>?_,fun b u xs q=>?_,fun b ps q=>⟨#[],?_⟩⟩ fun b u q=>?_
 ·by_cases z:b=e
  ·subst z; exact fS
  ·exact ⟨u,k b u z q⟩
 ·obtain ⟨a,c⟩:=nm b _ q fun z=>z;rw [up b a c]; exact q
 ·obtain ⟨a,c⟩:=nm b _ q fun z=>z;rw [up b a c]; exact q
 ·obtain ⟨a,c⟩:=nm b _ q fun z=>z;rw [up b a c,q]; simp
 ·by_cases z:b=e
  ·subst z; rw [d8] at q; cases q; exact n1 _
  ·rw [d9 z] at q
   by_cases y:b=dx
   ·subst y; rw [d8] at q; cases q; exact n2 _
   ·rw [d9 y] at q;refine (I.hok b u q).stay (fun c w hc r=>k c w ?_ r) (fun c r=>?_) fun c xs r=>?_
    ·rcases hc with hc | hc
     ·rw [hc]; exact z
     ·exact (nm c _ hc fun z=>z).1
    ·obtain ⟨a,d⟩:=nm c _ r fun z=>z;rw [up c a d]; exact r
    ·obtain ⟨a,d⟩:=nm c _ r fun z=>z;rw [up c a d]; exact r
theorem Yx {Q:Unit->Shared->Prop} (c:XC X.K C D fI f) (I:Inv X pins σ H s) (e0:H e=some (ac8 e C t)) (r:RelV v u)
  (h:∀ s' dx,H dx=none->dx≠e->Inv X pins σ (upd (upd H dx (Bp dx f v)) e (Xr e C t dx)) s'->Q () s'):wpAny (model X.prog X.w) A (setAttr (.ref e) f u) Q E s:=by
 obtain ⟨nm,q,Na,bs,sn,sub,ab,col,dd,k0,k1,k2,k3,k5,lk⟩:=c.lk;have hx:s.heap.get? e=some (My.Wc C t):=(I.hok e _ e0).1;refine My.a0n (cd:={ name:=nm,bases:=bs,mro:=.ref C :: .ref D::My.vB,ns:=Na,qualname:=q,hasDict:=true,slotNames:=sn,subclasses:=sub,abstract:=ab,collection:=col,hasDel:=false }) I.kIn hx c.sa (by unfold PySem.W.clsIn; rw [lk]) rfl rfl c.ob c.na fun h' k g1 g2=>h _ s.heap.objs.size (I.hok.fresh (Nat.le_refl _)) (Nat.ne_of_gt (Heap.lt_size hx)) ?_;exact I.abm (by rw [e0]; exact True.intro) (Nat.le_refl _) k ⟨_,g1⟩ (fun _=>a3s g1) fun _=>a0g r g2
end
noncomputable def adz (C:Addr) (f:Str) (ta tv:TE):TS:=fun D σ H=>tv σ H fun v H1=>ta σ H1 fun x H2=>∃ e t,x=.ref e/\H2 e=some (ac8 e C t)/\∀ dx,H2 dx=none->dx≠e->D.nx σ (upd (upd H2 dx (Bp dx f v)) e (Xr e C t dx))
noncomputable def Mv (C:Addr) (f:Str):Sp:=fun vs H Q _=>∃ e t v,vs=[.ref e,v]/\H e=some (ac8 e C t)/\∀ dx,H dx=none->dx≠e->Q .non (upd (upd H dx (Bp dx f v)) e (Xr e C t dx))
section
variable {X:Cx} {o value:Expr} {ta tv:TE} {f:Str} {pos pos':Pos} {C D fI:Addr}
theorem a65 (c:XC X.K C D fI f) (ha:PE X o ta) (hv:PE X value tv) (hs:swapsWith value (some (.Attribute o f pos')) pos.line X.env=pure false):PS X (.Assign [.Attribute o f pos'] value pos) (adz C f ta tv):=by
 intro pins s σ H D I h;refine plainObj_wpAny_Assign_Attribute (thn (hv pins s σ H _ I h) fun u s1 ⟨y,H1,I1,ry,q⟩=>thn (ha pins s1 σ H1 _ I1 q) fun ov s2 ⟨x,H2,I2,rx,e,t,ex,e0,q2⟩=>?_) hs;subst ex;obtain rfl:ov=Value.ref e:=rx;exact Yx c I2 e0 ry fun s3 dx h1 h2 I3=>⟨σ,_,I3,q2 dx h1 h2⟩
end
section
variable {P:Program} {w:World} {K:PySem.W.Frag} {mg:Str->Option Value} {base:Heap}
theorem Rm {qual p f:Str} {st:Stmt} {C D fI:Addr} {fd:FuncData} {q1 q2 q3 q4:Pos} (c:XC K C D fI f) (F:Fun K "__init__" qual st fI fd) (S:zp ["self",p] ["self",p] (f9 st))
  (hb:u9 st=[.Assign [.Attribute (.Name "self" q1) f q2] (.Name p q3) q4]) (h1:(f9 st).names.lookup ("self" : Str)=some .local) (h2:(f9 st).names.lookup p=some .local) (hp:("self" : Str)≠p) (hd:(p==("__debug__" : Str))=false) (aR:(p==("__classdict__" : Str))=false)
  (bS:∀ env:Env,swapsWith (.Name p q3) (some (.Attribute (.Name "self" q1) f q2)) q4.line env=pure false) :
  Aw P w K mg base CX0 1 fI fd ["self",p] (Mv C f):=by
 refine F.ok S (fun vs H Q E ⟨e,t,v,h,_⟩=>by rw [h]; rfl) fun az A outer s H vs Q E hr ⟨e,t,v,h,h0,h3⟩=>?_;subst h;rw [hb];refine ⟨_,Ld (a65 (C:=C) (D:=D) (fI:=fI) c (Xh (i:=0) rfl (.inl h1)) (Xh (i:=1) rfl (.inl h2) hd aR) (bS _)),?_⟩;exact ⟨v,rfl,.ref e,rfl,e,t,rfl,h0,h3⟩
end
section
variable {X:Cx} {pins:List (Addr × Obj)} {σ:St} {H:Hp} {s:Shared} {C D fI:Addr} {f p:Str} {v:V} {u:Value} {E:Value->Shared->Prop} {fd:FuncData}
theorem a6x {Q:Value->Shared->Prop} (c:XC X.K C D fI f) (F:Aw X.prog X.w X.K X.mg X.base CX0 1 fI fd ["self",p] (Mv C f)) (hr:xu 2 X.A) (hb:Binds X.K fd ["self",p] []) (I:Inv X pins σ H s) (r:RelV v u)
  (h:∀ s' e t dx,H e=none->H dx=none->dx≠e->s.heap.objs.size<=e->Inv X pins σ (upd (upd H dx (Bp dx f v)) e (Xr e C t dx)) s'->Q (.ref e) s'):wpAny (model X.prog X.w) X.A (call (.ref C) [u]) Q E s:=by
 obtain ⟨nm,q,Na,bs,sn,sub,ab,col,dd,k0,k1,k2,k3,k5,lk⟩:=c.lk;have hC:=I.kIn _ _ lk;have f1:=tc_lookup;have f2:=tc_bind (.ref C);have I1:Inv X pins σ H { s with heap:=s.heap.push (My.a4d [u]) }:=I.kept (t':=s.toks) fun b o z=>Heap.get?_push_of_some _ z;have z1:(s.heap.push (My.a4d [u])).objs.size=s.heap.objs.size+1:=Heap.size_push ..
 have g1:((s.heap.push (My.a4d [u])).push (My.Wc C s.heap.objs.size)).get? (s.heap.objs.size+1)=some (My.Wc C s.heap.objs.size):=by
  rw [<- z1]; exact Heap.get?_push_size _ rfl
 have I2:Inv X pins σ (upd H (s.heap.objs.size+1) (ac8 (s.heap.objs.size+1) C s.heap.objs.size)) { s with heap:=(s.heap.push (My.a4d [u])).push (My.Wc C s.heap.objs.size) } :=
  I1.laid (t':=s.toks) (fun b o z=>Heap.get?_push_of_some _ z) (by show (s.heap.push (My.a4d [u])).objs.size<=_; rw [z1]; exact Nat.le_refl _) (a3s g1)
 have hE:H (s.heap.objs.size+1)=none:=I.hok.fresh (Nat.le_succ _);have r2:Vals [V.ref (s.heap.objs.size+1),v] [Value.ref (s.heap.objs.size+1),u]:=.cons rfl (.cons r .nil);obtain ⟨hh,g,d,tk,os⟩:=s;have hT:(⟨hh,g,d,tk,os⟩:Shared).TypeIs (.ref C) "type" := ⟨_,hC,rfl⟩;refine wpAny_call (codeAny_of_tree ?_);show wpAny _ _ (callAny (.ref C) _) _ _ _
 repeat (any_goals (first | assumption | with_reducible refine wpAny_loadPart_at hC ?_ | wp_step)) -- here
 refine ⟨rfl,?_⟩
 refine codeAny_call_builtin_at (Code.quiet_builtin _ (by decide +kernel)) entry_typeCall (wpAny_check_type_call_sub hC (My.Jc I.kIn hC (My.ae7 I.kIn c.base) c.init (beq_iff_eq.mp c.fn) (wpAny_call (codeAny_mono
  (F.run _ X.stack _ _ ⟨[Value.ref (hh.objs.size+1),u],[]⟩ [Value.ref (hh.objs.size+1),u] _ (fun w H'=>w=.non/\∃ dx,H dx=none/\dx≠hh.objs.size+1/\H'=upd (upd H dx (Bp dx f v)) (hh.objs.size+1) (Xr (hh.objs.size+1) C hh.objs.size dx)) (fun _ _ _=>False) (hr.make C [u] []) (I2.env0.make C [u] [])
   (hb _ [Value.ref (hh.objs.size+1),u] I2.kIn rfl) r2 ⟨_,_,v,rfl,d8,fun dx h1 h2=>⟨rfl,dx,by rw [d9 h2] at h1; exact h1,h2,?_⟩⟩) fun r s' hq=>?_)) (by show 1<=sizeLine; rw [sizeLine_eq]; decide)))
 ·funext b
  by_cases e1:b=hh.objs.size+1
  ·subst e1; rw [d8,d8]
  ·rw [d9 e1,d9 e1]
   by_cases e2:b=dx
   ·subst e2; rw [d8,d8]
   ·rw [d9 e2,d9 e2,d9 e1]
 ·cases r with
  | error e=>exact False.elim hq
  | ok fl =>
   cases fl with
   | ret u' =>
    obtain ⟨v',H',I3,rv,⟨ev,dx,h1,h2,e3⟩⟩:=I2.after hq;subst ev;subst e3;exact ⟨rv,h s' _ _ dx hE h1 h2 (Nat.le_succ _) I3⟩
   | next=>exact False.elim hq
   | brk=>exact False.elim hq
   | cont=>exact False.elim hq
end
noncomputable def CXx (P:Program) (w:World):CXT:=fun outer H s E e s'=>∃ a C dx T H',e=.ref a/\s.heap.objs.size<=a/\s.heap.objs.size<=T/\XAt s'.heap a C dx T .none/\H' a=none/\H' T=none /\
 s'.os=s.os/\AllBare s'.gens/\Un (frs outer) [] H H' s.heap s'.heap/\HOk P w H' s'.heap/\E (.ref C) (some dx) H'
section
variable {X:Cx} {pins:List (Addr × Obj)} {σ:St} {H:Hp} {s:Shared}
theorem Inv.noted {h':Heap} {ch:List Addr} (I:Inv X pins σ H s) (k:Kp (frs X.stack) ch s.heap h') (hn:∀ b∈ch,H b=none)
  (aL:∀ b∈ch,(b∈X.ex\/X.s₀.heap.objs.size<=b)/\b≠X.env.locals/\(∀ x c,X.env.cells.lookup x=some c->c≠b)/\∀ p∈X.pn++pins,p.1≠b):Inv X pins σ H { s with heap:=h' }:=by
 refine I.step (g':=s.gens) (d':=s.drawn) (t':=s.toks) (ch:=ch) aL (fun b o hL hb hc e n=>k.keep b o e (fun z=>(List.mem_cons.mp (I.Ou b z)).elim hL hb) hc) (fun b o _ _ hc e _=>k.slot b o e hc) (fun _ _ _ _ n=>n)
  (fun b o _ e=>k.there b o e) (fun _ _ e=>e) (fun _ _ _ e=>e) (fun b ps e=>⟨#[],by rw [e]; simp⟩) (fun m hm=>?_) (fun b u e=>?_) I.bare
 ·obtain ⟨o,es,ep,ho,r⟩:=hm;obtain ⟨sl,q⟩:=k.slot _ o ho fun z=>(aL _ z).2.1 rfl;exact ⟨_,es,ep,q,r⟩
 ·have tr:∀ c x,H c=some x->c∉frs X.stack/\c∉ch:=fun c x q=>⟨(fun z=>by rw [I.Ph c z] at q; cases q),(fun z=>by rw [hn c z] at q; cases q)⟩;refine (I.hok b u e).stay (fun c v hc q=>?_) (fun _ q=>q) fun _ _ q=>q;rcases hc with hc | hc
  ·subst hc; exact k.keep c v q (tr c u e).1 (tr c u e).2
  ·exact k.keep c v q (tr c _ hc).1 (tr c _ hc).2
theorem Inv.Jt {e:Addr} {o:Obj} {vs:Array Value} (I:Inv X pins σ H s) (he:s.heap.get? e=some o) (hd:o.data=.fields vs):e≠X.env.locals/\(∀ x c,X.env.cells.lookup x=some c->c≠e)/\e∉frs X.stack:=by
 refine ⟨fun z=>?_,fun x c q z=>?_,fun z=>?_⟩
 ·obtain ⟨m,⟨o',es,ep,aO,hd',_⟩,_⟩:=I.loc;rw [<- z,he] at aO; cases aO; rw [hd'] at hd; cases hd
 ·obtain ⟨v,o',aO,hd'⟩:=I.cell x c q;rw [z,he] at aO; cases aO; rw [hd'] at hd; cases hd
 ·obtain ⟨_,o',aO,hnf⟩:=I.stack.mem z;rw [he] at aO; cases aO; exact hnf vs hd
end
section
variable {P:Program} {w:World} {K:PySem.W.Frag} {mg:Str->Option Value} {base:Heap} {N:List Str} {qual:Str} {scope:Scope} {f:Addr} {cd:Value} {A:Around} {outer:List Env} {s₀ s:Shared} {H₀ H:Hp} {E:XK} {pins:List (Addr × Obj)} {σ:St} {e C dx:Addr} {vs:Array Value}
theorem a0p (I:Inv (Pg (CXx P w) P w K mg base N qual scope f cd A outer s₀ H₀ E) pins σ H s) (he:s.heap.get? e=some (Tr C dx vs)) (h1:vs[1]? = some .none) (hn:H e=none) (hz:s₀.heap.objs.size<=e) (hE:E (.ref C) (some dx) H) :
  (Pg (CXx P w) P w K mg base N qual scope f cd A outer s₀ H₀ E).xe (.ref e) s:=by
 have I0:=I.G3 (pins':=[]) (fun p hp=>nomatch hp);have ne:=I0.Jt he rfl;show wpAny _ _ (leaving _ _) _ _ _;unfold leaving;refine wpAny_bind (V7 (L:=s₀.heap.objs.size) (base:=base) I0.ok.frames I0.stack rfl he h1 ne.2.2 fun h' T hT k x=>?_)
 have I1:=I0.noted k (fun b hb=>by rw [List.mem_singleton.mp hb]; exact hn) fun b hb=>by
  obtain rfl:=List.mem_singleton.mp hb;exact ⟨.inr hz,ne.1,ne.2.1,fun p hp=>nomatch hp⟩
 have eL:H T=none:=I0.hok.fresh hT;obtain ⟨oT,tsT,gT,dT,_⟩:=x.tb;have neT:=I1.Jt (s:={ s with heap:=h' }) gT dT;have sz:s₀.heap.objs.size<=T:=Nat.le_trans I0.sz hT;refine G4 (s:={ s with heap:=h' }) x fun h2 k2 x2=>?_
 have I2:=I1.noted (h':=h2) (k2.mono (fun _ z=>nomatch z) (fun _ z=>z)) (fun b hb=>by rw [List.mem_singleton.mp hb]; exact eL) fun b hb=>by
  obtain rfl:=List.mem_singleton.mp hb;exact ⟨.inr sz,neT.1,neT.2.1,fun p hp=>nomatch hp⟩
 exact ⟨e,C,dx,T,H,rfl,hz,sz,x2,hn,eL,I2.os,I2.bare,I2.base,I2.hok,hE⟩
end
section
variable {X:Cx} {pins:List (Addr × Obj)} {σ:St} {H:Hp} {s:Shared} {e:Addr}
theorem Inv.a7z {φ:Heap->Prop} (I:Inv X pins σ (upd H e (.ext φ)) s) (hn:H e=none):Inv X pins σ H s:=by
 have ne:∀ b u,upd H e (.ext φ) b=some u->(∀ ψ,u≠.ext ψ)->b≠e/\H b=some u:=fun b u q n=>by
  by_cases z:b=e
  ·subst z; rw [d8] at q; cases q; exact absurd rfl (n _)
  ·rw [d9 z] at q; exact ⟨z,q⟩
 have fr:∀ b,upd H e (.ext φ) b=none->H b=none:=fun b q=>by
  by_cases z:b=e
  ·subst z; exact hn
  ·rw [d9 z] at q; exact q
 refine I.step (g':=s.gens) (d':=s.drawn) (t':=s.toks) (h':=s.heap) (ch:=[]) (fun _ z=>nomatch z) (fun b o _ _ _ q _=>q) (fun b o _ _ _ q _=>⟨o.slots,q⟩) (fun b o _ _ n=>fr b n) (fun b o _ q=>⟨o,q⟩)
  (fun b xs q=>(ne b _ q (fun _=>by intro z; cases z)).2) (fun b o u q=>(ne b _ q (fun _=>by intro z; cases z)).2) (fun b ps q=>⟨#[],by rw [(ne b _ q (fun _=>by intro z; cases z)).2]; simp⟩) (fun _ hm=>hm) (fun b u q=>?_) I.bare
 have z:b≠e:=fun z=>by subst z; rw [hn] at q; cases q
 refine (I.hok b u (by rw [d9 z]; exact q)).stay (fun _ _ _ r=>r) (fun c r=>(ne c _ r (fun _=>by intro z; cases z)).2) fun c xs r=>(ne c _ r (fun _=>by intro z; cases z)).2
end
def XW (X:Cx) (E:XK):Prop:=∀ (pins:List (Addr × Obj)) (σ:St) (H:Hp) (s:Shared) (e C dx:Addr) (vs:Array Value),Inv X pins σ H s->s.heap.get? e=some (Tr C dx vs)->vs[1]? = some .none->H e=none->X.s₀.heap.objs.size<=e->E (.ref C) (some dx) H->X.xe (.ref e) s
theorem Vb {P:Program} {w:World} {K:PySem.W.Frag} {mg:Str->Option Value} {base:Heap} {N:List Str} {qual:Str} {scope:Scope} {f:Addr} {cd:Value} {A:Around} {outer:List Env} {s₀:Shared} {H₀:Hp} {E:XK} :
  XW (Pg (CXx P w) P w K mg base N qual scope f cd A outer s₀ H₀ E) E:=fun _ _ _ _ _ _ _ _ I he h1 hn hz hE=>a0p I he h1 hn hz hE
section
variable {M:Model} {A:Around} {E:Value->Shared->Prop} {env:Env}
variable {nm q:Str} {C N:Addr} {bs bm:List Value} {hdct:Bool} {sn:List Str} {sub:List Value} {ab:Bool} {col:Option Bool} {dd:Option Addr} {k0 k1 k2 k3 k5:Option Value} {newId:String}
theorem Zq {s:Shared} {x:Sem Value} {Q:Flow->Shared->Prop} (bC:bm.contains (.type "BaseException")=true) (hh:A.handled=none)
  (h:wpAny M A x (fun v s1=>∃ e dx vs,v=.ref e/\s1.heap.get? C=some (excClassObj nm q C N bs bm hdct sn sub ab col dd k0 k1 k2 k3 k5 newId)/\s1.heap.get? e=some (Tr C dx vs)/\vs[1]? = some .none/\E (.ref e) s1) E s) :
  wpAny M A (raiseStmt env (some x) none) Q E s:=by
 have gC:(Value.ref C::bm).contains (.type "BaseException")=true:=by rw [List.contains_cons,bC,Bool.or_true]
 unfold raiseStmt;refine wpAny_bind (wpAny_mono h (fun v s1 h1=>?_) fun _ _ x=>x);obtain ⟨e,dx,vs,rfl,hC,he,hv,hE⟩:=h1;obtain ⟨hp,g,d,tk,os⟩:=s1
 repeat (first | with_reducible refine wpAny_loadPart_at he ?_ | with_reducible refine wpAny_loadPart_at hC ?_ | (with_reducible refine wpAny_isSubtype_exc hC ?_; rw [gC]) | wp_step)
 rw [hv];exact wpAny_pure (wpAny_pure (wpAny_raiseNew_none hh hE))
end
noncomputable def sRz (C:Addr) (f:Str) (E:XK) (te:TE):TS:=fun _ σ H=>te σ H fun v H1=>∀ dx,H1 dx=none->E (.ref C) (some dx) (upd H1 dx (Bp dx f v))
section
variable {X:Cx} {E:XK} {C D fI:Addr} {f p x:Str} {fd:FuncData} {arg:Expr} {te:TE} {np ay pos:Pos}
theorem a2t (W:XW X E) (c:XC X.K C D fI f) (F:Aw X.prog X.w X.K X.mg X.base CX0 1 fI fd ["self",p] (Mv C f)) (hr:xu 2 X.A) (hb:Binds X.K fd ["self",p] []) (hg:Gl X x) (hm:X.mg x=some (.ref C)) (ha:PE X arg te)
  (aJ:(x==("__debug__" : Str))=false:=by decide) (he:starEach [arg] X.env=[(false,eval arg X.env)]:=by rfl) :
  PS X (.Raise (some (.Call (.Name x np) [arg] [] ay)) none pos) (sRz C f E te):=by
 intro pins s σ H Dn I h;obtain ⟨nm,q,Na,bs,sn,sub,ab,col,dd,k0,k1,k2,k3,k5,lk⟩:=c.lk;rw [arm_exec_Raise];refine wpAny_bind (wpAny_standAt ?_);show wpAny _ _ (raiseStmt X.env (some (eval (.Call (.Name x np) [arg] [] ay) X.env >>= fun v=>standAt pos >>= fun _=>pure v)) none) _ _ _;refine Zq (C:=C) (nm:=nm) (q:=q) (N:=Na) (bs:=bs) (bm:=.ref D::My.vB) (hdct:=true) (sn:=sn) (sub:=sub) (ab:=ab) (col:=col) (dd:=dd) (k0:=k0) (k1:=k1) (k2:=k2) (k3:=k3) (k5:=k5) (newId := "ValueError.__new__") (by simp) hr.hd ?_;refine wpAny_bind (wpAny_mono (Q:=fun v s1=>∃ e dx vs,v=.ref e/\s1.heap.get? C=some (excClassObj nm q C Na bs (.ref D::My.vB) true sn sub ab col dd k0 k1 k2 k3 k5 "ValueError.__new__")/\s1.heap.get? e=some (Tr C dx vs)/\vs[1]? = some .none/\X.xe (.ref e) s1) ?_ (fun v s1 h1=>wpAny_bind (wpAny_standAt (wpAny_pure h1))) fun _ _ z=>z);refine wpAny_Call_Name_kw (Iw I hg hm ?_ aJ);refine PySem.W.callWith_K (h₀:=X.base) I.ok.mod.kin c.kp (thn (mq ha xr (by rw [he]; rfl) ay pins s σ H (fun vs H1=>match vs with | [v]=>∀ dx,H1 dx=none->E (.ref C) (some dx) (upd H1 dx (Bp dx f v)) | _=>False) I h) fun us s1 ⟨vs,H1,I1,r,q⟩=>⟨I1.kIn,?_⟩) he rfl
 obtain ⟨v,ev,hE⟩:∃ v,vs=[v]/\∀ dx,H1 dx=none->E (.ref C) (some dx) (upd H1 dx (Bp dx f v)):=by
  match vs,q with
  | [v],q=>exact ⟨v,rfl,q⟩
 subst ev;obtain ⟨u,eu,rv⟩:=r.one;subst eu
 exact a6x c F hr hb I1 rv fun s' e t dx h1 h2 h3 h4 I2=>by
  have e0:upd H1 dx (Bp dx f v) e=none:=by rw [d9 (Ne.symm h3)]; exact h1
  have cG:s'.heap.get? e=some (My.a0k C t dx):=(I2.hok e _ d8).1;have I3:=I2.a7z e0;exact ⟨e,dx,_,rfl,I3.kIn _ _ lk,cG,rfl,W pins σ _ s' e C dx _ I3 cG rfl e0 (Nat.le_trans I1.sz h4) (hE dx h2)⟩
end
def Off (X:Cx) (pins:List (Addr × Obj)) (b:Addr):Prop:=(b∈X.ex\/X.s₀.heap.objs.size<=b)/\b≠X.env.locals/\(∀ x c,X.env.cells.lookup x=some c->c≠b)/\∀ p∈X.pn++pins,p.1≠b
section
variable {X:Cx} {pins:List (Addr × Obj)} {σ:St} {H:Hp} {s:Shared}
theorem Inv.off {b:Addr} (I:Inv X pins σ H s) (h:s.heap.objs.size<=b):Off X pins b:=by
 refine ⟨.inr (Nat.le_trans I.sz h),fun z=>?_,fun x c q z=>?_,fun p hp z=>?_⟩
 ·subst z; exact absurd (Nat.lt_of_lt_of_le I.lt h) (Nat.lt_irrefl _)
 ·obtain ⟨v,o,ho,_⟩:=I.cell x c q;subst z; exact absurd (Nat.lt_of_lt_of_le (Heap.lt_size ho) h) (Nat.lt_irrefl _)
 ·have:=(I.pin p hp).1;rw [z] at this;exact absurd (Nat.lt_of_lt_of_le (Heap.lt_size this) h) (Nat.lt_irrefl _)
def XP (X:Cx) (CX:CXT) (pins:List (Addr × Obj)) (σ:St) (E:XK) (e:Value) (s':Shared):Prop:=∃ H1 s1,Inv X pins σ H1 s1/\CX X.stack H1 s1 E e s'
structure Lies (X:Cx) (pins:List (Addr × Obj)) (σ:St) (H:Hp) (s:Shared) (a C dx T:Addr):Prop where
 inv:Inv X pins σ H s
 at_:XAt s.heap a C dx T .none
 ha:H a=none
 hT:H T=none
 oa:Off X pins a
 oT:Off X pins T
theorem XP.lies {E:XK} {e:Value} (h:XP X (CXx X.prog X.w) pins σ E e s):∃ a C dx T H',e=.ref a/\Lies X pins σ H' s a C dx T/\E (.ref C) (some dx) H':=by
 obtain ⟨H1,s1,I,a,C,dx,T,H',rfl,za,zT,x,na,nT,os,ba,un,hok,hE⟩:=h;exact ⟨a,C,dx,T,H',rfl,⟨I.call' (ch:=[]) os un hok ba (fun b z=>nomatch z),x,na,nT,I.off za,I.off zT⟩,hE⟩
end
section
variable {X:Cx} {CX:CXT} {k:Nat} {f:Addr} {fd:FuncData} {ps:List Str} {sp:Sp} {x:Str} {p pos:Pos} {e:Expr} {es:List Expr} {t:TA}
theorem a86 (F:Aw X.prog X.w X.K X.mg X.base CX k f fd ps sp) (hr:xu k X.A) (hg:Gl X x) (hm:X.mg x=some (.ref f)) (hk:PySem.W.keepIn X.K (.ref f)=true) (hb:Binds X.K fd ps []) (ha:PA X.nox (e::es) t)
  (aJ:(x==("__debug__" : Str))=false:=by decide) (he:starEach (e::es) X.env=(false,eval e X.env)::starEach es X.env:=by rfl) (aD:(backTo pos (starEach es X.env)).any (·.1)=false:=by rfl)
  (pins:List (Addr × Obj)) (s:Shared) (σ:St) (H:Hp) (Q:VK) (E:XK) (I:Inv X pins σ H s) (h:t σ H fun vs H1=>sp vs H1 Q E) :
  wpAny (model X.prog X.w) X.A (eval (.Call (.Name x p) (e::es) [] pos) X.env) (EP X pins σ Q) (XP X CX pins σ E) s:=by
 refine wpAny_Call_Name_kw (Iw I hg hm ?_ aJ);refine PySem.W.callWith_K (h₀:=X.base) I.ok.mod.kin hk (wpAny_mono (ha pos pins s σ H _ (I.wish _) h) (fun us s1 z0=>?_) fun _ _ z=>False.elim z) he aD;obtain ⟨vs,H1,I1',r,q⟩:=z0;have I1:=I1'.Dm;refine ⟨I1.kIn,?_⟩;have r2:Vals vs (us++[]):=by rw [List.append_nil]; exact r
 have hl:(us++[]).length=ps.length:=by rw [<- r2.length]; exact F.len _ _ _ _ q
 refine wpAny_call (codeAny_mono (F.run X.A X.stack s1 H1 ⟨us,[]⟩ (us++[]) vs Q E hr I1.env0 (hb s1 us I1.kIn hl) r2 q) fun r s' hq=>?_);cases r with
 | error e=>exact ⟨H1,s1,I1,hq⟩
 | ok fl =>
  cases fl with
  | ret u=>exact I1.after hq
  | next=>exact False.elim hq
  | brk=>exact False.elim hq
  | cont=>exact False.elim hq
end
abbrev Cx.mk' (X:Cx) (a:Addr):Cx:={ X with A:=X.A.mark (some (.ref a)),calm:=false,xe:=fun _ _=>False }
section
variable {X:Cx} {pins:List (Addr × Obj)} {σ:St} {H:Hp} {s:Shared} {a:Addr}
theorem Inv.mk' (I:Inv X pins σ H s) (a:Addr):Inv (X.mk' a) pins σ H s :=
 ⟨⟨I.ok.mod,I.ok.kind,I.ok.glob,I.ok.blt,I.ok.above,I.ok.inj,I.ok.has,I.ok.cab,(fun z=>nomatch z),I.ok.frames,I.ok.stk,I.ok.exf,I.ok.bs,I.ok.bsz,I.ok.noex,I.ok.exfs,I.ok.Ru,I.ok.frf⟩,I.os,I.bare,I.base,I.loc,I.cell,I.free,I.freeC,I.pin,I.hok,I.len⟩
theorem Inv.ac9 (I:Inv (X.mk' a) pins σ H s) (hd:X.calm=true->X.A.handled=none):Inv X pins σ H s :=
 ⟨⟨I.ok.mod,I.ok.kind,I.ok.glob,I.ok.blt,I.ok.above,I.ok.inj,I.ok.has,I.ok.cab,hd,I.ok.frames,I.ok.stk,I.ok.exf,I.ok.bs,I.ok.bsz,I.ok.noex,I.ok.exfs,I.ok.Ru,I.ok.frf⟩,I.os,I.bare,I.base,I.loc,I.cell,I.free,I.freeC,I.pin,I.hok,I.len⟩
theorem name_goes {M:Model} {A:Around} {E:Value->Shared->Prop} {Q:Unit->Shared->Prop} {i:Nat} {n:Str} {pos:Pos} (I:Inv X pins σ H s) (hN:X.N.Nodup) (hi:X.N[i]? = some n) (hx:X.env.scope.names.lookup n=some .local)
  (h:∀ s',Inv X pins (σ.set i none) H s'->Q () s'):wpAny M A (do bindName X.env n .none; unbindBehindTheSuite X.env n pos) Q E s:=by
 obtain ⟨m,hn,hl⟩:=id I.loc;have cy:(X.env.scope.kind == .class||(X.env.scope.kind == .module&&X.env.locals != X.env.globals))=false:=by rw [I.ok.kind]; rfl
 have bR:i<σ.length:=by rw [I.len]; exact (List.getElem?_eq_some_iff.mp hi).1
 obtain ⟨oL,_,_,cI,_⟩:=id hn;refine wpAny_nameGoes_keeps hx hn cy fun h' v cm hs=>h _ ?_;have nL:∀ b o,X.s₀.heap.get? b=some o->b≠X.env.locals:=fun b o e=>Nat.ne_of_lt (Nat.lt_of_lt_of_le (Heap.lt_size e) I.ok.above);refine ⟨I.ok,I.os,I.bare,⟨fun b o e n hb hx=>(hs.2 b (nL b o e)).trans (I.base.keep b o e n hb hx),fun b o e n hb hx=>?_,I.base.free,fun b o e hx=>?_,I.base.tups,I.base.frzs,I.base.tbls⟩,⟨_,cm,fun j y v' e1 e2 e3=>?_⟩,fun y c e=>?_,I.free,I.freeC,fun p hp=>?_,fun b u e=>?_,by rw [List.length_set]; exact I.len⟩
 ·obtain ⟨sl,e1⟩:=I.base.slot b o e n hb hx;exact ⟨sl,(hs.2 b (nL b o e)).trans e1⟩
 ·obtain ⟨o',e1⟩:=I.base.there b o e hx;exact ⟨o',(hs.2 b (nL b o e)).trans e1⟩
 ·by_cases hj:j=i
  ·subst hj;rw [List.getElem?_set_self bR] at e2; cases e2
  ·rw [List.getElem?_set_ne (Ne.symm hj)] at e2;obtain ⟨u',r',q⟩:=hl j y v' e1 e2 e3;refine ⟨u',r',?_⟩;rcases q with ⟨k,e⟩ | ⟨k,c,e,z⟩
   ·have:y≠n:=fun e=>hj (Kw hN e1 (e ▸ hi));exact .inl ⟨k,by simp [this,e]⟩
   ·exact .inr ⟨k,c,e,z.sameBut hs (I.cne y c e)⟩
 ·obtain ⟨w',z⟩:=I.cell y c e;exact ⟨w',z.sameBut hs (I.cne y c e)⟩
 ·obtain ⟨e,n,ne,nf,d⟩:=I.pin p hp;exact ⟨(hs.2 p.1 ne).trans e,n,ne,nf,d⟩
 ·have tr:∀ c x,H c=some x->c≠X.env.locals:=fun c x q z=>by rw [z,I.free] at q; cases q
  refine (I.hok b u e).stay (fun c w hc q=>(hs.2 c ?_).trans q) (fun _ q=>q) fun _ _ q=>q;rcases hc with hc | hc
  ·subst hc; exact tr c u e
  ·exact tr c _ hc
end
def XCl (K:PySem.W.Frag) (C:Addr) (bm:List Value):Prop:=bm.contains (.type "BaseException")=true/\∃ nm q Na bs hdct sn sub ab col dd k0 k1 k2 k3 k5,K.lookup C=some (excClassObj nm q C Na bs bm hdct sn sub ab col dd k0 k1 k2 k3 k5 "ValueError.__new__")
section
variable {M:Model} {A:Around} {E:Value->Shared->Prop} {K:PySem.W.Frag} {C C1 C2 C3:Addr} {bm cV fA gF:List Value} {Q:Bool->Shared->Prop}
theorem Yp {s:Shared} {a:Addr} {o:Obj} (X:K.In s.heap) (c:XCl K C bm) (c1:XCl K C1 cV) (he:s.heap.get? a=some o) (hc:o.cls=.ref C) (h:Q ((Value.ref C::bm).contains (.ref C1)) s):wpAny M A (excMatches (.ref a) (.ref C1)) Q E s:=by
 obtain ⟨_,nm,q,Na,bs,hdct,sn,sub,ab,col,dd,k0,k1,k2,k3,k5,lk⟩:=c;obtain ⟨b1,nm',q',Na',bs',hdct',sn',sub',ab',col',bp,k0',k1',k2',k3',k5',lk'⟩:=c1;obtain ⟨hp,g,d,tk,os⟩:=s;have hC:=X _ _ lk;have h1:=X _ _ lk';have e1:(Value.ref C1::cV).contains (.type "BaseException")=true:=by rw [List.contains_cons,b1,Bool.or_true]
 have f:=tc_notTuple;unfold excMatches
 repeat (first | (with_reducible refine wpAny_loadPart_at he ?_; rw [hc]) | with_reducible refine wpAny_loadPart_at h1 ?_ | (with_reducible refine wpAny_isSubtype_exc h1 ?_; rw [e1]) | with_reducible refine wpAny_isSubtype_exc hC ?_ | wp_step)
 cases hb:(Value.ref C::bm).contains (.ref C1) <;> (rw [hb] at h; wp_walk; exact h)
end
section
variable {X:Cx} {pins:List (Addr × Obj)} {σ:St} {H:Hp} {s:Shared} {a C dx T:Addr}
theorem Lies.mk' (L:Lies X pins σ H s a C dx T) (b:Addr):Lies (X.mk' b) pins σ H s a C dx T:=⟨L.inv.mk' b,L.at_,L.ha,L.hT,L.oa,L.oT⟩
theorem Lies.eval {e:Expr} {te:TE} {Q:VK} (L:Lies X pins σ H s a C dx T) (he:PE X e te) (h:te σ H Q) :
  wpAny (model X.prog X.w) X.A (eval e X.env) (fun u s'=>∃ v H1,Lies X pins σ H1 s' a C dx T/\RelV v u/\Q v H1) X.xe s:=by
 obtain ⟨ne,⟨vs,g1,v1⟩,o,ts,g2,d2,t3⟩:=L.at_
 have fs:∀ b,b∉frs X.stack->b≠X.env.locals->b∉X.fs:=fun b h1 _ z=>by
  rcases L.inv.ok.stk with q | ⟨q,_⟩
  ·rw [q] at h1; exact h1 z
  ·rw [q] at h1;refine h1 ?_;unfold frs;rw [List.filterMap_cons];split
   ·exact z
   ·exact List.mem_cons_of_mem _ z
 have n1:=L.inv.Jt g1 rfl;have n2:=L.inv.Jt g2 d2
 have I:=L.inv.G3 (pins':=(a,Tr C dx vs)::(T,o)::pins) fun p hp=>by
  rcases List.mem_cons.mp hp with rfl | hp
  ·exact ⟨g1,L.ha,n1.1,fs a n1.2.2 n1.1,fun v q=>by cases q⟩
  ·rcases List.mem_cons.mp hp with rfl | hp
   ·exact ⟨g2,L.hT,n2.1,fs T n2.2.2 n2.1,fun v q=>by rw [d2] at q; cases q⟩
   ·exact L.inv.pin p (List.mem_append_right _ hp)
 refine thn (he _ s σ H Q I h) fun u s1 z0=>?_;obtain ⟨v,H1,I1,r,q⟩:=z0;obtain ⟨e1,z1,_⟩:=I1.pin (a,Tr C dx vs) (List.mem_append_right _ List.mem_cons_self);obtain ⟨e2,z2,_⟩:=I1.pin (T,o) (List.mem_append_right _ (List.mem_cons_of_mem _ List.mem_cons_self));refine ⟨v,H1,⟨I1.G3 fun p hp=>I1.pin p (List.mem_append_right _ (List.mem_cons_of_mem _ (List.mem_cons_of_mem _ hp))),⟨ne,⟨vs,e1,v1⟩,o,ts,e2,d2,t3⟩,z1,z2,L.oa,L.oT⟩,r,q⟩
end
def PHs (X:Cx) (hs:List ExceptHandler) (C:Addr) (t:Addr->TS):Prop :=
 ∀ (pins:List (Addr × Obj)) (s:Shared) (σ:St) (H:Hp) (D:Ends) (a dx T:Addr),Lies X pins σ H s a C dx T->t dx D σ H->wpAny (model X.prog X.w) X.A (handleBy (.ref a) X.env hs) (SP X pins D) X.xe s
section
variable {X:Cx} {rest:List ExceptHandler} {C C1 C2 C3:Addr} {bm cV fA gF:List Value} {t:Addr->TS} {x1 x2 x3:Str} {p1 p2 p3 pt pos:Pos} {nm:Option Str} {body:List Stmt} {ec:Nat}
end
def Qe (a C dx:Addr):HO:=.ext fun h=>∃ vs,h.get? a=some (Tr C dx vs)
section
variable {X:Cx} {pins:List (Addr × Obj)} {σ:St} {H:Hp} {s:Shared} {a C dx T:Addr}
theorem Lies.seen (L:Lies X pins σ H s a C dx T):Inv X pins σ (upd H a (Qe a C dx)) s:=by
 have I:=L.inv;obtain ⟨_,⟨vs,ga,_⟩,_⟩:=L.at_;have ne:∀ b u,H b=some u->b≠a:=fun b u q=>jq q L.ha
 refine I.step (g':=s.gens) (d':=s.drawn) (t':=s.toks) (h':=s.heap) (ch:=[a]) (fun b hb=>?_) (fun b o _ _ _ q _=>q) (fun b o _ _ _ q _=>⟨o.slots,q⟩) (fun b o hb _ n=>by rw [d9 (fun z=>hb (by simp [z]))]; exact n) (fun b o _ q=>⟨o,q⟩)
  (fun b xs q=>by rw [d9 (ne b _ q)]; exact q) (fun b o u q=>by rw [d9 (ne b _ q)]; exact q) (fun b ps q=>⟨#[],by rw [d9 (ne b _ q),q]; simp⟩) (fun _ hm=>hm) (fun b u q=>?_) I.bare
 ·obtain rfl:=List.mem_singleton.mp hb;exact L.oa
 ·by_cases z:b=a
  ·subst z; rw [d8] at q; cases q;exact ⟨⟨vs,ga⟩,⟨_,ga⟩,fun h1 h2 ⟨ws,e⟩ k=>⟨ws,k _ e⟩⟩
  ·rw [d9 z] at q;exact (I.hok b u q).stay (fun _ _ _ r=>r) (fun c r=>by rw [d9 (ne c _ r)]; exact r) fun c xs r=>by rw [d9 (ne c _ r)]; exact r
theorem Lies.flight {M:Model} {A:Around} {E:Value->Shared->Prop} {Q:Unit->Shared->Prop} (L:Lies X pins σ H s a C dx T) (h:∀ s',Lies X pins σ H s' a C dx T->Q () s'):wpAny M A (setFlight (.ref a) none) Q E s :=
 G4 L.at_ fun h' k x=>h _ ⟨L.inv.noted (k.mono (fun _ z=>nomatch z) (fun _ z=>z)) (fun b hb=>by rw [List.mem_singleton.mp hb]; exact L.hT) (fun b hb=>by rw [List.mem_singleton.mp hb]; exact L.oT),x,L.ha,L.hT,L.oa,L.oT⟩
theorem Lies.note {A:Around} {E:Value->Shared->Prop} {Q:Unit->Shared->Prop} (hst:X.stack=X.env::X.outer) (hfr:X.env.frame=some X.env.locals) (hA:A.frames=some X.stack) (L:Lies X pins σ H s a C dx T) (h:∀ s' T',Lies X pins σ H s' a C dx T'->Q () s') :
  wpAny (model X.prog X.w) A (noteFrame (.ref a) X.env) (fun _ s2=>wpAny (model X.prog X.w) A (setFlight (.ref a) none) Q E s2) E s:=by
 obtain ⟨ne,⟨vs,ga,v1⟩,o,ts,gT,dT,t3⟩:=id L.at_;have n1:=L.inv.Jt ga rfl;have n2:=L.inv.Jt gT dT;have fr:=L.inv.stack;rw [hst] at hA n1 n2 fr;refine Xk (L:=X.env.locals) (base:=X.base) hA fr hfr L.at_ n1.2.2 n2.2.2 fun h' T' dD k x=>?_;rw [<- hst] at k
 have I1:=L.inv.noted k (fun b hb=>by
  rcases List.mem_cons.mp hb with rfl | hb -- here
  ·exact L.ha
  ·rw [List.mem_singleton.mp hb]; exact L.hT) (fun b hb=>by
  rcases List.mem_cons.mp hb with rfl | hb -- here
  ·exact L.oa
  ·rw [List.mem_singleton.mp hb]; exact L.oT)
 refine G4 (s:={ s with heap:=h' }) x fun h2 k2 x2=>h _ T' ⟨I1.noted (h':=h2) (k2.mono (fun _ z=>nomatch z) (fun _ z=>z)) (fun b hb=>by rw [List.mem_singleton.mp hb]; exact L.inv.hok.fresh dD) (fun b hb=>by rw [List.mem_singleton.mp hb]; exact L.inv.off dD),x2,L.ha,L.inv.hok.fresh dD,L.oa,L.inv.off dD⟩
end
noncomputable def a9v (i:Nat) (D:Ends):Ends where
 nx:=fun σ H=>D.nx (σ.set i none) H
 rt:=D.rt
 bk:=fun σ H=>D.bk (σ.set i none) H
 ct:=fun σ H=>D.ct (σ.set i none) H
section
variable {X:Cx} {rest:List ExceptHandler} {C C1:Addr} {bm cV:List Value} {t:Addr->TS} {x1 n:Str} {p1 pos:Pos} {cX:Stmt} {bU:List Stmt} {ts:TS} {i:Nat}
theorem a67 (hd:X.calm=true->X.A.handled=none) (hN:X.N.Nodup) (hi:X.N[i]? = some n) (hn:X.env.scope.names.lookup n=some .local) (c:XCl X.K C bm) (c1:XCl X.K C1 cV) (y:(Value.ref C::bm).contains (.ref C1)=true) (g1:Gl X x1) (m1:X.mg x1=some (.ref C1))
  (hS:∀ a,PSs (X.mk' a) (cX::bU) ts) (d1:(x1==("__debug__" : Str))=false:=by decide) :
  PHs X (.ExceptHandler (some (.Name x1 p1)) (some n) (cX::bU) pos::rest) C fun dx D σ H=>∀ a,H a=none->i<σ.length->ts (a9v i D) (σ.set i (some (.ref a))) (upd H a (Qe a C dx)):=by
 intro pins s σ H D a dx T L hq;refine wpAny_handleBy_cons (codeAny_handlers_test ?_) (by intro q; cases q);have pe:PE (X.mk' a) (.Name x1 p1) (tC (.ref C1)):=Ls g1 m1 rfl d1;refine wpAny_mono ((L.mk' a).eval (Q:=fun v H1=>v=.ref C1/\H1=H) pe ⟨rfl,rfl⟩) (fun u s1 z0=>?_) fun _ _ z=>False.elim z;obtain ⟨v,H1,L1,r,ev,eH⟩:=z0;subst ev;subst eH;obtain rfl:u=Value.ref C1:=r;obtain ⟨_,⟨vs,ga,_⟩,_⟩:=L1.at_;refine Yp L1.inv.kIn c c1 ga rfl ?_;rw [y];refine codeAny_handlers_suite_as ?_;refine L1.flight fun s2 L2=>?_;refine Lx (X:=X.mk' a) (v:=.ref a) L2.seen hN hi (.inl hn) rfl (fun s3 I3=>?_) (.inr hn);refine wpAny_mono (hS a pins s3 _ _ _ I3 (hq a L.ha (by rw [L.inv.len]; exact (List.getElem?_eq_some_iff.mp hi).1))) (fun fl s4 h4=>?_) fun _ _ z=>False.elim z;cases fl with
 | next =>
  obtain ⟨σ',H',I4,q⟩:=h4;exact name_goes (I4.ac9 hd) hN hi hn fun s5 I5=>⟨_,H',I5,q⟩
 | brk =>
  obtain ⟨σ',H',I4,q⟩:=h4;exact name_goes (I4.ac9 hd) hN hi hn fun s5 I5=>⟨_,H',I5,q⟩
 | cont =>
  obtain ⟨σ',H',I4,q⟩:=h4;exact name_goes (I4.ac9 hd) hN hi hn fun s5 I5=>⟨_,H',I5,q⟩
 | ret u =>
  obtain ⟨v,σ',H',I4,r,q⟩:=h4;exact name_goes (I4.ac9 hd) hN hi hn fun s5 I5=>⟨v,_,H',I5,r,q⟩
end
abbrev TB:=Ends->XK->St->Hp->Prop
def PB (X:Cx) (st:List Stmt) (t:TB):Prop :=
 ∀ (pins:List (Addr × Obj)) (s:Shared) (σ:St) (H:Hp) (D:Ends) (E:XK),Inv X pins σ H s->t D E σ H->wpAny (model X.prog X.w) X.A (execs st X.env) (SP X pins D) (XP X (CXx X.prog X.w) pins σ E) s
noncomputable def ad5 (C:Addr) (tb:TB) (th:Addr->TS):TS:=fun D σ H=>tb D (fun cls dx H'=>∃ d,cls=.ref C/\dx=some d/\th d D σ H') σ H
section
variable {X:Cx} {body:List Stmt} {h₀:ExceptHandler} {hs:List ExceptHandler} {C:Addr} {tb:TB} {th:Addr->TS} {pos:Pos}
theorem aaj (hst:X.stack=X.env::X.outer) (hfr:X.env.frame=some X.env.locals) (hb:PB X body tb) (hh:PHs X (h₀::hs) C th):PS X (.Try body (h₀::hs) [] [] pos) (ad5 C tb th):=by
 intro pins s σ H D I h;refine wpAny_Try_except (wpAny_mono (hb pins s σ H D _ I h) (fun f s1 q=>?_) fun e s1 q=>?_)
 ·cases f with
  | next=>exact wpAny_execs_nil q
  | brk=>exact q
  | cont=>exact q
  | ret u=>exact q
 ·obtain ⟨a,C',dx,T,H',rfl,L,d,e1,e2,q⟩:=q.lies;cases e1;cases e2;exact L.note hst hfr L.inv.ok.frames fun s2 T' L2=>hh pins s2 σ H' D a dx T' L2 q
end
end L2
end
section
namespace C
open PySem PySem.Spec PyProof.Rows L2
def aey (K:PySem.W.Frag) (B:Bas) (Cl:Addr) (f:Str) (E:XK) (D:Ends) (ps:List (V × T)):Flow ⊕ T->Sta->Prop
 | .inl fl,aa=>Fin K B D ps fl aa
 | .inr t,aa=>∀ v dx σ' H' S' af,Rel K B aa σ' H' ((v,t)::ps) S' af->S' dx=some (Bp dx f v)->E (.ref Cl) (some dx) H'
noncomputable def Ij (K:PySem.W.Frag) (B:Bas) (Cl:Addr) (f:Str) (E:XK) (s:SX):TS:=fun D σ H=>∃ st ps S as,Rel K B st σ H ps S as/\∃ fl aa,s st=some (fl,aa)/\aey K B Cl f E D ps fl aa
theorem Ext.beside {S H:Hp} {p:Addr} (h:Same S H) (n:H p=none) (o:HO):Ext S H S (upd H p o) :=
 ⟨Same.refl _,Same.upd n o,fun b u q=>by rw [d9 (jq (h _ _ q) n)]; exact h _ _ q,fun _ q=>.inl q⟩
section
variable {K:PySem.W.Frag} {B:Bas} {st:Sta} {σ σ':L2.St} {H S:Hp} {ps:List (V × T)} {as:List Addr}
theorem Rel.clr {i:Nat} (r:Rel K B st σ H ps S as) (h:∀ k,k≠i->σ'[k]? = σ[k]?) (hl:σ'.length=σ.length):Rel K B (clr i st) σ' H ps S as:=by
 have key:∀ (k:Nat) t f,(st.env.set i none)[k]? = some (some (t,f))->k≠i/\st.env[k]? = some (some (t,f)):=fun k t f e=>by
  by_cases z:i=k
  ·subst z
   by_cases q:i<st.env.length
   ·rw [List.getElem?_set_self q] at e; cases e
   ·rw [List.getElem?_eq_none (by rw [List.length_set]; exact Nat.le_of_not_lt q)] at e; cases e
  ·rw [List.getElem?_set_ne z] at e; exact ⟨Ne.symm z,e⟩
 refine ⟨r.sub,r.grow,fun k t f e=>?_,fun a b t u p ea eb sa sb=>?_,r.sto,r.pend,by rw [hl,r.len]; exact (List.length_set ..).symm⟩
 ·obtain ⟨n,e'⟩:=key k t f e;rw [h k n]; exact r.slots k t f e'
 ·obtain ⟨na,ea'⟩:=key a t true ea;obtain ⟨nb,eb'⟩:=key b u true eb;rw [h a na] at sa;rw [h b nb] at sb;exact r.apart a b t u p ea' eb' sa sb
end
section
variable {X:Cx} {B:Bas} {c:Expr} {pos:Pos} {u v:SX} {Cl:Addr} {f:Str} {E:XK}
theorem ju {st:Stmt} {w:S} (h:PS X st (sOf X.K B w)):PS X st (Ij X.K B Cl f E (lx w)):=h.imp fun D σ H z9=>by
 obtain ⟨st,ps,S,as,R,fl,aa,e,q⟩:=z9;unfold lx at e;cases z:w st with
 | none=>rw [z] at e; cases e
 | some p=>obtain ⟨fl',s'⟩:=p; rw [z] at e; cases e; exact ⟨st,ps,S,as,R,fl',_,z,q⟩
theorem Ba {st:List Stmt} {w:S} (h:PSs X st (sOf X.K B w)):PSs X st (Ij X.K B Cl f E (lx w)):=fun pins s σ H D I z9=>by
 obtain ⟨st,ps,S,as,R,fl,aa,e,q⟩:=z9;unfold lx at e;cases z:w st with
 | none=>rw [z] at e; cases e
 | some p=>obtain ⟨fl',s'⟩:=p; rw [z] at e; cases e; exact h pins s σ H D I ⟨st,ps,S,as,R,fl',_,z,q⟩
theorem uc {st:Stmt} (h1:PS X st (Ij X.K B Cl f E u)):PSs X [st] (Ij X.K B Cl f E u):=Ld h1
theorem a2o {st aa:Sta} {fl:Flow ⊕ T} (h:Aa u v st=some (fl,aa)):(∃ s1,u st=some (.inl .next,s1)/\v s1=some (fl,aa))\/(u st=some (fl,aa)/\fl≠.inl .next):=by
 unfold Aa at h;split at h
 ·rename_i s1 e; exact .inl ⟨s1,e,h⟩
 ·rename_i r hn;refine .inr ⟨h,fun z=>?_⟩;subst z;exact hn _ h
theorem j7 {st:Stmt} {rest:List Stmt} (h1:PS X st (Ij X.K B Cl f E u)) (h2:PSs X rest (Ij X.K B Cl f E v)):PSs X (st::rest) (Ij X.K B Cl f E (Aa u v)):=(Ry h1 h2).imp fun D σ H z9=>by
 obtain ⟨st,ps,S,as,R,fl,aa,e,q⟩:=z9;rcases a2o e with ⟨s1,e1,e2⟩ | ⟨e1,hn⟩
 ·exact ⟨st,ps,S,as,R,.inl .next,s1,e1,fun σ' H' S' af R'=>⟨s1,ps,S',af,R',fl,aa,e2,q⟩⟩
 ·refine ⟨st,ps,S,as,R,fl,aa,e1,?_⟩;cases fl with
  | inr t=>exact q
  | inl fl =>
   cases fl with
   | next=>exact absurd rfl hn
   | ret t=>exact q
   | brk=>exact q
   | cont=>exact q
theorem Ql {c1:M Bool} {sa sb:List Stmt} (hc:PT X c (cOf X.K B c1)) (ha:PSs X sa (Ij X.K B Cl f E u)) (hb:PSs X sb (Ij X.K B Cl f E v)):PS X (.If c sa sb pos) (Ij X.K B Cl f E (xIf c1 u v)):=(abt hc ha hb).imp fun D σ H z9=>by
 obtain ⟨st,ps,S,as,R,fl,aa,e,q⟩:=z9;unfold xIf at e;split at e
 ·rename_i s1 e1;exact ⟨st,ps,S,as,R,true,s1,e1,fun H1 S1 ae R1=>Yo ⟨s1,ps,S1,ae,R1,fl,aa,e,q⟩⟩
 ·rename_i s1 e1;exact ⟨st,ps,S,as,R,false,s1,e1,fun H1 S1 ae R1=>Wv ⟨s1,ps,S1,ae,R1,fl,aa,e,q⟩⟩
 ·cases e
theorem a0o {D fI:Addr} {p x:Str} {fd:FuncData} {arg:Expr} {m:M T} {np ay:Pos} (W:XW X E) (c:XC X.K Cl D fI f) (F:Aw X.prog X.w X.K X.mg X.base CX0 1 fI fd ["self",p] (Mv Cl f)) (hr:xu 2 X.A) (hb:Binds X.K fd ["self",p] []) (hg:Gl X x) (hm:X.mg x=some (.ref Cl)) (ha:PE X arg (tOf X.K B m))
  (aJ:(x==("__debug__" : Str))=false:=by decide) (he:starEach [arg] X.env=[(false,eval arg X.env)]:=by rfl) :
  PS X (.Raise (some (.Call (.Name x np) [arg] [] ay)) none pos) (Ij X.K B Cl f E (Cu m)):=(a2t W c F hr hb hg hm ha aJ he).imp fun D σ H z9=>by
 obtain ⟨st,ps,S,as,R,fl,aa,e,q⟩:=z9;unfold Cu at e;split at e
 ·rename_i t s1 e1;cases e;exact ⟨st,ps,S,as,R,t,_,e1,fun v H1 S1 ae R1 dx hn=>q v dx σ _ _ ae (R1.ext (Ext.laid R1.sub hn _)) d8⟩
 ·cases e
end
def afj (K:PySem.W.Frag) (B:Bas) (Cl:Addr) (f:Str) (aw:List SO) (Q:VK) (E:XK):T ⊕ T->Prop
 | .inl t=>∀ v H' S' af,aaq B S' af H'->Same S' H'->Fw K S' af H' aw->Rep K S' af v t->Q v H'
 | .inr t=>∀ v dx H' S' af,aaq B S' af H'->Same S' H'->Fw K S' af H' aw->Rep K S' af v t->S' dx=some (Bp dx f v)->E (.ref Cl) (some dx) H'
noncomputable def spX (K:PySem.W.Frag) (ar:Nat) (Cl:Addr) (f:Str) (F:FnX):Sp:=fun vs H Q E=>∃ S as sto ts r aw,Same S H/\Fw K S as H sto/\qd K S as vs ts/\ts.length=ar/\F ts sto=some (r,aw)/\afj K ⟨S,as,H⟩ Cl f aw Q E r
section
variable {P:Program} {w:World} {K:PySem.W.Frag} {mg:Str->Option Value} {base:Heap}
theorem Tp {x qual:Str} {st:Stmt} {a Cl:Addr} {f:Str} {fd:FuncData} {N ps:List Str} {k:Nat} {b:SX} (F:Fun K x qual st a fd) (Sc:zp N ps (f9 st)) (hN:ps.length<=N.length)
  (hb:∀ (az:Value) (A:Around) (outer:List Env) (s:Shared) (H:Hp) (E:XK) (B:Bas),xu k (A.deeper (envOfC qual (f9 st) s.heap.objs.size a az)) ->
   PSs (Pg (CXx P w) P w K mg base N qual (f9 st) a az A outer s H E) (u9 st) (Ij K B Cl f E b)):Aw P w K mg base (CXx P w) (k+1) a fd ps (spX K ps.length Cl f (qw N.length b)):=by
 obtain ⟨oc,od,kV,doc,pm,an,az,ct,bg,rfl,lk,aR⟩:=F.ex;refine a92 lk aR Sc (fun vs H Q E ⟨S,as,sto,ts,t,aw,h1,h2,h3,h4,_⟩=>by rw [h3.length,h4]) fun A outer s H vs Q E hr h=>?_;obtain ⟨S,as,sto,ts,r,aw,h1,h2,h3,h4,h5,q⟩:=h;refine ⟨_,hb az A outer s H E ⟨S,as,H⟩ hr,?_⟩;have R:Rel K ⟨S,as,H⟩ ⟨ts.map (fun t=>some (t,false))++List.replicate (N.length - ts.length) none,sto⟩ (L2.start N vs) H [] S as:=Ol h1 h2 h3 (by rw [h4]; exact hN);unfold qw at h5;split at h5
 ·rename_i t' s' e;cases h5;exact ⟨_,[],S,as,R,.inl (.ret _),s',e,fun v σ' H' S' af R'=>q v H' S' af R'.grow R'.sub R'.sto R'.top⟩
 ·rename_i s' e;cases h5;exact ⟨_,[],S,as,R,.inl .next,s',e,fun σ' H' S' af R'=>q .non H' S' af R'.grow R'.sub R'.sto .non⟩
 ·rename_i t' s' e;cases h5;exact ⟨_,[],S,as,R,.inr _,s',e,fun v dx σ' H' S' af R' hd=>q v dx H' S' af R'.grow R'.sub R'.sto R'.top hd⟩
 ·cases h5
theorem a7q {a Cl:Addr} {f:Str} {fd:FuncData} {ps:List Str} {k:Nat} {F:FnX} (G:Aw P w K mg base (CXx P w) k a fd ps (spX K ps.length Cl f F)):Aw P w K mg base CX0 k a fd ps (spF K ps.length (norm F)):=by
 refine ⟨fun vs H Q E ⟨S,as,sto,ts,t,aw,h1,h2,h3,h4,_⟩=>by rw [h3.length,h4],fun A outer s H args us vs Q E hr he hb hv h=>?_⟩;obtain ⟨S,as,sto,ts,t,aw,h1,h2,h3,h4,h5,q⟩:=h;unfold norm at h5;split at h5
 ·rename_i t1 s1 e;cases h5;refine codeAny_mono (G.run A outer s H args us vs Q (fun _ _ _=>False) hr he hb hv ⟨S,as,sto,ts,.inl _,_,h1,h2,h3,h4,e,q⟩) fun r s' hq=>?_;cases r with
  | ok fl=>cases fl <;> exact hq
  | error e =>
   obtain ⟨_,_,_,_,_,_,_,_,_,_,_,_,_,_,_,z⟩:=hq;exact z
 ·cases h5
end
section
variable {X:Cx} {B:Bas} {e:Expr} {es:List Expr} {ms:M (List T)} {pos p q1 q2 aH:Pos} {k:Nat} {a Cl:Addr} {f x:Str} {fd:FuncData} {pn:List Str} {F:FnX} {h₀:ExceptHandler} {hs:List ExceptHandler} {th:Addr->TS} {i j:Nat} {hv:T->Option T}
theorem a6h (G:Aw X.prog X.w X.K X.mg X.base (CXx X.prog X.w) k a fd pn (spX X.K pn.length Cl f F)) (hr:xu k X.A) (hg:Gl X x) (hm:X.mg x=some (.ref a)) (hk:PySem.W.keepIn X.K (.ref a)=true) (hb:Binds X.K fd pn [])
  (ha:PA X.nox (e::es) (aOf X.K B ms)) (aJ:(x==("__debug__" : Str))=false:=by decide)
  (he:starEach (e::es) X.env=(false,eval e X.env)::starEach es X.env:=by rfl) (aD:(backTo pos (starEach es X.env)).any (·.1)=false:=by rfl) (bS:swapsWith (.Call (.Name x p) (e::es) [] pos) none q1.line X.env=pure false:=by rfl) :
  PB X [.Expr (.Call (.Name x p) (e::es) [] pos) q1] fun D E σ H=>aOf X.K B ms σ H fun vs H1=>spX X.K pn.length Cl f F vs H1 (fun _ H2=>D.nx σ H2) E:=by
 intro pins s σ H D E I h;refine wpAny_execs_cons (wpAny_mono (wpAny_Expr_any (Q:=SP X pins D) (thn (a86 G hr hg hm hk hb ha aJ he aD pins s σ H (fun _ H2=>D.nx σ H2) E I h) fun v s1 z7=>by obtain ⟨y,H1,I1,r1,q1⟩:=z7; exact ⟨σ,H1,I1,q1⟩) I.quiet bS) (fun fl s1 hq=>?_) fun _ _ z=>z);cases fl with
 | next=>exact wpAny_execs_nil hq
 | brk=>exact hq
 | cont=>exact hq
 | ret u=>exact hq
end
end C
end
section
namespace L2
open PySem PySem.Spec PyProof.Rows
structure XG (K:PySem.W.Frag) (C:Addr) (f:Str):Prop where
 ga:PySem.W.findIn K (.ref C) "__getattribute__" = some (some (.builtin "BaseException.__getattribute__"))
 gt:PySem.W.findIn K (.ref C) "__getattr__" = some none
 bx:PySem.W.mroIn K C (.type "BaseException")=some true
 dc:PySem.W.hasDictIn K C=true
 na:PySem.W.findIn K (.ref C) f=some none
 cl:PySem.W.findIn K (.ref C) "__class__" = some (some (.builtin "object.__class__"))
 cg:PySem.W.specialIn K (.builtin "object.__class__") "__get__" = some (some (.builtin "getset_descriptor.__get__"))
 ct:PySem.W.takesIn K (.builtin "object.__class__")=some true
 ob:PySem.W.mroIn K C (.type "object")=some true
 ve:PySem.W.kitOne K (.ref C) (.type "ValueError")=some true
theorem Rk {v:V} {u:Value} (r:RelV v u):PySem.W.handedIn u=true:=by
 cases v with
 | non=>cases r; rfl
 | bl b=>cases r; rfl
 | int i=>obtain ⟨t,rfl⟩:=r; rfl
 | str x=>obtain ⟨t,rfl⟩:=r; rfl
 | byt b=>obtain ⟨t,rfl⟩:=r; rfl
 | flt b=>obtain ⟨t,rfl⟩:=r; rfl
 | ref a=>cases r; rfl
 | ty n=>cases r; rfl
section
variable {X:Cx} {e:Expr} {C:Addr} {f:Str} {i:Nat} {pos p:Pos}
end
end L2
namespace C
open PySem PySem.Spec PyProof.Rows L2
section
variable {K:PySem.W.Frag} {B:Bas} {f:Str} {i j:Nat} {hv:T->Option T} {th:Addr->TS} {Cl:Addr} {te:TE}
end
structure XR (P:Program) (w:World) (K:PySem.W.Frag) (mg:Str->Option Value) (base:Heap) (x:Str) (Cl:Addr) (f p:Str):Prop where
 ex:∃ D fI fd,XC K Cl D fI f/\Aw P w K mg base CX0 1 fI fd ["self",p] (Mv Cl f)/\Binds K fd ["self",p] []
 m:mg x=some (.ref Cl)
def Ak (P:Program) (w:World) (K:PySem.W.Frag) (mg:Str->Option Value) (base:Heap) (x:Str) (n:Nat) (ps:List Str) (Cl:Addr) (f:Str) (F:FnX):Prop :=
 ∃ (a:Addr) (fd:FuncData),Aw P w K mg base (CXx P w) n a fd ps (spX K ps.length Cl f F)/\Binds K fd ps []/\PySem.W.keepIn K (.ref a)=true/\mg x=some (.ref a)
theorem Ak.norm {P:Program} {w:World} {K:PySem.W.Frag} {mg:Str->Option Value} {base:Heap} {x:Str} {n:Nat} {ps:List Str} {Cl:Addr} {f:Str} {F:FnX} (D:Ak P w K mg base x n ps Cl f F):vm P w K mg base x n ps (C.norm F) :=
 let ⟨a,fd,h1,h2,h3,h4⟩:=D; ⟨a,fd,a7q h1,h2,h3,h4⟩
def afa (K:PySem.W.Frag) (mg:Str->Option Value) (x:Str) (Cl:Addr) (bm:List Value):Prop:=XCl K Cl bm/\mg x=some (.ref Cl)
section
variable {X:Cx} {B:Bas} {e:Expr} {es:List Expr} {ms:M (List T)} {pos p q1 q2 aH:Pos} {k:Nat} {Cl:Addr} {f x:Str} {pn:List Str} {F:FnX} {h₀:ExceptHandler} {hs:List ExceptHandler} {th:Addr->TS} {i j:Nat} {hv:T->Option T}
theorem zu {E:XK} {pr:Str} {arg:Expr} {m:M T} {np ay:Pos} (R:XR X.prog X.w X.K X.mg X.base x Cl f pr) (W:XW X E) (hr:xu 2 X.A) (hg:Gl X x) (ha:PE X arg (tOf X.K B m))
  (aJ:(x==("__debug__" : Str))=false:=by decide) (he:starEach [arg] X.env=[(false,eval arg X.env)]:=by rfl) :
  PS X (.Raise (some (.Call (.Name x np) [arg] [] ay)) none pos) (Ij X.K B Cl f E (Cu m)):=by
 obtain ⟨⟨D,fI,fd,h1,h2,h3⟩,m⟩:=R;exact a0o W h1 h2 hr h3 hg m ha aJ he
end
end C
end
section
namespace C
open PySem
noncomputable def nq:Nat->M Bool->SX->SX
 | 0,_,_=>fun _=>none
 | n+1,c,b=>fun s=>match c s with
  | some (false,s1)=>some (.inl .next,s1)
  | some (true,s1)=>match b s1 with
   | some (.inl .next,s2)=>nq n c b s2
   | some (.inl .cont,s2)=>nq n c b s2
   | some (.inl .brk,s2)=>some (.inl .next,s2)
   | some (.inl (.ret v),s2)=>some (.inl (.ret v),s2)
   | some (.inr v,s2)=>some (.inr v,s2)
   | none=>none
  | none=>none
end C
end
section
namespace L2
open PySem PySem.Spec PyProof.Rows
section
variable {P:Program} {w:World} {K:PySem.W.Frag} {mg:Str->Option Value} {base:Heap} {N:List Str} {qual:Str} {scope:Scope} {f:Addr} {cd:Value} {A:Around} {outer:List Env} {s₀:Shared} {H₀:Hp} {E:XK}
theorem Cd:Passes (CXx P w) (Pg (CXx P w) P w K mg base N qual scope f cd A outer s₀ H₀ E) E:=by
 intro pins σ H s e s' I h;have I0:=I.G3 (pins':=[]) (fun p hp=>nomatch hp);obtain ⟨a,C,dx,T,H',rfl,L,hE⟩:=XP.lies (X:=Pg (CXx P w) P w K mg base N qual scope f cd A outer s₀ H₀ E) ⟨H,s,I0,h⟩;show wpAny _ _ (leaving _ _) _ _ _;unfold leaving;refine wpAny_bind (L.note rfl rfl L.inv.ok.frames fun s2 T' L2=>?_);have za:s₀.heap.objs.size<=a:=L2.oa.1.elim (fun z=>nomatch z) id;have zT:s₀.heap.objs.size<=T':=L2.oT.1.elim (fun z=>nomatch z) id;exact ⟨a,C,dx,T',H',rfl,za,zT,L2.at_,L2.ha,L2.hT,L2.inv.os,L2.inv.bare,L2.inv.base,L2.inv.hok,hE⟩
end
end L2
namespace C
open PySem PySem.Spec PyProof.Rows L2
section
variable {X:Cx} {B:Bas} {c e:Expr} {es:List Expr} {ms:M (List T)} {pos p q1 aH:Pos} {u:SX} {Cl a:Addr} {f x y:Str} {E:XK} {fd:FuncData} {pn:List Str} {F:FnX} {k i:Nat}
theorem Ur {n:Nat} {mc:M Bool} {b:SX} {s s':Sta} {fl:Flow ⊕ T} (h:nq (n+1) mc b s=some (fl,s')):(∃ s1,mc s=some (false,s1)/\fl=.inl .next/\s'=s1) \/
  ∃ s1 fb s2,mc s=some (true,s1)/\b s1=some (fb,s2)/\(match fb with | .inl .next=>nq n mc b s2=some (fl,s') | .inl .cont=>nq n mc b s2=some (fl,s') | .inl .brk=>fl=.inl .next/\s'=s2 | .inl (.ret v)=>fl=.inl (.ret v)/\s'=s2 | .inr v=>fl=.inr v/\s'=s2):=by
 rw [nq] at h;dsimp only at h;split at h
 ·rename_i s1 e1; cases h; exact .inl ⟨_,e1,rfl,rfl⟩
 ·rename_i s1 e1;split at h
  ·rename_i s2 e2; exact .inr ⟨s1,.inl .next,s2,e1,e2,h⟩
  ·rename_i s2 e2; exact .inr ⟨s1,.inl .cont,s2,e1,e2,h⟩
  ·rename_i s2 e2; cases h; exact .inr ⟨s1,.inl .brk,_,e1,e2,rfl,rfl⟩
  ·rename_i v s2 e2; cases h; exact .inr ⟨s1,.inl (.ret v),_,e1,e2,rfl,rfl⟩
  ·rename_i v s2 e2; cases h; exact .inr ⟨s1,.inr v,_,e1,e2,rfl,rfl⟩
  ·cases h
 ·cases h
theorem Um (n:Nat) {mc:M Bool} {body:List Stmt} (hp:PassesOwn (model X.prog X.w) X.A X.env X.xe) (hc:PT X c (cOf X.K B mc)) (hb:PSs X body (Ij X.K B Cl f E u)):PS X (.While c body [] pos) (Ij X.K B Cl f E (nq n mc u)):=(Ua hp hc hb).imp fun D σ H z9=>by
 obtain ⟨st,ps,S,as,R,fl,aa,e,q⟩:=z9;refine ⟨fun k σ H=>∃ aC Si aA,Rel X.K B aC σ H ps Si aA/\nq k mc u aC=some (fl,aa),⟨n,st,S,as,R,e⟩,?_⟩;rintro k br H2 ⟨aC,Si,aA,Ri,ei⟩;cases k with
 | zero=>rw [nq] at ei; cases ei
 | succ k =>
  rcases Ur ei with ⟨s1,e1,rfl,rfl⟩ | ⟨s1,fb,s2,e1,e2,er⟩
  ·exact ⟨aC,ps,Si,aA,Ri,false,_,e1,fun H3 S3 aF R3=>Wv (q br H3 S3 aF R3)⟩
  ·refine ⟨aC,ps,Si,aA,Ri,true,s1,e1,fun H3 S3 aF R3=>Yo ⟨fun σ' H'=>∃ aC Si aA,Rel X.K B aC σ' H' ps Si aA/\nq k mc u aC=some (fl,aa),fun σ' H' h=>⟨k,Nat.lt_succ_self _,h⟩,s1,ps,S3,aF,R3,fb,s2,e2,?_⟩⟩;cases fb with
   | inr v =>
    obtain ⟨rfl,rfl⟩:=er;exact fun w dx σ' H' S' af R' hd=>q w dx σ' H' S' af R' hd
   | inl fb =>
    cases fb with
    | next=>exact fun σ' H' S' af R'=>⟨s2,S',af,R',er⟩
    | cont=>exact fun σ' H' S' af R'=>⟨s2,S',af,R',er⟩
    | brk =>
     obtain ⟨rfl,rfl⟩:=er;exact fun σ' H' S' af R'=>q σ' H' S' af R'
    | ret v =>
     obtain ⟨rfl,rfl⟩:=er;exact fun v σ' H' S' af R'=>q v σ' H' S' af R'
end
end C
end
section
namespace L2
open PySem PySem.Spec PyProof.Rows
section
variable {X:Cx} {pins:List (Addr × Obj)} {σ:St} {H:Hp} {s:Shared} {e:Addr}
end
section
variable {X:Cx} {C D fI:Addr} {f p x:Str} {fd:FuncData} {arg:Expr} {te:TE} {np ay pos:Pos}
end
section
variable {X:Cx} {e:Expr} {C:Addr} {f:Str} {te:TE} {pos p:Pos}
theorem a6j (g:XG X.K C f) (he:PE X e te) (hb:attributeBase e f X.env (eval e X.env)=eval e X.env) :
  PE X (.Attribute e f pos) fun σ H Q=>te σ H fun x H1=>∃ a dx v,x=.ref a/\H1 a=some (Qe a C dx)/\H1 dx=some (Bp dx f v)/\Q v H1:=by
 intro pins s σ H Q I h;refine Zd hb (thn (he pins s σ H _ I h) fun u s1 z0=>?_);obtain ⟨x,H1,I1,rx,a,dx,v,ex,e2,e3,q⟩:=z0;subst ex;obtain rfl:u=Value.ref a:=rx;obtain ⟨⟨vs,ga⟩,_⟩:=I1.hok a _ e2;obtain ⟨⟨hs,tk,u,r,gd⟩,_⟩:=I1.hok dx _ e3;refine My.a2k (ox:=Tr C dx vs) (od:=some (PySem.W.dictOf [⟨hs,.str f tk,u⟩] 1)) I1.kIn ⟨ga,rfl,rfl,gd⟩ g.ga g.gt g.bx (PySem.W.findObj_own g.dc g.na rfl ?_) (Rk r) ⟨v,H1,I1.tok _,r,q⟩;rw [PySem.W.lookIn_dict];simp [PySem.W.getL,Value.isStr]
theorem a0c {cv:V} {cw:Value} (dN:∀ u,RelV cv u->u=cw):Ej X (.builtin "isinstance") (fun xs H Q=>∃ a dx v C f b,xs=[.ref a,cv]/\H a=some (Qe a C dx)/\H dx=some (Bp dx f v)/\XG X.K C f/\PySem.W.kitOne X.K (.ref C) cw=some b/\Q (.bl b) H):=by
 intro pins s σ H xs us Q I rs z8;obtain ⟨a,dx,v,C,f,b,ex,e2,e3,g,hk,q⟩:=z8;subst ex;obtain ⟨u1,u2,rfl,r1,r2⟩:=rs.two;obtain rfl:u1=Value.ref a:=r1;obtain rfl:=dN u2 r2;obtain ⟨⟨vs,ga⟩,_⟩:=I.hok a _ e2;obtain ⟨⟨hs,tk,u,r,gd⟩,_⟩:=I.hok dx _ e3;exact PySem.W.kia_one (My.a1g (ox:=Tr C dx vs) (od:=PySem.W.dictOf [⟨hs,.str f tk,u⟩] 1) g.ga g.gt g.bx g.dc g.cl g.cg g.ct g.ob) I.kIn ⟨ga,rfl,rfl,gd⟩ hk (by intro q; cases q) fun t=>⟨.bl b,H,I.tok t,rfl,q⟩
end
end L2
namespace C
open PySem PySem.Spec PyProof.Rows L2
section
variable {X:Cx} {B:Bas} {Cl D fI:Addr} {f p x:Str} {fd:FuncData} {arg:Expr} {m:M T} {np ay pos:Pos}
theorem a4y {st:Sta} {σ:L2.St} {H S:Hp} {ps:List (V × T)} {as:List Addr} {v:V} {n:Nat} {c:Nat} {g:Str} {t:T} (R:Rel X.K B st σ H ((v,.obj n)::ps) S as) (e:st.sto[n]? = some (.exc c g t)) :
  ∃ a dx w,v=.ref a/\H a=some (Qe a c dx)/\H dx=some (Bp dx g w)/\Rep X.K S as w t:=by
 have tp:=R.top;cases tp with
 | @obj _ a ha =>
  obtain ⟨a0,l0,_,dx,w,h1,h2,h3⟩:=R.sto.at' n _ e;rw [ha] at l0; cases l0;exact ⟨a,dx,w,rfl,h1,R.sub _ _ h2,h3⟩
theorem adu {e:Expr} (g:XG X.K Cl f) (he:PE X e (tOf X.K B m)) (hb:attributeBase e f X.env (eval e X.env)=eval e X.env:=by rfl):PE X (.Attribute e f pos) (tOf X.K B (mXf Cl f m)):=(a6j g he hb).imp fun σ H Q z9=>by
 obtain ⟨st,ps,S,as,R,t,aa,e,q⟩:=z9;unfold mXf at e;split at e
 ·rename_i n s1 e1;split at e
  ·rename_i d g' t' e2;split at e
   ·rename_i hc;obtain ⟨hc1,hc2⟩:=hc;subst hc1 hc2;cases e;refine ⟨st,ps,S,as,R,_,_,e1,fun v H1 S1 ae R1=>?_⟩;obtain ⟨a,dx,w,ev,h1,h2,h3⟩:=a4y R1 e2;exact ⟨a,dx,w,ev,h1,h2,q _ _ _ _ (R1.drop.push h3)⟩
   ·cases e
  ·cases e
 ·cases e
theorem a5g {e d:Expr} {cv:V} {cw:Value} {tb:List (Nat × Str × Bool)} (dN:∀ u,RelV cv u->u=cw) (hd:PE X d (tC cv)) (hg:Gl X "isinstance") (hm:X.mg "isinstance" = none) (he:PE X e (tOf X.K B m))
  (ht:∀ p∈tb,XG X.K p.1 p.2.1/\PySem.W.kitOne X.K (.ref p.1) cw=some p.2.2) (hs:starEach [e,d] X.env=(false,eval e X.env)::starEach [d] X.env:=by rfl) (aM:starEach [d] X.env=(false,eval d X.env)::starEach [] X.env:=by rfl) (aD:(backTo pos (starEach [d] X.env)).any (·.1)=false:=by rfl) :
  PE X (.Call (.Name "isinstance" np) [e,d] [] pos) (tOf X.K B (a8s tb m)):=(gw (a0c dN) hg hm PyProof.Rows.boot_isinstance (mq he (mq hd xr aM) hs) (by decide) (by decide) hs aD).imp fun σ H Q z9=>by
 obtain ⟨st,ps,S,as,R,t,aa,e,q⟩:=z9;unfold a8s at e;split at e
 ·rename_i n s1 e1;split at e
  ·rename_i d g t' e2;split at e
   ·rename_i pp e3;cases e;have hp:=List.mem_of_find?_eq_some e3;have hf:=List.find?_some e3;rw [Bool.and_eq_true] at hf;have f1:pp.1=d:=eq_of_beq hf.1;have f2:pp.2.1=g:=eq_of_beq hf.2;obtain ⟨k1,k2⟩:=ht pp hp;rw [f1,f2] at k1;rw [f1] at k2;refine ⟨st,ps,S,as,R,_,_,e1,fun v H1 S1 ae R1=>?_⟩;obtain ⟨a,dx,w,ev,h1,h2,h3⟩:=a4y R1 e2;exact ⟨a,dx,w,d,g,_,by rw [ev],h1,h2,k1,k2,q _ _ _ _ (R1.drop.push (.bl _))⟩
   ·cases e
  ·cases e
 ·cases e
end
section
variable {K:PySem.W.Frag} {B:Bas} {f:Str} {i j:Nat} {th:Addr->TS} {Cl:Addr}
def aej (K:PySem.W.Frag) (B:Bas) (Cl:Addr) (f:Str) (i j:Nat) (th:Addr->TS):Prop :=
 ∀ dx D σ H st ps S as v t,Rel K B st σ H ((v,t)::ps) S as->S dx=some (Bp dx f v)->(∀ σ' H' S' af,Rel K B (clr i (ig j (.obj st.sto.length) false (clr i { st with sto:=st.sto++[.exc Cl f t] }))) σ' H' ps S' af->D.nx σ' H')->th dx D σ H
theorem a2p:aej K B Cl f i j (fun dx D σ H=>∀ a,H a=none->i<σ.length->a9j (Zf i) (Kr j) (a9v i D) (σ.set i (some (.ref a))) (upd H a (Qe a Cl dx))):=fun dx D σ H st ps S as v t R hd q a ha hi=>by
 have R1:=R.drop.newObj (ob:=Qe a Cl dx) (so:=.exc Cl f t) ha ⟨dx,v,d8,hd,R.top.mono (Same.refl _) ⟨[a],rfl⟩⟩;have R2:=R1.clr (i:=i) (σ':=σ.set i (some (.ref a))) (fun k n=>List.getElem?_set_ne (Ne.symm n)) (List.length_set ..);refine ⟨_,List.getElem?_set_self hi,?_⟩;exact q _ _ _ _ ((R2.drop.put R2.top).clr (fun k n=>List.getElem?_set_ne (Ne.symm n)) (List.length_set ..))
end
section
variable {X:Cx} {B:Bas} {e:Expr} {es:List Expr} {ms:M (List T)} {pos p q1 q2 aH:Pos} {k:Nat} {a Cl:Addr} {f x:Str} {fd:FuncData} {pn:List Str} {F:FnX} {h₀:ExceptHandler} {hs:List ExceptHandler} {th:Addr->TS} {i j:Nat}
theorem a7g (D:Ak X.prog X.w X.K X.mg X.base x k pn Cl f F) (hst:X.stack=X.env::X.outer) (hfr:X.env.frame=some X.env.locals) (hr:xu k X.A) (hg:Gl X x)
  (ha:PA X.nox (e::es) (aOf X.K B ms)) (hl:∀ st ts aa,ms st=some (ts,aa)->ts.length=pn.length) (hh:PHs X (h₀::hs) Cl th) (ho:aej X.K B Cl f i j th) (aJ:(x==("__debug__" : Str))=false:=by decide)
  (he:starEach (e::es) X.env=(false,eval e X.env)::starEach es X.env:=by rfl) (aD:(backTo pos (starEach es X.env)).any (·.1)=false:=by rfl) (bS:swapsWith (.Call (.Name x p) (e::es) [] pos) none q1.line X.env=pure false:=by rfl) :
  PS X (.Try [.Expr (.Call (.Name x p) (e::es) [] pos) q1] (h₀::hs) [] [] q2) (sOf X.K B (Z9 Cl f F ms i j)):=by
 obtain ⟨fa,fd,G,hb,hk,hm⟩:=D;refine (aaj hst hfr (a6h G hr hg hm hk hb ha aJ he aD bS) hh).imp fun D σ H z0=>?_;obtain ⟨st,ps,S,as,R,fl,aa,e,q⟩:=z0;unfold Z9 at e;split at e
 ·rename_i ts s1 e1;split at e
  ·rename_i t sto e2;cases e;refine ⟨st,ps,S,as,R,ts,s1,e1,fun vs H1 S1 ae R1 rs=>⟨S1,ae,s1.sto,ts,.inr t,sto,R1.sub,R1.sto,rs,hl _ _ _ e1,e2,?_⟩⟩;exact fun v dx H2 S2 ax g sub so r hd=>⟨dx,rfl,rfl,ho dx D σ H2 _ ps S2 ax v t ((R1.call g sub so).push r) hd q⟩
  ·cases e
 ·cases e
end
end C
end
section
namespace C
open PySem
def Pa:List T->Option T
 | [.int i]=>if xg i then some (.str (toString i)) else none
 | _=>none
noncomputable def a4q:T->Option T
 | .int i=>if xg i then some (.str (toString i)) else none
 | .str x=>if x.length<lim then some (.str x) else none
 | _=>none
noncomputable def K5:List T->Option T
 | [.str a,.str b,.str c]=>if a.length<lim/\(a++b).length<lim/\(a++b++c).length<lim then some (.str (a++b++c)) else none
 | _=>none
end C
end
section
namespace C
open PySem PySem.W PyProof.Rows
def a4r {α:Type} (lt:Nat->Nat->Bool):KasT α->α
 | .ret a=>a
 | .ask i j k=>a4r lt (k (lt i j))
def ltS (l:List Str) (i j:Nat):Bool:=decide ((l.getD i "").cps.toList<(l.getD j "").cps.toList)
noncomputable def order (l:List Str):List Nat:=if l.length<2 then List.range l.length else (a4r (ltS l) (kas_sort l.length)).toList
end C
end
section
namespace C
open PySem
noncomputable def Ay (i:Nat):M T:=fun s=>match s.env[i]? with
 | some (some (.dic kvs,_))=>if kvs.length<lim then some (.lst (kvs.map fun p=>Je p.1),s) else none
 | _=>none
end C
end
section
namespace C
open PySem PySem.Spec PyProof.Rows L2
theorem a7x {k:L2.Key} {u:Value} (h:O9 k u=true):RelV (kV k) u:=by
 rcases jt h with ⟨i,t,rfl,rfl⟩ | ⟨x,t,rfl,rfl⟩
 ·exact ⟨t,rfl⟩
 ·exact ⟨t,rfl⟩
section
variable {K:PySem.W.Frag} {S S':Hp} {as:List Addr}
end
section
variable {X:Cx} {scope:Scope} {N:List Str} {B:Bas} {nv:Nat} {ai:List Nat} {g:G} {c:M Bool} {e:M T} {tg iter elt:Expr} {ifs:List Expr} {pos:Pos} {i:Nat}
end
section
end
section
variable {K:PySem.W.Frag} {B:Bas} {st:Sta} {σ:L2.St} {H S:Hp} {ps:List (V × T)} {as:List Addr}
end
theorem Np {K:PySem.W.Frag} {S:Hp} {as:List Addr}:∀ {vs:List (L2.Key × V)} {ts:List (L2.Key × T)},Cr K S as vs ts->qd K S as (vs.map fun p=>kV p.1) (ts.map fun p=>Je p.1)
 | _,_,.nil=>.nil
 | _,_,.cons (k:=k) _ r=>.cons (by cases k with
  | inl i=>exact .int i
  | inr x=>exact .str x) (Np r)
theorem Yb {P:Program} {w:World}:∀ {kvs:List (L2.Key × V)} {vs:List (L2.Key × Value)} {us:List Value},KV kvs vs->us.length=kvs.length->(∀ (j:Nat) (v:Value),us[j]? = some v->∃ k x,vs[j]? = some (k,x)/\(jr P w).is k v=true)->Vals (kvs.map fun p=>kV p.1) us:=by
 intro kvs vs us r;unfold KV at r
 induction r generalizing us with
 | nil=>intro hl _; cases us with
  | nil=>exact .nil
  | cons _ _=>simp at hl
 | cons h _ ih =>
  intro hl hu;cases us with
  | nil=>simp at hl
  | cons u us =>
   refine .cons ?_ (ih (by simpa using hl) fun j v e=>by simpa using hu (j+1) v (by simpa using e));obtain ⟨k,x,e,hk⟩:=hu 0 u rfl;have e':=Option.some.inj e;show RelV (kV _) u;rw [h.1,e'];exact a7x hk
section
variable {X:Cx} {B:Bas} {a b c e o k d:Expr} {m mo mk md mv:M T} {pos p:Pos}
theorem Ja (hc:X.calm=true):Ej X (.type "list") (fun xs H Q=>∃ q kvs,xs=[.ref q]/\Rd H q (.dK kvs)/\∀ p,H p=none->Q (.ref p) (upd H p (.lst (kvs.map fun p=>kV p.1)))):=by
 intro pins s σ H xs us Q I rs z8;obtain ⟨a,kvs,ex,h1,h2⟩:=z8;subst ex;obtain ⟨u,rfl,ru⟩:=rs.one;cases ru;obtain ⟨z,hd,vs,rel,dd⟩:=Gb I.hok h1;obtain ⟨o,es,ep,dat⟩:=dd;have da:s.heap.DictAt (jr X.prog X.w) a vs ep:=⟨o,es,dat⟩;refine PySem.W.kdl_call (PySem.W.kdl_dict hd) (I.ok.hd hc) da (by rw [<- rel.length]; exact z) fun h' tk acc c kp at' it=>?_;have len:acc.toList.length=kvs.length:=by rw [rel.length]; simpa using it.1
 refine ⟨.ref _,_,I.laid (a:=s.heap.objs.size) (o:=.lst (kvs.map fun p=>kV p.1)) (h':=h') (t':=tk) kp (Nat.le_refl _) ⟨by rw [List.length_map]; exact z,acc.toList,c,?_,by simpa using at'⟩,rfl,h2 _ (I.hok.fresh (Nat.le_refl _))⟩;refine Yb (P:=X.prog) (w:=X.w) rel len fun j v e=>?_;exact it.2 j v (by rw [<- Array.getElem?_toList]; exact e)
end
section
variable {K:PySem.W.Frag} {S:Hp} {as:List Addr}
end
section
variable {X:Cx} {B:Bas} {a b e:Expr} {m m2:M T} {pos p1:Pos} {es:List Expr} {ms:M (List T)}
theorem Rel.base {K:PySem.W.Frag} {B:Bas} {st:Sta} {σ:L2.St} {H S:Hp} {ps:List (V × T)} {as:List Addr} (r:Rel K B st σ H ps S as):Rel K ⟨S,as,B.H⟩ st σ H ps S as :=
 ⟨r.sub,⟨Same.refl _,nol,fun p o h1 h2 h3=>by
  change S p=none at h2
  have b2:B.S p=none:=by
   cases q:B.S p with
   | none=>rfl
   | some u=>have:=r.grow.same _ _ q; rw [h2] at this; cases this
  have b3:p∉B.as:=fun q=>by obtain ⟨l,e⟩:=r.grow.more; exact h3 (by show p∈as; rw [e]; exact List.mem_append_left _ q)
  exact ⟨(r.grow.keep p o h1 b2 b3).1,h2,h3⟩⟩,fun i t f e=>by
   obtain ⟨v,h1,h2,h3⟩:=r.slots i t f e;exact ⟨v,h1,h2,fun q=>by obtain ⟨p,ep,o⟩:=h3 q; exact ⟨p,ep,o.own,o.out,o.nas,o.new⟩⟩,r.apart,r.sto,r.pend,r.len⟩
end
end C
end
section
namespace C
open PySem L2
section
variable {K:PySem.W.Frag} {S S':Hp} {as:List Addr}
end
section
variable {X:Cx} {B:Bas} {e:Expr}
end
section
variable {X:Cx} {B:Bas} {e:Expr}
end
end C
end
section
namespace C
open PySem PySem.Spec PyProof.Rows L2
theorem Ml {i:Nat} {s s':Sta} {t:T} (h:Ay i s=some (t,s')):∃ kvs f,s.env[i]? = some (some (.dic kvs,f))/\kvs.length<lim/\t=.lst (kvs.map fun p=>Je p.1)/\s'=s:=by
 unfold Ay at h;split at h
 ·rename_i kvs f e1;obtain ⟨hl,h⟩:=vq h;cases h; exact ⟨kvs,f,e1,hl,rfl,rfl⟩
 ·cases h
section
variable {X:Cx} {B:Bas} {a b c e o k d:Expr} {m mo mk md mv:M T} {pos p:Pos}
theorem V4 (i:Nat) (hc:X.calm=true) (hg:Gl X "list") (hm:X.mg "list" = none) (ho:PE X o (Zf i)) (he:starEach [o] X.env=(false,eval o X.env)::starEach [] X.env:=by rfl) (aD:(backTo pos (starEach [] X.env)).any (·.1)=false:=by rfl) :
  PE X (.Call (.Name "list" p) [o] [] pos) (tOf X.K B (Ay i)):=by
 intro pins s σ H Q I z8;obtain ⟨st,ps,S,as,R,t,aa,e,q⟩:=z8;obtain ⟨kvs,f,e1,hl,rfl,rfl⟩:=Ml e;obtain ⟨p0,ws,s0,h1,h2⟩:=R.dictAt e1;have pa:=mq ho xr he;refine Call_ (K6 I hg hm PyProof.Rows.boot_list (PyProof.Rows.callWith_type1 (thn (pa pos pins s σ H (fun vs H2=>vs=[.ref p0]/\H2=H) I ⟨_,s0,rfl,rfl⟩) fun us s2 z0=>?_) he aD));obtain ⟨vs,H1,I1,r1,q1⟩:=z0;obtain ⟨rfl,rfl⟩:=q1;refine Ja hc pins s2 σ H1 _ us Q I1 r1 ⟨p0,ws,rfl,h1,fun p hp=>?_⟩;have x:=Ext.laid R.sub hp (.lst (ws.map fun p=>kV p.1));exact q _ _ _ as ((R.ext x).push (.lst (SqL.of d8) ((Np h2).mono x.s nol)))
theorem Jk:∀ {l:List Int} {us:List Value},Vals (l.map V.int) us->∃ ps:List (Int × Tok),us=ps.map (fun p=>.int p.1 p.2)/\ps.map (·.1)=l
 | [],_,.nil=>⟨[],rfl,rfl⟩
 | i::l,_,.cons (b:=u) r rs=>by
  obtain ⟨ps,h1,h2⟩:=Jk rs;obtain ⟨t,rfl⟩:=r;exact ⟨(i,t)::ps,by rw [h1]; rfl,by rw [<- h2]; rfl⟩
end
section
variable {X:Cx} {B:Bas} {m ie ib:M T}
end
section
variable {K:PySem.W.Frag} {S:Hp} {as:List Addr}
end
section
variable {X:Cx} {pins:List (Addr × Obj)} {σ:L2.St} {H:Hp} {s:Shared} {a b:Addr} {u:Value} {v:V} {A:Around} {E:Value->Shared->Prop}
end
section
variable {X:Cx} {B:Bas} {o k e:Expr} {es:List Expr} {mo mk mv:M T} {ms:M (List T)} {td ty:TE} {i:Expr} {pos pos' p2:Pos} {j:Nat}
end
section
variable {X:Cx} {B:Bas} {a b c e:Expr} {m:M T} {pos p:Pos} {u v:S}
end
end C
end
section
namespace HT
open PySem PyProof.Rows
section
variable {prog:Program} {w:World} {A:Around} {E:Value->Shared->Prop} {s:Shared}
end
end HT
namespace C
open PySem PySem.Spec PyProof.Rows L2
section
variable {X:Cx} {B:Bas} {a:Expr} {m:M T} {ml mh:M (Option Int)} {lo hi:Option Expr} {pos p2:Pos}
end
end C
end
section
namespace C
open PySem PySem.Spec
section
variable {prog:Program} {w:World} {A:Around} {E:Value->Shared->Prop} {s:Shared} {it l:Addr} {xs:Array Value}
end
end C
end
section
namespace C
open PySem PySem.Spec PyProof.Rows L2
section
variable {X:Cx} {B:Bas} {a b e e1 e2:Expr} {m m1 m2:M T} {pos p1 p2 p3 p4:Pos} {lo hi:Option Expr} {ml mh:M (Option Int)}
end
section
variable {X:Cx} {B:Bas} {a:Expr} {m:M T} {pos p:Pos} {elts:List Expr} {x1:Nat} {aH:Pos}
end
end C
end
section
namespace C
open PySem L2
section
variable {X:Cx} {B:Bas} {a b tg:Expr} {m1 m2:M T} {pos p:Pos}
end
end C
end
section
namespace C
open PySem
noncomputable def a0y (f:Str) (t:T):List (Str × T)->List (Str × T)
 | []=>[(f,t)]
 | (k,x)::r=>if k=f then (k,t)::r else (k,x)::a0y f t r
noncomputable def M4 (C:Nat) (n:Nat) (sto:List SO):Option (List (Str × T)):=match sto[n]? with
 | some (.ins D fs)=>if D=C then some fs else none
 | _=>none
noncomputable def Dt (C:Nat) (f:Str) (o:M T):M T:=fun s=>match o s with
 | some (.obj n,s1)=>match M4 C n s1.sto with
  | some fs=>match fs.lookup f with
   | some t=>some (t,s1)
   | none=>none
  | none=>none
 | _=>none
noncomputable def ug (C:Nat) (f:Str) (o v:M T):S:=fun s=>match v s with
 | some (t,s1)=>match o s1 with
  | some (.obj n,s2)=>match M4 C n s2.sto with
   | some fs=>if fs.length<100 then some (.next,{ s2 with sto:=s2.sto.set n (.ins C (a0y f t fs)) }) else none
   | none=>none
  | _=>none
 | none=>none
noncomputable def ud (C:Nat) (m:Str) (F:Fn) (o:M T) (a:M (List T)):M T:=fun s=>match o s with
 | some (.obj n,s1)=>match M4 C n s1.sto with
  | some fs=>if fs.lookup m=none then (match a s1 with
   | some (ts,s2)=>match F (.obj n::ts) s2.sto with
    | some (t,sto)=>some (t,{ s2 with sto:=sto })
    | none=>none
   | none=>none) else none
  | none=>none
 | _=>none
noncomputable def a78 (n:Nat) (g:G) (c:M Bool) (e:M T):Nat->Nat->Sta->List T->Option (List T × Sta)
 | 0,_,_,_=>none
 | k+1,i,s,acc=>match s.sto[n]? with
  | some (.lst xs)=>match xs[i]? with
   | none=>some (acc,s)
   | some t=>match g t s with
    | some s1=>match c s1 with
     | some (true,s2)=>match e s2 with
      | some (u,s3)=>if acc.length<lim then a78 n g c e k (i+1) (j9 s3) (acc++[u]) else none
      | none=>none
     | some (false,s2)=>a78 n g c e k (i+1) (j9 s2) acc
     | none=>none
    | none=>none
  | _=>none
end C
namespace C
open PySem
end C
end
section
namespace C
open PySem PySem.Spec PyProof.Rows L2
theorem Ae {Cl n:Nat} {sto:List SO} {fs:List (Str × T)} (h:M4 Cl n sto=some fs):sto[n]? = some (.ins Cl fs):=by
 unfold M4 at h;split at h
 ·rename_i D cQ e
  by_cases z:D=Cl
  ·rw [if_pos z] at h; cases h; rw [<- z]; exact e
  ·rw [if_neg z] at h; cases h
 ·cases h
theorem a2b {Cl:Nat} {f:Str} {o:M T} {s s':Sta} {t:T} (h:Dt Cl f o s=some (t,s')):∃ n fs,o s=some (.obj n,s')/\s'.sto[n]? = some (.ins Cl fs)/\fs.lookup f=some t:=by
 unfold Dt at h;split at h
 ·rename_i n s1 e1;split at h
  ·rename_i fs e2;split at h
   ·rename_i t' e3;cases h; exact ⟨n,fs,e1,Ae e2,e3⟩
   ·cases h
  ·cases h
 ·cases h
theorem Qx {Cl:Nat} {f:Str} {o v:M T} {s s':Sta} {fl:Flow} (h:ug Cl f o v s=some (fl,s')):∃ t s1 n s2 fs,v s=some (t,s1)/\o s1=some (.obj n,s2)/\s2.sto[n]? = some (.ins Cl fs)/\fs.length<100/\fl=.next/\s' = { s2 with sto:=s2.sto.set n (.ins Cl (a0y f t fs)) }:=by
 unfold ug at h;split at h
 ·rename_i t s1 e1;split at h
  ·rename_i n s2 e2;split at h
   ·rename_i fs e3;obtain ⟨hl,h⟩:=vq h;cases h; exact ⟨t,s1,n,s2,fs,e1,e2,Ae e3,hl,rfl,rfl⟩
   ·cases h
  ·cases h
 ·cases h
theorem Nb {Cl:Nat} {m:Str} {F:Fn} {o:M T} {a:M (List T)} {s s':Sta} {t:T} (h:ud Cl m F o a s=some (t,s')):∃ n s1 fs ts s2 sto,o s=some (.obj n,s1)/\s1.sto[n]? = some (.ins Cl fs)/\fs.lookup m=none/\a s1=some (ts,s2)/\F (.obj n::ts) s2.sto=some (t,sto)/\s' = { s2 with sto:=sto }:=by
 unfold ud at h;split at h
 ·rename_i n s1 e1;split at h
  ·rename_i fs e2;obtain ⟨hn,h⟩:=vq h;split at h
   ·rename_i ts s2 e3;split at h
    ·rename_i t' sto e4;cases h; exact ⟨n,s1,fs,ts,s2,sto,e1,Ae e2,hn,e3,e4,rfl⟩
    ·cases h
   ·cases h
  ·cases h
 ·cases h
section
variable {K:PySem.W.Frag} {S:Hp} {as:List Addr}
theorem Tf.get {f:Str} {vs:List (Str × V)} {ts:List (Str × T)} (h:Tf K S as vs ts):(∀ t,ts.lookup f=some t->∃ v,vs.lookup f=some v/\Rep K S as v t)/\(ts.lookup f=none->vs.lookup f=none):=by
 induction h with
 | nil=>exact ⟨fun t z=>(by cases z),fun _=>rfl⟩
 | @cons k v t vs ts r _ ih =>
  rw [List.lookup_cons,List.lookup_cons];cases hk:f==k with
  | true=>exact ⟨fun u z=>(by cases z; exact ⟨v,rfl,r⟩),fun z=>(by cases z)⟩
  | false=>exact ih
theorem Tf.length {vs:List (Str × V)} {ts:List (Str × T)} (h:Tf K S as vs ts):vs.length=ts.length:=by
 induction h with
 | nil=>rfl
 | cons _ _ ih=>exact congrArg (· + 1) ih
theorem Tf.put {f:Str} {v:V} {t:T} (r:Rep K S as v t) {vs:List (Str × V)} {ts:List (Str × T)} (h:Tf K S as vs ts):Tf K S as (Lq f v vs) (a0y f t ts):=by
 induction h with
 | nil=>exact .cons r .nil
 | @cons k v' t' vs ts r' h' ih =>
  rw [show Lq f v ((k,v')::vs)=(if k=f then (k,v)::vs else (k,v')::Lq f v vs) from rfl,show a0y f t ((k,t')::ts)=(if k=f then (k,t)::ts else (k,t')::a0y f t ts) from rfl]
  by_cases hk:k=f
  ·rw [if_pos hk,if_pos hk]; exact .cons r h'
  ·rw [if_neg hk,if_neg hk]; exact .cons r' ih
end
section
variable {X:Cx} {B:Bas} {o e v:Expr} {es:List Expr} {mo mv m1:M T} {ms:M (List T)} {pos p apos:Pos} {Cl:Addr} {f m x:Str} {k:Nat} {g:Addr} {fd:FuncData} {pn:List Str} {F:Fn}
theorem Ad (c:Cls X.K Cl) (n:Bl X.K Cl f) (ho:PE X o (tOf X.K B mo)) (hb:attributeBase o f X.env (eval o X.env)=eval o X.env:=by rfl):PE X (.Attribute o f pos) (tOf X.K B (Dt Cl f mo)):=(aas ho hb).imp fun σ H Q z9=>by
 obtain ⟨st,ps,S,as,R,t,aa,e,q⟩:=z9;obtain ⟨k,fs,e1,e2,e3⟩:=a2b e;refine ⟨st,ps,S,as,R,_,aa,e1,fun v H1 S1 ae R1=>?_⟩;have t1:=R1.top;cases t1 with
 | @obj _ a ha =>
  obtain ⟨a',h1,_,dx,vs,h3,h4⟩:=R1.sto.at' k _ e2;rw [ha] at h1; cases h1;obtain ⟨w,hw,a5⟩:=(h4.get (f:=f)).1 t e3;exact ⟨a,Cl,dx,vs,w,rfl,h3,c,n,hw,q w H1 S1 ae (R1.drop.push a5)⟩
theorem Fq {pos':Pos} (c:Cls X.K Cl) (n:Bl X.K Cl f) (ho:PE X o (tOf X.K B mo)) (hv:PE X v (tOf X.K B mv)) (hs:swapsWith v (some (.Attribute o f pos')) pos.line X.env=pure false:=by rfl):PS X (.Assign [.Attribute o f pos'] v pos) (sOf X.K B (ug Cl f mo mv)):=(a3r ho hv hs).imp fun D σ H z9=>by
 obtain ⟨st,ps,S,as,R,fl,aa,e,q⟩:=z9;obtain ⟨t,s1,k,s2,fs,e1,e2,e3,hl,rfl,rfl⟩:=Qx e;refine ⟨st,ps,S,as,R,t,s1,e1,fun v H1 S1 ae R1=>⟨s1,_,S1,ae,R1,_,s2,e2,fun x H2 S2 ax R2=>?_⟩⟩;have t1:=R2.top;cases t1 with
 | @obj _ a ha =>
  obtain ⟨a',h1,_,dx,vs,h3,h4⟩:=R2.sto.at' k _ e3;rw [ha] at h1; cases h1;exact ⟨a,Cl,dx,vs,rfl,h3,c,n,by rw [h4.length]; omega,q _ _ S2 ax (R2.drop.drop.W5 e3 ha ⟨dx,_,d8,h4.put R2.top2⟩)⟩
structure Xu (P:Program) (w:World) (K:PySem.W.Frag) (mg:Str->Option Value) (base:Heap) (Cl:Addr) (m:Str) (k:Nat) (ps:List Str) (F:Fn):Prop where
 ex:∃ g fd,Meth K Cl m g/\Aw P w K mg base CX0 k g fd ps (spF K ps.length F)/\Binds K fd ps []
 c:Cls K Cl
theorem G9 {pl:Sem Bool} (h:Xu X.prog X.w X.K X.mg X.base Cl m k pn F) (hr:xu k X.A) (ho:PE X o (tOf X.K B mo)) (ha:PA X (e::es) (aOf X.K B ms)) (hl:∀ st ts aa,ms st=some (ts,aa)->ts.length+1=pn.length)
  (hst:starEach (e::es) X.env=(false,eval e X.env)::starEach es X.env:=by rfl) (aD:(backTo pos (starEach es X.env)).any (·.1)=false:=by rfl)
  (ht:eval (.Call (.Attribute o m apos) (e::es) [] pos) X.env=(do
   let ov <- eval o X.env
   standAt apos.atName
   let (f,first) <- holding [ov] (getMethod ov m pl)
   callWith pos f first (backTo pos (starEach (e::es) X.env)) (backToKw pos (keywordEach [] X.env))):=by rfl) :
  PE X (.Call (.Attribute o m apos) (e::es) [] pos) (tOf X.K B (ud Cl m F mo ms)):=by
 obtain ⟨⟨g,fd,hm,G,hb⟩,c⟩:=h;refine (Ww (pl:=pl) ho c hm G hr hb .nil a7j ha hst aD ht).imp fun σ H Q z0=>?_;obtain ⟨st,ps,S,as,R,t,aa,e,q⟩:=z0;obtain ⟨n,s1,fs,ts,s2,sto,e1,e2,hn,e3,e4,rfl⟩:=Nb e;refine ⟨st,ps,S,as,R,_,s1,e1,fun v H1 S1 ae R1=>?_⟩;have t1:=R1.top;cases t1 with
 | @obj _ a ha =>
  obtain ⟨a',h1,_,dx,vs,h3,h4⟩:=R1.sto.at' n _ e2;rw [ha] at h1; cases h1;refine ⟨a,dx,vs,rfl,h3,(h4.get (f:=m)).2 hn,s1,_,S1,ae,R1,ts,s2,e3,fun us H2 S2 ax R2 rs=>?_⟩;show spF X.K pn.length F (.ref a::(us++[])) H2 Q E0;rw [List.append_nil];have r0:Rep X.K S2 ax (.ref a) (.obj n):=R2.top;exact ⟨S2,ax,s2.sto,.obj n::ts,t,sto,R2.sub,R2.sto,.cons r0 rs,hl _ _ _ e3,e4,fun v H3 S3 aF g sub so r=>q v H3 S3 aF ((R2.drop.call g sub so).push r)⟩
theorem M8 {pl:Sem Bool} (h:Xu X.prog X.w X.K X.mg X.base Cl m k pn F) (hr:xu k X.A) (ho:PE X o (tOf X.K B mo)) (hl:pn.length=1)
  (ht:eval (.Call (.Attribute o m apos) [] [] pos) X.env=(do
   let ov <- eval o X.env
   standAt apos.atName
   let (f,first) <- holding [ov] (getMethod ov m pl)
   callWith pos f first (backTo pos (starEach [] X.env)) (backToKw pos (keywordEach [] X.env))):=by rfl) :
  PE X (.Call (.Attribute o m apos) [] [] pos) (tOf X.K B (ud Cl m F mo d7)):=by
 obtain ⟨⟨g,fd,hm,G,hb⟩,c⟩:=h;refine (Sq (pl:=pl) ho c hm G hr hb .nil a7j ht).imp fun σ H Q z0=>?_;obtain ⟨st,ps,S,as,R,t,aa,e,q⟩:=z0;obtain ⟨n,s1,fs,ts,s2,sto,e1,e2,hn,e3,e4,rfl⟩:=Nb e;cases e3;refine ⟨st,ps,S,as,R,_,s1,e1,fun v H1 S1 ae R1=>?_⟩;have t1:=R1.top;cases t1 with
 | @obj _ a ha =>
  obtain ⟨a',h1,_,dx,vs,h3,h4⟩:=R1.sto.at' n _ e2;rw [ha] at h1; cases h1;refine ⟨a,dx,vs,rfl,h3,(h4.get (f:=m)).2 hn,?_⟩;show spF X.K pn.length F [.ref a] H1 Q E0;exact ⟨S1,ae,s1.sto,[.obj n],t,sto,R1.sub,R1.sto,.cons R1.top .nil,hl.symm,e4,fun v H3 S3 aF g sub so r=>q v H3 S3 aF ((R1.drop.call g sub so).push r)⟩
structure ag2 (P:Program) (w:World) (K:PySem.W.Frag) (mg:Str->Option Value) (base:Heap) (x:Str) (Cl:Addr) (k:Nat) (ps:List Str) (F:Fn):Prop where
 ex:∃ g fd,Mk K Cl g/\Aw P w K mg base CX0 k g fd ps (spF K ps.length F)/\Binds K fd ps []
 m:mg x=some (.ref Cl)
end
section
variable {X:Cx} {B:Bas} {tg iter:Expr} {mo:M T} {g:G} {u:S} {body:List Stmt} {pos:Pos}
end
section
variable {X:Cx} {scope:Scope} {N:List Str}
inductive CIO (K:PySem.W.Frag) (B:Bas) (n:Nat) (g:G) (c:M Bool) (e:M T) (us:List T) (env:List Slot) (s2:Sta) (σ:L2.St) (pp:List (V × T)) (D:Addr) (i m:Nat) (σ':L2.St) (H':Hp):Prop where
 | mk (aC:Sta) (Si:Hp) (aA:List Addr) (acc:List T) (aG:List V) (Ri:Rel K ⟨Si,aA,H'⟩ aC σ' H' [] Si aA) (no:Rv aC) (Ro:Rel K B ⟨env,aC.sto⟩ σ H' pp Si aA) (hD:H' D=some (.lst aG)) (sD:Si D=none) (nD:D∉aA) (rA:qd K Si aA aG acc) (ei:a78 n g c e m i aC acc=some (us,s2)):CIO K B n g c e us env s2 σ pp D i m σ' H'
variable {B:Bas} {nv:Nat} {ai:List Nat} {g:G} {mo:M T} {c:M Bool} {e:M T} {tg iter elt:Expr} {ifs:List Expr} {pos:Pos}
end
end C
end
section
namespace L2
open PySem PySem.Spec
open Sem (wp)
open Builtin
end L2
namespace C
open PySem PySem.Spec PyProof.Rows L2
section
variable {X:Cx} {B:Bas} {a b c e o k d v:Expr} {m m1 m2 mo mk md mv:M T} {pos p apos:Pos} {i:Nat}
end
section
variable {prog:Program} {w:World} {A:Around} {E:Value->Shared->Prop} {s:Shared}
end
section
variable {X:Cx} {B:Bas} {e l:Expr} {es elts:List Expr} {mo:M T} {ms:M (List T)} {body:List Stmt} {pos p q1 aH apos ay:Pos} {x1:Nat} {Cl:Addr} {f x:Str} {E:XK} {pn:List Str} {F:FnX} {k:Nat} {g:G} {u:S}
end
end C
end
section
namespace C
open PySem L2
section
variable {X:Cx} {B:Bas} {pos:Pos}
theorem Eb {ms:M (List T)} {n:Nat} (h:∀ st ts aa,ms st=some (ts,aa)->ts.length=n):∀ st ts aa,ms st=some (ts,aa)->ts.length+1=n+1:=fun st ts aa e=>congrArg (· + 1) (h st ts aa e)
end
end C
end
section
namespace C
open PySem
abbrev MX:=Sta->Option ((T ⊕ T) × Sta)
abbrev MXs:=Sta->Option ((List T ⊕ T) × Sta)
def K9 (m:M T):MX:=fun s=>match m s with
 | some (t,s1)=>some (.inl t,s1)
 | none=>none
noncomputable def qz (F:FnX) (a:M (List T)):MX:=fun s=>match a s with
 | some (ts,s1)=>match F ts s1.sto with
  | some (r,st)=>some (r,{ s1 with sto:=st })
  | none=>none
 | none=>none
def Bo:MXs:=fun s=>some (.inl [],s)
noncomputable def m7 (m:MX) (l:MXs):MXs:=fun s=>match m s with
 | some (.inl t,s1)=>(match l s1 with
  | some (.inl ts,s2)=>some (.inl (t::ts),s2)
  | some (.inr x,s2)=>some (.inr x,s2)
  | none=>none)
 | some (.inr x,s1)=>some (.inr x,s1)
 | none=>none
noncomputable def wu (C:Nat) (m:Str) (F:FnX) (o:M T) (a:MXs):MX:=fun s=>match o s with
 | some (.obj n,s1)=>(match M4 C n s1.sto with
  | some fs=>if fs.lookup m=none then (match a s1 with
   | some (.inl ts,s2)=>(match F (.obj n::ts) s2.sto with
    | some (r,st)=>some (r,{ s2 with sto:=st })
    | none=>none)
   | some (.inr x,s2)=>some (.inr x,s2)
   | none=>none) else none
  | none=>none)
 | _=>none
noncomputable def Pj (i:Nat) (m:MX):SX:=fun s=>match m s with
 | some (.inl t,s1)=>some (.inl .next,ig i t false s1)
 | some (.inr x,s1)=>some (.inr x,s1)
 | none=>none
noncomputable def Ra (m:MX):SX:=fun s=>match m s with
 | some (.inl _,s1)=>some (.inl .next,s1)
 | some (.inr x,s1)=>some (.inr x,s1)
 | none=>none
noncomputable def a0q (m:MX):SX:=fun s=>match m s with
 | some (.inl t,s1)=>some (.inl (.ret t),s1)
 | some (.inr x,s1)=>some (.inr x,s1)
 | none=>none
end C
end
section
namespace C
open PySem PySem.Spec PyProof.Rows L2
def FinE (K:PySem.W.Frag) (B:Bas) (Cl:Addr) (f:Str) (E:XK) (σ:L2.St) (ps:List (V × T)) (Q:VK):T ⊕ T->Sta->Prop
 | .inl t,aa=>∀ v H' S' af,Rel K B aa σ H' ((v,t)::ps) S' af->Q v H'
 | .inr t,aa=>∀ v dx H' S' af,Rel K B aa σ H' ((v,t)::ps) S' af->S' dx=some (Bp dx f v)->E (.ref Cl) (some dx) H'
noncomputable def Mg (K:PySem.W.Frag) (B:Bas) (Cl:Addr) (f:Str) (E:XK) (m:MX):TE:=fun σ H Q=>∃ st ps S as,Rel K B st σ H ps S as/\∃ r aa,m st=some (r,aa)/\FinE K B Cl f E σ ps Q r aa
def FinA (K:PySem.W.Frag) (B:Bas) (Cl:Addr) (f:Str) (E:XK) (σ:L2.St) (ps:List (V × T)) (Q:List V->Hp->Prop):List T ⊕ T->Sta->Prop
 | .inl ts,aa=>∀ vs H' S' af,Rel K B aa σ H' ps S' af->qd K S' af vs ts->Q vs H'
 | .inr t,aa=>∀ v dx H' S' af,Rel K B aa σ H' ((v,t)::ps) S' af->S' dx=some (Bp dx f v)->E (.ref Cl) (some dx) H'
noncomputable def a8x (K:PySem.W.Frag) (B:Bas) (Cl:Addr) (f:Str) (E:XK) (m:MXs):TA:=fun σ H Q=>∃ st ps S as,Rel K B st σ H ps S as/\∃ r aa,m st=some (r,aa)/\FinA K B Cl f E σ ps Q r aa
section
variable {X:Cx} {B:Bas} {e o:Expr} {es:List Expr} {m:M T} {mo:M T} {mx:MX} {ms:M (List T)} {aQ:MXs} {pos p q1 aH apos:Pos} {Cl a:Addr} {f x y mn:Str} {E:XK} {fd:FuncData} {pn:List Str} {F:FnX} {k i:Nat} {Co:Addr}
theorem Y4 (h:PE X e (tOf X.K B m)):PE X e (Mg X.K B Cl f E (K9 m)):=h.imp fun σ H Q z9=>by
 obtain ⟨st,ps,S,as,R,r,aa,ev,q⟩:=z9;unfold K9 at ev;split at ev
 ·rename_i t s1 e1; cases ev; exact ⟨st,ps,S,as,R,t,_,e1,q⟩
 ·cases ev
theorem Vk {st aa:Sta} {r:T ⊕ T} (h:qz F ms st=some (r,aa)):∃ ts s1 sto,ms st=some (ts,s1)/\F ts s1.sto=some (r,sto)/\aa = { s1 with sto:=sto }:=by
 unfold qz at h;split at h
 ·rename_i ts s1 e1;split at h
  ·rename_i r sto e2; cases h; exact ⟨ts,s1,sto,e1,e2,rfl⟩
  ·cases h
 ·cases h
theorem G7 (hx:Passes (CXx X.prog X.w) X E) (D:Ak X.prog X.w X.K X.mg X.base x k pn Cl f F) (hr:xu k X.A) (hg:Gl X x)
  (ha:PA X (e::es) (aOf X.K B ms)) (hl:∀ st ts aa,ms st=some (ts,aa)->ts.length=pn.length) (aJ:(x==("__debug__" : Str))=false:=by decide)
  (he:starEach (e::es) X.env=(false,eval e X.env)::starEach es X.env:=by rfl) (aD:(backTo pos (starEach es X.env)).any (·.1)=false:=by rfl) :
  PE X (.Call (.Name x p) (e::es) [] pos) (Mg X.K B Cl f E (qz F ms)):=by
 obtain ⟨a,fd,h1,h2,h3,h4⟩:=D;refine (Wy h1 hr hg h4 h3 h2 .nil hx ha aJ he aD).imp fun σ H Q z0=>?_;obtain ⟨st,ps,S,as,R,r,aa,ev,q⟩:=z0;obtain ⟨ts,s1,sto,e1,e2,rfl⟩:=Vk ev;refine ⟨st,ps,S,as,R,ts,s1,e1,fun vs H1 S1 ae R1 rs=>?_⟩;show spX _ _ _ _ _ (vs++[]) _ _ _;rw [List.append_nil];refine ⟨S1,ae,s1.sto,ts,r,sto,R1.sub,R1.sto,rs,hl _ _ _ e1,e2,?_⟩;cases r with
 | inl t=>exact fun v H2 S2 ax g sub so r=>q v H2 S2 ax ((R1.call g sub so).push r)
 | inr t=>exact fun v dx H2 S2 ax g sub so r hd=>q v dx H2 S2 ax ((R1.call g sub so).push r) hd
theorem Ug:PA X [] (a8x X.K B Cl f E Bo):=xr.imp fun σ H Q z9=>by
 obtain ⟨st,ps,S,as,R,r,aa,ev,q⟩:=z9;cases ev;exact q [] H S as R .nil
theorem Dz (ha:PE X e (Mg X.K B Cl f E mx)) (hr:PA X es (a8x X.K B Cl f E aQ)) (hs:starEach (e::es) X.env=(false,eval e X.env)::starEach es X.env:=by rfl):PA X (e::es) (a8x X.K B Cl f E (m7 mx aQ)) :=
 (mq ha hr hs).imp fun σ H Q z9=>by
  obtain ⟨st,ps,S,as,R,r,aa,ev,q⟩:=z9;unfold m7 at ev;split at ev
  ·rename_i t s1 e1;split at ev
   ·rename_i ts s2 e2;cases ev;exact ⟨st,ps,S,as,R,_,s1,e1,fun v H1 S1 ae R1=>⟨s1,_,S1,ae,R1,_,_,e2,fun vs H2 S2 ax R2 rs=>q (v::vs) H2 S2 ax R2.drop (.cons R2.top rs)⟩⟩
   ·rename_i x s2 e2;cases ev;exact ⟨st,ps,S,as,R,_,s1,e1,fun v H1 S1 ae R1=>⟨s1,_,S1,ae,R1,_,_,e2,fun w dx H2 S2 ax R2 hd=>q w dx H2 S2 ax (R2.drop.drop.push R2.top) hd⟩⟩
   ·cases ev
  ·rename_i x s1 e1;cases ev;exact ⟨st,ps,S,as,R,_,_,e1,q⟩
  ·cases ev
structure Nf (P:Program) (w:World) (K:PySem.W.Frag) (mg:Str->Option Value) (base:Heap) (Co:Addr) (m:Str) (k:Nat) (ps:List Str) (Cl:Addr) (f:Str) (F:FnX):Prop where
 ex:∃ g fd,Meth K Co m g/\Aw P w K mg base (CXx P w) k g fd ps (spX K ps.length Cl f F)/\Binds K fd ps []
 c:Cls K Co
theorem Ju {st aa:Sta} {r:T ⊕ T} (h:wu Co mn F mo aQ st=some (r,aa)):∃ n s1 fs ra s2,mo st=some (.obj n,s1)/\s1.sto[n]? = some (.ins Co fs)/\fs.lookup mn=none/\aQ s1=some (ra,s2)/\(match ra with
  | .inl ts=>∃ sto,F (.obj n::ts) s2.sto=some (r,sto)/\aa = { s2 with sto:=sto }
  | .inr x=>r=.inr x/\aa=s2):=by
 unfold wu at h;split at h
 ·rename_i n s1 e1;split at h
  ·rename_i fs e2;split at h
   ·rename_i e3;split at h
    ·rename_i ts s2 e4;split at h
     ·rename_i r sto e5; cases h; exact ⟨n,s1,fs,_,s2,e1,Ae e2,e3,e4,sto,e5,rfl⟩
     ·cases h
    ·rename_i x s2 e4; cases h; exact ⟨n,s1,fs,_,_,e1,Ae e2,e3,e4,rfl,rfl⟩
    ·cases h
   ·cases h
  ·cases h
 ·cases h
theorem a5y {pl:Sem Bool} (h:Nf X.prog X.w X.K X.mg X.base Co mn k pn Cl f F) (hx:Passes (CXx X.prog X.w) X E) (hr:xu k X.A) (ho:PE X o (tOf X.K B mo)) (ha:PA X (e::es) (a8x X.K B Cl f E aQ)) (hl:∀ st ts aa,aQ st=some (.inl ts,aa)->ts.length+1=pn.length)
  (hst:starEach (e::es) X.env=(false,eval e X.env)::starEach es X.env:=by rfl) (aD:(backTo pos (starEach es X.env)).any (·.1)=false:=by rfl)
  (ht:eval (.Call (.Attribute o mn apos) (e::es) [] pos) X.env=(do
   let ov <- eval o X.env
   standAt apos.atName
   let (f,first) <- holding [ov] (getMethod ov mn pl)
   callWith pos f first (backTo pos (starEach (e::es) X.env)) (backToKw pos (keywordEach [] X.env))):=by rfl) :
  PE X (.Call (.Attribute o mn apos) (e::es) [] pos) (Mg X.K B Cl f E (wu Co mn F mo aQ)):=by
 obtain ⟨⟨g,fd,hm,G,hb⟩,c⟩:=h;refine (Ww (pl:=pl) ho c hm G hr hb .nil hx ha hst aD ht).imp fun σ H Q z0=>?_;obtain ⟨st,ps,S,as,R,r,aa,ev,q⟩:=z0;obtain ⟨n,s1,fs,ra,s2,e1,e2,hn,e3,e4⟩:=Ju ev;refine ⟨st,ps,S,as,R,_,s1,e1,fun v H1 S1 ae R1=>?_⟩;have t1:=R1.top;cases t1 with
 | @obj _ a ha =>
  obtain ⟨a',h1,_,dx,vs,h3,h4⟩:=R1.sto.at' n _ e2;rw [ha] at h1; cases h1;refine ⟨a,dx,vs,rfl,h3,(h4.get (f:=mn)).2 hn,s1,_,S1,ae,R1,ra,s2,e3,?_⟩;cases ra with
  | inr x =>
   obtain ⟨rfl,rfl⟩:=e4;exact fun w dx H2 S2 ax R2 hd=>q w dx H2 S2 ax (R2.drop.drop.push R2.top) hd
  | inl ts =>
   obtain ⟨sto,e5,rfl⟩:=e4;intro us H2 S2 ax R2 rs;show spX X.K pn.length Cl f F (.ref a::(us++[])) H2 Q E;rw [List.append_nil];have r0:Rep X.K S2 ax (.ref a) (.obj n):=R2.top;refine ⟨S2,ax,s2.sto,.obj n::ts,r,sto,R2.sub,R2.sto,.cons r0 rs,hl _ _ _ e3,e5,?_⟩;cases r with
   | inl t=>exact fun v H3 S3 aF g sub so r=>q v H3 S3 aF ((R2.drop.call g sub so).push r)
   | inr t=>exact fun v dx H3 S3 aF g sub so r hd=>q v dx H3 S3 aF ((R2.drop.call g sub so).push r) hd
end
section
variable {X:Cx} {B:Bas} {e o:Expr} {es:List Expr} {m:M T} {mo:M T} {mx:MX} {ms:M (List T)} {aQ:MXs} {pos p q1 aH apos:Pos} {Cl a:Addr} {f x y mn:Str} {E:XK} {fd:FuncData} {pn:List Str} {F:Fn} {k i:Nat} {Co:Addr}
theorem a68 (he:PE X e (Mg X.K B Cl f E mx)) (hs:swapsWith e none pos.line X.env=pure false:=by rfl):PS X (.Expr e pos) (Ij X.K B Cl f E (Ra mx)):=(G6 he hs).imp fun D σ H z9=>by
 obtain ⟨st,ps,S,as,R,fl,aa,ev,q⟩:=z9;unfold Ra at ev;split at ev
 ·rename_i t s1 e1; cases ev; exact ⟨st,ps,S,as,R,_,_,e1,fun v H1 S1 ae R1=>q σ H1 S1 ae R1.drop⟩
 ·rename_i t s1 e1; cases ev; exact ⟨st,ps,S,as,R,_,_,e1,fun v dx H1 S1 ae R1 hd=>q v dx σ H1 S1 ae R1 hd⟩
 ·cases ev
theorem Zu (he:PE X e (Mg X.K B Cl f E mx)):PS X (.Return (some e) pos) (Ij X.K B Cl f E (a0q mx)):=(a3x he).imp fun D σ H z9=>by
 obtain ⟨st,ps,S,as,R,fl,aa,ev,q⟩:=z9;unfold a0q at ev;split at ev
 ·rename_i t s1 e1; cases ev; exact ⟨st,ps,S,as,R,_,_,e1,fun v H1 S1 ae R1=>q v σ H1 S1 ae R1⟩
 ·rename_i t s1 e1; cases ev; exact ⟨st,ps,S,as,R,_,_,e1,fun v dx H1 S1 ae R1 hd=>q v dx σ H1 S1 ae R1 hd⟩
 ·cases ev
theorem Sy (hN:X.N.Nodup) (hi:X.N[i]? = some y) (hy:Loc X.env.scope y) (he:PE X e (Mg X.K B Cl f E mx)) (bS:swapsWith e (some (.Name y aH)) q1.line X.env=pure false:=by rfl)
  (hf:X.fn y=true\/X.env.scope.names.lookup y=some .local:=by first | exact .inl rfl | exact .inr rfl | assumption):PS X (.Assign [.Name y aH] e q1) (Ij X.K B Cl f E (Pj i mx)):=(Fp hN hi hy he bS hf).imp fun D σ H z9=>by
 obtain ⟨st,ps,S,as,R,fl,aa,ev,q⟩:=z9;unfold Pj at ev;split at ev
 ·rename_i t s1 e1; cases ev; exact ⟨st,ps,S,as,R,_,_,e1,fun v H1 S1 ae R1=>q _ H1 S1 ae (R1.drop.put R1.top)⟩
 ·rename_i t s1 e1; cases ev; exact ⟨st,ps,S,as,R,_,_,e1,fun v dx H1 S1 ae R1 hd=>q v dx σ H1 S1 ae R1 hd⟩
 ·cases ev
end
end C
end
section
namespace C
open PySem
end C
end
section
namespace C
open PySem PySem.Spec PyProof.Rows L2
section
variable {X:Cx} {B:Bas} {o k v e:Expr} {mo mk mv:M T} {mx:MX} {pos pos':Pos} {Cl:Addr} {f:Str} {E:XK}
end
section
variable {X:Cx} {B:Bas} {e o:Expr} {mx mo:M T} {pos:Pos}
end
section
variable {X:Cx} {B:Bas} {l:Expr} {elts:List Expr} {mo:M T} {body:List Stmt} {pos aH apos ay:Pos} {x1:Nat} {Co:Addr} {f:Str} {jh jl jp jd:Nat}
end
end C
end
section
namespace L2
open PySem PySem.Spec PyProof.Rows
section
variable {M:Model} {A:Around} {E:Value->Shared->Prop} {s:Shared} {base:Heap} {env en:Env} {outer:List Env} {L e C dx T:Addr} {fl:Value} {Q:Unit->Shared->Prop}
end
section
variable {X:Cx} {pins:List (Addr × Obj)} {σ:St} {H:Hp} {s:Shared} {a C dx T:Addr} {fl:Value}
end
structure XA (X:Cx) (E:XK):Prop where
 hst:X.stack=X.env::X.outer
 hfr:X.env.frame=some X.env.locals
 go:∀ (σ:St) (H:Hp) (s:Shared) (a C dx T:Addr) (fl:Value),Inv X [] σ H s->XAt s.heap a C dx T fl->H a=none->H T=none->Off X [] a->Off X [] T->E (.ref C) (some dx) H->X.xe (.ref a) s
section
variable {pr:Program} {wd:World} {Ar:Around} {Rs:Result->Shared->Prop} {s:Shared}
end
section
variable {X:Cx} {scope:Scope} {N:List Str}
variable {tg iter elt:Expr} {pos:Pos} {g:TG} {te:TE}
end
end L2
end
section
namespace C
open PySem
noncomputable def a4s (g:G) (e:MX):List T->Sta->List T->Option ((List T ⊕ T) × Sta)
 | [],s,acc=>some (.inl acc,s)
 | t::r,s,acc=>match g t s with
  | some s1=>match e s1 with
   | some (.inl u,s2)=>if acc.length<lim then a4s g e r (j9 s2) (acc++[u]) else none
   | some (.inr x,s2)=>some (.inr x,s2)
   | none=>none
  | none=>none
end C
end
section
namespace C
open PySem PySem.Spec PyProof.Rows L2
section
variable {X:Cx} {scope:Scope} {N:List Str}
inductive CIX (K:PySem.W.Frag) (B:Bas) (g:G) (e:MX) (ts:List T) (r:List T ⊕ T) (env:List Slot) (s2:Sta) (σ:L2.St) (pp:List (V × T)) (D:Addr) (i m:Nat) (σ':L2.St) (H':Hp):Prop where
 | mk (aC:Sta) (Si:Hp) (aA:List Addr) (acc:List T) (aG:List V) (hm:m=ts.length - i) (hi:i<=ts.length) (Ri:Rel K ⟨Si,aA,H'⟩ aC σ' H' [] Si aA) (no:Rv aC) (Ro:Rel K B ⟨env,aC.sto⟩ σ H' pp Si aA) (hD:H' D=some (.lst aG)) (sD:Si D=none) (nD:D∉aA) (rA:qd K Si aA aG acc) (ei:a4s g e (ts.drop i) aC acc=some (r,s2)):CIX K B g e ts r env s2 σ pp D i m σ' H'
variable {B:Bas} {nv:Nat} {ai:List Nat} {g:G} {it:M (List T)} {e:MX} {tg iter elt:Expr} {pos:Pos} {Cl:Addr} {f:Str} {E:XK}
end
end C
end
section
namespace C
open PySem
end C
end
section
namespace C
open PySem PySem.Spec PyProof.Rows L2
section
variable {X:Cx} {B:Bas} {tg iter:Expr} {mo:M T} {g:G} {u:SX} {body:List Stmt} {pos:Pos} {Cl:Addr} {f:Str} {E:XK}
end
theorem a7u:∀ st ts aa,Bo st=some (.inl ts,aa)->ts.length=0:=fun st ts aa e=>by cases e; rfl
theorem Ub {m:MX} {r:MXs} {n:Nat} (h:∀ st ts aa,r st=some (.inl ts,aa)->ts.length=n):∀ st ts aa,m7 m r st=some (.inl ts,aa)->ts.length=n+1:=fun st ts aa e=>by
 unfold m7 at e;split at e
 ·rename_i t s1 e1;split at e
  ·rename_i us s2 e2; cases e; exact congrArg (· + 1) (h _ _ _ e2)
  ·cases e
  ·cases e
 ·cases e
 ·cases e
theorem a2e {ms:MXs} {n:Nat} (h:∀ st ts aa,ms st=some (.inl ts,aa)->ts.length=n):∀ st ts aa,ms st=some (.inl ts,aa)->ts.length+1=n+1:=fun st ts aa e=>congrArg (· + 1) (h st ts aa e)
theorem Ak.zero {P:Program} {w:World} {K:PySem.W.Frag} {mg:Str->Option Value} {base:Heap} {x qual:Str} {st:Stmt} {f:Addr} {fd:FuncData} {ps:List Str} {k:Nat} {Cl:Addr} {fl:Str} (F:Fun K x qual st f fd) (h:mg x=some (.ref f)) (b:Binds K fd ps []):Ak P w K mg base x k ps Cl fl (fun _ _=>none):=by
 have no:∀ vs H Q E,¬ spX K ps.length Cl fl (fun _ _=>none) vs H Q E:=fun vs H Q E z=>by
  obtain ⟨S,as,sto,ts,t,aw,_,_,_,_,e,_⟩:=z;cases e
 exact ⟨f,fd,⟨fun vs H Q E z=>absurd z (no vs H Q E),fun A outer s H args us vs Q E _ _ _ _ z=>absurd z (no vs H Q E)⟩,b,F.kp,h⟩
section
variable {X:Cx} {B:Bas} {e a b c:Expr} {m m1 m2 m3:M T} {pos p1 p2 p3 p4:Pos}
theorem a5a {i:Int} (h:xg i=true):i.natAbs.log2<1920:=by
 unfold xg at h;rw [decide_eq_true_eq] at h;have h2:(2:Int) ^ 64=((2 ^ 64:Nat):Int):=by decide
 have h1:i.natAbs<2 ^ 64:=by omega
 by_cases z:i.natAbs=0
 ·rw [z]; decide
 ·exact Nat.lt_trans ((Nat.log2_lt z).mpr h1) (by decide)
theorem Fx (hg:Gl X "str") (hm:X.mg "str" = none) (ha:PE X e (tOf X.K B m)) (he:starEach [e] X.env=(false,eval e X.env)::starEach [] X.env:=by rfl) (aD:(backTo pos (starEach [] X.env)).any (·.1)=false:=by rfl) :
  PE X (.Call (.Name "str" p3) [e] [] pos) (tOf X.K B (gk Pa (ao m d7))):=by
 refine (vh Oi hg hm (by rfl) (mq ha xr he) (by decide) (by decide) he aD).imp fun σ H Q z0=>?_;obtain ⟨st,ps,S,as,R,t,aa,ev,q⟩:=z0;obtain ⟨ts,e1,e2⟩:=Am ev;obtain ⟨t1,s1,us,ea,en,rfl⟩:=qt e1;cases en;refine ⟨st,ps,S,as,R,t1,_,ea,fun v H1 S1 ae R1=>?_⟩;cases t1 <;> simp only [Pa,reduceCtorEq] at e2
 rename_i i;split at e2
 ·rename_i hb;cases e2;have tp:=R1.top;cases tp;exact ⟨i,rfl,a5a hb,q _ _ _ _ (R1.drop.push (.str _))⟩
 ·cases e2
theorem a9q (ha:PE X e (tOf X.K B m)):PE X (.FormattedValue e (-1) none pos) (tOf X.K B (mUn a4q m)):=by
 intro pins s σ H Q I z8;obtain ⟨st,ps,S,as,R,t,aa,ev,q⟩:=z8;obtain ⟨t1,e1,e3⟩:=Xj ev;refine wpAny_FormattedValue_plain (thn (ha pins s σ H (fun v H2=>∃ S2 ax,Rel X.K B aa σ H2 ((v,t1)::ps) S2 ax) I ⟨st,ps,S,as,R,t1,aa,e1,fun v H1 S1 ae R1=>⟨S1,ae,R1⟩⟩) fun u s1 z0=>?_);obtain ⟨v,H1,I1,r1,S1,ae,R1⟩:=z0;have tp:=R1.top;cases t1 <;> simp only [a4q,reduceCtorEq] at e3
 ·rename_i i;split at e3
  ·rename_i hb;cases e3;cases tp;obtain ⟨tk,rfl⟩:=r1;exact wpAny_formatField_int (a5a hb) ⟨.str _,H1,I1.tok _,⟨_,rfl⟩,q _ _ _ _ (R1.drop.push (.str _))⟩
  ·cases e3
 ·rename_i x;split at e3
  ·rename_i hl;cases e3;cases tp;obtain ⟨tk,rfl⟩:=r1;exact wpAny_formatField_str ⟨.str _,H1,I1,⟨_,rfl⟩,q _ _ _ _ (R1.drop.push (.str _))⟩ ⟨.str _,H1,I1.tok _,⟨_,rfl⟩,q _ _ _ _ (R1.drop.push (.str _))⟩ (Nat.le_trans (Nat.le_of_lt hl) je)
  ·cases e3
theorem Vc {ts:List T} {t:T} (h:K5 ts=some t):∃ x y z,ts=[.str x,.str y,.str z]/\x.length<lim/\(x++y).length<lim/\(x++y++z).length<lim/\t=.str (x++y++z):=by
 unfold K5 at h;split at h
 ·rename_i x y z;split at h
  ·rename_i hl; cases h; exact ⟨x,y,z,rfl,hl.1,hl.2.1,hl.2.2,rfl⟩
  ·cases h
 ·cases h
theorem empty_app (x:Str):Str.empty++x=x:=by
 obtain ⟨c⟩:=x;show (⟨#[]++c⟩:Str)=⟨c⟩;simp
theorem abb (h1:PE X a (tOf X.K B m1)) (h2:PE X b (tOf X.K B m2)) (h3:PE X c (tOf X.K B m3)) (he:evalEach [a,b,c] X.env=[eval a X.env,eval b X.env,eval c X.env]:=by rfl) :
  PE X (.JoinedStr [a,b,c] pos) (tOf X.K B (gk K5 (ao m1 (ao m2 (ao m3 d7))))):=by
 intro pins s σ H Q I z8;obtain ⟨st,ps,S,as,R,t,aa,ev,q⟩:=z8;obtain ⟨ts,ea,eb⟩:=Am ev;obtain ⟨t1,s1,us,c1,cr,rfl⟩:=qt ea;obtain ⟨t2,s2,us2,c2,cr2,rfl⟩:=qt cr;obtain ⟨t3,s3,us3,c3,cr3,rfl⟩:=qt cr2;cases cr3;obtain ⟨x,y,z,e0,l1,l2,l3,rfl⟩:=Vc eb;cases e0;refine wpAny_JoinedStr ?_;rw [he];refine thn (h1 pins s σ H (fun v H2=>v=.str x/\∃ S2 ax,Rel X.K B s1 σ H2 ps S2 ax) I ⟨st,ps,S,as,R,_,s1,c1,fun v H1 S1 ae R1=>?_⟩) fun u z1 ⟨v,H1,I1,r1,ev1,S1,ae,R1⟩=>?_
 ·have tp:=R1.top; cases tp; exact ⟨rfl,S1,ae,R1.drop⟩
 subst ev1;obtain ⟨tk,rfl⟩:=r1;refine ⟨x,tk,rfl,by rw [empty_app]; exact Nat.le_trans (Nat.le_of_lt l1) je,?_⟩;rw [empty_app];refine thn (h2 pins z1 σ H1 (fun v H2=>v=.str y/\∃ S2 ax,Rel X.K B s2 σ H2 ps S2 ax) I1 ⟨s1,ps,S1,ae,R1,_,s2,c2,fun v H1 S1 ae R1=>?_⟩) fun u z2 ⟨v,H2,I2,r2,ev2,S2,ax,R2⟩=>?_
 ·have tp:=R1.top; cases tp; exact ⟨rfl,S1,ae,R1.drop⟩
 subst ev2;obtain ⟨tk,rfl⟩:=r2;refine ⟨y,tk,rfl,Nat.le_trans (Nat.le_of_lt l2) je,?_⟩;refine thn (h3 pins z2 σ H2 (fun v H2=>v=.str z/\∃ S2 ax,Rel X.K B aa σ H2 ps S2 ax) I2 ⟨s2,ps,S2,ax,R2,_,_,c3,fun v H1 S1 ae R1=>?_⟩) fun u z3 ⟨v,H3,I3,r3,ev3,S3,aF,R3⟩=>?_
 ·have tp:=R1.top; cases tp; exact ⟨rfl,S1,ae,R1.drop⟩
 subst ev3;obtain ⟨tk,rfl⟩:=r3;refine ⟨z,tk,rfl,Nat.le_trans (Nat.le_of_lt l3) je,?_⟩;exact ⟨Nat.le_trans (Nat.le_of_lt l3) je,.str _,H3,I3.tok _,⟨_,rfl⟩,q _ _ _ _ (R3.push (.str _))⟩
end
noncomputable def El (C:Nat) (F:FnX) (a:M (List T)):MX:=fun s=>match a s with
 | some (ts,s1)=>(match F (.obj s1.sto.length::ts) (s1.sto++[.ins C []]) with
  | some (.inl .non,sto)=>some (.inl (.obj s1.sto.length),{ s1 with sto:=sto })
  | some (.inr x,sto)=>some (.inr x,{ s1 with sto:=sto })
  | _=>none)
 | none=>none
theorem Ut {C:Nat} {F:FnX} {a:M (List T)} {s s':Sta} {r:T ⊕ T} (h:El C F a s=some (r,s')):∃ ts s1 q sto,a s=some (ts,s1)/\F (.obj s1.sto.length::ts) (s1.sto++[.ins C []])=some (q,sto)/\s' = { s1 with sto:=sto } /\
  ((q=.inl .non/\r=.inl (.obj s1.sto.length))\/∃ x,q=.inr x/\r=.inr x):=by
 unfold El at h;split at h
 ·rename_i ts s1 e1;split at h
  ·rename_i sto e2; cases h; exact ⟨ts,s1,_,sto,e1,e2,rfl,.inl ⟨rfl,rfl⟩⟩
  ·rename_i x sto e2; cases h; exact ⟨ts,s1,_,sto,e1,e2,rfl,.inr ⟨x,rfl,rfl⟩⟩
  ·cases h
 ·cases h
structure abo (P:Program) (w:World) (K:PySem.W.Frag) (mg:Str->Option Value) (base:Heap) (x:Str) (Co:Addr) (k:Nat) (ps:List Str) (Cl:Addr) (f:Str) (F:FnX):Prop where
 ex:∃ g fd,Mk K Co g/\Aw P w K mg base (CXx P w) k g fd ps (spX K ps.length Cl f F)/\Binds K fd ps []
 m:mg x=some (.ref Co)
section
variable {X:Cx} {B:Bas} {e:Expr} {es:List Expr} {ms:M (List T)} {pos p:Pos} {k:Nat} {Co Cl:Addr} {f x:Str} {pn:List Str} {F:FnX} {E:XK}
theorem a7w (h:abo X.prog X.w X.K X.mg X.base x Co k pn Cl f F) (hx:Passes (CXx X.prog X.w) X E) (hr:xu (k+1) X.A) (hg:Gl X x) (ha:PA X (e::es) (aOf X.K B ms)) (hl:∀ st ts aa,ms st=some (ts,aa)->ts.length+1=pn.length) (aJ:(x==("__debug__" : Str))=false:=by decide)
  (he:starEach (e::es) X.env=(false,eval e X.env)::starEach es X.env:=by rfl) (aD:(backTo pos (starEach es X.env)).any (·.1)=false:=by rfl) :
  PE X (.Call (.Name x p) (e::es) [] pos) (Mg X.K B Cl f E (El Co F ms)):=by
 obtain ⟨⟨g,fd,hM,G,hb⟩,hm⟩:=h;refine (a79 hM G hr hg hm hb .nil hx ha aJ he aD).imp fun σ H Q z0=>?_;obtain ⟨st,ps,S,as,R,r,aa,ev,q⟩:=z0;obtain ⟨ts,s1,qr,sto,e1,e2,rfl,e3⟩:=Ut ev;refine ⟨st,ps,S,as,R,ts,s1,e1,fun us H1 S1 ae R1 rs y dx hy hd ne=>?_⟩;have R2:=R1.ext (Ext.beside R1.sub hd (.own y));have f7:upd H1 dx (.own y) y=none:=by rw [d9 (Ne.symm ne)]; exact hy
 have R3:=R2.newObj (ob:=.ins Co dx []) (so:=.ins Co []) f7 ⟨dx,[],d8,.nil⟩;show spX X.K pn.length Cl f F (.ref y::(us++[])) _ _ E;rw [List.append_nil];refine ⟨S1,ae++[y],s1.sto++[.ins Co []],.obj s1.sto.length::ts,qr,sto,R3.sub,R3.sto,.cons R3.top (rs.mono (Same.refl _) ⟨[y],rfl⟩),hl _ _ _ e1,e2,?_⟩;rcases e3 with ⟨rfl,rfl⟩ | ⟨xt,rfl,rfl⟩
 ·exact fun v H3 S3 aF g sub so r=>by
   cases r;exact ⟨rfl,q _ H3 S3 aF (R3.call g sub so)⟩
 ·exact fun v dx H3 S3 aF g sub so r hd=>q v dx H3 S3 aF (((R3.call g sub so).drop).push r) hd
variable {o:Expr} {mo:M T} {mn:Str} {apos:Pos}
theorem Lz {pl:Sem Bool} (h:Nf X.prog X.w X.K X.mg X.base Co mn k pn Cl f F) (hx:Passes (CXx X.prog X.w) X E) (hr:xu k X.A) (ho:PE X o (tOf X.K B mo)) (hl:pn.length=1)
  (ht:eval (.Call (.Attribute o mn apos) [] [] pos) X.env=(do
   let ov <- eval o X.env
   standAt apos.atName
   let (f,first) <- holding [ov] (getMethod ov mn pl)
   callWith pos f first (backTo pos (starEach [] X.env)) (backToKw pos (keywordEach [] X.env))):=by rfl) :
  PE X (.Call (.Attribute o mn apos) [] [] pos) (Mg X.K B Cl f E (wu Co mn F mo Bo)):=by
 obtain ⟨⟨g,fd,hm,G,hb⟩,c⟩:=h;refine (Sq (pl:=pl) ho c hm G hr hb .nil hx ht).imp fun σ H Q z0=>?_;obtain ⟨st,ps,S,as,R,r,aa,ev,q⟩:=z0;obtain ⟨n,s1,fs,ra,s2,e1,e2,hn,e3,e4⟩:=Ju ev;cases e3;obtain ⟨sto,e5,rfl⟩:=e4;refine ⟨st,ps,S,as,R,_,s1,e1,fun v H1 S1 ae R1=>?_⟩;have t1:=R1.top;cases t1 with
 | @obj _ a ha =>
  obtain ⟨a',h1,_,dx,vs,h3,h4⟩:=R1.sto.at' n _ e2;rw [ha] at h1; cases h1;refine ⟨a,dx,vs,rfl,h3,(h4.get (f:=mn)).2 hn,?_⟩;show spX X.K pn.length Cl f F [.ref a] H1 Q E;refine ⟨S1,ae,s1.sto,[.obj n],r,sto,R1.sub,R1.sto,.cons R1.top .nil,hl.symm,e5,?_⟩;cases r with
  | inl t=>exact fun v H3 S3 aF g sub so r=>q v H3 S3 aF ((R1.drop.call g sub so).push r)
  | inr t=>exact fun v dx H3 S3 aF g sub so r hd=>q v dx H3 S3 aF ((R1.drop.call g sub so).push r) hd
end
noncomputable def Ly (g:List T->Option T) (a:MXs):MX:=fun s=>match a s with
 | some (.inl ts,s1)=>(match g ts with
  | some t=>some (.inl t,s1)
  | none=>none)
 | some (.inr x,s1)=>some (.inr x,s1)
 | none=>none
noncomputable def a1c (g:T->T->Option T) (a b:MX):MX:=fun s=>match a s with
 | some (.inl x,s1)=>(match b s1 with
  | some (.inl y,s2)=>(match g x y with
   | some w=>some (.inl w,s2)
   | none=>none)
  | some (.inr x,s2)=>some (.inr x,s2)
  | none=>none)
 | some (.inr x,s1)=>some (.inr x,s1)
 | none=>none
theorem Wz {g:List T->Option T} {a:MXs} {s s':Sta} {r:T ⊕ T} (h:Ly g a s=some (r,s')):∃ ra,a s=some (ra,s')/\((∃ ts t,ra=.inl ts/\g ts=some t/\r=.inl t)\/∃ x,ra=.inr x/\r=.inr x):=by
 unfold Ly at h;split at h
 ·rename_i ts s1 e1;split at h
  ·rename_i t e2; cases h; exact ⟨_,e1,.inl ⟨ts,t,rfl,e2,rfl⟩⟩
  ·cases h
 ·rename_i x s1 e1; cases h; exact ⟨_,e1,.inr ⟨x,rfl,rfl⟩⟩
 ·cases h
section
variable {X:Cx} {B:Bas} {e:Expr} {es:List Expr} {aQ:MXs} {m1 m2:MX} {pos:Pos} {Cl:Addr} {f:Str} {E:XK} {g:T->T->Option T}
theorem a4c {k:Nat} (h:PA X es (a8x X.K B Cl f E aQ)) (hm:∀ st ts aa,aQ st=some (.inl ts,aa)->ts.length<=1000):PE X (.Tuple es k pos) (Mg X.K B Cl f E (Ly (fun l=>some (.tup l)) aQ)) :=
 (a3v h).imp fun σ H Q z9=>by
  obtain ⟨st,ps,S,as,R,r,aa,e,q⟩:=z9;obtain ⟨ra,e1,e2⟩:=Wz e;rcases e2 with ⟨ts,t,rfl,e3,rfl⟩ | ⟨x,rfl,rfl⟩
  ·cases e3;refine ⟨st,ps,S,as,R,_,aa,e1,fun vs H1 S1 ae R1 rs=>⟨?_,fun p hp=>?_⟩⟩
   ·rw [rs.length]; exact Nat.le_of_lt (Cm (hm _ _ _ e1))
   ·have x:=Ext.laid R1.sub hp (.tup vs);exact q _ _ _ _ ((R1.ext x).push (.tup (SqT.of d8) (rs.mono x.s nol)))
  ·exact ⟨st,ps,S,as,R,_,aa,e1,q⟩
theorem a0v {e:Expr} (h:PE X e (tOp (r2 X.K g) (Mg X.K B Cl f E m1) (Mg X.K B Cl f E m2))):PE X e (Mg X.K B Cl f E (a1c g m1 m2)) :=
 h.imp fun σ H Q z9=>by
  obtain ⟨st,ps,S,as,R,r,aa,e,q⟩:=z9;unfold a1c at e;split at e
  ·rename_i x s1 e1;split at e
   ·rename_i y s2 e2;split at e
    ·rename_i w e3;cases e;refine ⟨st,ps,S,as,R,_,s1,e1,fun v H1 S1 ae R1=>⟨s1,_,S1,ae,R1,_,_,e2,fun u H2 S2 ax R2=>?_⟩⟩;exact ⟨S2,ax,x,y,w,R2.sub,R2.top2,R2.top,e3,fun w H3 S3 x r=>q w H3 S3 ax ((R2.drop.drop.ext x).push r)⟩
    ·cases e
   ·rename_i y s2 e2;cases e;exact ⟨st,ps,S,as,R,_,s1,e1,fun v H1 S1 ae R1=>⟨s1,_,S1,ae,R1,_,_,e2,fun w dx H2 S2 ax R2 hd=>q w dx H2 S2 ax (R2.drop.drop.push R2.top) hd⟩⟩
   ·cases e
  ·rename_i y s1 e1;cases e;exact ⟨st,ps,S,as,R,_,_,e1,q⟩
  ·cases e
theorem adt {op:Operator} {a b:Expr} (ho:OpT X (binaryOp op) g) (ha:PE X a (Mg X.K B Cl f E m1)) (hb:PE X b (Mg X.K B Cl f E m2)):PE X (.BinOp a op b pos) (Mg X.K B Cl f E (a1c g m1 m2)):=a0v (a5o ho ha hb)
end
noncomputable def Cv (C:Nat) (f:Str) (o:M T) (v:MX):SX:=fun s=>match v s with
 | some (.inl t,s1)=>(match o s1 with
  | some (.obj n,s2)=>(match M4 C n s2.sto with
   | some fs=>if fs.length<100 then some (.inl .next,{ s2 with sto:=s2.sto.set n (.ins C (a0y f t fs)) }) else none
   | none=>none)
  | _=>none)
 | some (.inr x,s1)=>some (.inr x,s1)
 | none=>none
section
variable {X:Cx} {B:Bas} {o v:Expr} {mo:M T} {mv:MX} {pos pos':Pos} {Co Cl:Addr} {f g:Str} {E:XK}
theorem Yu (c:Cls X.K Co) (n:Bl X.K Co g) (ho:PE X o (tOf X.K B mo)) (hv:PE X v (Mg X.K B Cl f E mv)) (hs:swapsWith v (some (.Attribute o g pos')) pos.line X.env=pure false:=by rfl) :
  PS X (.Assign [.Attribute o g pos'] v pos) (Ij X.K B Cl f E (Cv Co g mo mv)):=(a3r ho hv hs).imp fun D σ H z9=>by
 obtain ⟨st,ps,S,as,R,fl,aa,e,q⟩:=z9;unfold Cv at e;split at e
 ·rename_i t s1 e1;split at e
  ·rename_i k s2 e2;split at e
   ·rename_i fs e3;split at e
    ·rename_i hl;cases e;have e3:=Ae e3;refine ⟨st,ps,S,as,R,_,s1,e1,fun v H1 S1 ae R1=>⟨s1,_,S1,ae,R1,_,s2,e2,fun x H2 S2 ax R2=>?_⟩⟩;have t1:=R2.top;cases t1 with
     | @obj _ a ha =>
      obtain ⟨a',h1,_,dx,vs,h3,h4⟩:=R2.sto.at' k _ e3;rw [ha] at h1; cases h1;exact ⟨a,Co,dx,vs,rfl,h3,c,n,by rw [h4.length]; omega,q _ _ S2 ax (R2.drop.drop.W5 e3 ha ⟨dx,_,d8,h4.put R2.top2⟩)⟩
    ·cases e
   ·cases e
  ·cases e
 ·rename_i t s1 e1;cases e;exact ⟨st,ps,S,as,R,_,_,e1,fun v dx H1 S1 ae R1 hd=>q v dx σ H1 S1 ae R1 hd⟩
 ·cases e
end
noncomputable def Cq (i:Nat) (e:MX):SX:=fun s=>if G5 i s then (match e s with
 | some (.inl t,s1)=>(match s1.env[i]? with
  | some (some (.lst xs,true))=>if xs.length<lim then some (.inl .next,ig i (.lst (xs++[t])) true s1) else none
  | _=>none)
 | some (.inr x,s1)=>some (.inr x,s1)
 | none=>none) else none
section
variable {X:Cx} {B:Bas} {mv:MX} {Cl:Addr} {f:Str} {E:XK}
theorem Zm (i:Nat) {st:Stmt} (h:PS X st (a7k (tBM X.K "list" Qv (Zf i) (V0 (Mg X.K B Cl f E mv) a8u)))):PS X st (Ij X.K B Cl f E (Cq i mv)):=h.imp fun D σ H z9=>by
 obtain ⟨st,ps,S,as,R,fl,aa,e,q⟩:=z9;unfold Cq at e;obtain ⟨hd,e⟩:=vq e;obtain ⟨xs0,f0,e0⟩:=Oq hd;obtain ⟨p0,vs0,s0,q0,_⟩:=R.listAt e0;split at e
 ·rename_i t s1 e1;split at e
  ·rename_i xs e2;obtain ⟨hl,e⟩:=vq e;cases e;refine ⟨_,s0,.inl ⟨rfl,_,q0⟩,st,ps,S,as,R,_,s1,e1,fun v H1 S1 ae R1=>?_⟩;obtain ⟨w,h1,_,h3⟩:=R1.slots i _ true e2;rw [s0] at h1; cases h1;obtain ⟨p',ep,ow⟩:=h3 rfl;cases ep;obtain ⟨vs,hH,h4⟩:=ow.own;exact ⟨p0,vs,v,rfl,rfl,hH,by rw [h4.length]; exact Nat.lt_of_lt_of_le hl je,q _ _ S1 ae (R1.drop.turn e2 s0 ⟨_,d8,h4.append (.cons R1.top .nil)⟩)⟩
  ·cases e
 ·rename_i t s1 e1;cases e;exact ⟨_,s0,.inl ⟨rfl,_,q0⟩,st,ps,S,as,R,_,_,e1,fun v dx H1 S1 ae R1 hd=>q v dx σ H1 S1 ae R1 hd⟩
 ·cases e
noncomputable def Ms (i:Nat) (a:MXs):SX:=fun s=>match a s with
 | some (.inl ts,s1)=>some (.inl .next,ig i (.lst ts) true s1)
 | some (.inr x,s1)=>some (.inr x,s1)
 | none=>none
variable {es:List Expr} {aQ:MXs} {i:Nat} {y:Str} {pos pos' p2:Pos}
theorem a8i (hN:X.N.Nodup) (hi:X.N[i]? = some y) (hx:Loc X.env.scope y) (h:PA X es (a8x X.K B Cl f E aQ)) (hm:∀ st ts aa,aQ st=some (.inl ts,aa)->ts.length<=1000) (hs:swapsWith (.List es p2) (some (.Name y pos')) pos.line X.env=pure false:=by rfl)
  (hf:X.fn y=true\/X.env.scope.names.lookup y=some .local:=by first | exact .inl rfl | exact .inr rfl | assumption):PS X (.Assign [.Name y pos'] (.List es p2) pos) (Ij X.K B Cl f E (Ms i aQ)):=(Fp hN hi hx (Zi h) hs hf).imp fun D σ H z9=>by
 obtain ⟨st,ps,S,as,R,fl,aa,e,q⟩:=z9;unfold Ms at e;split at e
 ·rename_i ts s1 e1;cases e;refine ⟨st,ps,S,as,R,_,_,e1,fun vs H1 S1 ae R1 rs=>⟨?_,fun p hp=>?_⟩⟩
  ·rw [rs.length]; exact Nat.le_of_lt (Cm (hm _ _ _ e1))
  ·obtain ⟨bD,sD,nD,no⟩:=R1.fresh hp;exact q _ _ S1 ae ((R1.abx bD sD nD no).a5d ⟨⟨vs,d8,rs⟩,sD,nD,bD⟩ no)
 ·rename_i t s1 e1;cases e;exact ⟨st,ps,S,as,R,_,_,e1,fun v dx H1 S1 ae R1 hd=>q v dx σ H1 S1 ae R1 hd⟩
 ·cases e
end
noncomputable def inS:T->T->Option T
 | .str x,.str y=>some (.bl (!(Builtin.Str.occurrences y x 0 y.length 1).isEmpty))
 | _,_=>none
section
variable {X:Cx}
theorem Ht:OpT X (compareOp .In) inS:=by
 intro pins s σ H x y v u Q I rx ry z8;obtain ⟨S,as,t,t2,w,sub,ht,hu2,hf,q⟩:=z8;cases ht <;> first | (cases hf; done) | skip
 all_goals (cases hu2 <;> first | (cases hf; done) | skip)
 cases hf;obtain ⟨t1,rfl⟩:=rx;obtain ⟨t2,rfl⟩:=ry;exact PySem.P.in_str ⟨.bl _,H,I,rfl,q _ H S (Ext.refl sub) (.bl _)⟩
end
noncomputable def Uy (x:Str) (lo hi:Option Int):Str:=⟨((x.cps.toList.drop (HT.sIx x.length 0 lo)).take (HT.sIx x.length x.length hi - HT.sIx x.length 0 lo)).toArray⟩
theorem Jq (lo hi:Option Int) (n:Nat):Builtin.Str.strSliceIndices lo hi 1 n=(List.range (HT.sIx n n hi - HT.sIx n 0 lo)).map (HT.sIx n 0 lo + ·):=by
 have e:∀ (o:Option Int) (d:Nat),(match o with | none=>(d:Int) | some i=>let i:=if i<0 then i+(n:Int) else i; if (1:Int) > 0 then max 0 (min i n) else max (-1) (min i (n - 1)))=((HT.sIx n d o:Nat):Int):=fun o d=>by
  cases o with
  | none=>rfl
  | some i =>
   simp only [HT.sIx,show (1:Int) > 0 by decide,if_true]
   by_cases h:i<0
   ·simp only [h,if_true]; omega
   ·simp only [h,if_false]; omega
 rw [<- sliceRange_one,<- e lo 0,<- e hi n];rfl
theorem a1a (x:Str) (lo hi:Option Int):(Uy x lo hi).length<=x.length:=by
 show (((x.cps.toList.drop _).take _).toArray).size<=x.cps.size;rw [List.size_toArray,List.length_take,List.length_drop,Array.length_toList];omega
theorem a2s (x:Str) (lo hi:Option Int):(⟨((Builtin.Str.strSliceIndices lo hi 1 x.length).filterMap (x.cps[·]?)).toArray⟩:Str)=Uy x lo hi:=by
 rw [Jq,pick_run]; rfl
theorem Ye (x:Str) (lo hi:Option Int) (h:(Builtin.Str.strSliceIndices lo hi 1 x.length).length=x.length):Uy x lo hi=x:=by
 rw [Jq,List.length_map,List.length_range] at h
 have a0:HT.sIx x.length x.length hi<=x.length:=by
  cases hi with
  | none=>exact Nat.le_refl _
  | some i=>simp only [HT.sIx]; split <;> omega
 have a1:HT.sIx x.length 0 lo=0\/x.length=0:=by omega
 have hx:x.cps.toList.length=x.length:=Array.length_toList;unfold Uy;rcases a1 with a1 | a1
 ·rw [a1,List.drop_zero,Nat.sub_zero,List.take_of_length_le (by rw [hx]; omega)]
 ·have:x.cps.toList=[]:=List.eq_nil_of_length_eq_zero (by rw [hx,a1]);rw [this];cases x with
  | mk cps=>simp at this; subst this; simp
def afe:V->Option Int->Option Int->Hp->VK->Prop:=fun x lo hi H Q=>∃ y:Str,x=.str y/\y.length<=sizeLine/\Q (.str (Uy y lo hi)) H
section
variable {X:Cx}
theorem part_of {v:Value} {o:Option Int} (h:IsPart v o):∃ l:Option (Int × Tok),v=partValue l/\l.map (·.1)=o:=by
 cases h with
 | none=>exact ⟨none,rfl,rfl⟩
 | int i t=>exact ⟨some (i,t),rfl,rfl⟩
theorem a93:SlR X afe:=by
 intro pins s σ H x v vl vu lo hi sl Q I rx hs pl pu h;obtain ⟨y,rfl,hy,q⟩:=h;obtain ⟨t,rfl⟩:=rx;obtain ⟨l,rfl,rfl⟩:=part_of pl;obtain ⟨u,rfl,rfl⟩:=part_of pu;refine ⟨"str",_,F.slot_str_getitem.lookup,typeIs_str _ _ _,wpAny_getItem_str_slice (l:=l) (u:=u) (st:=none) hs rfl ?_⟩;unfold sliceMade slicePicked;split
 ·rename_i hw;have fY:(Builtin.Str.strSliceIndices (l.map (·.1)) (u.map (·.1)) 1 y.length).length=y.length:=by simpa using hw
  rw [Ye y _ _ fY] at q;exact ⟨.str y,H,I,⟨t,rfl⟩,q⟩
 ·rw [show ((Option.map (fun x:Int × Tok=>x.1) (none:Option (Int × Tok))).getD 1)=1 from rfl,a2s];refine ⟨Nat.le_trans (a1a _ _ _) hy,?_⟩;exact ⟨.str _,H,I.tok _,⟨_,rfl⟩,q⟩
end
noncomputable def a0m (lo hi:Option Int):T->Option T
 | .str x=>if x.length<lim then some (.str (Uy x lo hi)) else none
 | _=>none
noncomputable def Bg (m:M T) (lo hi:M (Option Int)):M T:=fun s=>match m s with
 | some (t,s1)=>match lo s1 with
  | some (l,s2)=>match hi s2 with
   | some (u,s3)=>match a0m l u t with
    | some v=>some (v,s3)
    | none=>none
   | none=>none
  | none=>none
 | none=>none
theorem R9 {m:M T} {ml mh:M (Option Int)} {s s':Sta} {v:T} (h:Bg m ml mh s=some (v,s')):∃ t s1 l s2 u,m s=some (t,s1)/\ml s1=some (l,s2)/\mh s2=some (u,s')/\a0m l u t=some v:=by
 unfold Bg at h;split at h
 ·rename_i t s1 e1;split at h
  ·rename_i l s2 e2;split at h
   ·rename_i u s3 e3;split at h
    ·rename_i w e4; cases h; exact ⟨t,s1,l,s2,u,e1,e2,e3,e4⟩
    ·cases h
   ·cases h
  ·cases h
 ·cases h
section
variable {X:Cx} {B:Bas} {a:Expr} {m:M T} {ml mh:M (Option Int)} {lo hi:Option Expr} {pos p2:Pos}
theorem Hl (ha:PE X a (tOf X.K B m)) (hl:PO X lo (oOf X.K B ml)) (hh:PO X hi (oOf X.K B mh)):PE X (.Subscript a (.Slice lo hi none p2) pos) (tOf X.K B (Bg m ml mh)) :=
 (Ti a93 ha hl hh).imp fun σ H Q z9=>by
  obtain ⟨st,ps,S,as,R,t,aa,e,q⟩:=z9;obtain ⟨t1,s1,l,s2,u,e1,e2,e3,e4⟩:=R9 e;refine ⟨st,ps,S,as,R,t1,s1,e1,fun v H1 S1 ae R1=>⟨s1,_,S1,ae,R1,l,s2,e2,fun H2 S2 ax R2=>⟨s2,_,S2,ax,R2,u,aa,e3,fun H3 S3 aF R3=>?_⟩⟩⟩;have top:=R3.top;cases top with
  | str =>
   simp only [a0m] at e4;split at e4
   ·rename_i fP;cases e4;exact ⟨_,rfl,Nat.le_trans (Nat.le_of_lt fP) je,q _ _ _ _ (R3.drop.push (.str _))⟩
   ·cases e4
  | _=>exact fu e4
end
noncomputable def aek (x:Str):It where
 go:=fun i _=>i<x.cps.size
 yld:=fun i H v H'=>H'=H/\∃ c,x.cps[i]? = some c/\v=.str ⟨#[c]⟩
 stop:=fun i _=>x.cps.size<=i
theorem a0i {P:Program} {w:World} {K:PySem.W.Frag} {tg:Expr} (x:Str) (t:Tok) (it:Addr):Turn P w K tg (aek x) [it] it (fun i h=>h.IsStrIter it "str_ascii_iterator" x t i) where
 mem:=by simp
 obj:=fun i h st b hb=>by
  have e:b=it:=by simpa using hb
  subst e;obtain ⟨o,e,c,d⟩:=st;exact ⟨o,e,fun v z=>by rw [d] at z; cases z⟩
 keep:=fun i h h' st k=>by
  obtain ⟨o,e,c,d⟩:=st;exact ⟨o,k it (by simp) o e,c,d⟩
 item:=by
  intro X hP hw hK hc i pins s σ H E I hf st hg;subst hP hw hK;have hg:i<x.cps.size:=hg;obtain ⟨f0,f1,f2,f3,f4,f5⟩:=hf it (by simp);refine wpAny_pyNext_ascii_item st (c:=x.cps[i]) (by simp [hg]) fun h' aa sb=>?_;have I1:Inv X pins σ H { s with heap:=h',toks:=s.toks+1 }:=I.turned (t':=s.toks+1) (fun b o hb e=>(sb.2 b hb).trans e) f0 f1 f3 f4 f5;obtain ⟨o,e,c,d⟩:=id aa;exact ⟨_,rfl,a0f (s:={ s with heap:=h',toks:=s.toks+1 }) e c d (by decide) ⟨.str ⟨#[x.cps[i]]⟩,H,I1,⟨_,rfl⟩,⟨rfl,_,by simp [hg],rfl⟩,aa,fun b hb=>(hf b hb).1⟩⟩
 done:=by
  intro X hP hw hK hc i pins s σ H E I hf st hg;subst hP hw hK;have hg:x.cps.size<=i:=hg;obtain ⟨f0,f1,f2,f3,f4,f5⟩:=hf it (by simp);exact wpAny_pyNext_ascii_end (I.ok.hd hc) st (by simp [hg]) fun h' eb=>⟨rfl,I.turned (t':=s.toks) (fun b o hb e=>eb b o hb e) f0 f1 f3 f4 f5⟩
 self:=fun _ _ _ _ _ st h=>wpAny_pyIter_striter_ascii st h
def signs (x:Str):List T:=x.cps.toList.map fun c=>.str ⟨#[c]⟩
noncomputable def Er (a:M T):M (List T):=fun s=>match a s with
 | some (.str x,s1)=>if x.length<lim/\x.cps.all (· < 128)=true then some (signs x,s1) else none
 | _=>none
section
variable {X:Cx} {B:Bas} {tg iter:Expr} {m:M T}
theorem af6 {K:PySem.W.Frag} {S:Hp} {as:List Addr} {H:Hp} {x:Str} (sub:Same S H):Hr K S as H (aek x) (signs x) where
 go:=fun i t e=>by
  unfold signs at e;rw [List.getElem?_map] at e
  have hi:i<x.cps.size:=by
   rcases Nat.lt_or_ge i x.cps.size with h | h
   ·exact h
   ·rw [List.getElem?_eq_none (by rw [Array.length_toList]; exact h)] at e; cases e
  refine ⟨hi,fun v H' y=>⟨S,by rw [y.1]; exact Ext.refl sub,?_⟩⟩;obtain ⟨_,c,hc,rfl⟩:=y;rw [Array.getElem?_toList,hc] at e;cases e;exact .str _
 stop:=fun i hi=>by
  unfold signs at hi;rw [List.length_map,Array.length_toList] at hi;exact hi
theorem Sx (h:PE X iter (tOf X.K B m)):PI X tg iter (iOf X.K B (Er m)):=by
 intro pins s σ H R I hw;obtain ⟨st,ps,S,as,Rl,ts,aa,e,hz,q⟩:=hw;unfold Er at e;split at e
 ·rename_i x s1 e1;split at e
  ·rename_i hl;cases e;refine thn (h pins s σ H _ I ⟨st,ps,S,as,Rl,_,_,e1,fun v H1 S1 ae R1=>(⟨S1,ae,R1⟩:∃ S1 ae,Rel X.K B aa σ H1 ((v,.str x)::ps) S1 ae)⟩) fun v s1 z0=>?_;obtain ⟨y,H1,I1,r1,S1,ae,R1⟩:=z0;have top:=R1.top;cases top;obtain ⟨t,rfl⟩:=r1;refine wpAny_pyIter_ascii hl.2 ?_;refine ⟨s1.heap.objs.size,[s1.heap.objs.size],_,_,H1,rfl,I1.kept (t':=s1.toks) fun b o e=>Heap.get?_push_of_some _ e,a0i x t _,⟨_,Heap.get?_push_size _ rfl,rfl,rfl⟩,fun b hb=>?_,q _ H1 S1 ae [(.str x,.str x)] R1 fun S2 ax H2 hp hh=>af6 hh⟩;have e:b=s1.heap.objs.size:=by simpa using hb
   subst e;exact I1.a8v (Nat.le_refl _) (I1.hok.fresh (Nat.le_refl _))
  ·cases e
 ·cases e
theorem Rx {m:M T}:∀ st ts aa,Er m st=some (ts,aa)->ts.length<=sizeLine:=fun st ts aa e=>by
 unfold Er at e;split at e
 ·split at e
  ·rename_i hl;cases e;unfold signs;rw [List.length_map,Array.length_toList];exact Nat.le_trans (Nat.le_of_lt hl.1) je
  ·cases e
 ·cases e
end
noncomputable def aby:List T->Option T
 | [.str x]=>if x.length<=640 then (intText? x).map .int else none
 | _=>none
section
variable {X:Cx}
theorem V6:Jh X (.type "int") aby:=by
 intro pins s σ H xs us Q I rs z8;obtain ⟨S,as,ts,w,sub,hr,hf,q⟩:=z8;cases hr with
 | nil=>exact fu hf
 | @cons x t bI ts' h1 h2 =>
  cases h2 with
  | cons h3 h4=>cases h1 <;> exact fu hf
  | nil =>
   cases h1 <;> first | exact fu hf | skip
   obtain ⟨u,rfl,ru⟩:=rs.one;obtain ⟨t,rfl⟩:=ru;rename_i x;have dX:(if x.length<=640 then (intText? x).map T.int else none)=some w:=hf;split at dX
   ·rename_i hl;obtain ⟨n,hn,rfl⟩:=Option.map_eq_some_iff.mp dX;exact PySem.W.KIN.call_text hn hl ⟨.int n,H,I.tok _,⟨_,rfl⟩,q _ H S (Ext.refl sub) (.int _)⟩
   ·cases dX
end
noncomputable def Iv (f g:T->T->Option T) (a b c:M T):M T:=fun s=>match a s with
 | some (x,s1)=>match b s1 with
  | some (y,s2)=>match f x y with
   | some (.bl true)=>(match c s2 with
    | some (z,s3)=>(match g y z with
     | some w=>some (w,s3)
     | none=>none)
    | none=>none)
   | some (.bl false)=>some (.bl false,s2)
   | _=>none
  | none=>none
 | none=>none
theorem V2 {f g:T->T->Option T} {a b c:M T} {s s':Sta} {w:T} (h:Iv f g a b c s=some (w,s')):∃ x s1 y s2,a s=some (x,s1)/\b s1=some (y,s2) /\
  ((f x y=some (.bl true)/\∃ z,c s2=some (z,s')/\g y z=some w)\/(f x y=some (.bl false)/\w=.bl false/\s'=s2)):=by
 unfold Iv at h;split at h
 ·rename_i x s1 e1;split at h
  ·rename_i y s2 e2;split at h
   ·rename_i e3;split at h
    ·rename_i z s3 e4;split at h
     ·rename_i w' e5;cases h;exact ⟨x,s1,y,s2,e1,e2,.inl ⟨e3,z,e4,e5⟩⟩
     ·cases h
    ·cases h
   ·rename_i e3;cases h;exact ⟨x,s1,y,_,e1,e2,.inr ⟨e3,rfl,rfl⟩⟩
   ·cases h
  ·cases h
 ·cases h
section
variable {X:Cx} {B:Bas} {a b c:Expr} {m1 m2 m3:M T} {pos:Pos} {op bZ:CmpOp} {f g:T->T->Option T}
theorem a1i {σ:L2.St} {H:Hp} {Q:VK} (h:tOf X.K B (Iv f g m1 m2 m3) σ H Q):a3w (r2 X.K f) (r2 X.K g) (tOf X.K B m1) (tOf X.K B m2) (tOf X.K B m3) σ H Q:=by
 obtain ⟨st,ps,S,as,R,t,aa,e,q⟩:=h;obtain ⟨x,s1,y,s2,e1,e2,e3⟩:=V2 e;refine ⟨st,ps,S,as,R,x,s1,e1,fun v H1 S1 ae R1=>⟨s1,_,S1,ae,R1,y,s2,e2,fun u H2 S2 ax R2=>?_⟩⟩;rcases e3 with ⟨f1,z,f2,f3⟩ | ⟨f1,rfl,rfl⟩
 ·refine ⟨S2,ax,x,y,_,R2.sub,R2.top2,R2.top,f1,fun w H3 S3 xt r=>⟨true,by cases r; rfl,Yo ?_⟩⟩;have R3:=R2.ext xt;refine ⟨s2,_,S3,ax,R3,z,aa,f2,fun w4 H4 S4 cO R4=>?_⟩;exact ⟨S4,cO,y,z,t,R4.sub,R4.top2,R4.top,f3,fun w5 H5 S5 x5 r5=>q w5 H5 S5 cO ((R4.drop.drop.drop.ext x5).push r5)⟩
 ·exact ⟨S2,ax,x,y,_,R2.sub,R2.top2,R2.top,f1,fun w H3 S3 xt r=>⟨false,by cases r; rfl,Wv (q _ H3 S3 ax ((R2.drop.drop.ext xt).push (.bl _)))⟩⟩
theorem a3k (ho:OpT X (compareOp op) f) (aO:OpT X (compareOp bZ) g) (ha:PE X a (tOf X.K B m1)) (hb:PE X b (tOf X.K B m2)) (hc:PE X c (tOf X.K B m3)) (hm:lastMarks [op,bZ] [b,c]=false:=by with_unfolding_all rfl) :
  PE X (.Compare a [op,bZ] [b,c] pos) (tOf X.K B (Iv f g m1 m2 m3)):=(a2f ho aO ha hb hc hm).imp fun σ H Q h=>a1i h
end
noncomputable def ac1:List Int->Option Int
 | []=>none
 | x::r=>some (r.foldl (fun a b=>if b > a then b else a) x)
def a1v:List T->Option T
 | [.lst xs]=>(Oh xs).bind fun l=>(ac1 l).map .int
 | _=>none
section
variable {X:Cx}
theorem U5:∀ (r:List Int) (x:Int),(r.foldl (fun a b=>if b > a then b else a) x=x\/r.foldl (fun a b=>if b > a then b else a) x∈r)/\x<=r.foldl (fun a b=>if b > a then b else a) x/\∀ a∈r,a<=r.foldl (fun a b=>if b > a then b else a) x
 | [],x=>⟨.inl rfl,Int.le_refl _,fun _ h=>by cases h⟩
 | y::r,x=>by
  rw [List.foldl_cons];obtain ⟨h1,h2,h3⟩:=U5 r (if y > x then y else x);have hx:x<=(if y > x then y else x):=by split <;> omega
  have hy:y<=(if y > x then y else x):=by split <;> omega
  refine ⟨?_,Int.le_trans hx h2,fun a ha=>?_⟩
  ·rcases h1 with h1 | h1
   ·by_cases z:y > x
    ·rw [if_pos z] at h1 ⊢; exact .inr (by rw [h1]; exact List.mem_cons_self)
    ·rw [if_neg z] at h1 ⊢; exact .inl h1
   ·exact .inr (List.mem_cons_of_mem _ h1)
  ·rcases List.mem_cons.mp ha with rfl | ha
   ·exact Int.le_trans hy h2
   ·exact h3 a ha
theorem Mu {l:List Int} {m:Int} (h:ac1 l=some m):m∈l/\∀ a∈l,a<=m:=by
 cases l with
 | nil=>cases h
 | cons x r =>
  cases h;obtain ⟨h1,h2,h3⟩:=U5 r x;refine ⟨?_,fun a ha=>?_⟩
  ·rcases h1 with h1 | h1
   ·rw [h1]; exact List.mem_cons_self
   ·exact List.mem_cons_of_mem _ h1
  ·rcases List.mem_cons.mp ha with rfl | ha
   ·exact h2
   ·exact h3 a ha
theorem Vr (hc:X.calm=true):Jh X (.builtin "max") a1v:=by
 intro pins s σ H xs us Q I rs z8;obtain ⟨S,as,ts,w,sub,hr,hf,q⟩:=z8;cases hr with
 | nil=>exact fu hf
 | @cons x t bI ts' h1 h2 =>
  cases h2 with
  | cons h3 h4=>cases h1 <;> exact fu hf
  | nil =>
   cases h1 with
   | @lst a vs ts g1 g2 =>
    obtain ⟨l,e1,e2⟩:=Option.bind_eq_some_iff.mp hf;obtain ⟨M,e3,e4⟩:=Option.map_eq_some_iff.mp e2;subst e4;have ev:=Il g2 e1;subst ev;obtain ⟨u,rfl,ru⟩:=rs.one;cases ru;obtain ⟨its,r,p,hz⟩:=I.list (iz sub g1);obtain ⟨ps,rfl,hl⟩:=Jk r;obtain ⟨m1,m2⟩:=Mu e3
    have bV:0<ps.toArray.size:=by
     rw [List.size_toArray];have:l.length=ps.length:=by rw [<- hl,List.length_map]
     have:=List.length_pos_of_mem m1;omega
    have fB:s.heap.IsList a (intItems ps.toArray):=by
     have:=p.isList;unfold intItems;simpa using this
    refine max_intList (I.ok.hd hc) fB bV fun v h' tk hv hk=>?_;obtain ⟨t,rfl⟩:=intItems_at hv;obtain ⟨b1,b2⟩:=argBest_gt (numAt ps.toArray) (ps.toArray.size - 1)
    have eM:numAt ps.toArray (argBest (fun i j=>decide (numAt ps.toArray i > numAt ps.toArray j)) (ps.toArray.size - 1))=M:=by
     apply Int.le_antisymm
     rotate_left
     ·rw [<- hl] at m1;obtain ⟨j,hj,ej⟩:=mem_getD m1;rw [List.length_map] at hj;rw [<- ej];have:=b2 j (by rw [List.size_toArray]; omega);rw [numAt_eq (j:=j)] at this;exact this
     ·apply m2;rw [numAt_eq,<- hl];exact PySem.getD_mem (by rw [List.length_map]; rw [List.size_toArray] at b1 bV; simp only [List.size_toArray]; omega)
    rw [eM];exact ⟨.int M,H,I.kept (h':=h') (t':=tk) hk,⟨_,rfl⟩,q _ H S (Ext.refl sub) (.int _)⟩
   | _=>exact fu hf
end
end C
end
section
namespace K
open C PySem
noncomputable def Ez:Fn:=qp 6
 (jf (sNew 2 (ak (.dic [])))
 (jf (J7 (Gq [3,4]) (yx (aq 1))
 (vp 2 (aq 3) (mOp jm (vo 2 (aq 3) (ak (.int 0))) (aq 4))))
 (jf (j8 5 (lu 1 [2] (hName 0) (yx (gk Bb (ao (aq 2) d7))) (bw (mOp neO (mOp dg (aq 1) (aq 0)) (ak (.int 0)))) (gk (fun l=>some (.tup l)) (ao (aq 0) (ao (mOp dg (aq 1) (aq 0)) d7)))))
 (sy (gk (fun l=>some (.tup l)) (ao (aq 0) (ao (gk Bw (ao (aq 5) d7)) d7)))))))
noncomputable def Ai:Fn:=qp 1
 (sy (yc (Ox (bw (Iv leT leT (ak (.int 1)) (gk Ax (ao (aq 0) d7)) (ak (.int 8)))) (bw (yc (Ox (bw (mOp inS (mOp dg (aq 0) (ak (.int 0))) (ak (.str "abcdefghijklmnopqrstuvwxyz")))) (bw (yc (Ox (bw (gk aae (ao (lu 1 [] (hName 0) (Er (aq 0)) v9 (mOp inS (aq 0) (ak (.str "abcdefghijklmnopqrstuvwxyz0123456789")))) d7))) (bw (mOp Mi (aq 0) (ak (.tup [(.str "box"),(.str "lock"),(.str "hand"),(.str "own"),(.str "end"),(.str "set"),(.str "wait"),(.str "if"),(.str "else"),(.str "while"),(.str "rounds"),(.str "either"),(.str "or"),(.str "and"),(.str "not"),(.str "take"),(.str "give"),(.str "label"),(.str "say"),(.str "at"),(.str "divides"),(.str "true"),(.str "false")])))))))))))))
noncomputable def Bf:Fn:=qp 1
 (jf (sIf (mOr (bw (mOp eqO (aq 0) (ak (.str "")))) (Gi (bw (gk aae (ao (lu 1 [] (hName 0) (Er (aq 0)) v9 (mOp inS (aq 0) (ak (.str "0123456789")))) d7)))))
 (sy (ak (.bl false)))
 yd)
 (sy (yc (mOr (bw (mOp eqO (aq 0) (ak (.str "0")))) (bw (mOp neO (mOp dg (aq 0) (ak (.int 0))) (ak (.str "0"))))))))
noncomputable def Cy:Fn:=qp 2
 (jf (Aj 1000 (Ox (bw (mOp ltT (aq 1) (gk Ax (ao (aq 0) d7)))) (bw (mOp inS (mOp dg (aq 0) (aq 1)) (ak (.str "abcdefghijklmnopqrstuvwxyz0123456789")))))
 (j8 1 (mOp jm (aq 1) (ak (.int 1)))))
 (sy (aq 1)))
noncomputable def zx:FnX:=qw 3
 (Aa (lx (sIf (bw (mOp inS (mOp dg (aq 0) (aq 1)) (ak (.str "abcdefghijklmnopqrstuvwxyz0123456789"))))
 (sy (Bg (aq 0) (Cw (aq 1)) (Cw (dw Cy (ao (aq 0) (ao (aq 1) d7))))))
 yd))
 (Aa (lx (sIf (bw (mOp inT (Bg (aq 0) (Cw (aq 1)) (Cw (mOp jm (aq 1) (ak (.int 2))))) (ak (.tup [(.str "<="),(.str ">=")]))))
 (sy (Bg (aq 0) (Cw (aq 1)) (Cw (mOp jm (aq 1) (ak (.int 2))))))
 yd))
 (Aa (lx (sIf (mOr (bw (mOp eqO (mOp dg (aq 0) (aq 1)) (ak (.str " ")))) (bw (mOp inT (mOp dg (aq 0) (aq 1)) (ak (.tup [(.str "+"),(.str "-"),(.str "*"),(.str "<"),(.str ">"),(.str "="),(.str "["),(.str "]"),(.str ",")])))))
 (sy (mOp dg (aq 0) (aq 1)))
 yd))
 (Cu (aq 2)))))
noncomputable def Bc:FnX:=qw 5
 (Aa (lx (sNew 2 (gk (fun l=>some (.lst l)) d7)))
 (Aa (lx (j8 3 (ak (.int 0))))
 (Aa (nq 1000 (bw (mOp ltT (aq 3) (gk Ax (ao (aq 0) d7))))
 (Aa (Pj 4 (qz zx (ao (aq 0) (ao (aq 3) (ao (aq 1) d7)))))
 (Aa (lx (sIf (bw (mOp neO (aq 4) (ak (.str " "))))
 (u6 2 (aq 4))
 yd))
 (lx (j8 3 (mOp jm (aq 3) (gk Ax (ao (aq 4) d7))))))))
 (lx (sy (aq 2))))))
noncomputable def uf:Fn:=qp 2
 (sy (mIf (bw (mOp eqO (aq 1) (ak (.int 1)))) (aq 0) (gk K5 (ao (mUn a4q (aq 1)) (ao (ak (.str " * ")) (ao (mUn a4q (aq 0)) d7))))))
noncomputable def v7:Fn:=qp 2
 (jf (sIf (bw (aq 0))
 (sy (mIf (bw (aq 1)) (ak (.str "-")) (ak (.str ""))))
 yd)
 (sy (mIf (bw (aq 1)) (ak (.str " - ")) (ak (.str " + ")))))
noncomputable def uo:Fn:=qp 6
 (jf (sNew 1 (lu 2 [] (Gq [0,1]) (yx (mOp dg (aq 0) (ak (.int 1)))) v9 (dw uf (ao (aq 0) (ao (gk Gp (ao (aq 1) d7)) d7)))))
 (jf (sNew 2 (lu 2 [] (Gq [0,1]) (yx (mOp dg (aq 0) (ak (.int 1)))) v9 (aq 1)))
 (jf (sIf (mOr (bw (mOp neO (mOp dg (aq 0) (ak (.int 0))) (ak (.int 0)))) (bw (mOp eqO (Dy 1) (ak (.int 0)))))
 (jf (u6 1 (gk Pa (ao (gk Gp (ao (mOp dg (aq 0) (ak (.int 0))) d7)) d7)))
 (u6 2 (mOp dg (aq 0) (ak (.int 0)))))
 yd)
 (jf (j8 3 (ak (.str "")))
 (jf (J7 (Gq [4,5]) (a3o (aq 1) (aq 2))
 (j8 3 (mOp jm (mOp jm (aq 3) (dw v7 (ao (mOp eqO (aq 3) (ak (.str ""))) (ao (mOp ltT (aq 5) (ak (.int 0))) d7)))) (aq 4))))
 (sy (aq 3)))))))
noncomputable def qj (cR cN:Nat):FnX:=qw 3
 (Aa (Cv cR "tokens" (aq 0) (qz Bc (ao (aq 1) (ao (aq 2) d7))))
 (Aa (lx (ug cR "row" (aq 0) (aq 2)))
 (lx (ug cR "spot" (aq 0) (ak (.int 0))))))
noncomputable def Fi (cR cN:Nat):FnX:=qw 3
 (Aa (lx (j8 2 (mOp jm (gk (fun l=>some (.lst l)) (ao (mOp dg (aq 1) (ak (.int 0))) d7)) (lu 2 [] (Gq [0,1]) (yx (mOp dg (aq 1) (ak (.int 1)))) v9 (aq 1)))))
 (Aa (xIf (bw (mOp gtT (gk a1v (ao (lu 1 [] (hName 0) (yx (aq 2)) v9 (gk Gp (ao (aq 0) d7))) d7)) (ak (.int 999999999))))
 (Cu (Dt cR "row" (aq 0)))
 (lx yd))
 (lx (sy (aq 1)))))
noncomputable def jc (cR cN:Nat):Fn:=qp 2
 (jf (sIf (bw (mOp geT (mOp jm (Dt cR "spot" (aq 0)) (aq 1)) (gk Ax (ao (Dt cR "tokens" (aq 0)) d7))))
 (sy (ak (.str "")))
 yd)
 (sy (mOp dg (Dt cR "tokens" (aq 0)) (mOp jm (Dt cR "spot" (aq 0)) (aq 1)))))
noncomputable def jw (cR cN:Nat):Fn:=qp 2
 (jf (sIf (bw (mOp neO (ud cR "seen" (jc cR cN) (aq 0) (ao (ak (.int 0)) d7)) (aq 1)))
 (sy (ak (.bl false)))
 yd)
 (jf (ug cR "spot" (aq 0) (mOp jm (Dt cR "spot" (aq 0)) (ak (.int 1))))
 (sy (ak (.bl true)))))
noncomputable def fj (cR cN:Nat):Fn:=qp 2
 (jf (j8 1 (ud cR "seen" (jc cR cN) (aq 0) (ao (ak (.int 0)) d7)))
 (jf (ug cR "spot" (aq 0) (mOp jm (Dt cR "spot" (aq 0)) (ak (.int 1))))
 (sy (aq 1))))
noncomputable def j4 (cR cN:Nat):FnX:=qw 5
 (Aa (lx (j8 3 (ud cR "next_token" (fj cR cN) (aq 0) d7)))
 (Aa (xIf (mOr (Gi (bw (dw Bf (ao (aq 3) d7)))) (bw (mOp gtT (gk Ax (ao (aq 3) d7)) (gk Ax (ao (gk Pa (ao (aq 2) d7)) d7)))))
 (Cu (Dt cR "row" (aq 0)))
 (lx yd))
 (Aa (lx (j8 4 (gk aby (ao (aq 3) d7))))
 (Aa (xIf (mOr (bw (mOp ltT (aq 4) (aq 1))) (bw (mOp gtT (aq 4) (aq 2))))
 (Cu (Dt cR "row" (aq 0)))
 (lx yd))
 (lx (sy (aq 4)))))))
noncomputable def jx (cR cN:Nat):FnX:=qw 2
 (Aa (lx (j8 1 (ud cR "next_token" (fj cR cN) (aq 0) d7)))
 (Aa (xIf (Gi (bw (dw Ai (ao (aq 1) d7))))
 (Cu (Dt cR "row" (aq 0)))
 (lx yd))
 (lx (sy (aq 1)))))
noncomputable def m6 (cR cN:Nat):FnX:=qw 3
 (Aa (xIf (bw (dw Ai (ao (ud cR "seen" (jc cR cN) (aq 0) (ao (ak (.int 0)) d7)) d7)))
 (a0q (Ly (fun l=>some (.tup l)) (m7 (wu cR "next_name" (jx cR cN) (aq 0) Bo) (m7 (K9 (aq 1)) Bo))))
 (lx yd))
 (Aa (Pj 2 (a1c yg (K9 (aq 1)) (wu cR "next_number" (j4 cR cN) (aq 0) (m7 (K9 (ak (.int 0))) (m7 (K9 (ak (.int 999999999))) Bo)))))
 (Aa (xIf (bw (ud cR "took" (jw cR cN) (aq 0) (ao (ak (.str "*")) d7)))
 (a0q (Ly (fun l=>some (.tup l)) (m7 (wu cR "next_name" (jx cR cN) (aq 0) Bo) (m7 (K9 (aq 2)) Bo))))
 (lx yd))
 (lx (sy (gk (fun l=>some (.tup l)) (ao (ak (.str "")) (ao (aq 2) d7))))))))
noncomputable def Cz (cR cN:Nat):FnX:=qw 5
 (Aa (Ms 1 (m7 (qz (m6 cR cN) (ao (aq 0) (ao (mIf (bw (ud cR "took" (jw cR cN) (aq 0) (ao (ak (.str "-")) d7))) (mUn a1o (ak (.int 1))) (ak (.int 1))) d7))) Bo))
 (Aa (nq 1000 (bw (mOp inT (ud cR "seen" (jc cR cN) (aq 0) (ao (ak (.int 0)) d7)) (gk (fun l=>some (.tup l)) (ao (ak (.str "+")) (ao (ak (.str "-")) d7)))))
 (Aa (lx (j8 2 (mIf (bw (mOp eqO (ud cR "next_token" (fj cR cN) (aq 0) d7) (ak (.str "+")))) (ak (.int 1)) (mUn a1o (ak (.int 1))))))
 (Cq 1 (qz (m6 cR cN) (ao (aq 0) (ao (aq 2) d7))))))
 (Aa (lx (j8 3 (gk ac5 (ao (lu 2 [] (Gq [0,1]) (yx (aq 1)) (bw (mOp eqO (aq 0) (ak (.str "")))) (aq 1)) d7))))
 (Aa (lx (j8 4 (dw Ez (ao (aq 3) (ao (lu 1 [] (hName 0) (yx (aq 1)) (bw (mOp neO (mOp dg (aq 0) (ak (.int 0))) (ak (.str "")))) (aq 0)) d7)))))
 (a0q (qz (Fi cR cN) (ao (aq 0) (ao (aq 4) d7))))))))
noncomputable def qe (cR cN:Nat):FnX:=qw 1
 (xIf (bw (mOp ltT (Dt cR "spot" (aq 0)) (gk Ax (ao (Dt cR "tokens" (aq 0)) d7))))
 (Cu (Dt cR "row" (aq 0)))
 (lx yd))
noncomputable def zy (cR cN:Nat):FnX:=qw 3
 (Aa (Pj 1 (El cR (qj cR cN) (ao (aq 0) (ao (ak (.int 1)) d7))))
 (Aa (Pj 2 (qz (Cz cR cN) (ao (aq 1) d7)))
 (Aa (Ra (wu cR "need_end" (qe cR cN) (aq 1) Bo))
 (lx (sy (aq 2))))))
def jo (cR cN:Nat):Fn:=norm (zy cR cN)
noncomputable def ji:Fn:=qp 2
 (jf (sIf (bw (mOp ltT (aq 1) (gk Ax (ao (aq 0) d7))))
 (sy (mOp dg (aq 0) (aq 1)))
 yd)
 (sy (ak (.int 0))))
noncomputable def qb:Fn:=qp 2
 (jf (sIf (bw (aq 1))
 (sy (Fz [.inr "left",.inr "free"] (ao (a8t 0) (ao (ak (.bl true)) d7))))
 yd)
 (sy (Fz [.inr "left",.inr "free"] (ao (mOp acg (ak (.int 1)) (mOp Dg (a8t 0) (ak (.int 2147483646)))) (ao (ak (.bl false)) d7)))))
noncomputable def dz:Fn:=qp 3
 (jf (sIf (bw (uy (aq 0) (ak (.str "free"))))
 (jf (j8 2 (mOp Dg (uy (aq 0) (ak (.str "left"))) (aq 1)))
 (jf (Ed (aq 0) (ak (.str "left")) (mOp Ck (uy (aq 0) (ak (.str "left"))) (aq 1)))
 (sy (aq 2))))
 yd)
 (jf (Ed (aq 0) (ak (.str "left")) (mOp Dg (mOp yg (uy (aq 0) (ak (.str "left"))) (ak (.int 48271))) (ak (.int 2147483647))))
 (sy (mOp Dg (mOp Ck (mOp Dg (mOp yg (uy (aq 0) (ak (.str "left"))) (ak (.int 16807))) (ak (.int 2147483629))) (ak (.int 5))) (aq 1)))))
noncomputable def qy:Fn:=qp 4
 (jf (sIf (bw (mOp eqO (mOp Dg (mOp Ck (aq 0) (ak (.int 147))) (ak (.int 4))) (ak (.int 1))))
 (sy (mOp dg (gk (fun l=>some (.lst l)) (Dl ["b","ab","abc","abcd","a","ba","aab","b1","bab","ab1"])) (mOp Dg (aq 1) (ak (.int 10)))))
 yd)
 (jf (sIf (bw (mOp eqO (mOp Dg (mOp Ck (aq 0) (ak (.int 147))) (ak (.int 4))) (ak (.int 2))))
 (sy (mOp dg (gk (fun l=>some (.lst l)) (Dl ["order","andes","note","iff","atlas","setup","waiter","handy","boxes","ends"])) (mOp Dg (aq 1) (ak (.int 10)))))
 yd)
 (jf (sIf (bw (mOp eqO (mOp Dg (mOp Ck (aq 0) (ak (.int 147))) (ak (.int 4))) (ak (.int 3))))
 (sy (mOp dg (gk (fun l=>some (.lst l)) (Dl ["or1","and2","not3","box4","at5","end6","own7","set8","iff9","says"])) (mOp Dg (aq 1) (ak (.int 10)))))
 yd)
 (jf (j8 2 (mOp jm (ak (.int 2)) (mOp Dg (aq 0) (ak (.int 7)))))
 (jf (j8 3 (mOp Dg (mOp Ck (aq 0) (ak (.int 7))) (mOp Qs (aq 2) (ak (.int 1)))))
 (sy (mOp jm (mOp jm (mOp yg (ak (.str "q")) (aq 3)) (mOp dg (ak (.str "bcdfghjkmn")) (mOp Dg (aq 1) (ak (.int 10))))) (mOp yg (mOp dg (ak (.str "qx7")) (mOp Dg (mOp Ck (aq 0) (ak (.int 49))) (ak (.int 3)))) (mOp Qs (mOp Qs (aq 2) (ak (.int 1))) (aq 3))))))))))
noncomputable def jy:Fn:=qp 5
 (jf (j8 2 (dw dz (ao (aq 0) (ao (ak (.int 4)) d7))))
 (jf (sIf (bw (mOp ltT (aq 2) (ak (.int 3))))
 (sy (mOp Qs (dw dz (ao (aq 0) (ao (ak (.int 9)) d7))) (ak (.int 4))))
 yd)
 (jf (j8 3 (ak (.int 0)))
 (jf (J7 (hName 4) (Bm (ak (.int 4)))
 (j8 3 (mOp jm (mOp yg (mOp yg (aq 3) (ak (.int 4))) (mOp Qo (ak (.int 10)) (ak (.int 8)))) (dw dz (ao (aq 0) (ao (mOp yg (ak (.int 4)) (mOp Qo (ak (.int 10)) (ak (.int 8)))) d7))))))
 (sy (mOp jm (mOp Qs (mOp Dg (aq 3) (mOp Qs (mOp yg (ak (.int 2)) (aq 1)) (ak (.int 1)))) (aq 1)) (ak (.int 1))))))))
noncomputable def vf:Fn:=qp 5
 (jf (sNew 2 (gk (fun l=>some (.lst l)) d7))
 (jf (J7 (hName 3) (yx (gk Bb (ao (aq 1) d7)))
 (sIf (bw (mOp eqO (dw dz (ao (aq 0) (ao (ak (.int 2)) d7))) (ak (.int 1))))
 (jf (j8 4 (dw jy (ao (aq 0) (ao (mOp Qo (ak (.int 10)) (ak (.int 9))) d7))))
 (sIf (bw (mOp neO (aq 4) (ak (.int 0))))
 (u6 2 (gk (fun l=>some (.tup l)) (ao (aq 3) (ao (aq 4) d7))))
 yd))
 yd))
 (sy (gk (fun l=>some (.tup l)) (ao (dw jy (ao (aq 0) (ao (mOp Qo (ak (.int 10)) (ak (.int 9))) d7))) (ao (gk Bw (ao (aq 2) d7)) d7))))))
noncomputable def uq:Fn:=qp 5
 (jf (j8 1 (ak (.str "")))
 (jf (J7 (Gq [2,3]) (yx (mOp dg (aq 0) (ak (.int 1))))
 (jf (j8 4 (aq 2))
 (jf (sIf (bw (mOp neO (gk Gp (ao (aq 3) d7)) (ak (.int 1))))
 (j8 4 (mOp jm (mOp jm (gk Pa (ao (gk Gp (ao (aq 3) d7)) d7)) (ak (.str " * "))) (aq 2)))
 yd)
 (sIf (bw (mOp eqO (aq 1) (ak (.str ""))))
 (j8 1 (mOp jm (mOp yg (ak (.str "-")) (gk a04 (ao (mOp ltT (aq 3) (ak (.int 0))) d7))) (aq 4)))
 (j8 1 (mOp jm (mOp jm (aq 1) (mOp dg (gk (fun l=>some (.lst l)) (ao (ak (.str " + ")) (ao (ak (.str " - ")) d7))) (gk a04 (ao (mOp ltT (aq 3) (ak (.int 0))) d7)))) (aq 4)))))))
 (jf (sIf (bw (mOp eqO (aq 1) (ak (.str ""))))
 (sy (gk Pa (ao (mOp dg (aq 0) (ak (.int 0))) d7)))
 yd)
 (jf (sIf (bw (mOp eqO (mOp dg (aq 0) (ak (.int 0))) (ak (.int 0))))
 (sy (aq 1))
 yd)
 (sy (mOp jm (mOp jm (aq 1) (mOp dg (gk (fun l=>some (.lst l)) (ao (ak (.str " + ")) (ao (ak (.str " - ")) d7))) (gk a04 (ao (mOp ltT (mOp dg (aq 0) (ak (.int 0))) (ak (.int 0))) d7)))) (gk Pa (ao (gk Gp (ao (mOp dg (aq 0) (ak (.int 0))) d7)) d7))))))))
noncomputable def oh:Fn:=qp 12
 (jf (j8 2 (ak (.str "")))
 (jf (j8 3 (ak (.int 0)))
 (jf (sNew 4 (ak (.dic [])))
 (jf (j8 5 (mOp yg (ak (.str " ")) (dw dz (ao (aq 0) (ao (ak (.int 3)) d7)))))
 (jf (J7 (hName 6) (Bm (mOp jm (ak (.int 1)) (dw dz (ao (aq 0) (ao (ak (.int 8)) d7)))))
 (jf (j8 7 (dw dz (ao (aq 0) (ao (ak (.int 2)) d7))))
 (jf (j8 8 (gk Gp (ao (dw jy (ao (aq 0) (ao (mOp Qo (ak (.int 10)) (ak (.int 7))) d7))) d7)))
 (jf (j8 9 (dw dz (ao (aq 0) (ao (ak (.int 3)) d7))))
 (jf (j8 10 (gk Pa (ao (aq 8) d7)))
 (jf (j8 11 (mOp dg (aq 1) (dw dz (ao (aq 0) (ao (gk Ax (ao (aq 1) d7)) d7)))))
 (jf (sIf (bw (mOp eqO (aq 9) (ak (.int 0))))
 (j8 3 (mOp jm (aq 3) (mOp yg (aq 8) (mOp Qs (ak (.int 1)) (mOp yg (ak (.int 2)) (aq 7))))))
 (sIf (bw (mOp eqO (aq 9) (ak (.int 1))))
 (jf (j8 10 (mOp jm (mOp jm (mOp jm (mOp jm (aq 10) (aq 5)) (ak (.str "*"))) (aq 5)) (aq 11)))
 (vp 4 (aq 11) (mOp jm (vo 4 (aq 11) (ak (.int 0))) (mOp yg (aq 8) (mOp Qs (ak (.int 1)) (mOp yg (ak (.int 2)) (aq 7)))))))
 (jf (j8 10 (aq 11))
 (vp 4 (aq 11) (mOp Qs (mOp jm (vo 4 (aq 11) (ak (.int 0))) (ak (.int 1))) (mOp yg (ak (.int 2)) (aq 7)))))))
 (jf (sIf (mOr (bw (mOp gtT (aq 6) (ak (.int 0)))) (bw (mOp eqO (aq 7) (ak (.int 1)))))
 (j8 10 (mOp jm (mOp jm (mOp jm (aq 5) (mOp dg (ak (.str "+-")) (aq 7))) (aq 5)) (aq 10)))
 yd)
 (j8 2 (mOp jm (aq 2) (aq 10)))))))))))
 (sy (gk (fun l=>some (.tup l)) (ao (aq 2) (ao (gk (fun l=>some (.tup l)) (ao (aq 3) (ao (gk Bw (ao (lu 1 [4] (hName 0) (yx (gk Bb (ao (Ay 4) d7))) (bw (mOp neO (mOp dg (aq 1) (aq 0)) (ak (.int 0)))) (gk (fun l=>some (.tup l)) (ao (aq 0) (ao (mOp dg (aq 1) (aq 0)) d7)))) d7)) d7))) d7)))))))))
noncomputable def uw:Fn:=qp 2
 (jf (j8 1 (gk (fun l=>some (.lst l)) (Dl [""," ","x +","+ x","x + + y","x - - y","--x","x y","2 x","x * 2","2 * 3","2 * 3 * x","2 *"])))
 (jf (j8 1 (mOp jm (aq 1) (gk (fun l=>some (.lst l)) (Dl ["* x","(x)","[x]","x = y","x <= 1","2x","x2y * z","01","00 * x","1.5","1,000","1_0","X"]))))
 (jf (j8 1 (mOp jm (aq 1) (gk (fun l=>some (.lst l)) (ao (ak (.str "x;y")) d7))))
 (jf (j8 1 (mOp jm (aq 1) (gk (fun l=>some (.lst l)) (Dl ["x\n","and","2 * or","true","divides","1000000000","1000000000 * x","x + 999999999 + 1 + y"]))))
 (jf (j8 1 (mOp jm (aq 1) (gk (fun l=>some (.lst l)) (Dl ["999999999 * x + x","-1000000000","abcdefghi","3 * -x","x + -1"]))))
 (sy (mOp dg (aq 1) (mOp Dg (aq 0) (ak (.int 40))))))))))
noncomputable def qg (cR cN:Nat):Fn:=qp 3
 (jf (j8 1 (ak .non))
 (jf (Z9 cN "row" (zy cR cN) (ao (aq 0) d7) 2 1)
 (sy (yc (Ox (bw (a8s [(cN,"row",true)] (aq 1))) (bw (yc (Ox (bw (a8s [(cN,"row",true)] (aq 1))) (bw (mOp eqO (mXf cN "row" (aq 1)) (ak (.int 1))))))))))))
noncomputable def mj:Fn:=qp 2
 (jf (sIf (mOr (Gi (bw (gk isTup (ao (aq 0) d7)))) (mOr (bw (mOp neO (aq 0) (aq 1))) (Gi (bw (gk isTup (ao (mOp dg (aq 0) (ak (.int 1))) d7))))))
 (sy (ak (.bl false)))
 yd)
 (sy (yc (Gi (bw (gk acf (ao (lu 1 [] (hName 0) (yx (mOp jm (gk (fun l=>some (.lst l)) (ao (mOp dg (aq 0) (ak (.int 0))) d7)) (lu 1 [] (hName 0) (yx (mOp dg (aq 0) (ak (.int 1)))) v9 (mOp dg (aq 0) (ak (.int 1)))))) v9 (gk abl (ao (aq 0) d7))) d7)))))))
noncomputable def a8c (cR cN:Nat):Fn:=qp 9
 (jf (j8 1 (dw ji (ao (aq 0) (ao (ak (.int 0)) d7))))
 (jf (j8 2 (lu 1 [1] (hName 0) (Bm (ak (.int 6))) v9 (dw qy (ao (aq 1) (ao (aq 0) d7)))))
 (jf (j8 3 (mOp eqO (mOp Dg (dw ji (ao (aq 0) (ao (ak (.int 1)) d7))) (ak (.int 2))) (ak (.int 0))))
 (jf (J7 (hName 4) (yx (mOp jm (gk (fun l=>some (.lst l)) (ao (dw ji (ao (aq 0) (ao (ak (.int 1)) d7))) d7)) (Hw (aq 0) (Cw (ak (.int 2))) W3)))
 (jf (j8 5 (dw qb (ao (aq 4) (ao (aq 3) d7))))
 (jf (j8 6 (dw vf (ao (aq 5) (ao (aq 2) d7))))
 (jf (j8 7 (dw uo (ao (aq 6) d7)))
 (jf (sIf (mOr (Gi (bw (gk isStr (ao (aq 7) d7)))) (mOr (bw (mOp neO (aq 7) (dw uq (ao (aq 6) d7)))) (Gi (bw (dw mj (ao (dw (jo cR cN) (ao (aq 7) d7)) (ao (aq 6) d7)))))))
 (sy (ak (.bl false)))
 yd)
 (jf (j8 8 (dw oh (ao (aq 5) (ao (aq 2) d7))))
 (jf (sIf (Gi (bw (dw mj (ao (dw (jo cR cN) (ao (mOp dg (aq 8) (ak (.int 0))) d7)) (ao (mOp dg (aq 8) (ak (.int 1))) d7)))))
 (sy (ak (.bl false)))
 yd)
 (sIf (Gi (bw (dw (qg cR cN) (ao (dw uw (ao (mOp Dg (mOp yg (mOp Dg (mOp Ck (aq 4) (ak (.int 7))) (ak (.int 65521))) (ak (.int 48271))) (ak (.int 65519))) d7)) d7))))
 (sy (ak (.bl false)))
 yd))))))))
 (sy (ak (.bl true)))))))
end K
end
section
namespace D
open PySem PySem.Spec PyProof.Rows L2 C
noncomputable def top (i:Nat):Stmt:=PySem.Challenge.pw_calm_k05_sums_read_and_written.main.body.getD i (.Pass ⟨0,0,0,0⟩)
noncomputable def Jw (i:Nat):Stmt->Stmt
 | .ClassDef _ _ _ b _ _ _ _ _ _ _=>b.getD i (.Pass ⟨0,0,0,0⟩)
 | s=>s
section
variable {P:Program} {w:World} {K:PySem.W.Frag} {mg:Str->Option Value} {base:Heap} {x q:Str} {st:Stmt} {N ps:List Str} {k:Nat}
def FA (K:PySem.W.Frag) (mg:Str->Option Value) (x:Str) (st:Stmt):Prop:=∃ f fd,Fun K x x st f fd/\mg x=some (.ref f)
def Bd (x q:Str) (st:Stmt) (ps:List Str):Prop:=∀ (kV doc pm:Value) (an:Option Addr) (az ct:Value) (us:List Value),us.length=ps.length->bindArgs (PySem.W.fnOf x q (Ea st) (u9 st) (f9 st) .none kV doc pm an az ct) ⟨us,[]⟩=pure (ps.zip us)
abbrev GoB (P:Program) (w:World) (K:PySem.W.Frag) (mg:Str->Option Value) (base:Heap) (q:Str) (st:Stmt) (N:List Str) (k:Nat) (b:S):Prop:=∀ (az:Value) (A:Around) (outer:List Env) (s:Shared) (H:Hp) (E:XK) (B:Bas) (f:Addr),xu k (A.deeper (envOfC q (f9 st) s.heap.objs.size f az))->(A.deeper (envOfC q (f9 st) s.heap.objs.size f az)).units+1<cLine->(A.deeper (envOfC q (f9 st) s.heap.objs.size f az)).units+64<cLine->N.Nodup ->
   PSs (Pg CX0 P w K mg base N q (f9 st) f az A outer s H E).nox (u9 st) (sOf K B b)
theorem go0 {b:S} {f:Addr} {fd:FuncData} (F:Fun K x q st f fd) (hb:GoB P w K mg base q st N k b)
  (Sc:zp N ps (f9 st):=by exact ⟨rfl,rfl,rfl,by decide +kernel,rfl,by decide +kernel,by decide +kernel⟩) (hN:ps.length<=N.length:=by decide):Aw P w K mg base CX0 (k+1) f fd ps (spF K ps.length (qp N.length b)) :=
 a5v F Sc hN fun az A outer s H E B hr=>hb az A outer s H E B f hr (a7d hr) hr.units Sc.nd
theorem go {b:S} (h:FA K mg x st) (hb:GoB P w K mg base x st N k b)
  (Sc:zp N ps (f9 st):=by exact ⟨rfl,rfl,rfl,by decide +kernel,rfl,by decide +kernel,by decide +kernel⟩) (hN:ps.length<=N.length:=by decide)
  (bd:Bd x x st ps:=by first | (exact fun _ _ _ _ _ _ us hl=>bd1 (fun _=>rfl) us hl) | (exact fun _ _ _ _ _ _ us hl=>bd2 (fun _ _=>rfl) us hl) | (exact fun _ _ _ _ _ _ us hl=>bd3 (fun _ _ _=>rfl) us hl) | (exact fun _ _ _ _ _ _ us hl=>bd4 (fun _ _ _ _=>rfl) us hl) | (exact fun _ _ _ _ _ _ us hl=>bd5 (fun _ _ _ _ _=>rfl) us hl)):vm P w K mg base x (k+1) ps (qp N.length b):=by
 obtain ⟨f,fd,F,m⟩:=h;exact ⟨f,fd,go0 F hb Sc hN,F.binds bd,F.kp,m⟩
theorem goX {b:SX} {Cl:Addr} {fl:Str} (h:FA K mg x st)
  (hb:∀ (az:Value) (A:Around) (outer:List Env) (s:Shared) (H:Hp) (E:XK) (B:Bas) (f:Addr),xu k (A.deeper (envOfC x (f9 st) s.heap.objs.size f az))->(A.deeper (envOfC x (f9 st) s.heap.objs.size f az)).units+1<cLine->(A.deeper (envOfC x (f9 st) s.heap.objs.size f az)).units+64<cLine->N.Nodup ->
   PSs (Pg (CXx P w) P w K mg base N x (f9 st) f az A outer s H E) (u9 st) (Ij K B Cl fl E b))
  (Sc:zp N ps (f9 st):=by exact ⟨rfl,rfl,rfl,by decide +kernel,rfl,by decide +kernel,by decide +kernel⟩) (hN:ps.length<=N.length:=by decide)
  (bd:Bd x x st ps:=by first | (exact fun _ _ _ _ _ _ us hl=>bd1 (fun _=>rfl) us hl) | (exact fun _ _ _ _ _ _ us hl=>bd2 (fun _ _=>rfl) us hl) | (exact fun _ _ _ _ _ _ us hl=>bd3 (fun _ _ _=>rfl) us hl) | (exact fun _ _ _ _ _ _ us hl=>bd4 (fun _ _ _ _=>rfl) us hl) | (exact fun _ _ _ _ _ _ us hl=>bd5 (fun _ _ _ _ _=>rfl) us hl)):Ak P w K mg base x (k+1) ps Cl fl (qw N.length b):=by
 obtain ⟨f,fd,F,m⟩:=h;exact ⟨f,fd,Tp F Sc hN fun az A outer s H E B hr=>hb az A outer s H E B f hr (a7d hr) hr.units Sc.nd,F.binds bd,F.kp,m⟩
theorem jk {X:Cx} {B:Bas} {i:Nat} {y:Str} {e:Expr} {m:M T} {pos pos':Pos} (hN:X.N.Nodup) (he:PE X e (tOf X.K B m)) (hi:X.N[i]? = some y:=by rfl) (hx:Loc X.env.scope y:=by exact Or.inl rfl) (hs:swapsWith e (some (.Name y pos')) pos.line X.env=pure false:=by rfl) (hf:X.fn y=true\/X.env.scope.names.lookup y=some .local:=by first | exact .inl rfl | exact .inr rfl | assumption) :
  PS X (.Assign [.Name y pos'] e pos) (sOf X.K B (j8 i m)):=Tw i (Fp hN hi hx he hs hf) fun _ _ _ h=>h
theorem adn {X:Cx} {B:Bas} {i:Nat} {y:Str} {e:Expr} {m:M T} {pos pos':Pos} (hN:X.N.Nodup) (he:PE X e (tOf X.K B m)) (hi:X.N[i]? = some y:=by rfl) (hx:Loc X.env.scope y:=by exact Or.inr rfl) (hs:swapsWith e (some (.Name y pos')) pos.line X.env=pure false:=by rfl) (hf:X.fn y=true\/X.env.scope.names.lookup y=some .local:=by first | exact .inl rfl | exact .inr rfl | assumption) :
  PS X (.Assign [.Name y pos'] e pos) (sOf X.K B (j8 i m)):=Tw i (Fp hN hi hx he hs hf) fun _ _ _ h=>h
theorem acd {b:SX} {f Cl:Addr} {fl:Str} {fd:FuncData} (F:Fun K x q st f fd)
  (hb:∀ (az:Value) (A:Around) (outer:List Env) (s:Shared) (H:Hp) (E:XK) (B:Bas) (f:Addr),xu k (A.deeper (envOfC q (f9 st) s.heap.objs.size f az))->(A.deeper (envOfC q (f9 st) s.heap.objs.size f az)).units+1<cLine->(A.deeper (envOfC q (f9 st) s.heap.objs.size f az)).units+64<cLine->N.Nodup ->
   PSs (Pg (CXx P w) P w K mg base N q (f9 st) f az A outer s H E) (u9 st) (Ij K B Cl fl E b))
  (Sc:zp N ps (f9 st):=by exact ⟨rfl,rfl,rfl,by decide +kernel,rfl,by decide +kernel,by decide +kernel⟩) (hN:ps.length<=N.length:=by decide):Aw P w K mg base (CXx P w) (k+1) f fd ps (spX K ps.length Cl fl (qw N.length b)) :=
 Tp F Sc hN fun az A outer s H E B hr=>hb az A outer s H E B f hr (a7d hr) hr.units Sc.nd
theorem Kq:∀ st ts aa,Bo st=some (.inl ts,aa)->ts.length=0:=fun st ts aa e=>by cases e; rfl
theorem Ci {m:MX} {l:MXs} {n:Nat} (h:∀ st ts aa,l st=some (.inl ts,aa)->ts.length=n):∀ st ts aa,m7 m l st=some (.inl ts,aa)->ts.length=n+1:=fun st ts aa e=>by
 unfold m7 at e;split at e
 ·split at e
  ·rename_i ts s2 e2; cases e; exact congrArg (· + 1) (h _ _ _ e2)
  ·cases e
  ·cases e
 ·cases e
 ·cases e
theorem Rh {l:MXs} {n:Nat} (h:∀ st ts aa,l st=some (.inl ts,aa)->ts.length=n) (hn:n<=1000):∀ st ts aa,l st=some (.inl ts,aa)->ts.length<=1000:=fun st ts aa e=>by rw [h _ _ _ e]; exact hn
abbrev XE (K:PySem.W.Frag) (mg:Str->Option Value) (x f q:Str) (i:Nat) (Cl Ca:Addr):Prop:=∃ D I fd,XC K Cl D I f/\XCl K Cl (.ref D::My.vB)/\Fun K "__init__" q (Jw 0 (top i)) I fd/\(Value.ref Cl :: .ref D::My.vB).contains (.ref Ca)=true/\mg x=some (.ref Cl)
end
end D
end
section
namespace D
open PySem L2 C
abbrev MA (K:PySem.W.Frag) (cR:Addr) (x q:Str) (i:Nat):Prop:=∃ f fd,Meth K cR x f/\Fun K x q (Jw i (top 19)) f fd
structure Zk (K:PySem.W.Frag) (mg:Str->Option Value) (cR cN Ca:Addr) (bm:List Value):Prop where
 cls:Cls K cR
 na_row:Bl K cR "row"
 na_spot:Bl K cR "spot"
 na_tokens:Bl K cR "tokens"
 e:XE K mg "NoText" "row" "NoText.__init__" 3 cN Ca
 g:XG K cN "row"
 t:PySem.W.kitOne K (.ref cN) (.ref cN)=some true
 kc:afa K mg "CalmError" Ca bm
 hR:mg "Reader" = some (.ref cR)
 h0:FA K mg "sum_of" (top 5)
 h1:FA K mg "is_name" (top 14)
 h2:FA K mg "is_number" (top 15)
 h3:FA K mg "word_end" (top 16)
 h4:FA K mg "piece_at" (top 17)
 h5:FA K mg "tokens_of" (top 18)
 h6:FA K mg "show_part" (top 23)
 h7:FA K mg "sign_ahead" (top 24)
 h8:FA K mg "show_sum" (top 22)
 h9:∃ f fd,Mk K cR f/\Fun K "__init__" "Reader.__init__" (Jw 0 (top 19)) f fd
 h10:FA K mg "bounded" (top 28)
 h11:MA K cR "seen" "Reader.seen" 1
 h12:MA K cR "took" "Reader.took" 3
 h13:MA K cR "next_token" "Reader.next_token" 2
 h14:MA K cR "next_number" "Reader.next_number" 7
 h15:MA K cR "next_name" "Reader.next_name" 6
 h16:FA K mg "next_piece" (top 27)
 h17:FA K mg "next_sum" (top 26)
 h18:MA K cR "need_end" "Reader.need_end" 5
 h19:FA K mg "read_sum" (top 25)
 h20:FA K mg "_law_cell_at" (top 30)
 h21:FA K mg "_law_state" (top 31)
 h22:FA K mg "_law_take" (top 32)
 h23:FA K mg "_law_name" (top 33)
 h24:FA K mg "_law_number" (top 34)
 h25:FA K mg "_law_sum" (top 35)
 h26:FA K mg "_law_text" (top 36)
 h27:FA K mg "_law_pieces" (top 37)
 h28:FA K mg "_law_none" (top 38)
 h29:FA K mg "_law_refused" (top 39)
 h30:FA K mg "_law_same" (top 40)
 h31:FA K mg "law" (top 41)
 b_ValueError:mg "ValueError" = none
 b_abs:mg "abs" = none
 b_all:mg "all" = none
 b_any:mg "any" = none
 b_bool:mg "bool" = none
 b_int:mg "int" = none
 b_isinstance:mg "isinstance" = none
 b_len:mg "len" = none
 b_list:mg "list" = none
 b_max:mg "max" = none
 b_range:mg "range" = none
 b_sorted:mg "sorted" = none
 b_str:mg "str" = none
 b_sum:mg "sum" = none
 b_tuple:mg "tuple" = none
 b_zip:mg "zip" = none
 c_FIGURES:∃ u,mg "FIGURES" = some u/\Held K u (.str "0123456789")
 c_GREATEST:∃ tk,mg "GREATEST" = some (.int 999999999 tk)
 c_KEY_WORDS:∃ u,mg "KEY_WORDS" = some u/\Held K u (.tup [(.str "box"),(.str "lock"),(.str "hand"),(.str "own"),(.str "end"),(.str "set"),(.str "wait"),(.str "if"),(.str "else"),(.str "while"),(.str "rounds"),(.str "either"),(.str "or"),(.str "and"),(.str "not"),(.str "take"),(.str "give"),(.str "label"),(.str "say"),(.str "at"),(.str "divides"),(.str "true"),(.str "false")])
 c_LETTERS:∃ u,mg "LETTERS" = some u/\Held K u (.str "abcdefghijklmnopqrstuvwxyz")
 c_LONGEST_NAME:∃ tk,mg "LONGEST_NAME" = some (.int 8 tk)
 c_LONG_SIGNS:∃ u,mg "LONG_SIGNS" = some u/\Held K u (.tup [(.str "<="),(.str ">=")])
 c_SHORT_SIGNS:∃ u,mg "SHORT_SIGNS" = some u/\Held K u (.tup [(.str "+"),(.str "-"),(.str "*"),(.str "<"),(.str ">"),(.str "="),(.str "["),(.str "]"),(.str ",")])
 c_WORD_SIGNS:∃ u,mg "WORD_SIGNS" = some u/\Held K u (.str "abcdefghijklmnopqrstuvwxyz0123456789")
section
variable {P:Program} {w:World} {K:PySem.W.Frag} {mg:Str->Option Value} {base:Heap} {cR cN Ca:Addr} {bm:List Value} (Z:Zk K mg cR cN Ca bm)
include Z
theorem Zk.r:XR P w K mg base "NoText" cN "row" "row" :=
 let ⟨_,_,_,c,_,F,_,m⟩:=Z.e; ⟨⟨_,_,_,c,Rm c F ⟨rfl,rfl,rfl,by decide +kernel,rfl,by decide +kernel,by decide +kernel⟩ rfl rfl rfl (by decide) (by decide) (by decide) (fun _=>rfl),F.binds (ps:=["self","row"]) fun _ _ _ _ _ _ us hl=>bd2 (fun _ _=>rfl) us hl⟩,m⟩
theorem Zk.em:mg "NoText" = some (.ref cN):=let ⟨_,_,_,_,_,_,_,m⟩:=Z.e; m
theorem Zk.k:∃ D:Addr,XCl K cN (.ref D::My.vB)/\(Value.ref cN :: .ref D::My.vB).contains (.ref Ca)=true:=let ⟨D,_,_,_,k,_,c,_⟩:=Z.e; ⟨D,k,c⟩
theorem htK:∀ p∈[(cN,("row" : Str),true)],XG K p.1 p.2.1/\PySem.W.kitOne K (.ref p.1) (.ref cN)=some p.2.2
 | _,.head _=>⟨Z.g,Z.t⟩
theorem htV:∀ p∈[(cN,("row" : Str),true)],XG K p.1 p.2.1/\PySem.W.kitOne K (.ref p.1) (.type "ValueError")=some p.2.2
 | _,.head _=>⟨Z.g,Z.g.ve⟩
theorem Xl:vm P w K mg base "sum_of" 1 ["number","pairs"] (_root_.K.Ez):=by
 refine go (N:=["number","pairs","times","box","many","parts"]) Z.h0 fun _ _ _ _ _ _ _ _ hr hu hq nd=>?_;refine cu ?_ ?_
 ·exact K8 2 (Fp nd rfl (Or.inr rfl) W8) (fun _ _ _ h=>h)
 ·refine cu ?_ ?_
  ·exact Ig PassesOwn.never rfl (yr (aj 1 (pv 1))) (Hj (is:=[3,4]) (Ik rfl (nj (j6 nd rfl (Or.inl rfl)) (nj (j6 nd rfl (Or.inl rfl)) Ec))))   (dj (Ii 2 hu (pv 2) (aj 3 (pv 3)) (dh gb (Hz 2 hu (pv 2) (aj 3 (pv 3)) bf ⟨rfl,rfl,rfl,rfl⟩) (aj 4 (pv 4))) rfl)) yh
  ·refine cu ?_ ?_
   ·exact Tw 5 (Lg (N:=["box","times"]) ⟨rfl,rfl,by decide +kernel,by decide +kernel⟩ rfl (yr (gj (gw (Cj (by rfl)) (by rfl) Z.b_sorted PyProof.Rows.boot_sorted (au (aj 2 (pv 2)) cj)))) (fun C s₀ H₀ ex pn=>pgE fun B=>(uh 0 (j6 (show (["box","times"]:List Str).Nodup by decide +kernel) rfl (Or.inl rfl)))) (fun C s₀ H₀ ex pn=>(Gm fun B=>(j5 (Bt hq) (kh hu (aj 1 (pv 1)) (aj 0 (pv 0)) (fun _ _=>rfl)) bf (iw _)))) (fun C s₀ H₀ ex pn=>peE fun B=>(Ek (au (aj 0 (pv 0)) (au (kh hu (aj 1 (pv 1)) (aj 0 (pv 0)) (fun _ _=>rfl)) cj)) (ni (iy (iy mz)) (by decide)))) (j6 nd rfl (Or.inl rfl)) rfl) (fun σ H Q h=>N8 ⟨rfl,fun j k h=>match j,h with | 0,h=>(by cases h; exact ⟨_,rfl,rfl,⟨.inl rfl,.inr (.inl rfl),.inl rfl⟩⟩) | _+1,h=>(by cases h)⟩ yh (Y9 h))
   ·exact dj (gn (Ek (au (aj 0 (pv 0)) (au (gj (vh Ef (by rfl) Z.b_tuple PyProof.Rows.boot_tuple (au (aj 5 (pv 5)) cj))) cj)) (ni (iy (iy mz)) (by decide))))
theorem Jo:vm P w K mg base "is_name" 1 ["word"] (_root_.K.Ai):=by
 refine go (N:=["word"]) Z.h1 fun _ _ _ _ _ _ _ _ hr hu hq nd=>?_;refine dj ?_
 ·refine gn ?_
  ·refine Mx ?_ ?_
   ·exact a3k a3n a3n bf (gj (gw qm (by rfl) Z.b_len PySem.boot_len (au (aj 0 (pv 0)) cj))) (Ku (by rfl) Z.c_LONGEST_NAME)
   ·refine Mx ?_ ?_
    ·exact Al Ht (kh hu (aj 0 (pv 0)) bf (fun _ _=>rfl)) (yu (by rfl) Z.c_LETTERS) rfl
    ·exact Mx (gj (gw (Nj (by rfl)) (by rfl) Z.b_all PyProof.Rows.boot_all (au (wg (Aq (N:=["sign"]) ⟨rfl,fun j k h=>match j,h with | _+0,h=>(by cases h)⟩ ⟨rfl,rfl,by decide +kernel,by decide +kernel⟩ rfl (Sx (aj 0 (pv 0))) Rx (fun C s₀ H₀ ex pn=>pgE fun B=>(uh 0 (j6 (show (["sign"]:List Str).Nodup by decide +kernel) rfl (Or.inl rfl)))) (fun C s₀ H₀ ex pn=>w6) (fun C s₀ H₀ ex pn=>peE fun B=>(Al Ht (aj 0 (pv 0)) (yu (by rfl) Z.c_WORD_SIGNS) rfl)))) cj))) (Zn (Al (X6 hq) (aj 0 (pv 0)) (yu (by rfl) Z.c_KEY_WORDS) rfl))
theorem Nx:vm P w K mg base "is_number" 1 ["word"] (_root_.K.Bf):=by
 refine go (N:=["word"]) Z.h2 fun _ _ _ _ _ _ _ _ hr hu hq nd=>?_;refine cu ?_ ?_
 ·exact tu (PW.pt (Jg (j5 (qx hq) (aj 0 (pv 0)) iu (iw _)) (Ge (Fl (vg (gj (gw (Nj (by rfl)) (by rfl) Z.b_all PyProof.Rows.boot_all (au (wg (Aq (N:=["sign"]) ⟨rfl,fun j k h=>match j,h with | _+0,h=>(by cases h)⟩ ⟨rfl,rfl,by decide +kernel,by decide +kernel⟩ rfl (Sx (aj 0 (pv 0))) Rx (fun C s₀ H₀ ex pn=>pgE fun B=>(uh 0 (j6 (show (["sign"]:List Str).Nodup by decide +kernel) rfl (Or.inl rfl)))) (fun C s₀ H₀ ex pn=>w6) (fun C s₀ H₀ ex pn=>peE fun B=>(Al Ht (aj 0 (pv 0)) (yu (by rfl) Z.c_FIGURES) rfl)))) cj))))))))   (dj (gn O8))   jg
 ·exact dj (gn (ad3 (Al (qx hq) (aj 0 (pv 0)) iu (iw _)) (Zn (Al (Bt hq) (kh hu (aj 0 (pv 0)) bf (fun _ _=>rfl)) iu (iw _)))))
theorem Rp:vm P w K mg base "word_end" 1 ["text","spot"] (_root_.K.Cy):=by
 refine go (N:=["text","spot"]) Z.h3 fun _ _ _ _ _ _ _ _ hr hu hq nd=>?_;exact cu (a2w 1000 PassesOwn.never (PW.pt (ac2 (j5 Dq (aj 1 (pv 1)) (gj (gw qm (by rfl) Z.b_len PySem.boot_len (au (aj 0 (pv 0)) cj))) (iw _)) (a66 (j5 Ht (kh hu (aj 0 (pv 0)) (aj 1 (pv 1)) (fun _ _=>rfl)) (yu (by rfl) Z.c_WORD_SIGNS) rfl))))   (dj (jk (i:=1) nd (dh gb (aj 1 (pv 1)) bf))))   (dj (gn (aj 1 (pv 1))))
theorem Qy:Ak P w K mg base "piece_at" 3 ["text","spot","row"] cN "row" (_root_.K.zx):=by
 refine goX (N:=["text","spot","row"]) Z.h4 fun _ _ _ _ _ _ _ _ hr hu hq nd=>?_;refine j7 ?_ ?_
 ·exact ju (tu (j5 Ht (kh hu (aj 0 (pv 0)) (aj 1 (pv 1)) (fun _ _=>rfl)) (yu (by rfl) Z.c_WORD_SIGNS) rfl)   (dj (gn (Hl (aj 0 (pv 0)) (Du (aj 1 (pv 1))) (Du (g8 (Rp Z) (hr.mono (by decide)) (by rfl) (au (aj 0 (pv 0)) (au (aj 1 (pv 1)) cj)) (bh (bh eq_nil)))))))   jg)
 ·refine j7 ?_ ?_
  ·exact ju (tu (j5 (Wi hq) (Hl (aj 0 (pv 0)) (Du (aj 1 (pv 1))) (Du (dh gb (aj 1 (pv 1)) bf))) (yu (by rfl) Z.c_LONG_SIGNS) rfl)   (dj (gn (Hl (aj 0 (pv 0)) (Du (aj 1 (pv 1))) (Du (dh gb (aj 1 (pv 1)) bf)))))   jg)
  ·exact j7 (ju (tu (PW.pt (Jg (j5 (qx hq) (kh hu (aj 0 (pv 0)) (aj 1 (pv 1)) (fun _ _=>rfl)) iu (iw _)) (Ge (j5 (Wi hq) (kh hu (aj 0 (pv 0)) (aj 1 (pv 1)) (fun _ _=>rfl)) (yu (by rfl) Z.c_SHORT_SIGNS) rfl))))   (dj (gn (kh hu (aj 0 (pv 0)) (aj 1 (pv 1)) (fun _ _=>rfl))))   jg))   (uc (zu Z.r Vb (hr.mono (by decide)) (by rfl) (aj 2 (pv 2))))
theorem Oe:Ak P w K mg base "tokens_of" 4 ["text","row"] cN "row" (_root_.K.Bc):=by
 refine goX (N:=["text","row","tokens","spot","piece"]) Z.h5 fun _ _ _ _ _ _ _ _ hr hu hq nd=>?_;refine j7 ?_ ?_
 ·exact ju (K8 2 (Fp nd rfl (Or.inl rfl) (a4z cj (ni mz (by decide)))) (fun _ _ _ h=>h))
 ·refine j7 ?_ ?_
  ·exact ju (jk (i:=3) nd bf)
  ·refine j7 ?_ ?_
   ·refine Um _ ?_ ?_ ?_
    ·exact PassesOwn.leaving
    ·exact j5 Dq (aj 3 (pv 3)) (gj (gw qm (by rfl) Z.b_len PySem.boot_len (au (aj 0 (pv 0)) cj))) (iw _)
    ·exact j7 (Sy (i:=4) nd rfl (Or.inl rfl) (G7 Cd (Qy Z) (hr.mono (by decide)) (by rfl) (au (aj 0 (pv 0)) (au (aj 3 (pv 3)) (au (aj 1 (pv 1)) cj))) (bh (bh (bh eq_nil)))))   (j7 (ju (tu (j5 (Bt hq) (aj 4 (pv 4)) iu (iw _))   (dj (Et 2 (G6 (Zb PySem.F.plainAttrs_list PySem.F.slot_list_append PySem.F.type_list_append Ac (pv 2) (mq (aj 4 (pv 4)) xr)))))   jg))   (uc (ju (jk (i:=3) nd (dh gb (aj 3 (pv 3)) (gj (gw qm (by rfl) Z.b_len PySem.boot_len (au (aj 4 (pv 4)) cj))))))))
   ·exact uc (ju (gn (aj 2 (pv 2))))
theorem O2:vm P w K mg base "show_part" 1 ["box","times"] (_root_.K.uf):=by
 refine go (N:=["box","times"]) Z.h6 fun _ _ _ _ _ _ _ _ hr hu hq nd=>?_;exact dj (gn (Ey (j5 (qx hq) (aj 1 (pv 1)) bf (iw _)) (aj 0 (pv 0)) (abb (a9q (aj 1 (pv 1))) iu (a9q (aj 0 (pv 0))))))
theorem Kz:vm P w K mg base "sign_ahead" 1 ["first","below"] (_root_.K.v7):=by
 refine go (N:=["first","below"]) Z.h7 fun _ _ _ _ _ _ _ _ hr hu hq nd=>?_;exact cu (tu (vg (aj 0 (pv 0)))   (dj (gn (Ey (vg (aj 1 (pv 1))) iu iu)))   jg)   (dj (gn (Ey (vg (aj 1 (pv 1))) iu iu)))
theorem Qd:vm P w K mg base "show_sum" 2 ["one"] (_root_.K.uo):=by
 refine go (N:=["one","pieces","numbers","text","piece","number"]) Z.h8 fun _ _ _ _ _ _ _ _ hr hu hq nd=>?_;refine cu ?_ ?_
 ·exact K8 1 (Lg (N:=["box","times"]) ⟨rfl,rfl,by decide +kernel,by decide +kernel⟩ rfl (yr (kh hu (aj 0 (pv 0)) bf (fun _ _=>rfl))) (fun C s₀ H₀ ex pn=>pgE fun B=>(Hj (is:=[0,1]) (Ik rfl (nj (j6 (show (["box","times"]:List Str).Nodup by decide +kernel) rfl (Or.inl rfl)) (nj (j6 (show (["box","times"]:List Str).Nodup by decide +kernel) rfl (Or.inl rfl)) Ec))))) (fun C s₀ H₀ ex pn=>w6) (fun C s₀ H₀ ex pn=>peE fun B=>(g8 (O2 Z) (hr.mono (by decide)) (by rfl) (au (aj 0 (pv 0)) (au (gj (gw wk (by rfl) Z.b_abs PyProof.Rows.boot_abs (au (aj 1 (pv 1)) cj))) cj)) (bh (bh eq_nil)))) (j6 nd rfl (Or.inl rfl)) rfl) (fun σ H Q h=>N8 ⟨rfl,fun j k h=>match j,h with | _+0,h=>(by cases h)⟩ yh h)
 ·refine cu ?_ ?_
  ·exact K8 2 (Lg (N:=["box","times"]) ⟨rfl,rfl,by decide +kernel,by decide +kernel⟩ rfl (yr (kh hu (aj 0 (pv 0)) bf (fun _ _=>rfl))) (fun C s₀ H₀ ex pn=>pgE fun B=>(Hj (is:=[0,1]) (Ik rfl (nj (j6 (show (["box","times"]:List Str).Nodup by decide +kernel) rfl (Or.inl rfl)) (nj (j6 (show (["box","times"]:List Str).Nodup by decide +kernel) rfl (Or.inl rfl)) Ec))))) (fun C s₀ H₀ ex pn=>w6) (fun C s₀ H₀ ex pn=>peE fun B=>(aj 1 (pv 1))) (j6 nd rfl (Or.inl rfl)) rfl) (fun σ H Q h=>N8 ⟨rfl,fun j k h=>match j,h with | _+0,h=>(by cases h)⟩ yh h)
  ·refine cu ?_ ?_
   ·refine tu ?_ ?_ ?_
    ·exact PW.pt (Jg (j5 (Bt hq) (kh hu (aj 0 (pv 0)) bf (fun _ _=>rfl)) bf (iw _)) (Ge (j5 (qx hq) (Yi 1 Z.b_len rfl (pv 1)) bf (iw _))))
    ·exact cu (Et 1 (G6 (Zb PySem.F.plainAttrs_list PySem.F.slot_list_append PySem.F.type_list_append Ac (pv 1) (mq (Fx (by rfl) Z.b_str (gj (gw wk (by rfl) Z.b_abs PyProof.Rows.boot_abs (au (kh hu (aj 0 (pv 0)) bf (fun _ _=>rfl)) cj)))) xr))))   (dj (Et 2 (G6 (Zb PySem.F.plainAttrs_list PySem.F.slot_list_append PySem.F.type_list_append Ac (pv 2) (mq (kh hu (aj 0 (pv 0)) bf (fun _ _=>rfl)) xr)))))
    ·exact jg
   ·exact cu (jk (i:=3) nd iu)   (cu (Ig PassesOwn.never rfl (ac3 (by rfl) Z.b_zip (aj 1 (pv 1)) (aj 2 (pv 2))) (Hj (is:=[4,5]) (Ik rfl (nj (j6 nd rfl (Or.inl rfl)) (nj (j6 nd rfl (Or.inl rfl)) Ec))))   (dj (jk (i:=3) nd (dh gb (dh gb (aj 3 (pv 3)) (g8 (Kz Z) (hr.mono (by decide)) (by rfl) (au (Al (qx hq) (aj 3 (pv 3)) iu (iw _)) (au (Al Dq (aj 5 (pv 5)) bf (iw _)) cj)) (bh (bh eq_nil)))) (aj 4 (pv 4))))) a95)   (dj (gn (aj 3 (pv 3)))))
theorem Jd:abo P w K mg base "Reader" cR 5 ["self","text","row"] cN "row" (_root_.K.qj cR cN):=by
 obtain ⟨f,fd,M,F⟩:=Z.h9;refine ⟨⟨f,fd,M,acd (N:=["self","text","row"]) F fun _ _ _ _ _ _ _ _ hr hu hq nd=>?_,F.binds fun _ _ _ _ _ _ us hl=>bd3 (fun _ _ _=>rfl) us hl⟩,Z.hR⟩;exact j7 (Yu Z.cls Z.na_tokens (aj 0 (pv 0)) (G7 Cd (Oe Z) (hr.mono (by decide)) (by rfl) (au (aj 1 (pv 1)) (au (aj 2 (pv 2)) cj)) (bh (bh eq_nil))))   (j7 (ju (Fq Z.cls Z.na_row (aj 0 (pv 0)) (aj 2 (pv 2))))   (uc (ju (Fq Z.cls Z.na_spot (aj 0 (pv 0)) bf))))
theorem Va:Ak P w K mg base "bounded" 3 ["reader","one"] cN "row" (_root_.K.Fi cR cN):=by
 refine goX (N:=["reader","one","numbers"]) Z.h10 fun _ _ _ _ _ _ _ _ hr hu hq nd=>?_;refine j7 ?_ ?_
 ·refine ju ?_
  ·refine jk (i:=2) ?_ ?_
   ·exact nd
   ·refine dh ?_ ?_ ?_
    ·exact gb
    ·exact Af (au (kh hu (aj 1 (pv 1)) bf (fun _ _=>rfl)) cj) (ni (iy mz) (by decide))
    ·exact wg (Aq (N:=["box","times"]) ⟨rfl,fun j k h=>match j,h with | _+0,h=>(by cases h)⟩ ⟨rfl,rfl,by decide +kernel,by decide +kernel⟩ rfl (yr (kh hu (aj 1 (pv 1)) bf (fun _ _=>rfl))) yh (fun C s₀ H₀ ex pn=>pgE fun B=>(Hj (is:=[0,1]) (Ik rfl (nj (j6 (show (["box","times"]:List Str).Nodup by decide +kernel) rfl (Or.inl rfl)) (nj (j6 (show (["box","times"]:List Str).Nodup by decide +kernel) rfl (Or.inl rfl)) Ec))))) (fun C s₀ H₀ ex pn=>w6) (fun C s₀ H₀ ex pn=>peE fun B=>(aj 1 (pv 1))))
 ·refine j7 ?_ ?_
  ·refine Ql ?_ ?_ ?_
   ·exact j5 Uh (gj (gw (Vr (by rfl)) (by rfl) Z.b_max PyProof.Rows.boot_max (au (wg (Aq (N:=["number"]) ⟨rfl,fun j k h=>match j,h with | _+0,h=>(by cases h)⟩ ⟨rfl,rfl,by decide +kernel,by decide +kernel⟩ rfl (yr (aj 2 (pv 2))) yh (fun C s₀ H₀ ex pn=>pgE fun B=>(uh 0 (j6 (show (["number"]:List Str).Nodup by decide +kernel) rfl (Or.inl rfl)))) (fun C s₀ H₀ ex pn=>w6) (fun C s₀ H₀ ex pn=>peE fun B=>(gj (gw wk (by rfl) Z.b_abs PyProof.Rows.boot_abs (au (aj 0 (pv 0)) cj)))))) cj))) (Ku (by rfl) Z.c_GREATEST) (iw _)
   ·exact uc (zu Z.r Vb (hr.mono (by decide)) (by rfl) (Ad Z.cls Z.na_row (aj 0 (pv 0))))
   ·exact Ba jg
  ·exact uc (ju (gn (aj 1 (pv 1))))
theorem ux:Xu P w K mg base cR "seen" 1 ["self","far"] (_root_.K.jc cR cN):=by
 obtain ⟨f,fd,M,F⟩:=Z.h11;refine ⟨⟨f,fd,M,go0 (N:=["self","far"]) F fun _ _ _ _ _ _ _ _ hr hu hq nd=>?_,F.binds fun _ _ _ _ _ _ us hl=>bd2 (fun _ _=>rfl) us hl⟩,Z.cls⟩;exact cu (tu (j5 a9y (dh gb (Ad Z.cls Z.na_spot (aj 0 (pv 0))) (aj 1 (pv 1))) (gj (gw qm (by rfl) Z.b_len PySem.boot_len (au (Ad Z.cls Z.na_tokens (aj 0 (pv 0))) cj))) (iw _))   (dj (gn iu))   jg)   (dj (gn (kh hu (Ad Z.cls Z.na_tokens (aj 0 (pv 0))) (dh gb (Ad Z.cls Z.na_spot (aj 0 (pv 0))) (aj 1 (pv 1))) (fun _ _=>rfl))))
theorem Dr:Xu P w K mg base cR "took" 2 ["self","token"] (_root_.K.jw cR cN):=by
 obtain ⟨f,fd,M,F⟩:=Z.h12;refine ⟨⟨f,fd,M,go0 (N:=["self","token"]) F fun _ _ _ _ _ _ _ _ hr hu hq nd=>?_,F.binds fun _ _ _ _ _ _ us hl=>bd2 (fun _ _=>rfl) us hl⟩,Z.cls⟩;exact cu (tu (j5 (Bt hq) (G9 (ux Z) (hr.mono (by decide)) (aj 0 (pv 0)) (au bf cj) (Eb (bh eq_nil))) (aj 1 (pv 1)) (iw _))   (dj (gn O8))   jg)   (cu (Fq Z.cls Z.na_spot (aj 0 (pv 0)) (dh gb (Ad Z.cls Z.na_spot (aj 0 (pv 0))) bf))   (dj (gn O8)))
theorem ql:Xu P w K mg base cR "next_token" 2 ["self"] (_root_.K.fj cR cN):=by
 obtain ⟨f,fd,M,F⟩:=Z.h13;refine ⟨⟨f,fd,M,go0 (N:=["self","token"]) F fun _ _ _ _ _ _ _ _ hr hu hq nd=>?_,F.binds fun _ _ _ _ _ _ us hl=>bd1 (fun _=>rfl) us hl⟩,Z.cls⟩;exact cu (jk (i:=1) nd (G9 (ux Z) (hr.mono (by decide)) (aj 0 (pv 0)) (au bf cj) (Eb (bh eq_nil))))   (cu (Fq Z.cls Z.na_spot (aj 0 (pv 0)) (dh gb (Ad Z.cls Z.na_spot (aj 0 (pv 0))) bf))   (dj (gn (aj 1 (pv 1)))))
theorem Bv:Nf P w K mg base cR "next_number" 3 ["self","least","greatest"] cN "row" (_root_.K.j4 cR cN):=by
 obtain ⟨f,fd,M,F⟩:=Z.h14;refine ⟨⟨f,fd,M,acd (N:=["self","least","greatest","word","number"]) F fun _ _ _ _ _ _ _ _ hr hu hq nd=>?_,F.binds fun _ _ _ _ _ _ us hl=>bd3 (fun _ _ _=>rfl) us hl⟩,Z.cls⟩;refine j7 ?_ ?_
 ·exact ju (jk (i:=3) nd (M8 (ql Z) (hr.mono (by decide)) (aj 0 (pv 0)) rfl))
 ·refine j7 ?_ ?_
  ·exact Ql (PW.pt (Jg (Fl (vg (g8 (Nx Z) (hr.mono (by decide)) (by rfl) (au (aj 3 (pv 3)) cj) (bh eq_nil)))) (Ge (j5 Uh (gj (gw qm (by rfl) Z.b_len PySem.boot_len (au (aj 3 (pv 3)) cj))) (gj (gw qm (by rfl) Z.b_len PySem.boot_len (au (Fx (by rfl) Z.b_str (aj 2 (pv 2))) cj))) (iw _)))))   (uc (zu Z.r Vb (hr.mono (by decide)) (by rfl) (Ad Z.cls Z.na_row (aj 0 (pv 0)))))   (Ba jg)
  ·exact j7 (ju (jk (i:=4) nd (gj (vh V6 (by rfl) Z.b_int PyProof.Rows.boot_int (au (aj 3 (pv 3)) cj)))))   (j7 (Ql (PW.pt (Jg (j5 Dq (aj 4 (pv 4)) (aj 1 (pv 1)) (iw _)) (Ge (j5 Uh (aj 4 (pv 4)) (aj 2 (pv 2)) (iw _)))))   (uc (zu Z.r Vb (hr.mono (by decide)) (by rfl) (Ad Z.cls Z.na_row (aj 0 (pv 0)))))   (Ba jg))   (uc (ju (gn (aj 4 (pv 4))))))
theorem wz:Nf P w K mg base cR "next_name" 3 ["self"] cN "row" (_root_.K.jx cR cN):=by
 obtain ⟨f,fd,M,F⟩:=Z.h15;refine ⟨⟨f,fd,M,acd (N:=["self","word"]) F fun _ _ _ _ _ _ _ _ hr hu hq nd=>?_,F.binds fun _ _ _ _ _ _ us hl=>bd1 (fun _=>rfl) us hl⟩,Z.cls⟩;exact j7 (ju (jk (i:=1) nd (M8 (ql Z) (hr.mono (by decide)) (aj 0 (pv 0)) rfl)))   (j7 (Ql (Fl (vg (g8 (Jo Z) (hr.mono (by decide)) (by rfl) (au (aj 1 (pv 1)) cj) (bh eq_nil))))   (uc (zu Z.r Vb (hr.mono (by decide)) (by rfl) (Ad Z.cls Z.na_row (aj 0 (pv 0)))))   (Ba jg))   (uc (ju (gn (aj 1 (pv 1))))))
theorem En:Ak P w K mg base "next_piece" 4 ["reader","sign"] cN "row" (_root_.K.m6 cR cN):=by
 refine goX (N:=["reader","sign","times"]) Z.h16 fun _ _ _ _ _ _ _ _ hr hu hq nd=>?_;refine j7 ?_ ?_
 ·exact Ql (vg (g8 (Jo Z) (hr.mono (by decide)) (by rfl) (au (G9 (ux Z) (hr.mono (by decide)) (aj 0 (pv 0)) (au bf cj) (Eb (bh eq_nil))) cj) (bh eq_nil)))   (uc (Zu (a4c (Dz (Lz (wz Z) Cd (hr.mono (by decide)) (aj 0 (pv 0)) rfl rfl) (Dz (Y4 (aj 1 (pv 1))) Ug)) (Rh (Ci (Ci Kq)) (by decide)))))   (Ba jg)
 ·refine j7 ?_ ?_
  ·exact Sy (i:=2) nd rfl (Or.inl rfl) (adt ou (Y4 (aj 1 (pv 1))) (a5y (Bv Z) Cd (hr.mono (by decide)) (aj 0 (pv 0)) (Dz (Y4 bf) (Dz (Y4 (Ku (by rfl) Z.c_GREATEST)) Ug)) (a2e (Ub (Ub a7u)))))
  ·exact j7 (Ql (vg (G9 (Dr Z) (hr.mono (by decide)) (aj 0 (pv 0)) (au iu cj) (Eb (bh eq_nil))))   (uc (Zu (a4c (Dz (Lz (wz Z) Cd (hr.mono (by decide)) (aj 0 (pv 0)) rfl rfl) (Dz (Y4 (aj 2 (pv 2))) Ug)) (Rh (Ci (Ci Kq)) (by decide)))))   (Ba jg))   (uc (ju (gn (Ek (au iu (au (aj 2 (pv 2)) cj)) (ni (iy (iy mz)) (by decide))))))
theorem Qi:Ak P w K mg base "next_sum" 5 ["reader"] cN "row" (_root_.K.Cz cR cN):=by
 refine goX (N:=["reader","pieces","sign","number","one"]) Z.h17 fun _ _ _ _ _ _ _ _ hr hu hq nd=>?_;refine j7 ?_ ?_
 ·exact a8i (i:=1) nd rfl (Or.inl rfl) (Dz (G7 Cd (En Z) (hr.mono (by decide)) (by rfl) (au (aj 0 (pv 0)) (au (Ey (vg (G9 (Dr Z) (hr.mono (by decide)) (aj 0 (pv 0)) (au iu cj) (Eb (bh eq_nil)))) (abv Zh bf) bf) cj)) (bh (bh eq_nil))) Ug) (Rh (Ci Kq) (by decide))
 ·refine j7 ?_ ?_
  ·refine Um _ ?_ ?_ ?_
   ·exact PassesOwn.leaving
   ·exact j5 (Wi hq) (G9 (ux Z) (hr.mono (by decide)) (aj 0 (pv 0)) (au bf cj) (Eb (bh eq_nil))) (Ek (au iu (au iu cj)) (ni (iy (iy mz)) (by decide))) rfl
   ·exact j7 (ju (jk (i:=2) nd (Ey (j5 (qx hq) (M8 (ql Z) (hr.mono (by decide)) (aj 0 (pv 0)) rfl) iu (iw _)) bf (abv Zh bf))))   (uc (Zm 1 (G6 (Zb PySem.F.plainAttrs_list PySem.F.slot_list_append PySem.F.type_list_append Ac (pv 1) (mq (G7 Cd (En Z) (hr.mono (by decide)) (by rfl) (au (aj 0 (pv 0)) (au (aj 2 (pv 2)) cj)) (bh (bh eq_nil))) xr)))))
  ·refine j7 ?_ ?_
   ·refine ju ?_
    ·refine jk (i:=3) ?_ ?_
     ·exact nd
     ·refine gj ?_
      ·refine gw (Vz (by rfl)) ?_ ?_ PyProof.Rows.boot_sum ?_
       ·exact by rfl
       ·exact Z.b_sum
       ·exact au (wg (Aq (N:=["box","times"]) ⟨rfl,fun j k h=>match j,h with | _+0,h=>(by cases h)⟩ ⟨rfl,rfl,by decide +kernel,by decide +kernel⟩ rfl (yr (aj 1 (pv 1))) yh (fun C s₀ H₀ ex pn=>pgE fun B=>(Hj (is:=[0,1]) (Ik rfl (nj (j6 (show (["box","times"]:List Str).Nodup by decide +kernel) rfl (Or.inl rfl)) (nj (j6 (show (["box","times"]:List Str).Nodup by decide +kernel) rfl (Or.inl rfl)) Ec))))) (fun C s₀ H₀ ex pn=>(Gm fun B=>(j5 (qx hq) (aj 0 (pv 0)) iu (iw _)))) (fun C s₀ H₀ ex pn=>peE fun B=>(aj 1 (pv 1))))) cj
   ·refine j7 ?_ ?_
    ·exact ju (jk (i:=4) nd (g8 (Xl Z) (hr.mono (by decide)) (by rfl) (au (aj 3 (pv 3)) (au (wg (Aq (N:=["piece"]) ⟨rfl,fun j k h=>match j,h with | _+0,h=>(by cases h)⟩ ⟨rfl,rfl,by decide +kernel,by decide +kernel⟩ rfl (yr (aj 1 (pv 1))) yh (fun C s₀ H₀ ex pn=>pgE fun B=>(uh 0 (j6 (show (["piece"]:List Str).Nodup by decide +kernel) rfl (Or.inl rfl)))) (fun C s₀ H₀ ex pn=>(Gm fun B=>(j5 (Bt hq) (kh hu (aj 0 (pv 0)) bf (fun _ _=>rfl)) iu (iw _)))) (fun C s₀ H₀ ex pn=>peE fun B=>(aj 0 (pv 0))))) cj)) (bh (bh eq_nil))))
    ·exact uc (Zu (G7 Cd (Va Z) (hr.mono (by decide)) (by rfl) (au (aj 0 (pv 0)) (au (aj 4 (pv 4)) cj)) (bh (bh eq_nil))))
theorem Em:Nf P w K mg base cR "need_end" 3 ["self"] cN "row" (_root_.K.qe cR cN):=by
 obtain ⟨f,fd,M,F⟩:=Z.h18;refine ⟨⟨f,fd,M,acd (N:=["self"]) F fun _ _ _ _ _ _ _ _ hr hu hq nd=>?_,F.binds fun _ _ _ _ _ _ us hl=>bd1 (fun _=>rfl) us hl⟩,Z.cls⟩;exact uc (Ql (j5 Dq (Ad Z.cls Z.na_spot (aj 0 (pv 0))) (gj (gw qm (by rfl) Z.b_len PySem.boot_len (au (Ad Z.cls Z.na_tokens (aj 0 (pv 0))) cj))) (iw _))   (uc (zu Z.r Vb (hr.mono (by decide)) (by rfl) (Ad Z.cls Z.na_row (aj 0 (pv 0)))))   (Ba jg))
theorem Dv:Ak P w K mg base "read_sum" 7 ["text"] cN "row" (_root_.K.zy cR cN):=by
 refine goX (N:=["text","reader","one"]) Z.h19 fun _ _ _ _ _ _ _ _ hr hu hq nd=>?_;exact j7 (Sy (i:=1) nd rfl (Or.inl rfl) (a7w (Jd Z) Cd (hr.mono (by decide)) (by rfl) (au (aj 0 (pv 0)) (au bf cj)) (Eb (bh (bh eq_nil)))))   (j7 (Sy (i:=2) nd rfl (Or.inl rfl) (G7 Cd (Qi Z) (hr.mono (by decide)) (by rfl) (au (aj 1 (pv 1)) cj) (bh eq_nil)))   (j7 (a68 (Lz (Em Z) Cd (hr.mono (by decide)) (aj 1 (pv 1)) rfl rfl))   (uc (ju (gn (aj 2 (pv 2)))))))
theorem zj:vm P w K mg base "_law_cell_at" 1 ["_law_script","_law_k"] (_root_.K.ji):=by
 refine go (N:=["_law_script","_law_k"]) Z.h20 fun _ _ _ _ _ _ _ _ hr hu hq nd=>?_;exact cu (tu (j5 Dq (aj 1 (pv 1)) (gj (gw qm (by rfl) Z.b_len PySem.boot_len (au (aj 0 (pv 0)) cj))) (iw _))   (dj (gn (kh hu (aj 0 (pv 0)) (aj 1 (pv 1)) (fun _ _=>rfl))))   jg)   (dj (gn bf))
theorem Oz:vm P w K mg base "_law_state" 1 ["_law_cell","_law_free"] (_root_.K.qb):=by
 refine go (N:=["_law_cell","_law_free"]) Z.h21 fun _ _ _ _ _ _ _ _ hr hu hq nd=>?_;exact cu (tu (vg (aj 1 (pv 1)))   (dj (gn (Ss ⟨a5j 0 (pv 0),a4w 0⟩ ⟨aal,aaz⟩ (by decide +kernel))))   jg)   (dj (gn (Ss (aam ⟨a5l,a4t⟩ (a9h ⟨a5j 0 (pv 0),a4w 0⟩ ⟨a5l,a4t⟩)) ⟨aal,aaz⟩ (by decide +kernel))))
theorem m9:vm P w K mg base "_law_take" 1 ["_law_state_here","_law_many"] (_root_.K.dz):=by
 refine go (N:=["_law_state_here","_law_many","_law_found"]) Z.h22 fun _ _ _ _ _ _ _ _ hr hu hq nd=>?_;refine cu ?_ ?_
 ·exact tu (vg (Ah hu (aj 0 (pv 0)) iu (fun _ _=>rfl)))   (cu (jk (i:=2) nd (dh m8 (Ah hu (aj 0 (pv 0)) iu (fun _ _=>rfl)) (aj 1 (pv 1))))   (cu (Nm hu (aj 0 (pv 0)) iu (dh yt (Ah hu (aj 0 (pv 0)) iu (fun _ _=>rfl)) (aj 1 (pv 1))) rfl)   (dj (gn (aj 2 (pv 2))))))   jg
 ·exact cu (Nm hu (aj 0 (pv 0)) iu (dh m8 (dh ou (Ah hu (aj 0 (pv 0)) iu (fun _ _=>rfl)) bf) bf) rfl)   (dj (gn (dh m8 (dh yt (dh m8 (dh ou (Ah hu (aj 0 (pv 0)) iu (fun _ _=>rfl)) bf) bf) bf) (aj 1 (pv 1)))))
theorem Pu:vm P w K mg base "_law_name" 1 ["_law_head","_law_k"] (_root_.K.qy):=by
 refine go (N:=["_law_head","_law_k","_law_size","_law_place"]) Z.h23 fun _ _ _ _ _ _ _ _ hr hu hq nd=>?_;refine cu ?_ ?_
 ·refine tu ?_ ?_ ?_
  ·exact j5 (qx hq) (dh m8 (dh yt (aj 0 (pv 0)) bf) bf) bf (iw _)
  ·refine dj ?_
   ·refine gn ?_
    ·refine kh ?_ ?_ ?_ ?_
     ·exact hu
     ·refine Af ?_ ?_
      ·exact Cg (.cons (.cons (.cons (.cons (.cons (.cons (.cons (.cons (.cons (.cons .nil))))))))))
      ·exact ni (len_strs _) (by decide)
     ·exact dh m8 (aj 1 (pv 1)) bf
     ·exact fun _ _=>rfl
  ·exact jg
 ·refine cu ?_ ?_
  ·refine tu ?_ ?_ ?_
   ·exact j5 (qx hq) (dh m8 (dh yt (aj 0 (pv 0)) bf) bf) bf (iw _)
   ·refine dj ?_
    ·refine gn ?_
     ·refine kh ?_ ?_ ?_ ?_
      ·exact hu
      ·refine Af ?_ ?_
       ·exact Cg (.cons (.cons (.cons (.cons (.cons (.cons (.cons (.cons (.cons (.cons .nil))))))))))
       ·exact ni (len_strs _) (by decide)
      ·exact dh m8 (aj 1 (pv 1)) bf
      ·exact fun _ _=>rfl
   ·exact jg
  ·refine cu ?_ ?_
   ·refine tu ?_ ?_ ?_
    ·exact j5 (qx hq) (dh m8 (dh yt (aj 0 (pv 0)) bf) bf) bf (iw _)
    ·refine dj ?_
     ·refine gn ?_
      ·refine kh ?_ ?_ ?_ ?_
       ·exact hu
       ·refine Af ?_ ?_
        ·exact Cg (.cons (.cons (.cons (.cons (.cons (.cons (.cons (.cons (.cons (.cons .nil))))))))))
        ·exact ni (len_strs _) (by decide)
       ·exact dh m8 (aj 1 (pv 1)) bf
       ·exact fun _ _=>rfl
    ·exact jg
   ·exact cu (jk (i:=2) nd (dh gb bf (dh m8 (aj 0 (pv 0)) bf)))   (cu (jk (i:=3) nd (dh m8 (dh yt (aj 0 (pv 0)) bf) (dh Av (aj 2 (pv 2)) bf)))   (dj (gn (dh gb (dh gb (dh ou iu (aj 3 (pv 3))) (kh hu iu (dh m8 (aj 1 (pv 1)) bf) (fun _ _=>rfl))) (dh ou (kh hu iu (dh m8 (dh yt (aj 0 (pv 0)) bf) bf) (fun _ _=>rfl)) (dh Av (dh Av (aj 2 (pv 2)) bf) (aj 3 (pv 3))))))))
theorem Az:vm P w K mg base "_law_number" 2 ["_law_state_here","_law_most"] (_root_.K.jy):=by
 refine go (N:=["_law_state_here","_law_most","_law_way","_law_found","_law_k"]) Z.h24 fun _ _ _ _ _ _ _ _ hr hu hq nd=>?_;refine cu ?_ ?_
 ·exact jk (i:=2) nd (g8 (m9 Z) (hr.mono (by decide)) (by rfl) (au (aj 0 (pv 0)) (au bf cj)) (bh (bh eq_nil)))
 ·refine cu ?_ ?_
  ·exact tu (j5 Dq (aj 2 (pv 2)) bf (iw _))   (dj (gn (dh Av (g8 (m9 Z) (hr.mono (by decide)) (by rfl) (au (aj 0 (pv 0)) (au bf cj)) (bh (bh eq_nil))) bf)))   jg
  ·exact cu (jk (i:=3) nd bf)   (cu (Ig PassesOwn.never rfl (Lw (by rfl) Z.b_range bf) (uh 4 (j6 nd rfl (Or.inl rfl)))   (dj (jk (i:=3) nd (dh gb (dh ou (dh ou (aj 3 (pv 3)) bf) (dh Hy bf bf)) (g8 (m9 Z) (hr.mono (by decide)) (by rfl) (au (aj 0 (pv 0)) (au (dh ou bf (dh Hy bf bf)) cj)) (bh (bh eq_nil)))))) Kg)   (dj (gn (dh gb (dh Av (dh m8 (aj 3 (pv 3)) (dh Av (dh ou bf (aj 1 (pv 1))) bf)) (aj 1 (pv 1))) bf))))
theorem V3:vm P w K mg base "_law_sum" 3 ["_law_state_here","_law_names"] (_root_.K.vf):=by
 refine go (N:=["_law_state_here","_law_names","_law_parts","_law_name_here","_law_times"]) Z.h25 fun _ _ _ _ _ _ _ _ hr hu hq nd=>?_;refine cu ?_ ?_
 ·exact K8 2 (Fp nd rfl (Or.inl rfl) (a4z cj (ni mz (by decide)))) (fun _ _ _ h=>h)
 ·refine cu ?_ ?_
  ·refine Ig ?_ ?_ ?_ ?_ ?_ ?_
   ·exact PassesOwn.never
   ·exact rfl
   ·exact yr (gj (gw (Cj (by rfl)) (by rfl) Z.b_sorted PyProof.Rows.boot_sorted (au (aj 1 (pv 1)) cj)))
   ·exact uh 3 (j6 nd rfl (Or.inl rfl))
   ·refine dj ?_
    ·refine tu ?_ ?_ ?_
     ·exact j5 (qx hq) (g8 (m9 Z) (hr.mono (by decide)) (by rfl) (au (aj 0 (pv 0)) (au bf cj)) (bh (bh eq_nil))) bf (iw _)
     ·exact cu (jk (i:=4) nd (g8 (Az Z) (hr.mono (by decide)) (by rfl) (au (aj 0 (pv 0)) (au (dh Hy bf bf) cj)) (bh (bh eq_nil))))   (dj (tu (j5 (Bt hq) (aj 4 (pv 4)) bf (iw _))   (dj (Et 2 (G6 (Zb PySem.F.plainAttrs_list PySem.F.slot_list_append PySem.F.type_list_append Ac (pv 2) (mq (Ek (au (aj 3 (pv 3)) (au (aj 4 (pv 4)) cj)) (ni (iy (iy mz)) (by decide))) xr)))))   jg))
     ·exact jg
   ·exact yh
  ·exact dj (gn (Ek (au (g8 (Az Z) (hr.mono (by decide)) (by rfl) (au (aj 0 (pv 0)) (au (dh Hy bf bf) cj)) (bh (bh eq_nil))) (au (gj (vh Ef (by rfl) Z.b_tuple PyProof.Rows.boot_tuple (au (aj 2 (pv 2)) cj))) cj)) (ni (iy (iy mz)) (by decide))))
theorem R8:vm P w K mg base "_law_text" 1 ["_law_one"] (_root_.K.uq):=by
 refine go (N:=["_law_one","_law_text_here","_law_name_here","_law_times","_law_piece"]) Z.h26 fun _ _ _ _ _ _ _ _ hr hu hq nd=>?_;refine cu ?_ ?_
 ·exact jk (i:=1) nd iu
 ·refine cu ?_ ?_
  ·refine Ig ?_ ?_ ?_ ?_ ?_ ?_
   ·exact PassesOwn.never
   ·exact rfl
   ·exact yr (kh hu (aj 0 (pv 0)) bf (fun _ _=>rfl))
   ·exact Hj (is:=[2,3]) (Ik rfl (nj (j6 nd rfl (Or.inl rfl)) (nj (j6 nd rfl (Or.inl rfl)) Ec)))
   ·refine cu ?_ ?_
    ·exact jk (i:=4) nd (aj 2 (pv 2))
    ·refine cu ?_ ?_
     ·exact tu (j5 (Bt hq) (gj (gw wk (by rfl) Z.b_abs PyProof.Rows.boot_abs (au (aj 3 (pv 3)) cj))) bf (iw _))   (dj (jk (i:=4) nd (dh gb (dh gb (Fx (by rfl) Z.b_str (gj (gw wk (by rfl) Z.b_abs PyProof.Rows.boot_abs (au (aj 3 (pv 3)) cj)))) iu) (aj 2 (pv 2)))))   jg
     ·exact dj (tu (j5 (qx hq) (aj 1 (pv 1)) iu (iw _))   (dj (jk (i:=1) nd (dh gb (dh ou iu (gj (vh Hg (by rfl) Z.b_int PyProof.Rows.boot_int (au (Al Dq (aj 3 (pv 3)) bf (iw _)) cj)))) (aj 4 (pv 4)))))   (dj (jk (i:=1) nd (dh gb (dh gb (aj 1 (pv 1)) (kh hu (Af (au iu (au iu cj)) (ni (iy (iy mz)) (by decide))) (gj (vh Hg (by rfl) Z.b_int PyProof.Rows.boot_int (au (Al Dq (aj 3 (pv 3)) bf (iw _)) cj))) (fun _ _=>rfl))) (aj 4 (pv 4))))))
   ·exact yh
  ·refine cu ?_ ?_
   ·exact tu (j5 (qx hq) (aj 1 (pv 1)) iu (iw _))   (dj (gn (Fx (by rfl) Z.b_str (kh hu (aj 0 (pv 0)) bf (fun _ _=>rfl)))))   jg
   ·exact cu (tu (j5 (qx hq) (kh hu (aj 0 (pv 0)) bf (fun _ _=>rfl)) bf (iw _))   (dj (gn (aj 1 (pv 1))))   jg)   (dj (gn (dh gb (dh gb (aj 1 (pv 1)) (kh hu (Af (au iu (au iu cj)) (ni (iy (iy mz)) (by decide))) (gj (vh Hg (by rfl) Z.b_int PyProof.Rows.boot_int (au (Al Dq (kh hu (aj 0 (pv 0)) bf (fun _ _=>rfl)) bf (iw _)) cj))) (fun _ _=>rfl))) (Fx (by rfl) Z.b_str (gj (gw wk (by rfl) Z.b_abs PyProof.Rows.boot_abs (au (kh hu (aj 0 (pv 0)) bf (fun _ _=>rfl)) cj)))))))
theorem Kf:vm P w K mg base "_law_pieces" 3 ["_law_state_here","_law_names"] (_root_.K.oh):=by
 refine go (N:=["_law_state_here","_law_names","_law_text_here","_law_number_here","_law_times","_law_gap","_law_k","_law_sign","_law_many","_law_kind","_law_piece","_law_name_here"]) Z.h27 fun _ _ _ _ _ _ _ _ hr hu hq nd=>?_;refine cu ?_ ?_
 ·exact jk (i:=2) nd iu
 ·refine cu ?_ ?_
  ·exact jk (i:=3) nd bf
  ·refine cu ?_ ?_
   ·exact K8 4 (Fp nd rfl (Or.inr rfl) W8) (fun _ _ _ h=>h)
   ·refine cu ?_ ?_
    ·exact jk (i:=5) nd (dh ou iu (g8 (m9 Z) (hr.mono (by decide)) (by rfl) (au (aj 0 (pv 0)) (au bf cj)) (bh (bh eq_nil))))
    ·refine cu ?_ ?_
     ·refine Ig ?_ ?_ ?_ ?_ ?_ ?_
      ·exact PassesOwn.never
      ·exact rfl
      ·exact Lw (by rfl) Z.b_range (dh gb bf (g8 (m9 Z) (hr.mono (by decide)) (by rfl) (au (aj 0 (pv 0)) (au bf cj)) (bh (bh eq_nil))))
      ·exact uh 6 (j6 nd rfl (Or.inl rfl))
      ·refine cu ?_ ?_
       ·exact jk (i:=7) nd (g8 (m9 Z) (hr.mono (by decide)) (by rfl) (au (aj 0 (pv 0)) (au bf cj)) (bh (bh eq_nil)))
       ·refine cu ?_ ?_
        ·exact jk (i:=8) nd (gj (gw wk (by rfl) Z.b_abs PyProof.Rows.boot_abs (au (g8 (Az Z) (hr.mono (by decide)) (by rfl) (au (aj 0 (pv 0)) (au (dh Hy bf bf) cj)) (bh (bh eq_nil))) cj)))
        ·refine cu ?_ ?_
         ·exact jk (i:=9) nd (g8 (m9 Z) (hr.mono (by decide)) (by rfl) (au (aj 0 (pv 0)) (au bf cj)) (bh (bh eq_nil)))
         ·refine cu ?_ ?_
          ·exact jk (i:=10) nd (Fx (by rfl) Z.b_str (aj 8 (pv 8)))
          ·refine cu ?_ ?_
           ·exact jk (i:=11) nd (kh hu (aj 1 (pv 1)) (g8 (m9 Z) (hr.mono (by decide)) (by rfl) (au (aj 0 (pv 0)) (au (gj (gw qm (by rfl) Z.b_len PySem.boot_len (au (aj 1 (pv 1)) cj))) cj)) (bh (bh eq_nil))) (fun _ _=>rfl))
           ·refine cu ?_ ?_
            ·refine tu ?_ ?_ ?_
             ·exact j5 (qx hq) (aj 9 (pv 9)) bf (iw _)
             ·exact dj (jk (i:=3) nd (dh gb (aj 3 (pv 3)) (dh ou (aj 8 (pv 8)) (dh Av bf (dh ou bf (aj 7 (pv 7)))))))
             ·refine dj ?_
              ·refine tu ?_ ?_ ?_
               ·exact j5 (qx hq) (aj 9 (pv 9)) bf (iw _)
               ·exact cu (jk (i:=10) nd (dh gb (dh gb (dh gb (dh gb (aj 10 (pv 10)) (aj 5 (pv 5))) iu) (aj 5 (pv 5))) (aj 11 (pv 11))))   (dj (Ii 4 hu (pv 4) (aj 11 (pv 11)) (dh gb (Hz 4 hu (pv 4) (aj 11 (pv 11)) bf ⟨rfl,rfl,rfl,rfl⟩) (dh ou (aj 8 (pv 8)) (dh Av bf (dh ou bf (aj 7 (pv 7)))))) rfl))
               ·exact cu (jk (i:=10) nd (aj 11 (pv 11)))   (dj (Ii 4 hu (pv 4) (aj 11 (pv 11)) (dh Av (dh gb (Hz 4 hu (pv 4) (aj 11 (pv 11)) bf ⟨rfl,rfl,rfl,rfl⟩) bf) (dh ou bf (aj 7 (pv 7)))) rfl))
            ·exact cu (tu (PW.pt (Jg (j5 Uh (aj 6 (pv 6)) bf (iw _)) (Ge (j5 (qx hq) (aj 7 (pv 7)) bf (iw _)))))   (dj (jk (i:=10) nd (dh gb (dh gb (dh gb (aj 5 (pv 5)) (kh hu iu (aj 7 (pv 7)) (fun _ _=>rfl))) (aj 5 (pv 5))) (aj 10 (pv 10)))))   jg)   (dj (jk (i:=2) nd (dh gb (aj 2 (pv 2)) (aj 10 (pv 10)))))
      ·exact Kg
     ·refine dj ?_
      ·refine gn ?_
       ·refine Ek ?_ ?_
        ·refine au ?_ ?_
         ·exact aj 2 (pv 2)
         ·refine au ?_ ?_
          ·refine Ek ?_ ?_
           ·refine au ?_ ?_
            ·exact aj 3 (pv 3)
            ·refine au ?_ ?_
             ·refine gj ?_
              ·refine vh Ef ?_ ?_ PyProof.Rows.boot_tuple ?_
               ·exact by rfl
               ·exact Z.b_tuple
               ·refine au ?_ ?_
                ·refine wg ?_
                 ·refine Aq (N:=["_law_name_here","_law_times"]) ?_ ?_ ?_ ?_ ?_ ?_ ?_ ?_
                  ·exact ⟨rfl,fun j k h=>match j,h with | 0,h=>(by cases h; exact ⟨_,rfl,rfl,⟨.inl rfl,.inr (.inl rfl),.inl rfl⟩⟩) | _+1,h=>(by cases h)⟩
                  ·exact ⟨rfl,rfl,by decide +kernel,by decide +kernel⟩
                  ·exact rfl
                  ·exact yr (gj (gw (Cj (by rfl)) (by rfl) Z.b_sorted PyProof.Rows.boot_sorted (au (V4 4 rfl (by rfl) Z.b_list (pv 4)) cj)))
                  ·exact yh
                  ·exact fun C s₀ H₀ ex pn=>pgE fun B=>(uh 0 (j6 (show (["_law_name_here","_law_times"]:List Str).Nodup by decide +kernel) rfl (Or.inl rfl)))
                  ·exact fun C s₀ H₀ ex pn=>(Gm fun B=>(j5 (Bt hq) (kh hu (aj 1 (pv 1)) (aj 0 (pv 0)) (fun _ _=>rfl)) bf (iw _)))
                  ·exact fun C s₀ H₀ ex pn=>peE fun B=>(Ek (au (aj 0 (pv 0)) (au (kh hu (aj 1 (pv 1)) (aj 0 (pv 0)) (fun _ _=>rfl)) cj)) (ni (iy (iy mz)) (by decide)))
                ·exact cj
             ·exact cj
           ·exact ni (iy (iy mz)) (by decide)
          ·exact cj
        ·exact ni (iy (iy mz)) (by decide)
theorem Qa:vm P w K mg base "_law_none" 1 ["_law_cell"] (_root_.K.uw):=by
 refine go (N:=["_law_cell","_law_some"]) Z.h28 fun _ _ _ _ _ _ _ _ hr hu hq nd=>?_;refine cu ?_ ?_
 ·refine jk (i:=1) ?_ ?_
  ·exact nd
  ·refine Af ?_ ?_
   ·exact Cg (.cons (.cons (.cons (.cons (.cons (.cons (.cons (.cons (.cons (.cons (.cons (.cons (.cons .nil)))))))))))))
   ·exact ni (len_strs _) (by decide)
 ·refine cu ?_ ?_
  ·refine jk (i:=1) ?_ ?_
   ·exact nd
   ·refine dh ?_ ?_ ?_
    ·exact gb
    ·exact aj 1 (pv 1)
    ·refine Af ?_ ?_
     ·exact Cg (.cons (.cons (.cons (.cons (.cons (.cons (.cons (.cons (.cons (.cons (.cons (.cons (.cons .nil)))))))))))))
     ·exact ni (len_strs _) (by decide)
  ·refine cu ?_ ?_
   ·exact jk (i:=1) nd (dh gb (aj 1 (pv 1)) (Af (au iu cj) (ni (iy mz) (by decide))))
   ·refine cu ?_ ?_
    ·refine jk (i:=1) ?_ ?_
     ·exact nd
     ·refine dh ?_ ?_ ?_
      ·exact gb
      ·exact aj 1 (pv 1)
      ·refine Af ?_ ?_
       ·exact Cg (.cons (.cons (.cons (.cons (.cons (.cons (.cons (.cons .nil))))))))
       ·exact ni (len_strs _) (by decide)
    ·exact cu (jk (i:=1) nd (dh gb (aj 1 (pv 1)) (Af (Cg (.cons (.cons (.cons (.cons (.cons .nil)))))) (ni (len_strs _) (by decide)))))   (dj (gn (kh hu (aj 1 (pv 1)) (dh m8 (aj 0 (pv 0)) bf) (fun _ _=>rfl))))
theorem Jf:vm P w K mg base "_law_refused" 8 ["_law_text_here"] (_root_.K.qg cR cN):=by
 obtain ⟨Dx,kx,cx⟩:=Z.k;refine go (N:=["_law_text_here","_law_caught","e"]) Z.h29 fun _ _ _ _ _ _ _ _ hr hu hq nd=>?_;refine cu ?_ ?_
 ·exact jk (i:=1) nd a9p
 ·refine cu ?_ ?_
  ·exact a7g (Dv Z) rfl rfl (hr.mono (by decide)) (by rfl) (au (aj 0 (pv 0)) cj) (bh eq_nil) (a67 (fun _=>hr.hd) nd rfl rfl kx Z.kc.1 cx (by rfl) Z.kc.2 (fun a=>Ld (Fp nd rfl (Or.inl rfl) (pv 2)))) a2p
  ·exact dj (gn (Mx (a5g (cv:=.ref cN) (cw:=.ref cN) (fun u r=>r) (Ls (by rfl) Z.em rfl) (by rfl) Z.b_isinstance (aj 1 (pv 1)) (htK Z)) (Mx (a5g (cv:=.ty "ValueError") (cw:=.type "ValueError") (fun u r=>r) (Xn (v:=.ty "ValueError") (by rfl) Z.b_ValueError PyProof.Rows.Boot.«ValueError» rfl) (by rfl) Z.b_isinstance (aj 1 (pv 1)) (htV Z)) (Zn (Al (qx hq) (adu Z.g (aj 1 (pv 1))) bf (iw _))))))
theorem Gy:vm P w K mg base "_law_same" 1 ["_law_found","_law_due"] (_root_.K.mj):=by
 refine go (N:=["_law_found","_law_due"]) Z.h30 fun _ _ _ _ _ _ _ _ hr hu hq nd=>?_;refine cu ?_ ?_
 ·exact tu (PW.pt (Jg (Fl (vg (Gf (by rfl) Z.b_isinstance (by rfl) Z.b_tuple (aj 0 (pv 0))))) (Jg (j5 (Bt hq) (aj 0 (pv 0)) (aj 1 (pv 1)) (iw _)) (Ge (Fl (vg (Gf (by rfl) Z.b_isinstance (by rfl) Z.b_tuple (kh hu (aj 0 (pv 0)) bf (fun _ _=>rfl)))))))))   (dj (gn O8))   jg
 ·refine dj ?_
  ·refine gn ?_
   ·refine a9d ?_
    ·refine gj ?_
     ·refine gw (Z1 (by rfl)) ?_ ?_ PyProof.Rows.boot_any ?_
      ·exact by rfl
      ·exact Z.b_any
      ·refine au ?_ ?_
       ·refine wg ?_
        ·refine Aq (N:=["_law_number_here"]) ?_ ?_ ?_ ?_ ?_ ?_ ?_ ?_
         ·exact ⟨rfl,fun j k h=>match j,h with | _+0,h=>(by cases h)⟩
         ·exact ⟨rfl,rfl,by decide +kernel,by decide +kernel⟩
         ·exact rfl
         ·exact yr (dh gb (Af (au (kh hu (aj 0 (pv 0)) bf (fun _ _=>rfl)) cj) (ni (iy mz) (by decide))) (wg (Aq (N:=["_law_part"]) ⟨rfl,fun j k h=>match j,h with | _+0,h=>(by cases h)⟩ ⟨rfl,rfl,by decide +kernel,by decide +kernel⟩ rfl (yr (kh hu (aj 0 (pv 0)) bf (fun _ _=>rfl))) yh (fun C s₀ H₀ ex pn=>pgE fun B=>(uh 0 (j6 (show (["_law_part"]:List Str).Nodup by decide +kernel) rfl (Or.inl rfl)))) (fun C s₀ H₀ ex pn=>w6) (fun C s₀ H₀ ex pn=>peE fun B=>(kh hu (aj 0 (pv 0)) bf (fun _ _=>rfl))))))
         ·exact yh
         ·exact fun C s₀ H₀ ex pn=>pgE fun B=>(uh 0 (j6 (show (["_law_number_here"]:List Str).Nodup by decide +kernel) rfl (Or.inl rfl)))
         ·exact fun C s₀ H₀ ex pn=>w6
         ·exact fun C s₀ H₀ ex pn=>peE fun B=>(Rc (by rfl) Z.b_isinstance (by rfl) Z.b_bool (aj 0 (pv 0)))
       ·exact cj
theorem aa6 {f:Addr} {fd:FuncData} (F:Fun K "law" "law" (top 41) f fd):Aw P w K mg base CX0 9 f fd ["_law_script"] (spF K (["_law_script"]:List Str).length (_root_.K.a8c cR cN)):=by
 refine go0 (N:=["_law_script","_law_head","_law_names","_law_free","_law_cell","_law_state_here","_law_one","_law_text_here","_law_made"]) F fun _ _ _ _ _ _ _ _ hr hu hq nd=>?_;refine cu ?_ ?_
 ·exact adn (i:=1) nd (g8 (zj Z) (hr.mono (by decide)) (by rfl) (au (aj 0 (pv 0)) (au bf cj)) (bh (bh eq_nil)))
 ·refine cu ?_ ?_
  ·exact Tw 2 (Lg (N:=["_law_k","_law_head"]) ⟨rfl,rfl,by decide +kernel,by decide +kernel⟩ rfl (Lw (by rfl) Z.b_range bf) (fun C s₀ H₀ ex pn=>pgE fun B=>(uh 0 (j6 (show (["_law_k","_law_head"]:List Str).Nodup by decide +kernel) rfl (Or.inl rfl)))) (fun C s₀ H₀ ex pn=>w6) (fun C s₀ H₀ ex pn=>peE fun B=>(g8 (Pu Z) (hr.mono (by decide)) (by rfl) (au (aj 1 (pv 1)) (au (aj 0 (pv 0)) cj)) (bh (bh eq_nil)))) (j6 nd rfl (Or.inl rfl)) rfl) (fun σ H Q h=>N8 ⟨rfl,fun j k h=>match j,h with | 0,h=>(by cases h; exact ⟨_,rfl,rfl,⟨.inl rfl,.inr (.inl rfl),.inl rfl⟩⟩) | _+1,h=>(by cases h)⟩ Kg (Y9 h))
  ·refine cu ?_ ?_
   ·exact jk (i:=3) nd (Al (qx hq) (dh m8 (g8 (zj Z) (hr.mono (by decide)) (by rfl) (au (aj 0 (pv 0)) (au bf cj)) (bh (bh eq_nil))) bf) bf (iw _))
   ·refine cu ?_ ?_
    ·refine Ig ?_ ?_ ?_ ?_ ?_ ?_
     ·exact PassesOwn.never
     ·exact rfl
     ·exact yr (dh gb (Af (au (g8 (zj Z) (hr.mono (by decide)) (by rfl) (au (aj 0 (pv 0)) (au bf cj)) (bh (bh eq_nil))) cj) (ni (iy mz) (by decide))) (a0z (aj 0 (pv 0)) (Du bf) a7s))
     ·exact uh 4 (j6 nd rfl (Or.inl rfl))
     ·refine cu ?_ ?_
      ·exact jk (i:=5) nd (g8 (Oz Z) (hr.mono (by decide)) (by rfl) (au (aj 4 (pv 4)) (au (aj 3 (pv 3)) cj)) (bh (bh eq_nil)))
      ·refine cu ?_ ?_
       ·exact jk (i:=6) nd (g8 (V3 Z) (hr.mono (by decide)) (by rfl) (au (aj 5 (pv 5)) (au (aj 2 (pv 2)) cj)) (bh (bh eq_nil)))
       ·refine cu ?_ ?_
        ·exact jk (i:=7) nd (g8 (Qd Z) (hr.mono (by decide)) (by rfl) (au (aj 6 (pv 6)) cj) (bh eq_nil))
        ·refine cu ?_ ?_
         ·exact tu (PW.pt (Jg (Fl (vg (Vp (by rfl) Z.b_isinstance (by rfl) Z.b_str (aj 7 (pv 7))))) (Jg (j5 (Bt hq) (aj 7 (pv 7)) (g8 (R8 Z) (hr.mono (by decide)) (by rfl) (au (aj 6 (pv 6)) cj) (bh eq_nil)) (iw _)) (Ge (Fl (vg (g8 (Gy Z) (hr.mono (by decide)) (by rfl) (au (g8 (Dv Z).norm (hr.mono (by decide)) (by rfl) (au (aj 7 (pv 7)) cj) (bh eq_nil)) (au (aj 6 (pv 6)) cj)) (bh (bh eq_nil)))))))))   (dj (gn O8))   jg
         ·refine cu ?_ ?_
          ·exact jk (i:=8) nd (g8 (Kf Z) (hr.mono (by decide)) (by rfl) (au (aj 5 (pv 5)) (au (aj 2 (pv 2)) cj)) (bh (bh eq_nil)))
          ·refine cu ?_ ?_
           ·exact tu (Fl (vg (g8 (Gy Z) (hr.mono (by decide)) (by rfl) (au (g8 (Dv Z).norm (hr.mono (by decide)) (by rfl) (au (kh hu (aj 8 (pv 8)) bf (fun _ _=>rfl)) cj) (bh eq_nil)) (au (kh hu (aj 8 (pv 8)) bf (fun _ _=>rfl)) cj)) (bh (bh eq_nil)))))   (dj (gn O8))   jg
           ·exact dj (tu (Fl (vg (g8 (Jf Z) (hr.mono (by decide)) (by rfl) (au (g8 (Qa Z) (hr.mono (by decide)) (by rfl) (au (dh m8 (dh ou (dh m8 (dh yt (aj 4 (pv 4)) bf) bf) bf) bf) cj) (bh eq_nil)) cj) (bh eq_nil))))   (dj (gn O8))   jg)
     ·exact yh
    ·exact dj (gn O8)
end
end D
end
section
namespace C
open PySem
theorem Oo {α:Type} {h f:α->T} {g:G} {c:M Bool} {e:M T} {nv:Nat} {ai:List Slot} {sto:List SO} (aI:ai.map Uw=ai) :
  ∀ (l:List α) (acc:List T) (pre:List Slot),pre.length=nv->acc.length+l.length<=lim ->
   (∀ a∈l,∀ pre:List Slot,pre.length=nv->∃ pre',pre'.length=nv/\g (h a) ⟨pre++ai,sto⟩=some ⟨pre'++ai,sto⟩/\c ⟨pre'++ai,sto⟩=some (true,⟨pre'++ai,sto⟩)/\e ⟨pre'++ai,sto⟩=some (f a,⟨pre'++ai,sto⟩)) ->
   ∃ s',Dk g c e (l.map h) ⟨pre++ai,sto⟩ acc=some (acc++l.map f,s')/\s'.sto=sto
 | [],acc,pre,hp,hl,H=>⟨⟨pre++ai,sto⟩,by simp [Dk],rfl⟩
 | a::l,acc,pre,hp,hl,H=>by
  obtain ⟨pre',p1,p2,p3,p4⟩:=H a List.mem_cons_self pre hp;have hlen:acc.length<lim:=by simp at hl ⊢; omega
  obtain ⟨s',q1,q2⟩:=Oo aI l (acc++[f a]) (pre'.map Uw) (by simpa using p1) (by simp at hl ⊢; omega) fun b hb=>H b (List.mem_cons_of_mem _ hb);refine ⟨s',?_,q2⟩;rw [List.map_cons,Dk,p2];dsimp only;rw [p3];dsimp only;rw [p4];dsimp only;rw [if_pos hlen,j9];dsimp only;rw [List.map_append,aI,q1];simp
theorem vd {α:Type} (h f:α->T) (l:List α) {g:G} {c:M Bool} {e:M T} {nv:Nat} {ci:List Nat} {it:M (List T)} {s s1:Sta} (env:List Slot) (ai:List Slot) (hit:it s=some (l.map h,s1)) (cB:jj ci s1.env=env) (eI:ci.map (fun i=>(env[i]?).getD none)=ai) (aI:ai.map Uw=ai) (hl:l.length<=lim)
  (H:∀ a∈l,∀ pre:List Slot,pre.length=nv->∃ pre',pre'.length=nv/\g (h a) ⟨pre++ai,s1.sto⟩=some ⟨pre'++ai,s1.sto⟩/\c ⟨pre'++ai,s1.sto⟩=some (true,⟨pre'++ai,s1.sto⟩)/\e ⟨pre'++ai,s1.sto⟩=some (f a,⟨pre'++ai,s1.sto⟩)) :
  lu nv ci g it c e s=some (.lst (l.map f),⟨env,s1.sto⟩):=by
 obtain ⟨s',q1,q2⟩:=Oo aI l [] (List.replicate nv none) (by simp) (by simpa using hl) H;unfold lu;rw [hit];dsimp only;rw [cB,eI,q1];dsimp only;rw [q2]; rfl
def okS (x:Str):Prop:=PyData.canLay0 (.str x)=true
theorem Ce {x:Str} (h:okS x):dat (.str x)=some (.str x):=by
 unfold okS at h;simp [dat,h]
theorem Hv {a b:Str} (ha:okS a) (hb:okS b):neO (.str a) (.str b)=some (.bl (!(a==b))):=by
 simp [neO,eqT,eqD,Ce ha,Ce hb,PyData.depth,PyData.eqv]
def Pl (n:Nat) (t:T):Prop:=∃ d,dat t=some d/\d.depth<=n
theorem a5e (n:Nat) (i:Int):Pl n (.int i):=⟨.int i,by simp [dat],by simp [PyData.depth]⟩
theorem abh (n:Nat) {x:Str} (h:okS x):Pl n (.str x):=⟨.str x,Ce h,by simp [PyData.depth]⟩
theorem pls {n:Nat}:∀ ts:List T,(∀ t∈ts,Pl n t)->∃ ds,J9 ts=some ds/\PyData.depthAll ds<=n
 | [],_=>⟨[],by simp [J9],by simp [PyData.depthAll]⟩
 | t::r,h=>by
  obtain ⟨d,d1,d2⟩:=h t List.mem_cons_self;obtain ⟨ds,e1,e2⟩:=pls r fun x hx=>h x (List.mem_cons_of_mem _ hx);exact ⟨d::ds,by simp [J9,d1,e1],by simp only [PyData.depthAll]; omega⟩
theorem Xf {n:Nat} {ts:List T} (h:∀ t∈ts,Pl n t):Pl (n+1) (.tup ts):=by
 obtain ⟨ds,e1,e2⟩:=pls ts h;exact ⟨.tuple ds,by simp [dat,e1],by simp only [PyData.depth]; omega⟩
mutual
theorem Uc:∀ d:PyData,d.canLay0=true->PyData.eqv d d=true
 | .none,_=>by simp [PyData.eqv]
 | .bool b,_=>by simp [PyData.eqv]
 | .int i,_=>by simp [PyData.eqv]
 | .str x,_=>by simp [PyData.eqv]
 | .list xs,h=>by simp only [PyData.eqv]; exact Ho xs (by simpa [PyData.canLay0] using h)
 | .tuple xs,h=>by simp only [PyData.eqv]; exact Ho xs (by simpa [PyData.canLay0] using h)
 | .dict _,h=>by simp [PyData.canLay0] at h
theorem Ho:∀ xs:List PyData,PyData.canLayAll0 xs=true->PyData.eqvAll xs xs=true
 | [],_=>by simp [PyData.eqvAll]
 | x::xs,h=>by
  simp only [PyData.canLayAll0,Bool.and_eq_true] at h;simp only [PyData.eqvAll,Uc x h.1,Ho xs h.2,Bool.and_self]
end
end C
namespace C
open PySem
theorem Yv {g:G} {b:S} (P:List T->Sta->Prop) (H:∀ t r s,P (t::r) s->∃ s1 s2,g t s=some s1/\b s1=some (.next,s2)/\P r s2):∀ (ts:List T) (s:Sta),P ts s->∃ s',forL g b ts s=some (.next,s')/\P [] s'
 | [],s,h=>⟨s,by simp [forL],h⟩
 | t::r,s,h=>by
  obtain ⟨s1,s2,h1,h2,h3⟩:=H t r s h;obtain ⟨s',e,p⟩:=Yv P H r s2 h3;refine ⟨s',?_,p⟩;rw [forL]; dsimp only; rw [h1]; dsimp only; rw [h2]; dsimp only; exact e
theorem Rf {g:G} {b:S} {ts:List T} {s:Sta} {r:Option (Flow × Sta)} (hF:forL g b ts s=r) (P:List T->Sta->Prop) (hP:P ts s) (H:∀ t r s,P (t::r) s->∃ s1 s2,g t s=some s1/\b s1=some (.next,s2)/\P r s2):∃ s',r=some (.next,s')/\P [] s':=by
 obtain ⟨s',e,p⟩:=Yv P H ts s hP;exact ⟨s',hF.symm.trans e,p⟩
end C
namespace C
open PySem
theorem Oa {α:Type} (h:α->T) (l:List α) {i:Int} (h0:0<=i) (h1:i<l.length):∃ a∈l,dg (.lst (l.map h)) (.int i)=some (h a):=by
 have hi:i.toNat<l.length:=by omega
 refine ⟨l[i.toNat],List.getElem_mem hi,?_⟩;simp [dg,ixI,h0,h1,List.getElem?_eq_getElem hi]
theorem T8 {α:Type} (h:α->T) (l:List α) {k:Nat} (hk:k<l.length):dg (.lst (l.map h)) (.int (k:Int))=some (h l[k]):=by
 have h1:(k:Int)<(l.length:Int):=by omega
 simp [dg,ixI,h1,List.getElem?_eq_getElem hk]
end C
end
open C
local macro_rules | `(tactic| simp! [$ls,*])=>`(tactic| simp [qp,jf,sIf,j8,sNew,sy,yd,sGo,J7,u6,G5,bw,Gi,Ox,mOr,yc,mIf,mOp,mUn,aq,gk,ao,d7,ak,Dl,dw,ig,hName,Gq,Bm,yx,ltT,leT,Ax,jm,Qs,Dg,Ck,a1o,Gp,ad4,v9,jj,Uw,$ls,*])
section
namespace C
open PySem
theorem Nq {α σ:Type} {g:G} {b:S} (h:α->T) (R:σ->Sta) (step:σ->α->σ) (P:List α->σ->Prop)
  (H:∀ a r x,P (a::r) x->(∃ s1,g (h a) (R x)=some s1/\b s1=some (.next,R (step x a)))/\P r (step x a)) :
  ∀ (l:List α) (x:σ),P l x->forL g b (l.map h) (R x)=some (.next,R (l.foldl step x))/\P [] (l.foldl step x)
 | [],x,p=>⟨by simp [forL],p⟩
 | a::l,x,p=>by
  obtain ⟨⟨s1,h1,h2⟩,h3⟩:=H a l x p;obtain ⟨e,q⟩:=Nq h R step P H l (step x a) h3;refine ⟨?_,q⟩;rw [List.map_cons,forL]; dsimp only; rw [h1]; dsimp only; rw [h2]; dsimp only; exact e
theorem a2x {α σ:Type} {g:G} {b:S} {ts:List T} {s:Sta} {r:Option (Flow × Sta)} (hF:forL g b ts s=r) (h:α->T) (l:List α) (R:σ->Sta) (x0:σ) (step:σ->α->σ) (P:List α->σ->Prop) (ht:ts=l.map h) (hs:s=R x0) (hP:P l x0)
  (H:∀ a r x,P (a::r) x->(∃ s1,g (h a) (R x)=some s1/\b s1=some (.next,R (step x a)))/\P r (step x a)) :
  r=some (.next,R (l.foldl step x0))/\P [] (l.foldl step x0):=by
 subst ht hs;obtain ⟨e,p⟩:=Nq h R step P H l x0 hP;exact ⟨hF.symm.trans e,p⟩
theorem Br {α:Type} {h f:α->T} {q:α->Bool} {g:G} {c:M Bool} {e:M T} {nv:Nat} {ai:List Slot} {sto:List SO} (aI:ai.map Uw=ai) :
  ∀ (l:List α) (acc:List T) (pre:List Slot),pre.length=nv->acc.length+l.length<=lim ->
   (∀ a∈l,∀ pre:List Slot,pre.length=nv->∃ pre',pre'.length=nv/\g (h a) ⟨pre++ai,sto⟩=some ⟨pre'++ai,sto⟩/\c ⟨pre'++ai,sto⟩=some (q a,⟨pre'++ai,sto⟩)/\(q a=true->e ⟨pre'++ai,sto⟩=some (f a,⟨pre'++ai,sto⟩))) ->
   ∃ s',Dk g c e (l.map h) ⟨pre++ai,sto⟩ acc=some (acc++(l.filter q).map f,s')/\s'.sto=sto
 | [],acc,pre,hp,hl,H=>⟨⟨pre++ai,sto⟩,by simp [Dk],rfl⟩
 | a::l,acc,pre,hp,hl,H=>by
  obtain ⟨pre',p1,p2,p3,p4⟩:=H a List.mem_cons_self pre hp;have hlen:acc.length<lim:=by simp at hl ⊢; omega
  rw [List.map_cons,Dk,p2];dsimp only;rw [p3];cases hq:q a with
  | true =>
   obtain ⟨s',q1,q2⟩:=Br aI l (acc++[f a]) (pre'.map Uw) (by simpa using p1) (by simp at hl ⊢; omega) fun b hb=>H b (List.mem_cons_of_mem _ hb);refine ⟨s',?_,q2⟩;dsimp only;rw [p4 hq];dsimp only;rw [if_pos hlen,j9];dsimp only;rw [List.map_append,aI,q1];simp [hq]
  | false =>
   obtain ⟨s',q1,q2⟩:=Br aI l acc (pre'.map Uw) (by simpa using p1) (by simp at hl ⊢; omega) fun b hb=>H b (List.mem_cons_of_mem _ hb);refine ⟨s',?_,q2⟩;dsimp only;rw [j9];dsimp only;rw [List.map_append,aI,q1];simp [hq]
theorem Ew {α:Type} {g:G} {c:M Bool} {e:M T} {nv:Nat} {ci:List Nat} {it:M (List T)} {s:Sta} {r:Option (T × Sta)} (hF:lu nv ci g it c e s=r) (h f:α->T) (q:α->Bool) (l:List α) (s1:Sta) (env ai:List Slot) (hit:it s=some (l.map h,s1)) (cB:jj ci s1.env=env) (eI:ci.map (fun i=>(env[i]?).getD none)=ai) (aI:ai.map Uw=ai) (hl:l.length<=lim)
  (H:∀ a∈l,∀ pre:List Slot,pre.length=nv->∃ pre',pre'.length=nv/\g (h a) ⟨pre++ai,s1.sto⟩=some ⟨pre'++ai,s1.sto⟩/\c ⟨pre'++ai,s1.sto⟩=some (q a,⟨pre'++ai,s1.sto⟩)/\(q a=true->e ⟨pre'++ai,s1.sto⟩=some (f a,⟨pre'++ai,s1.sto⟩))) :
  r=some (.lst ((l.filter q).map f),⟨env,s1.sto⟩):=by
 obtain ⟨s',q1,q2⟩:=Br aI l [] (List.replicate nv none) (by simp) (by simpa using hl) H;rw [<- hF];unfold lu;rw [hit];dsimp only;rw [cB,eI,q1];dsimp only;rw [q2]; rfl
theorem ur {a b:Int}:eqO (.int a) (.int b)=some (.bl (a==b)):=rfl
theorem Bh {a b:Int}:neO (.int a) (.int b)=some (.bl (!(a==b))):=by simp [neO,eqT,eqD,dat,PyData.depth,PyData.eqv]
theorem Bs {a b:Str} (ha:okS a) (hb:okS b):eqO (.str a) (.str b)=some (.bl (a==b)):=by
 simp [eqO,eqT,eqD,Ce ha,Ce hb,PyData.depth,PyData.eqv]
theorem Za {xs:List T} {k:Nat} {t:T} (h:xs[k]? = some t):dg (.tup xs) (.int (k:Int))=some t:=by
 have hk:k<xs.length:=(List.getElem?_eq_some_iff.mp h).1;have h1:(k:Int)<(xs.length:Int):=by omega
 simp [dg,ixI,h1,h]
theorem Fe {a:T} {r:List T}:dg (.tup (a::r)) (.int 0)=some a:=Za (k:=0) rfl
theorem Gg {a b:T} {r:List T}:dg (.tup (a::b::r)) (.int 1)=some b:=Za (k:=1) rfl
theorem Qn {i j:Nat} {x y:T} {s:Sta}:Gq [i,j] (.tup [x,y]) s=some (ig j y false (ig i x false s)):=by simp [Gq]
theorem u5 {a b:S} {s s':Sta} (h:a s=some (.next,s')):jf a b s=b s':=by unfold jf; rw [h]
def Out (r:Option (T × List SO)) (P:T->List SO->Prop):Prop:=∃ t s,r=some (t,s)/\P t s
theorem Out.of {t:T} {s:List SO} {P:T->List SO->Prop} (h:P t s):Out (some (t,s)) P:=⟨t,s,rfl,h⟩
end C
end
section
namespace K
open C PySem
section
variable {a b:M T} {l r:M (List T)} {s s1 s2:Sta} {t u v:T} {ts:List T} {i:Nat} {F:Fn} {z:List SO} {x y:S}
theorem zo {f:T->T->Option T} (h1:a s=some (t,s1)) (h2:b s1=some (u,s2)) (h3:f t u=some v):mOp f a b s=some (v,s2):=by
 unfold mOp; rw [h1]; dsimp only; rw [h2]; dsimp only; rw [h3]
theorem zm {f:List T->Option T} (h:l s=some (ts,s1)) (h2:f ts=some u):gk f l s=some (u,s1):=by
 unfold gk; rw [h]; dsimp only; rw [h2]
theorem zc (h:a s=some (t,s1)) (h2:l s1=some (ts,s2)):ao a l s=some (t::ts,s2):=by
 unfold ao; rw [h]; dsimp only; rw [h2]
theorem zf (h:l s=some (ts,s1)) (h2:F ts s1.sto=some (t,z)):dw F l s=some (t,⟨s1.env,z⟩):=by
 unfold dw; rw [h]; dsimp only; rw [h2]
theorem zr (h:a s=some (t,s1)):sy a s=some (.ret t,s1):=by unfold sy; rw [h]
theorem zq {q:Option (C.Flow × Sta)} (h:x s=some (.next,s1)) (h2:y s1=q):jf x y s=q:=by unfold jf; rw [h]; exact h2
theorem zt {k:Bool} (h:a s=some (.bl k,s1)):bw a s=some (k,s1):=by unfold bw; rw [h]
theorem zk {c:M Bool} (h:c s=some (true,s1)) {q:Option (C.Flow × Sta)} (h2:x s1=q):sIf c x y s=q:=by unfold sIf; rw [h]; exact h2
theorem ze {c:M Bool} (h:c s=some (false,s1)) {q:Option (C.Flow × Sta)} (h2:y s1=q):sIf c x y s=q:=by unfold sIf; rw [h]; exact h2
theorem ys {s':Sta} (h:a s=some (t,s1)) (e:ig i t false s1=s'):j8 i a s=some (.next,s'):=by unfold j8; rw [h,<- e]
theorem yn {s':Sta} (h:a s=some (t,s1)) (e:ig i t true s1=s'):sNew i a s=some (.next,s'):=by unfold sNew; rw [h,<- e]
theorem md {i j:Int} (h:0<j):Dg (.int i) (.int j)=some (.int (i%j)):=if_pos h
theorem aec {α:Type} {f:α->T} {l:List α}:Ax [.lst (l.map f)]=some (.int l.length):=by show some (T.int ((l.map f).length:Int))=_; rw [List.length_map]
theorem ad {p q:Str} (h:p.length+q.length<lim):jm (.str p) (.str q)=some (.str (p++q)):=if_pos h
theorem zis {α:Type} {f:α->T} {k:List α} (h:a s=some (.lst (k.map f),s1)) (hl:k.length<lim):yx a s=some (k.map f,s1):=by
 unfold yx; rw [h]; dsimp only; rw [List.length_map,if_pos hl]
theorem zqr (h:x s=some (.ret t,s1)):jf x y s=some (.ret t,s1):=by unfold jf; rw [h]
theorem Yr {c:M Bool} {k:Bool} (h:c s=some (k,s1)):Gi c s=some (!k,s1):=by unfold Gi; rw [h]
theorem aay {c d:M Bool} (h:c s=some (true,s1)):mOr c d s=some (true,s1):=by unfold mOr; rw [h]
theorem Qk {c d:M Bool} {q:Option (Bool × Sta)} (h:c s=some (false,s1)) (h2:d s1=q):mOr c d s=q:=by unfold mOr; rw [h]; exact h2
theorem zb {c:M Bool} {k:Bool} (h:c s=some (k,s1)):yc c s=some (.bl k,s1):=by unfold yc; rw [h]
theorem za {s':Sta} {xs:List T} (h:a s=some (t,s1)) (hx:s1.env[i]? = some (some (.lst xs,true))) (hl:xs.length<lim) (hs:G5 i s=true) (e:ig i (.lst (xs++[t])) true s1=s'):u6 i a s=some (.next,s'):=by
 unfold u6; rw [if_pos hs,h]; dsimp only; rw [hx]; dsimp only; rw [if_pos hl,e]
theorem zw {s':Sta} {kv:List (C.Key × T)} {q:C.Key} (h:b s=some (t,s1)) (hd:Li i s1=true) (h2:a s1=some (u,s2)) (hx:s2.env[i]? = some (some (.dic kv,true))) (hq:keyOf u=some q) (hl:kv.length<lim) (e:ig i (.dic (Vt q t kv)) true s2=s'):vp i a b s=some (.next,s'):=by
 unfold vp; rw [h]; dsimp only; rw [if_pos hd,h2]; dsimp only; rw [hx,hq]; dsimp only; rw [if_pos hl,e]
theorem a9a {α:Type} {f:α->Bool}:∀ {l:List α},aae [.lst (l.map fun r=>.bl (f r))]=some (.bl (l.all f))/\acf [.lst (l.map fun r=>.bl (f r))]=some (.bl (l.any f)):=fun {l}=>by
 have q:∀ l:List α,Gh (l.map fun r=>.bl (f r))=some (l.map f):=fun l=>by
  induction l with
  | nil=>rfl
  | cons a l ih=>rw [List.map_cons,Gh,ih]; rfl
 refine ⟨?_,?_⟩
 ·show (Gh (l.map fun r=>.bl (f r))).map _=_;rw [q]; simp
 ·show (Gh (l.map fun r=>.bl (f r))).map _=_;rw [q]; simp
theorem aea {p q:Int} (h:p<q):ltT (.int p) (.int q)=some (.bl true):=by show some (T.bl (decide (p<q)))=_; rw [decide_eq_true h]
theorem ace {p q:Int} (h:¬ p<q):ltT (.int p) (.int q)=some (.bl false):=by show some (T.bl (decide (p<q)))=_; rw [decide_eq_false h]
theorem afp {c d:M Bool} {j k:Bool} (h1:c s=some (j,s)) (h2:d s=some (k,s)):Ox c d s=some (j&&k,s):=by
 unfold Ox; rw [h1];cases j
 ·rfl
 ·exact h2
theorem eq_i {p q:Int} {k:Bool} (h:(p==q)=k):eqO (.int p) (.int q)=some (.bl k):=by rw [ur,h]
theorem mu {p q:Int} (h:xg p=true):yg (.int p) (.int q)=some (.int (p * q)):=if_pos (by rw [h]; rfl)
theorem mu2 {p q:Int} (h:xg q=true):yg (.int p) (.int q)=some (.int (p * q)):=if_pos (by rw [h]; simp)
theorem zf0 (h:l s=some (ts,s1)) (h2:F ts s1.sto=some (t,s1.sto)):dw F l s=some (t,s1):=by
 unfold dw; rw [h]; dsimp only; rw [h2]
theorem ad2 {g:G} {q:S} {w:List T} (h:g t s=some s1) (hb:q s1=some (.next,s2)):forL g q (t::w) s=forL g q w s2:=by
 rw [forL]; dsimp only; rw [h]; dsimp only; rw [hb]
theorem afn {g:G} {q:S} {m:M (List T)} {r0:Option (C.Flow × Sta)} (h:m s=some (ts,s1)) (h2:forL g q ts s1=r0):J7 g m q s=r0:=by
 unfold J7; rw [h]; exact h2
theorem zos {p:Int} (h:a s=some (.int p,s1)):Cw a s=some (some p,s1):=by unfold Cw; rw [h]
theorem zrun {n:Nat} {A:List T} {z0:List SO} (h:x ⟨A.map (fun t=>some (t,false))++List.replicate (n - A.length) none,z0⟩=some (.ret t,s1)) (h2:s1.sto=z):qp n x A z0=some (t,z):=by
 unfold qp; rw [h]; dsimp only; rw [h2]
end
section
variable {a b:SX} {u:S} {s s1 s2:Sta} {q:Option ((C.Flow ⊕ T) × Sta)} {t x:T} {fl:C.Flow} {c:M Bool} {ms:M (List T)} {F:FnX} {ts:List T} {z z0:List SO} {m:M T} {n i:Nat} {A:List T} {r:T ⊕ T} {mx:MX} {l:MXs}
theorem xq (h:a s=some (.inl .next,s1)) (h2:b s1=q):Aa a b s=q:=by unfold Aa; rw [h]; exact h2
theorem xqr (h:a s=some (.inr t,s1)):Aa a b s=some (.inr t,s1):=by unfold Aa; rw [h]
theorem xqt (h:a s=some (.inl (.ret t),s1)):Aa a b s=some (.inl (.ret t),s1):=by unfold Aa; rw [h]
theorem xl (h:u s=some (fl,s1)):lx u s=some (.inl fl,s1):=by unfold lx; rw [h]
theorem xik (h:c s=some (true,s1)) (h2:a s1=q):xIf c a b s=q:=by unfold xIf; rw [h]; exact h2
theorem xie (h:c s=some (false,s1)) (h2:b s1=q):xIf c a b s=q:=by unfold xIf; rw [h]; exact h2
theorem xra (h:m s=some (t,s1)):Cu m s=some (.inr t,s1):=by unfold Cu; rw [h]
theorem aeo (h:a ⟨A.map (fun t=>some (t,false))++List.replicate (n - A.length) none,z0⟩=some (.inl .next,s1)) (e:s1.sto=z):qw n a A z0=some (.inl .non,z):=by unfold qw; rw [h]; dsimp only; rw [e]
theorem Gk (h:a ⟨A.map (fun t=>some (t,false))++List.replicate (n - A.length) none,z0⟩=some (.inl (.ret t),s1)) (e:s1.sto=z):qw n a A z0=some (.inl t,z):=by unfold qw; rw [h]; dsimp only; rw [e]
theorem Bq (h:a ⟨A.map (fun t=>some (t,false))++List.replicate (n - A.length) none,z0⟩=some (.inr t,s1)) (e:s1.sto=z):qw n a A z0=some (.inr t,z):=by unfold qw; rw [h]; dsimp only; rw [e]
theorem xup (h:m s=some (t,s1)):K9 m s=some (.inl t,s1):=by unfold K9; rw [h]
theorem xmc (h:ms s=some (ts,s1)) (h2:F ts s1.sto=some (r,z)):qz F ms s=some (r,⟨s1.env,z⟩):=by unfold qz; rw [h]; dsimp only; rw [h2]
theorem xcs (h:mx s=some (.inl t,s1)) (h2:l s1=some (.inl ts,s2)):m7 mx l s=some (.inl (t::ts),s2):=by unfold m7; rw [h]; dsimp only; rw [h2]
theorem ael (h:mx s=some (.inr x,s1)):m7 mx l s=some (.inr x,s1):=by unfold m7; rw [h]
theorem xst (h:mx s=some (.inl t,s1)) (e:ig i t false s1=s2):Pj i mx s=some (.inl .next,s2):=by unfold Pj; rw [h]; dsimp only; rw [e]
theorem xsr (h:mx s=some (.inr x,s1)):Pj i mx s=some (.inr x,s1):=by unfold Pj; rw [h]
theorem xrt (h:mx s=some (.inl t,s1)):a0q mx s=some (.inl (.ret t),s1):=by unfold a0q; rw [h]
theorem xrr (h:mx s=some (.inr x,s1)):a0q mx s=some (.inr x,s1):=by unfold a0q; rw [h]
theorem xdt (h:mx s=some (.inl t,s1)):Ra mx s=some (.inl .next,s1):=by unfold Ra; rw [h]
theorem xdr (h:mx s=some (.inr x,s1)):Ra mx s=some (.inr x,s1):=by unfold Ra; rw [h]
theorem xtu (h:l s=some (.inl ts,s1)):Ly (fun l=>some (.tup l)) l s=some (.inl (.tup ts),s1):=by unfold Ly; rw [h]
theorem xtr (h:l s=some (.inr x,s1)):Ly (fun l=>some (.tup l)) l s=some (.inr x,s1):=by unfold Ly; rw [h]
theorem aeg {c:M Bool} {m1 m2:M T} {q:Option (T × Sta)} (h:c s=some (true,s1)) (h2:m1 s1=q):mIf c m1 m2 s=q:=by unfold mIf; rw [h]; exact h2
theorem aer {c:M Bool} {m1 m2:M T} {q:Option (T × Sta)} (h:c s=some (false,s1)) (h2:m2 s1=q):mIf c m1 m2 s=q:=by unfold mIf; rw [h]; exact h2
theorem wxf {k:Nat} (h:c s=some (false,s1)):nq (k+1) c a s=some (.inl .next,s1):=by rw [nq]; dsimp only; rw [h]
theorem wxt {k:Nat} (h:c s=some (true,s1)) (h1:a s1=some (.inl .next,s2)) (h2:nq k c a s2=q):nq (k+1) c a s=q:=by rw [nq]; dsimp only; rw [h]; dsimp only; rw [h1]; exact h2
theorem wxr {k:Nat} (h:c s=some (true,s1)) (h1:a s1=some (.inr x,s2)):nq (k+1) c a s=some (.inr x,s2):=by rw [nq]; dsimp only; rw [h]; dsimp only; rw [h1]
theorem zsl {e:M T} {y:Str} {i j:Int} (hl:y.length<lim) (h0:aq 0 s=some (.str y,s)) (h1:aq 1 s=some (.int i,s)) (he:e s=some (.int j,s)):Bg (aq 0) (Cw (aq 1)) (Cw e) s=some (.str (Uy y (some i) (some j)),s):=by
 unfold Bg;rw [h0]; dsimp only;rw [zos h1]; dsimp only;rw [zos he]; dsimp only;unfold a0m;dsimp only;rw [if_pos hl]
end
abbrev cs (x:Str):List Nat:=x.cps.toList
def a03 (c:Nat):Bool:=decide (97<=c)&&decide (c<=122)
def Tz (c:Nat):Bool:=decide (48<=c)&&decide (c<=57)
def Dp (c:Nat):Bool:=a03 c||Tz c
def st (l:List Nat):Str:=⟨l.toArray⟩
theorem aed (l:List Nat):cs (st l)=l:=rfl
theorem Ux (x:Str):st (cs x)=x:=by cases x; simp [st,cs]
theorem Ab (x:Str):x.length=(cs x).length:=by show x.cps.size=_; simp [cs]
theorem a9b (l:List Nat):(st l).length=l.length:=rfl
theorem Q5 (c:Nat) (y:Str):inS (.str ⟨#[c]⟩) (.str y)=some (.bl (decide (c∈cs y))):=by
 show some (T.bl _)=_;rw [StrLaws.found_one]
theorem Wh (c:Nat):decide (c∈cs "abcdefghijklmnopqrstuvwxyz")=a03 c:=by
 have e:cs "abcdefghijklmnopqrstuvwxyz" = [97,98,99,100,101,102,103,104,105,106,107,108,109,110,111,112,113,114,115,116,117,118,119,120,121,122]:=by decide +kernel
 rw [e,Bool.eq_iff_iff,decide_eq_true_eq];simp only [List.mem_cons,List.not_mem_nil,or_false,a03,Bool.and_eq_true,decide_eq_true_eq];omega
theorem Wg (c:Nat):decide (c∈cs "0123456789")=Tz c:=by
 have e:cs "0123456789" = [48,49,50,51,52,53,54,55,56,57]:=by decide +kernel
 rw [e,Bool.eq_iff_iff,decide_eq_true_eq];simp only [List.mem_cons,List.not_mem_nil,or_false,Tz,Bool.and_eq_true,decide_eq_true_eq];omega
theorem a8p (c:Nat):decide (c∈cs "abcdefghijklmnopqrstuvwxyz0123456789")=Dp c:=by
 have e:cs "abcdefghijklmnopqrstuvwxyz0123456789" = cs "abcdefghijklmnopqrstuvwxyz" ++ cs "0123456789" := by decide +kernel
 have h1:=Wh c;have h2:=Wg c;rw [Bool.eq_iff_iff,decide_eq_true_eq] at h1 h2 ⊢;rw [e,List.mem_append,h1,h2,Dp,Bool.or_eq_true]
theorem abf (c:Nat):inS (.str ⟨#[c]⟩) (.str "abcdefghijklmnopqrstuvwxyz")=some (.bl (a03 c)):=by rw [Q5,Wh]
theorem ab2 (c:Nat):inS (.str ⟨#[c]⟩) (.str "0123456789")=some (.bl (Tz c)):=by rw [Q5,Wg]
theorem Wt (c:Nat):inS (.str ⟨#[c]⟩) (.str "abcdefghijklmnopqrstuvwxyz0123456789")=some (.bl (Dp c)):=by rw [Q5,a8p]
def Pn (x:Str):Prop:=(∀ c∈cs x,c<128)/\(cs x).length<1000
theorem Pn.okS {x:Str} (h:Pn x):okS x:=by
 unfold C.okS PyData.canLay0 PyData.strOk;rw [<- Array.all_toList,List.all_eq_true];intro c hc;have:=h.1 c hc;simp only [decide_eq_true_eq];omega
theorem Pn.lt {x:Str} (h:Pn x):x.length<lim:=by have:=h.2; rw [Ab]; show _<1000000; omega
theorem Pn.all {x:Str} (h:Pn x):x.cps.all (· < 128)=true:=by
 rw [<- Array.all_toList,List.all_eq_true];intro c hc;exact decide_eq_true (h.1 c hc)
theorem Wf {c:Nat} (h:c<128):okS (⟨#[c]⟩:Str):=by
 unfold C.okS PyData.canLay0 PyData.strOk;simp; omega
theorem item_at {x:Str} {k:Nat} (hl:x.length<lim) (hk:k<(cs x).length):dg (.str x) (.int (k:Int))=some (.str ⟨#[(cs x)[k]]⟩):=by
 have h1:(k:Int)<((cs x).length:Int):=by omega
 simp only [dg,hl,if_true,ixI,Int.natCast_nonneg,h1,Int.toNat_natCast,Option.bind_some];rw [List.getElem?_eq_getElem hk];rfl
variable {sto:List SO}
theorem Mq {x:Str} (h:Pn x) {y:Str} {p:Nat->Bool} (hp:∀ c,inS (.str ⟨#[c]⟩) (.str y)=some (.bl (p c))) :
  gk aae (ao (lu 1 [] (hName 0) (Er (aq 0)) v9 (mOp inS (aq 0) (ak (.str y)))) d7) ⟨[some (.str x,false)],sto⟩=some (.bl ((cs x).all p),⟨[some (.str x,false)],sto⟩):=by
 have e:lu 1 [] (hName 0) (Er (aq 0)) v9 (mOp inS (aq 0) (ak (.str y))) ⟨[some (.str x,false)],sto⟩=some (.lst ((cs x).map fun c=>.bl (p c)),⟨[some (.str x,false)],sto⟩):=by
  refine vd (fun c=>T.str ⟨#[c]⟩) (fun c=>.bl (p c)) (cs x) (s1:=⟨[some (.str x,false)],sto⟩) _ [] ?_ rfl rfl rfl (by have:=h.2; show _<=1000000; omega) ?_
  ·unfold Er;dsimp only [aq,List.getElem?_cons_zero];rw [if_pos ⟨h.lt,h.all⟩];rfl
  ·intro c hc pre aB
   obtain ⟨a,rfl⟩:∃ a,pre=[a]:=by
    match pre,aB with
    | [a],_=>exact ⟨a,rfl⟩
   exact ⟨[some (.str ⟨#[c]⟩,false)],rfl,rfl,rfl,zo rfl rfl (hp c)⟩
 exact zm (zc e rfl) a9a.1
noncomputable def ac7:List Str:=["box","lock","hand","own","end","set","wait","if","else","while","rounds","either","or","and","not","take","give","label","say","at","divides","true","false"]
noncomputable def nameB (x:Str):Bool:=decide (1<=(cs x).length)&&(decide ((cs x).length<=8)&&((cs x).headD 0 |> a03)&&(cs x).all Dp && !(ac7.contains x))
noncomputable def Vu (x:Str):Bool:=!(cs x).isEmpty&&(cs x).all Tz&&(decide (cs x=[48])||decide ((cs x).headD 48≠48))
theorem U3 {x:Str} (hx:okS x):∀ l:List Str,(∀ y∈l,okS y)->inL (.str x) (l.map T.str)=some (l.contains x)
 | [],_=>rfl
 | y::l,h=>by
  have hy:=h y List.mem_cons_self;have ih:=U3 hx l fun z hz=>h z (List.mem_cons_of_mem _ hz);have e:eqD (.str y) (.str x)=some (y==x):=by simp [eqD,Ce hx,Ce hy,PyData.depth,PyData.eqv]
  have c:(x==y)=(y==x):=by rw [Bool.eq_iff_iff,beq_iff_eq,beq_iff_eq]; exact eq_comm
  rw [List.map_cons,inL,e];dsimp only;rw [ih,List.contains_cons,c];rfl
theorem Km {x:Str} (hx:okS x) {l:List Str} (h:∀ y∈l,okS y):inT (.str x) (.tup (l.map T.str))=some (.bl (l.contains x)):=by
 unfold inT;dsimp only;rw [Ce hx];dsimp only [Option.isSome];rw [if_pos rfl,U3 hx l h];rfl
theorem Vm {x:Str} (hx:okS x) {l:List Str} (h:∀ y∈l,okS y):Mi (.str x) (.tup (l.map T.str))=some (.bl (!l.contains x)):=by
 unfold Mi; rw [Km hx h]
theorem a75:∀ y∈ac7,okS y:=by
 unfold ac7 okS
 decide +kernel
theorem len_str {x:Str} (h:Pn x):Ax [.str x]=some (.int ((cs x).length:Int)):=by
 show (if x.length<lim then some (T.int (x.length:Int)) else none)=_;rw [if_pos h.lt,Ab]
theorem zba {a b:M T} {s:Sta} {j k:Bool} (h1:a s=some (.bl j,s)) (h2:j=true->b s=some (.bl k,s)):yc (Ox (bw a) (bw b)) s=some (.bl (j&&k),s):=by
 unfold yc Ox;rw [zt h1];cases j with
 | true=>dsimp only; rw [zt (h2 rfl)]; rfl
 | false=>rfl
theorem aa5 {l:List Nat} {d:Nat} (h:0<l.length):l.headD d=l[0]:=by
 cases l with
 | nil=>cases h
 | cons a l=>rfl
theorem Wn {x:Str} (h:Pn x):Ai [.str x] sto=some (.bl (nameB x),sto):=by
 have hl:=h.lt;refine zrun (s1:=⟨[some (.str x,false)],sto⟩) (zr ?_) rfl
 have e1:Iv leT leT (ak (.int 1)) (gk Ax (ao (aq 0) d7)) (ak (.int 8)) ⟨[some (.str x,false)],sto⟩=some (.bl (decide (1<=(cs x).length)&&decide ((cs x).length<=8)),⟨[some (.str x,false)],sto⟩):=by
  unfold Iv ak;dsimp only;rw [show gk Ax (ao (aq 0) d7) ⟨[some (.str x,false)],sto⟩=some (.int ((cs x).length:Int),⟨[some (.str x,false)],sto⟩) from zm (zc rfl rfl) (len_str h)];dsimp only [leT]
  by_cases h1:1<=(cs x).length
  ·rw [decide_eq_true (show (1:Int)<=((cs x).length:Int) by omega),decide_eq_true h1];dsimp only;rw [Bool.true_and]
   by_cases h2:(cs x).length<=8
   ·rw [decide_eq_true (show ((cs x).length:Int)<=8 by omega),decide_eq_true h2]
   ·rw [decide_eq_false (show ¬ ((cs x).length:Int)<=8 by omega),decide_eq_false h2]
  ·rw [decide_eq_false (show ¬ (1:Int)<=((cs x).length:Int) by omega),decide_eq_false h1];rfl
 have e:nameB x=((decide (1<=(cs x).length)&&decide ((cs x).length<=8))&&(a03 ((cs x).headD 0)&&((cs x).all Dp && !(ac7.contains x)))):=by
  unfold nameB;simp only [Bool.and_assoc]
 rw [e];refine zba e1 fun g1=>?_
 have g2:0<(cs x).length:=by
  rw [Bool.and_eq_true,decide_eq_true_eq] at g1;omega
 refine zba ?_ fun _=>?_
 ·have i0:=item_at (k:=0) hl g2;rw [aa5 g2];exact zo (zo rfl rfl i0) rfl (abf _)
 ·refine zba (Mq h Wt) fun _=>?_;exact zo rfl rfl (Vm h.okS a75)
theorem W6 {x:Str} (h:Pn x):Bf [.str x] sto=some (.bl (Vu x),sto):=by
 have hl:=h.lt;have e0:eqO (.str x) (.str "")=some (.bl (x == "")):=Bs h.okS (by unfold okS; decide +kernel)
 have ee:(x==("" : Str))=(cs x).isEmpty:=by
  rw [Bool.eq_iff_iff,beq_iff_eq,List.isEmpty_iff];constructor
  ·intro z; rw [z]; rfl
  ·intro z; rw [<- Ux x,z]; rfl
 have ha:=Mq (sto:=sto) h ab2
 by_cases z:(!(cs x).isEmpty&&(cs x).all Tz)=true
 ·obtain ⟨z1,z2⟩:=(Bool.and_eq_true _ _).mp z;have dU:(cs x).isEmpty=false:=by simpa using z1
  have ne:cs x≠[]:=fun q=>by rw [q] at dU; cases dU
  have g2:0<(cs x).length:=List.length_pos_iff.mpr ne;have i0:=item_at (k:=0) hl g2;have q0:okS (⟨#[(cs x)[0]]⟩:Str):=Wf (h.1 _ (List.getElem_mem g2));have k0:okS ("0" : Str):=by unfold okS; decide +kernel
  have a1:=Bs h.okS k0;have a2:=Hv q0 k0
  have b1:(x==("0" : Str))=decide (cs x=[48]):=by
   rw [Bool.eq_iff_iff,beq_iff_eq,decide_eq_true_eq];constructor
   ·intro z; rw [z]; decide +kernel
   ·intro z; rw [<- Ux x,z]; decide +kernel
  have b2:(!((⟨#[(cs x)[0]]⟩:Str)==("0" : Str)))=decide ((cs x).headD 48≠48):=by
   rw [aa5 g2];have k:(("0" : Str))=⟨#[48]⟩:=by decide +kernel
   rw [k]
   by_cases y:(cs x)[0]=48
   ·rw [y]; decide +kernel
   ·have:((⟨#[(cs x)[0]]⟩:Str)==⟨#[48]⟩)=false:=beq_eq_false_iff_ne.mpr fun q=>y (by injection q with q; injection q with q; injection q);rw [this,decide_eq_true y]; rfl
  rw [z2] at ha;have r:Vu x=(decide (cs x=[48])||decide ((cs x).headD 48≠48)):=by unfold Vu; rw [z,Bool.true_and]
  rw [r,<- b1,<- b2];refine zrun (s1:=⟨[some (.str x,false)],sto⟩) (zq (ze (Qk (zt (zo rfl rfl (by rw [e0,ee,dU]))) (Yr (k:=true) (zt ha))) rfl) (zr (zb ?_))) rfl;cases y:(x==("0" : Str)) with
  | true=>exact aay (zt (zo rfl rfl (by rw [a1,y])))
  | false=>exact Qk (zt (zo rfl rfl (by rw [a1,y]))) (zt (zo (zo rfl rfl i0) rfl a2))
 ·have r:Vu x=false:=by unfold Vu; rw [Bool.eq_false_iff.mpr z,Bool.false_and]
  rw [r];refine zrun (s1:=⟨[some (.str x,false)],sto⟩) (zqr (zk ?_ (zr rfl))) rfl;cases y:(cs x).isEmpty with
  | true=>exact aay (zt (zo rfl rfl (by rw [e0,ee,y])))
  | false =>
   have:(cs x).all Tz=false:=by
    rw [y] at z;simpa using z
   rw [this] at ha;exact Qk (zt (zo rfl rfl (by rw [e0,ee,y]))) (Yr (k:=false) (zt ha))
end K
end
section
namespace K
open C PySem
variable {sto:List SO}
def U7 (l:List Nat) (k:Nat):Nat:=((l.drop k).takeWhile Dp).length
theorem a6y (l:List Nat) (k:Nat):k+U7 l k<=max k l.length:=by
 unfold U7;have h:=(List.takeWhile_prefix (p:=Dp) (l:=l.drop k)).length_le;rw [List.length_drop] at h;omega
theorem a6n {l:List Nat} {k:Nat} (h:k<l.length) (hw:Dp l[k]=false):U7 l k=0:=by
 unfold U7;rw [List.drop_eq_getElem_cons h,List.takeWhile_cons,hw]; rfl
theorem a1m {l:List Nat} {k:Nat} (h:k<l.length) (hw:Dp l[k]=true):U7 l k=U7 l (k+1)+1:=by
 unfold U7;rw [List.drop_eq_getElem_cons h,List.takeWhile_cons,hw]; rfl
abbrev weC:M Bool:=Ox (bw (mOp ltT (aq 1) (gk Ax (ao (aq 0) d7)))) (bw (mOp inS (mOp dg (aq 0) (aq 1)) (ak (.str "abcdefghijklmnopqrstuvwxyz0123456789"))))
abbrev weB:S:=j8 1 (mOp jm (aq 1) (ak (.int 1)))
abbrev weS (x:Str) (k:Nat) (sto:List SO):Sta:=⟨[some (.str x,false),some (.int (k:Int),false)],sto⟩
theorem aaf {x:Str} (h:Pn x) (k:Nat):bw (mOp ltT (aq 1) (gk Ax (ao (aq 0) d7))) (weS x k sto)=some (decide (k<(cs x).length),weS x k sto):=by
 refine zt (zo rfl (zm (zc rfl rfl) (len_str h)) ?_)
 by_cases z:k<(cs x).length
 ·rw [decide_eq_true z]; exact aea (by omega)
 ·rw [decide_eq_false z]; exact ace (by omega)
theorem Z2 {x:Str} (h:Pn x):∀ (n k:Nat),(cs x).length - k<n->k<=(cs x).length->Aj n weC weB (weS x k sto)=some (.next,weS x (k+U7 (cs x) k) sto)
 | 0,_,h0,_=>absurd h0 (by omega)
 | n+1,k,hn,hk=>by
  rw [Aj];dsimp only
  by_cases z:k<(cs x).length
  ·have c1:bw (mOp inS (mOp dg (aq 0) (aq 1)) (ak (.str "abcdefghijklmnopqrstuvwxyz0123456789"))) (weS x k sto)=some (Dp (cs x)[k],weS x k sto):=zt (zo (zo rfl rfl (item_at h.lt z)) rfl (Wt _))
   have c:weC (weS x k sto)=some (Dp (cs x)[k],weS x k sto):=by
    have:=afp (aaf h k) c1;rw [decide_eq_true z,Bool.true_and] at this;exact this
   rw [c];cases w:Dp (cs x)[k] with
   | true =>
    have b:weB (weS x k sto)=some (.next,weS x (k+1) sto):=rfl;dsimp only;rw [b];dsimp only;rw [Z2 h n (k+1) (by omega) (by omega),a1m z w];rw [Nat.add_assoc,Nat.add_comm 1]
   | false=>rw [a6n z w]; rfl
  ·have c:weC (weS x k sto)=some (false,weS x k sto):=by
    unfold weC Ox;rw [aaf h k,decide_eq_false z]
   rw [c]
   have:U7 (cs x) k=0:=by
    unfold U7;rw [List.drop_eq_nil_of_le (by omega)]; rfl
   rw [this]; rfl
theorem a1h {x:Str} (h:Pn x) {k:Nat} (hk:k<=(cs x).length):Cy [.str x,.int (k:Int)] sto=some (.int ((k+U7 (cs x) k:Nat):Int),sto) :=
 zrun (s1:=weS x (k+U7 (cs x) k) sto) (zq (Z2 h 1000 k (by have:=h.2; omega) hk) (zr rfl)) rfl
noncomputable def pieceAt:List Nat->Option (List Nat)
 | []=>none
 | c::r=>if Dp c then some ((c::r).takeWhile Dp) else if (c=60\/c=62)/\r.head? = some 61 then some [c,61] else if c∈[32,43,45,42,60,62,61,91,93,44] then some [c] else none
theorem Qt {x:Str} {a b:Nat} (ha:a<=b) (hb:b<=(cs x).length):Uy x (some (a:Int)) (some (b:Int))=st (((cs x).drop a).take (b - a)):=by
 have e:x.length=(cs x).length:=Ab x;have i1:HT.sIx x.length 0 (some (a:Int))=a:=by simp only [HT.sIx]; rw [if_neg (by omega),e]; omega
 have i2:HT.sIx x.length x.length (some (b:Int))=b:=by simp only [HT.sIx]; rw [if_neg (by omega),e]; omega
 unfold Uy;rw [i1,i2]; rfl
theorem a2l {x:Str} {a b:Nat} (ha:a<=(cs x).length) (hb:(cs x).length<=b):Uy x (some (a:Int)) (some (b:Int))=st ((cs x).drop a):=by
 have e:x.length=(cs x).length:=Ab x;have i1:HT.sIx x.length 0 (some (a:Int))=a:=by simp only [HT.sIx]; rw [if_neg (by omega),e]; omega
 have i2:HT.sIx x.length x.length (some (b:Int))=(cs x).length:=by simp only [HT.sIx]; rw [if_neg (by omega),e]; omega
 unfold Uy;rw [i1,i2];exact congrArg st (List.take_of_length_le (by rw [List.length_drop]; exact Nat.le_refl _))
end K
end
section
namespace K
open C PySem
variable {sto:List SO}
abbrev paS (x:Str) (k:Nat) (row:Int) (sto:List SO):Sta:=⟨[some (.str x,false),some (.int (k:Int),false),some (.int row,false)],sto⟩
theorem a3i:∀ y∈(["<=",">="]:List Str),okS y:=by unfold okS; decide +kernel
theorem Zg:∀ y∈(["+","-","*","<",">","=","[","]",","]:List Str),okS y:=by unfold okS; decide +kernel
theorem Pn.sub {x:Str} (h:Pn x) {l:List Nat} (hs:∀ c∈l,c∈cs x) (hl:l.length<=(cs x).length):Pn (st l):=⟨fun c hc=>h.1 c (hs c hc),Nat.lt_of_le_of_lt hl h.2⟩
theorem a89 {c:Nat} {y:Str} {d:Nat} (hy:y=st [d]):((⟨#[c]⟩:Str)==y)=decide (c=d):=by
 subst hy
 by_cases e:c=d
 ·subst e; rw [decide_eq_true rfl]; exact beq_self_eq_true _
 ·rw [decide_eq_false e];exact beq_eq_false_iff_ne.mpr fun q=>e (by injection q with q; injection q with q; injection q)
theorem Zc {a b:List Nat}:st a=st b↔a=b:=⟨fun h=>by have:=congrArg cs h; exact this,fun h=>by rw [h]⟩
theorem a6e (c:Nat) (r:List Nat):(["<=",">="]:List Str).contains (st ((c::r).take 2))=decide ((c=60\/c=62)/\r.head? = some 61):=by
 have e1:("<=" : Str)=st [60,61]:=by decide +kernel
 have e2:(">=" : Str)=st [62,61]:=by decide +kernel
 rw [Bool.eq_iff_iff,List.contains_iff_mem,decide_eq_true_eq,List.mem_cons,List.mem_cons,e1,e2,Zc,Zc];cases r with
 | nil=>simp
 | cons d r=>simp [or_and_right]
theorem a1z (c:Nat):(["+","-","*","<",">","=","[","]",","]:List Str).contains (⟨#[c]⟩:Str)=decide (c∈[43,45,42,60,62,61,91,93,44]):=by
 have e:(["+","-","*","<",">","=","[","]",","]:List Str)=[43,45,42,60,62,61,91,93,44].map fun d=>st [d]:=by decide +kernel
 rw [e,Bool.eq_iff_iff,List.contains_iff_mem,decide_eq_true_eq,List.mem_map];constructor
 ·rintro ⟨d,hd,q⟩;injection q with q; injection q with q; injection q with q;subst q; exact hd
 ·exact fun h=>⟨c,h,rfl⟩
theorem a2g {x:Str} (h:Pn x) {k:Nat} (hk:k<(cs x).length) {row:Int} :
  zx [.str x,.int (k:Int),.int row] sto=some ((match pieceAt ((cs x).drop k) with | some w=>.inl (.str (st w)) | none=>.inr (.int row)),sto):=by
 have hd:(cs x).drop k=(cs x)[k]::(cs x).drop (k+1):=List.drop_eq_getElem_cons hk;have it:=item_at h.lt hk;have c1:bw (mOp inS (mOp dg (aq 0) (aq 1)) (ak (.str "abcdefghijklmnopqrstuvwxyz0123456789"))) (paS x k row sto)=some (Dp (cs x)[k],paS x k row sto):=zt (zo (zo rfl rfl it) rfl (Wt _));unfold pieceAt;rw [hd];dsimp only
 by_cases w:Dp (cs x)[k]=true
 ·rw [w] at c1;rw [if_pos w];have sl:=zsl (s:=paS x k row sto) (e:=dw Cy (ao (aq 0) (ao (aq 1) d7))) h.lt rfl rfl (zf0 (zc rfl (zc rfl rfl)) (a1h h (Nat.le_of_lt hk)))
  have e:Uy x (some (k:Int)) (some ((k+U7 (cs x) k:Nat):Int))=st (((cs x)[k]::(cs x).drop (k+1)).takeWhile Dp):=by
   rw [Qt (Nat.le_add_right _ _) (by have:=a6y (cs x) k; omega),<- hd,Nat.add_sub_cancel_left];unfold U7;exact congrArg st (List.prefix_iff_eq_take.mp (List.takeWhile_prefix _)).symm
  rw [e] at sl;exact Gk (s1:=paS x k row sto) (xqt (xl (zk c1 (zr sl)))) rfl
 have w':Dp (cs x)[k]=false:=Bool.eq_false_iff.mpr w;rw [w'] at c1;rw [if_neg w];have sl:=zsl (s:=paS x k row sto) (e:=mOp jm (aq 1) (ak (.int 2))) (y:=x) (i:=k) (j:=(k:Int)+2) h.lt rfl rfl rfl
 have e:Uy x (some (k:Int)) (some ((k:Int)+2))=st (((cs x)[k]::(cs x).drop (k+1)).take 2):=by
  rw [<- hd]
  by_cases z:k+2<=(cs x).length
  ·have:=Qt (x:=x) (a:=k) (b:=k+2) (by omega) z;rw [Nat.add_sub_cancel_left] at this;exact this
  ·have:=a2l (x:=x) (a:=k) (b:=k+2) (by omega) (by omega);rw [List.take_of_length_le (by rw [List.length_drop]; omega)];exact this
 rw [e] at sl;have eD:okS (st (((cs x)[k]::(cs x).drop (k+1)).take 2)):=(h.sub (l:=((cs x)[k]::(cs x).drop (k+1)).take 2) (fun c hc=>by rw [<- hd] at hc; exact List.mem_of_mem_drop (List.mem_of_mem_take hc)) (by rw [<- hd,List.length_take,List.length_drop]; omega)).okS;have c2:=Km eD a3i;rw [a6e] at c2;have t2:bw (mOp inT (Bg (aq 0) (Cw (aq 1)) (Cw (mOp jm (aq 1) (ak (.int 2))))) (ak (.tup [(.str "<="),(.str ">=")]))) (paS x k row sto)=some (decide (((cs x)[k]=60\/(cs x)[k]=62)/\((cs x).drop (k+1)).head? = some 61),paS x k row sto):=zt (zo sl rfl c2)
 by_cases l:((cs x)[k]=60\/(cs x)[k]=62)/\((cs x).drop (k+1)).head? = some 61
 ·rw [decide_eq_true l] at t2;rw [if_pos l]
  have e2:((cs x)[k]::(cs x).drop (k+1)).take 2=[(cs x)[k],61]:=by
   cases hr:(cs x).drop (k+1) with
   | nil=>rw [hr] at l; cases l.2
   | cons d r=>rw [hr] at l; injection l.2 with l2; rw [l2]; rfl
  rw [e2] at sl;exact Gk (s1:=paS x k row sto) (xq (xl (ze c1 rfl)) (xqt (xl (zk t2 (zr sl))))) rfl
 rw [decide_eq_false l] at t2;rw [if_neg l];have eP:okS (⟨#[(cs x)[k]]⟩:Str):=Wf (h.1 _ (List.getElem_mem hk));have e3:=Bs eP (show okS (" " : Str) by unfold okS; decide +kernel);rw [a89 (d:=32) (by decide +kernel)] at e3;have c3:=Km eP Zg;rw [a1z] at c3
 have t3:mOr (bw (mOp eqO (mOp dg (aq 0) (aq 1)) (ak (.str " ")))) (bw (mOp inT (mOp dg (aq 0) (aq 1)) (ak (.tup [(.str "+"),(.str "-"),(.str "*"),(.str "<"),(.str ">"),(.str "="),(.str "["),(.str "]"),(.str ",")])))) (paS x k row sto)=some (decide ((cs x)[k]∈[32,43,45,42,60,62,61,91,93,44]),paS x k row sto):=by
  have e:decide ((cs x)[k]∈[32,43,45,42,60,62,61,91,93,44])=(decide ((cs x)[k]=32)||decide ((cs x)[k]∈[43,45,42,60,62,61,91,93,44])):=by
   rw [Bool.eq_iff_iff,Bool.or_eq_true,decide_eq_true_eq,decide_eq_true_eq,decide_eq_true_eq,List.mem_cons]
  rw [e]
  by_cases y:(cs x)[k]=32
  ·rw [decide_eq_true y] at e3 ⊢;exact aay (zt (zo (zo rfl rfl it) rfl e3))
  ·rw [decide_eq_false y] at e3 ⊢;rw [Bool.false_or];exact Qk (zt (zo (zo rfl rfl it) rfl e3)) (zt (zo (zo rfl rfl it) rfl c3))
 by_cases m:(cs x)[k]∈[32,43,45,42,60,62,61,91,93,44]
 ·rw [decide_eq_true m] at t3;rw [if_pos m];exact Gk (s1:=paS x k row sto) (xq (xl (ze c1 rfl)) (xq (xl (ze t2 rfl)) (xqt (xl (zk t3 (zr (zo rfl rfl it))))))) rfl
 ·rw [decide_eq_false m] at t3;rw [if_neg m];exact Bq (s1:=paS x k row sto) (xq (xl (ze c1 rfl)) (xq (xl (ze t2 rfl)) (xq (xl (ze t3 rfl)) (xra rfl)))) rfl
end K
end
section
namespace K
open C PySem
variable {sto:List SO}
noncomputable def toks:Nat->List Nat->Option (List Str)
 | 0,_=>none
 | n+1,l=>if l=[] then some [] else match pieceAt l with
  | none=>none
  | some w=>(toks n (l.drop w.length)).map fun ts=>if w=[32] then ts else st w::ts
theorem T4 {l w:List Nat} (h:pieceAt l=some w):0<w.length/\w.length<=l.length/\∀ c∈w,c∈l:=by
 unfold pieceAt at h;split at h
 ·cases h
 ·rename_i c r;split at h
  ·rename_i hw;cases h;refine ⟨?_,(List.takeWhile_prefix _).length_le,fun d hd=>(List.takeWhile_prefix _).subset hd⟩;rw [List.takeWhile_cons,hw]; exact Nat.succ_pos _
  ·split at h
   ·rename_i hc;cases h;cases r with
    | nil=>cases hc.2
    | cons d r =>
     injection hc.2 with e;subst e;refine ⟨Nat.succ_pos _,by simp,fun x hx=>?_⟩;rcases List.mem_cons.mp hx with rfl | hx
     ·exact List.mem_cons_self
     ·rw [List.mem_singleton] at hx;subst hx;exact List.mem_cons_of_mem _ List.mem_cons_self
   ·split at h
    ·cases h;refine ⟨Nat.succ_pos _,by simp,fun x hx=>?_⟩;rw [List.mem_singleton] at hx;subst hx;exact List.mem_cons_self
    ·cases h
abbrev tkS (x:Str) (row:Int) (acc:List Str) (k:Nat) (p:C.Slot) (sto:List SO):Sta:=⟨[some (.str x,false),some (.int row,false),some (.lst (acc.map T.str),true),some (.int (k:Int),false),p],sto⟩
abbrev tkC:M Bool:=bw (mOp ltT (aq 3) (gk Ax (ao (aq 0) d7)))
abbrev tkB:SX:=Aa (Pj 4 (qz zx (ao (aq 0) (ao (aq 3) (ao (aq 1) d7)))))
 (Aa (lx (sIf (bw (mOp neO (aq 4) (ak (.str " "))))
 (u6 2 (aq 4))
 yd))
 (lx (j8 3 (mOp jm (aq 3) (gk Ax (ao (aq 4) d7))))))
theorem aft {x:Str} (h:Pn x) {row:Int} {acc:List Str} (k:Nat) {p:C.Slot}:tkC (tkS x row acc k p sto)=some (decide (k<(cs x).length),tkS x row acc k p sto):=by
 refine zt (zo rfl (zm (zc rfl rfl) (len_str h)) ?_)
 by_cases z:k<(cs x).length
 ·rw [decide_eq_true z]; exact aea (by omega)
 ·rw [decide_eq_false z]; exact ace (by omega)
theorem Qg {x:Str} (h:Pn x) {row:Int}:∀ (n k:Nat) (acc:List Str) (p:C.Slot),(cs x).length - k<n->k<=(cs x).length->acc.length<=k ->
  (∃ ts q,toks n ((cs x).drop k)=some ts/\nq n tkC tkB (tkS x row acc k p sto)=some (.inl .next,tkS x row (acc++ts) (cs x).length q sto)) \/
  (toks n ((cs x).drop k)=none/\∃ s',s'.sto=sto/\nq n tkC tkB (tkS x row acc k p sto)=some (.inr (.int row),s'))
 | 0,_,_,_,h0,_,_=>absurd h0 (by omega)
 | n+1,k,acc,p,hn,hk,ha=>by
  have hc:=aft (sto:=sto) h (row:=row) (acc:=acc) k (p:=p)
  by_cases z:k<(cs x).length
  ·rw [decide_eq_true z] at hc;have ne:(cs x).drop k≠[]:=fun e=>by have:=List.drop_eq_nil_iff.mp e; omega
   have pa:=a2g (sto:=sto) h z (row:=row);rw [toks,if_neg ne];cases hp:pieceAt ((cs x).drop k) with
   | none =>
    rw [hp] at pa;exact .inr ⟨rfl,_,rfl,wxr (s2:=tkS x row acc k p sto) hc (xqr (xsr (xmc (s1:=tkS x row acc k p sto) (zc rfl (zc rfl (zc rfl rfl))) pa)))⟩
   | some w =>
    rw [hp] at pa;dsimp only;obtain ⟨w1,w2,w3⟩:=T4 hp;rw [List.length_drop] at w2;have pw:Pn (st w):=h.sub (fun c hc=>List.mem_of_mem_drop (w3 c hc)) (by omega);have ne2:=Hv pw.okS (show okS (" " : Str) by unfold okS; decide +kernel);have fT:(" " : Str)=st [32]:=by decide +kernel
    have eb:((st w==(" " : Str)))=decide (w=[32]):=by
     rw [fT,Bool.eq_iff_iff,beq_iff_eq,decide_eq_true_eq,Zc]
    rw [eb] at ne2;have lw:Ax [.str (st w)]=some (.int (w.length:Int)):=len_str pw;have al:acc.length<lim:=by have:=h.2; show _<1000000; omega
    have fD:(acc.map T.str).length<lim:=by rw [List.length_map]; exact al
    have A:Pj 4 (qz zx (ao (aq 0) (ao (aq 3) (ao (aq 1) d7)))) (tkS x row acc k p sto)=some (.inl .next,tkS x row acc k (some (.str (st w),false)) sto):=xst (xmc (zc rfl (zc rfl (zc rfl rfl))) pa) rfl;have C':∀ ac:List Str,j8 3 (mOp jm (aq 3) (gk Ax (ao (aq 4) d7))) (tkS x row ac k (some (.str (st w),false)) sto)=some (.next,tkS x row ac (k+w.length) (some (.str (st w),false)) sto):=fun ac=>ys (zo rfl (zm (zc rfl rfl) lw) rfl) rfl;rw [List.drop_drop]
    by_cases b:w=[32]
    ·rw [decide_eq_true b] at ne2;have B:tkB (tkS x row acc k p sto)=some (.inl .next,tkS x row acc (k+w.length) (some (.str (st w),false)) sto):=xq A (xq (xl (ze (zt (zo rfl rfl ne2)) rfl)) (xl (C' acc)));rcases Qg h n (k+w.length) acc (some (.str (st w),false)) (by omega) (by omega) (by omega) with ⟨ts,q,g1,g2⟩ | ⟨g1,s',g2,g3⟩
     ·exact .inl ⟨ts,q,by rw [g1]; simp [b],wxt hc B g2⟩
     ·exact .inr ⟨by rw [g1]; rfl,s',g2,wxt hc B g3⟩
    ·rw [decide_eq_false b] at ne2;have D:u6 2 (aq 4) (tkS x row acc k (some (.str (st w),false)) sto)=some (.next,tkS x row (acc++[st w]) k (some (.str (st w),false)) sto):=za rfl rfl fD rfl (by unfold tkS ig; simp);have B:tkB (tkS x row acc k p sto)=some (.inl .next,tkS x row (acc++[st w]) (k+w.length) (some (.str (st w),false)) sto):=xq A (xq (xl (zk (zt (zo rfl rfl ne2)) D)) (xl (C' _)));rcases Qg h n (k+w.length) (acc++[st w]) (some (.str (st w),false)) (by omega) (by omega) (by rw [List.length_append,List.length_singleton]; omega) with ⟨ts,q,g1,g2⟩ | ⟨g1,s',g2,g3⟩
     ·rw [List.append_assoc] at g2;exact .inl ⟨st w::ts,q,by rw [g1]; simp [b],wxt hc B g2⟩
     ·exact .inr ⟨by rw [g1]; rfl,s',g2,wxt hc B g3⟩
  ·rw [decide_eq_false z] at hc;have e:k=(cs x).length:=by omega
   have d:(cs x).drop k=[]:=List.drop_eq_nil_of_le (by omega);rw [d];refine .inl ⟨[],p,by rw [toks,if_pos rfl],?_⟩;rw [List.append_nil,<- e];exact wxf hc
abbrev tsT (ts:List Str):T:=.lst (ts.map T.str)
theorem Mj {x:Str} (h:Pn x) {row:Int}:Bc [.str x,.int row] sto=some ((match toks 1000 (cs x) with | some ts=>.inl (tsT ts) | none=>.inr (.int row)),sto):=by
 have A:lx (sNew 2 (gk (fun l=>some (.lst l)) d7)) ⟨[some (.str x,false),some (.int row,false),none,none,none],sto⟩=some (.inl .next,⟨[some (.str x,false),some (.int row,false),some (.lst [],true),none,none],sto⟩):=rfl;have B:lx (j8 3 (ak (.int 0))) ⟨[some (.str x,false),some (.int row,false),some (.lst [],true),none,none],sto⟩=some (.inl .next,tkS x row [] 0 none sto):=rfl;rcases Qg (sto:=sto) h (row:=row) 1000 0 [] none (by have:=h.2; omega) (Nat.zero_le _) (Nat.le_refl _) with ⟨ts,q,g1,g2⟩ | ⟨g1,s',g2,g3⟩
 ·rw [List.drop_zero] at g1;rw [g1];rw [List.nil_append] at g2;exact Gk (xq A (xq B (xq g2 (xl (zr rfl))))) rfl
 ·rw [List.drop_zero] at g1;rw [g1];exact Bq (xq A (xq B (xqr g3))) g2
end K
end
section
namespace K
open C PySem
variable {cR cN:Nat} {st0:List SO}
abbrev f3 (a b c:T):List (Str × T):=[("tokens",a),("row",b),("spot",c)]
abbrev rdF (ts:List Str) (k:Nat):List (Str × T):=f3 (tsT ts) (.int 1) (.int (k:Int))
abbrev rdS (cR:Nat) (st0:List SO) (ts:List Str) (k:Nat):List SO:=st0++[.ins cR (rdF ts k)]
theorem Nt {fs:List (Str × T)}:M4 cR st0.length (st0++[.ins cR fs])=some fs:=by
 unfold M4;rw [List.getElem?_append_right (Nat.le_refl _),Nat.sub_self];exact if_pos rfl
theorem Xb {a b:SO}:(st0++[a]).set st0.length b=st0++[b]:=by
 rw [List.set_append_right _ _ (Nat.le_refl _),Nat.sub_self]; rfl
section
variable {s:Sta} {o:M T} {v:M T} {e:List C.Slot} {fs:List (Str × T)} {t:T} {f:Str}
theorem fld {s1:Sta} (h:o s=some (.obj st0.length,s1)) (hs:s1.sto=st0++[.ins cR fs]) (hf:fs.lookup f=some t):Dt cR f o s=some (t,s1):=by
 unfold Dt;rw [h]; dsimp only;rw [hs,Nt]; dsimp only;rw [hf]
theorem Ue {s1 s2:Sta} (hv:v s=some (t,s1)) (h:o s1=some (.obj st0.length,s2)) (hs:s2.sto=st0++[.ins cR fs]) (hl:fs.length<100):ug cR f o v s=some (.next,⟨s2.env,st0++[.ins cR (a0y f t fs)]⟩):=by
 unfold ug;rw [hv]; dsimp only;rw [h]; dsimp only;rw [hs,Nt]; dsimp only;rw [if_pos hl,Xb]
end
theorem a9e {a b c:T}:(f3 a b c).lookup ("tokens" : Str)=some a:=by rfl
theorem a3j {a b c:T}:(f3 a b c).lookup ("row" : Str)=some b:=by rfl
theorem U8 {a b c:T}:(f3 a b c).lookup ("spot" : Str)=some c:=by rfl
def see (ts:List Str) (k:Nat):Str:=ts.getD k ""
theorem meth {m:Str} {F:Fn} {o:M T} {a:M (List T)} {s s1 s2:Sta} {ts:List Str} {k:Nat} {us:List T} {t:T} {z:List SO} (h:o s=some (.obj st0.length,s1)) (hs:s1.sto=rdS cR st0 ts k) (ha:a s1=some (us,s2)) (hF:F (.obj st0.length::us) s2.sto=some (t,z)) (hm:∀ a b c:T,(f3 a b c).lookup m=none):ud cR m F o a s=some (t,⟨s2.env,z⟩):=by
 unfold ud;rw [h]; dsimp only;rw [hs,Nt]; dsimp only;rw [if_pos (hm _ _ _),ha]; dsimp only;rw [hF]
theorem a6i {m:Str} {F:FnX} {o:M T} {a:MXs} {s s1 s2:Sta} {ts:List Str} {k:Nat} {us:List T} {r:T ⊕ T} {z:List SO} (h:o s=some (.obj st0.length,s1)) (hs:s1.sto=rdS cR st0 ts k) (ha:a s1=some (.inl us,s2)) (hF:F (.obj st0.length::us) s2.sto=some (r,z)) (hm:∀ a b c:T,(f3 a b c).lookup m=none):wu cR m F o a s=some (r,⟨s2.env,z⟩):=by
 unfold wu;rw [h]; dsimp only;rw [hs,Nt]; dsimp only;rw [if_pos (hm _ _ _),ha]; dsimp only;rw [hF]
theorem Td:∀ a b c:T,(f3 a b c).lookup ("seen" : Str)=none:=fun _ _ _=>rfl
theorem a4a:∀ a b c:T,(f3 a b c).lookup ("took" : Str)=none:=fun _ _ _=>rfl
theorem ae9:∀ a b c:T,(f3 a b c).lookup ("next_token" : Str)=none:=fun _ _ _=>rfl
theorem afq:∀ a b c:T,(f3 a b c).lookup ("next_name" : Str)=none:=fun _ _ _=>rfl
theorem afm:∀ a b c:T,(f3 a b c).lookup ("next_number" : Str)=none:=fun _ _ _=>rfl
theorem afx:∀ a b c:T,(f3 a b c).lookup ("need_end" : Str)=none:=fun _ _ _=>rfl
theorem seen {ts:List Str} {k:Nat} (hl:ts.length<1000):jc cR cN [.obj st0.length,.int 0] (rdS cR st0 ts k)=some (.str (see ts k),rdS cR st0 ts k):=by
 have a1:Dt cR "spot" (aq 0) ⟨[some (.obj st0.length,false),some (.int 0,false)],rdS cR st0 ts k⟩=some (.int (k:Int),⟨[some (.obj st0.length,false),some (.int 0,false)],rdS cR st0 ts k⟩):=fld rfl rfl U8;have a2:Dt cR "tokens" (aq 0) ⟨[some (.obj st0.length,false),some (.int 0,false)],rdS cR st0 ts k⟩=some (tsT ts,⟨[some (.obj st0.length,false),some (.int 0,false)],rdS cR st0 ts k⟩):=fld rfl rfl a9e;have a3:=zo (f:=jm) a1 (show aq 1 ⟨[some (.obj st0.length,false),some (.int 0,false)],rdS cR st0 ts k⟩=some (.int 0,⟨[some (.obj st0.length,false),some (.int 0,false)],rdS cR st0 ts k⟩) from rfl) (show jm (.int (k:Int)) (.int 0)=some (.int (k:Int)) by show some (T.int ((k:Int)+0))=_; rw [Int.add_zero]);have a4:gk Ax (ao (Dt cR "tokens" (aq 0)) d7) ⟨[some (.obj st0.length,false),some (.int 0,false)],rdS cR st0 ts k⟩=some (.int (ts.length:Int),⟨[some (.obj st0.length,false),some (.int 0,false)],rdS cR st0 ts k⟩):=zm (zc a2 rfl) aec
 by_cases z:k<ts.length
 ·have e:see ts k=ts[k]:=by unfold see; rw [List.getD_eq_getElem?_getD,List.getElem?_eq_getElem z]; rfl
  rw [e]
  have c:bw (mOp geT (mOp jm (Dt cR "spot" (aq 0)) (aq 1)) (gk Ax (ao (Dt cR "tokens" (aq 0)) d7))) ⟨[some (.obj st0.length,false),some (.int 0,false)],rdS cR st0 ts k⟩=some (false,⟨[some (.obj st0.length,false),some (.int 0,false)],rdS cR st0 ts k⟩) :=
   zt (zo a3 a4 (by show some (T.bl (decide ((ts.length:Int)<=(k:Int))))=_; rw [decide_eq_false (by omega)]))
  exact zrun (zq (ze c rfl) (zr (zo a2 a3 (T8 T.str ts z)))) rfl
 ·have e:see ts k = "" := by unfold see; rw [List.getD_eq_getElem?_getD,List.getElem?_eq_none_iff.mpr (by omega)]; rfl
  rw [e]
  have c:bw (mOp geT (mOp jm (Dt cR "spot" (aq 0)) (aq 1)) (gk Ax (ao (Dt cR "tokens" (aq 0)) d7))) ⟨[some (.obj st0.length,false),some (.int 0,false)],rdS cR st0 ts k⟩=some (true,⟨[some (.obj st0.length,false),some (.int 0,false)],rdS cR st0 ts k⟩) :=
   zt (zo a3 a4 (by show some (T.bl (decide ((ts.length:Int)<=(k:Int))))=_; rw [decide_eq_true (by omega)]))
  exact zrun (zqr (zk c (zr rfl))) rfl
end K
end
section
namespace K
open C PySem PySem.W PySem.NumText
variable {cR cN:Nat} {st0:List SO} {ts:List Str} {k:Nat}
def Pts (ts:List Str):Prop:=ts.length<1000/\∀ t∈ts,Pn t
theorem Tj:Pn ("" : Str):=⟨fun c h=>absurd h (show ¬ c∈([]:List Nat) from List.not_mem_nil),show (0:Nat)<1000 by decide⟩
theorem Pts.see (h:Pts ts) (k:Nat):Pn (see ts k):=by
 unfold K.see
 by_cases z:k<ts.length
 ·rw [List.getD_eq_getElem?_getD,List.getElem?_eq_getElem z]; exact h.2 _ (List.getElem_mem z)
 ·rw [List.getD_eq_getElem?_getD,List.getElem?_eq_none_iff.mpr (by omega)]; exact Tj
theorem G8 (h:Pts ts):fj cR cN [.obj st0.length] (rdS cR st0 ts k)=some (.str (see ts k),rdS cR st0 ts (k+1)):=by
 have A:j8 1 (ud cR "seen" (jc cR cN) (aq 0) (ao (ak (.int 0)) d7)) ⟨[some (.obj st0.length,false),none],rdS cR st0 ts k⟩=some (.next,⟨[some (.obj st0.length,false),some (.str (see ts k),false)],rdS cR st0 ts k⟩) :=
  ys (meth (s1:=⟨[some (.obj st0.length,false),none],rdS cR st0 ts k⟩) (s2:=⟨[some (.obj st0.length,false),none],rdS cR st0 ts k⟩) rfl rfl rfl (seen h.1) Td) rfl
 have B:ug cR "spot" (aq 0) (mOp jm (Dt cR "spot" (aq 0)) (ak (.int 1))) ⟨[some (.obj st0.length,false),some (.str (see ts k),false)],rdS cR st0 ts k⟩=some (.next,⟨[some (.obj st0.length,false),some (.str (see ts k),false)],rdS cR st0 ts (k+1)⟩) :=
  Ue (s1:=⟨[some (.obj st0.length,false),some (.str (see ts k),false)],rdS cR st0 ts k⟩) (s2:=⟨[some (.obj st0.length,false),some (.str (see ts k),false)],rdS cR st0 ts k⟩) (t:=.int ((k+1:Nat):Int)) (zo (fld rfl rfl U8) rfl rfl) rfl rfl (show 3<100 by decide)
 exact zrun (zq A (zq B (zr rfl))) rfl
theorem took {x:Str} (h:Pts ts) (hx:okS x):jw cR cN [.obj st0.length,.str x] (rdS cR st0 ts k)=some (.bl (see ts k==x),rdS cR st0 ts (if (see ts k==x)=true then k+1 else k)):=by
 have A:bw (mOp neO (ud cR "seen" (jc cR cN) (aq 0) (ao (ak (.int 0)) d7)) (aq 1)) ⟨[some (.obj st0.length,false),some (.str x,false)],rdS cR st0 ts k⟩=some (!(see ts k==x),⟨[some (.obj st0.length,false),some (.str x,false)],rdS cR st0 ts k⟩) :=
  zt (zo (meth (s1:=⟨[some (.obj st0.length,false),some (.str x,false)],rdS cR st0 ts k⟩) (s2:=⟨[some (.obj st0.length,false),some (.str x,false)],rdS cR st0 ts k⟩) rfl rfl rfl (seen h.1) Td) rfl (Hv (h.see k).okS hx))
 have B:ug cR "spot" (aq 0) (mOp jm (Dt cR "spot" (aq 0)) (ak (.int 1))) ⟨[some (.obj st0.length,false),some (.str x,false)],rdS cR st0 ts k⟩=some (.next,⟨[some (.obj st0.length,false),some (.str x,false)],rdS cR st0 ts (k+1)⟩) :=
  Ue (s1:=⟨[some (.obj st0.length,false),some (.str x,false)],rdS cR st0 ts k⟩) (s2:=⟨[some (.obj st0.length,false),some (.str x,false)],rdS cR st0 ts k⟩) (t:=.int ((k+1:Nat):Int)) (zo (fld rfl rfl U8) rfl rfl) rfl rfl (show 3<100 by decide)
 cases e:(see ts k==x) with
 | true =>
  rw [e] at A;exact zrun (zq (ze A rfl) (zq B (zr rfl))) rfl
 | false =>
  rw [e] at A;exact zrun (zqr (zk A (zr rfl))) rfl
theorem Wd (h:Pts ts):jx cR cN [.obj st0.length] (rdS cR st0 ts k)=some (if nameB (see ts k)=true then .inl (.str (see ts k)) else .inr (.int 1),rdS cR st0 ts (k+1)):=by
 have A:lx (j8 1 (ud cR "next_token" (fj cR cN) (aq 0) d7)) ⟨[some (.obj st0.length,false),none],rdS cR st0 ts k⟩=some (.inl .next,⟨[some (.obj st0.length,false),some (.str (see ts k),false)],rdS cR st0 ts (k+1)⟩) :=
  xl (ys (meth (s1:=⟨[some (.obj st0.length,false),none],rdS cR st0 ts k⟩) (s2:=⟨[some (.obj st0.length,false),none],rdS cR st0 ts k⟩) rfl rfl rfl (G8 h) ae9) rfl)
 have B:Gi (bw (dw Ai (ao (aq 1) d7))) ⟨[some (.obj st0.length,false),some (.str (see ts k),false)],rdS cR st0 ts (k+1)⟩=some (!nameB (see ts k),⟨[some (.obj st0.length,false),some (.str (see ts k),false)],rdS cR st0 ts (k+1)⟩) :=
  Yr (zt (zf0 (zc rfl rfl) (Wn (h.see k))))
 cases e:nameB (see ts k) with
 | true =>
  rw [e] at B;rw [if_pos rfl];exact Gk (xq A (xq (xie B (xl rfl)) (xl (zr rfl)))) rfl
 | false =>
  rw [e] at B;rw [if_neg (by decide)];exact Bq (xq A (xqr (xik B (xra (fld rfl rfl a3j))))) rfl
def val (x:Str):Nat:=digitsVal (cs x)
def Dw (x:Str):Bool:=Vu x&&decide ((cs x).length<=9)&&decide (val x<=999999999)
theorem a7a {x:Str} (h:Vu x=true) (hl:(cs x).length<=9):aby [.str x]=some (.int (val x:Int)):=by
 unfold Vu at h;simp only [Bool.and_eq_true,Bool.not_eq_true',List.isEmpty_eq_false_iff,List.all_eq_true] at h;obtain ⟨⟨h1,h2⟩,_⟩:=h
 have hd:AllDigits (cs x):=fun c hc=>by
  have:=h2 c hc;simp only [Tz,Bool.and_eq_true,decide_eq_true_eq] at this;exact this
 unfold aby;dsimp only;rw [if_pos (by rw [Ab]; omega),intText_digits hd h1 (by rw [Ab]; omega)];rfl
theorem Y0:Pa [.int 999999999]=some (.str (Str.ofString (toString (999999999:Int)))):=by
 show (if xg 999999999=true then some (T.str (Str.ofString (toString (999999999:Int)))) else none)=_;rw [if_pos (by decide)]
theorem Zx:Ax [.str (Str.ofString (toString (999999999:Int)))]=some (.int 9):=by
 have e:(Str.ofString (toString (999999999:Int))).length=9:=by decide +kernel
 show (if (Str.ofString (toString (999999999:Int))).length<lim then some (T.int ((Str.ofString (toString (999999999:Int))).length:Int)) else none)=_;rw [e]; rfl
theorem Qz (h:Pts ts):j4 cR cN [.obj st0.length,.int 0,.int 999999999] (rdS cR st0 ts k)=some (if Dw (see ts k)=true then .inl (.int (val (see ts k):Int)) else .inr (.int 1),rdS cR st0 ts (k+1)):=by
 have hp:=h.see k
 have A:lx (j8 3 (ud cR "next_token" (fj cR cN) (aq 0) d7)) ⟨[some (.obj st0.length,false),some (.int 0,false),some (.int 999999999,false),none,none],rdS cR st0 ts k⟩=some (.inl .next,⟨[some (.obj st0.length,false),some (.int 0,false),some (.int 999999999,false),some (.str (see ts k),false),none],rdS cR st0 ts (k+1)⟩) :=
  xl (ys (meth (s1:=⟨[some (.obj st0.length,false),some (.int 0,false),some (.int 999999999,false),none,none],rdS cR st0 ts k⟩) (s2:=⟨[some (.obj st0.length,false),some (.int 0,false),some (.int 999999999,false),none,none],rdS cR st0 ts k⟩) rfl rfl rfl (G8 h) ae9) rfl)
 have B1:Gi (bw (dw Bf (ao (aq 3) d7))) ⟨[some (.obj st0.length,false),some (.int 0,false),some (.int 999999999,false),some (.str (see ts k),false),none],rdS cR st0 ts (k+1)⟩=some (!Vu (see ts k),⟨[some (.obj st0.length,false),some (.int 0,false),some (.int 999999999,false),some (.str (see ts k),false),none],rdS cR st0 ts (k+1)⟩) :=
  Yr (zt (zf0 (zc rfl rfl) (W6 hp)))
 have B2:bw (mOp gtT (gk Ax (ao (aq 3) d7)) (gk Ax (ao (gk Pa (ao (aq 2) d7)) d7))) ⟨[some (.obj st0.length,false),some (.int 0,false),some (.int 999999999,false),some (.str (see ts k),false),none],rdS cR st0 ts (k+1)⟩=some (decide (9<(cs (see ts k)).length),⟨[some (.obj st0.length,false),some (.int 0,false),some (.int 999999999,false),some (.str (see ts k),false),none],rdS cR st0 ts (k+1)⟩):=by
  refine zt (zo (zm (zc rfl rfl) (len_str hp)) (zm (zc (zm (zc rfl rfl) Y0) rfl) Zx) ?_);show some (T.bl (decide ((9:Int)<((cs (see ts k)).length:Int))))=_
  by_cases z:9<(cs (see ts k)).length
  ·rw [decide_eq_true z,decide_eq_true (by omega)]
  ·rw [decide_eq_false z,decide_eq_false (by omega)]
 have R:∀ (e:List C.Slot),Dt cR "row" (aq 0) ⟨some (.obj st0.length,false)::e,rdS cR st0 ts (k+1)⟩=some (.int 1,⟨some (.obj st0.length,false)::e,rdS cR st0 ts (k+1)⟩):=fun e=>fld rfl rfl a3j;cases e1:Vu (see ts k) with
 | false =>
  rw [e1] at B1;have n:Dw (see ts k)=false:=by unfold Dw; rw [e1]; rfl
  rw [n,if_neg (by decide)];exact Bq (xq A (xqr (xik (aay B1) (xra (R _))))) rfl
 | true =>
  rw [e1] at B1
  by_cases z:9<(cs (see ts k)).length
  ·rw [decide_eq_true z] at B2;have n:Dw (see ts k)=false:=by unfold Dw; rw [decide_eq_false (show ¬ (cs (see ts k)).length<=9 by omega)]; simp
   rw [n,if_neg (by decide)];exact Bq (xq A (xqr (xik (Qk B1 B2) (xra (R _))))) rfl
  ·rw [decide_eq_false z] at B2;have iv:=a7a e1 (by omega)
   have C':lx (j8 4 (gk aby (ao (aq 3) d7))) ⟨[some (.obj st0.length,false),some (.int 0,false),some (.int 999999999,false),some (.str (see ts k),false),none],rdS cR st0 ts (k+1)⟩=some (.inl .next,⟨[some (.obj st0.length,false),some (.int 0,false),some (.int 999999999,false),some (.str (see ts k),false),some (.int (val (see ts k):Int),false)],rdS cR st0 ts (k+1)⟩) :=
    xl (ys (zm (zc rfl rfl) iv) rfl)
   have D1:bw (mOp ltT (aq 4) (aq 1)) ⟨[some (.obj st0.length,false),some (.int 0,false),some (.int 999999999,false),some (.str (see ts k),false),some (.int (val (see ts k):Int),false)],rdS cR st0 ts (k+1)⟩=some (false,⟨[some (.obj st0.length,false),some (.int 0,false),some (.int 999999999,false),some (.str (see ts k),false),some (.int (val (see ts k):Int),false)],rdS cR st0 ts (k+1)⟩) :=
    zt (zo rfl rfl (ace (by omega)))
   have D2:bw (mOp gtT (aq 4) (aq 2)) ⟨[some (.obj st0.length,false),some (.int 0,false),some (.int 999999999,false),some (.str (see ts k),false),some (.int (val (see ts k):Int),false)],rdS cR st0 ts (k+1)⟩=some (!decide (val (see ts k)<=999999999),⟨[some (.obj st0.length,false),some (.int 0,false),some (.int 999999999,false),some (.str (see ts k),false),some (.int (val (see ts k):Int),false)],rdS cR st0 ts (k+1)⟩):=by
    refine zt (zo rfl rfl ?_);show some (T.bl (decide ((999999999:Int)<(val (see ts k):Int))))=_
    by_cases y:val (see ts k)<=999999999
    ·rw [decide_eq_true y,decide_eq_false (by omega)]; rfl
    ·rw [decide_eq_false y,decide_eq_true (by omega)]; rfl
   by_cases y:val (see ts k)<=999999999
   ·rw [decide_eq_true y] at D2;have n:Dw (see ts k)=true:=by unfold Dw; rw [e1,decide_eq_true y,decide_eq_true (show (cs (see ts k)).length<=9 by omega)]; rfl
    rw [n,if_pos rfl];exact Gk (xq A (xq (xie (Qk B1 B2) (xl rfl)) (xq C' (xq (xie (Qk D1 D2) (xl rfl)) (xl (zr rfl)))))) rfl
   ·rw [decide_eq_false y] at D2;have n:Dw (see ts k)=false:=by unfold Dw; rw [decide_eq_false y]; simp
    rw [n,if_neg (by decide)];exact Bq (xq A (xq (xie (Qk B1 B2) (xl rfl)) (xq C' (xqr (xik (Qk D1 D2) (xra (R _))))))) rfl
end K
end
section
namespace K
open C PySem
variable {cR cN:Nat} {st0:List SO} {ts:List Str} {k:Nat}
def pT (p:Str × Int):T:=.tup [.str p.1,.int p.2]
noncomputable def Bk (ts:List Str) (k:Nat) (sg:Int):Option ((Str × Int) × Nat) :=
 if nameB (see ts k)=true then some ((see ts k,sg),k+1)
 else if Dw (see ts k)=true then
  if (see ts (k+1)==("*" : Str))=true then
   if nameB (see ts (k+2))=true then some ((see ts (k+2),sg * (val (see ts k):Int)),k+3) else none
  else some (("",sg * (val (see ts k):Int)),k+1)
 else none
def Ans (F:Option ((T ⊕ T) × List SO)) (cR:Nat) (st0:List SO) (ts:List Str) (o:Option (T × Nat)):Prop :=
 (∃ t j,o=some (t,j)/\F=some (.inl t,rdS cR st0 ts j))\/(o=none/\∃ j,F=some (.inr (.int 1),rdS cR st0 ts j))
theorem a7c:okS ("*" : Str):=by unfold okS; decide +kernel
theorem a5u (h:Pts ts) {sg:Int} (hs:xg sg=true):Ans (m6 cR cN [.obj st0.length,.int sg] (rdS cR st0 ts k)) cR st0 ts ((Bk ts k sg).map fun q=>(pT q.1,q.2)):=by
 have A:bw (dw Ai (ao (ud cR "seen" (jc cR cN) (aq 0) (ao (ak (.int 0)) d7)) d7)) ⟨[some (.obj st0.length,false),some (.int sg,false),none],rdS cR st0 ts k⟩=some (nameB (see ts k),⟨[some (.obj st0.length,false),some (.int sg,false),none],rdS cR st0 ts k⟩) :=
  zt (zf0 (s1:=⟨[some (.obj st0.length,false),some (.int sg,false),none],rdS cR st0 ts k⟩) (zc (meth (s1:=⟨[some (.obj st0.length,false),some (.int sg,false),none],rdS cR st0 ts k⟩) (s2:=⟨[some (.obj st0.length,false),some (.int sg,false),none],rdS cR st0 ts k⟩) rfl rfl rfl (seen h.1) Td) rfl) (Wn (h.see k)))
 have N:∀ (j:Nat) (o:C.Slot),wu cR "next_name" (jx cR cN) (aq 0) Bo ⟨[some (.obj st0.length,false),some (.int sg,false),o],rdS cR st0 ts j⟩=some (if nameB (see ts j)=true then .inl (.str (see ts j)) else .inr (.int 1),⟨[some (.obj st0.length,false),some (.int sg,false),o],rdS cR st0 ts (j+1)⟩):=fun j o =>
  a6i (s1:=⟨[some (.obj st0.length,false),some (.int sg,false),o],rdS cR st0 ts j⟩) (s2:=⟨[some (.obj st0.length,false),some (.int sg,false),o],rdS cR st0 ts j⟩) rfl rfl rfl (Wd h) afq
 have U:wu cR "next_number" (j4 cR cN) (aq 0) (m7 (K9 (ak (.int 0))) (m7 (K9 (ak (.int 999999999))) Bo)) ⟨[some (.obj st0.length,false),some (.int sg,false),none],rdS cR st0 ts k⟩=some (if Dw (see ts k)=true then .inl (.int (val (see ts k):Int)) else .inr (.int 1),⟨[some (.obj st0.length,false),some (.int sg,false),none],rdS cR st0 ts (k+1)⟩) :=
  a6i (s1:=⟨[some (.obj st0.length,false),some (.int sg,false),none],rdS cR st0 ts k⟩) (s2:=⟨[some (.obj st0.length,false),some (.int sg,false),none],rdS cR st0 ts k⟩) rfl rfl rfl (Qz h) afm
 unfold Bk;cases e1:nameB (see ts k) with
 | true =>
  rw [e1] at A;have N1:=N k none;rw [e1,if_pos rfl] at N1;refine .inl ⟨_,_,rfl,?_⟩;exact Gk (s1:=⟨[some (.obj st0.length,false),some (.int sg,false),none],rdS cR st0 ts (k+1)⟩) (xqt (xik A (xrt (xtu (xcs N1 (xcs (xup rfl) rfl)))))) rfl
 | false =>
  rw [e1] at A;rw [if_neg (show ¬ false=true by decide)];cases e2:Dw (see ts k) with
  | false =>
   rw [e2,if_neg (by decide)] at U;refine .inr ⟨rfl,k+1,?_⟩
   have O:a1c yg (K9 (aq 1)) (wu cR "next_number" (j4 cR cN) (aq 0) (m7 (K9 (ak (.int 0))) (m7 (K9 (ak (.int 999999999))) Bo))) ⟨[some (.obj st0.length,false),some (.int sg,false),none],rdS cR st0 ts k⟩=some (.inr (.int 1),⟨[some (.obj st0.length,false),some (.int sg,false),none],rdS cR st0 ts (k+1)⟩):=by
    unfold a1c;rw [xup (t:=.int sg) (s1:=⟨[some (.obj st0.length,false),some (.int sg,false),none],rdS cR st0 ts k⟩) rfl];dsimp only;rw [U]
   exact Bq (xq (xie A (xl rfl)) (xqr (xsr O))) rfl
  | true =>
   rw [e2,if_pos rfl] at U;rw [if_pos rfl]
   have O:a1c yg (K9 (aq 1)) (wu cR "next_number" (j4 cR cN) (aq 0) (m7 (K9 (ak (.int 0))) (m7 (K9 (ak (.int 999999999))) Bo))) ⟨[some (.obj st0.length,false),some (.int sg,false),none],rdS cR st0 ts k⟩=some (.inl (.int (sg * (val (see ts k):Int))),⟨[some (.obj st0.length,false),some (.int sg,false),none],rdS cR st0 ts (k+1)⟩):=by
    unfold a1c;rw [xup (t:=.int sg) (s1:=⟨[some (.obj st0.length,false),some (.int sg,false),none],rdS cR st0 ts k⟩) rfl];dsimp only;rw [U];dsimp only;rw [mu hs]
   generalize sg * (val (see ts k):Int)=m at O ⊢;have S:Pj 2 (a1c yg (K9 (aq 1)) (wu cR "next_number" (j4 cR cN) (aq 0) (m7 (K9 (ak (.int 0))) (m7 (K9 (ak (.int 999999999))) Bo)))) ⟨[some (.obj st0.length,false),some (.int sg,false),none],rdS cR st0 ts k⟩=some (.inl .next,⟨[some (.obj st0.length,false),some (.int sg,false),some (.int m,false)],rdS cR st0 ts (k+1)⟩):=xst O rfl;have T1:=took (cR:=cR) (cN:=cN) (st0:=st0) (k:=k+1) h a7c
   have W:bw (ud cR "took" (jw cR cN) (aq 0) (ao (ak (.str "*")) d7)) ⟨[some (.obj st0.length,false),some (.int sg,false),some (.int m,false)],rdS cR st0 ts (k+1)⟩=some (see ts (k+1) == "*",⟨[some (.obj st0.length,false),some (.int sg,false),some (.int m,false)],rdS cR st0 ts (if (see ts (k+1) == "*")=true then k+1+1 else k+1)⟩) :=
    zt (meth (s1:=⟨[some (.obj st0.length,false),some (.int sg,false),some (.int m,false)],rdS cR st0 ts (k+1)⟩) (s2:=⟨[some (.obj st0.length,false),some (.int sg,false),some (.int m,false)],rdS cR st0 ts (k+1)⟩) rfl rfl rfl T1 a4a)
   cases e3:(see ts (k+1)==("*" : Str)) with
   | false =>
    rw [e3,if_neg (by decide)] at W;rw [if_neg (show ¬ false=true by decide)];refine .inl ⟨_,_,rfl,?_⟩;exact Gk (s1:=⟨[some (.obj st0.length,false),some (.int sg,false),some (.int m,false)],rdS cR st0 ts (k+1)⟩) (xq (xie A (xl rfl)) (xq S (xq (xie W (xl rfl)) (xl (zr rfl))))) rfl
   | true =>
    rw [e3,if_pos rfl] at W;rw [if_pos rfl];have N2:=N (k+2) (some (.int m,false));cases e4:nameB (see ts (k+2)) with
    | true =>
     rw [e4,if_pos rfl] at N2;rw [if_pos rfl];refine .inl ⟨_,_,rfl,?_⟩;exact Gk (s1:=⟨[some (.obj st0.length,false),some (.int sg,false),some (.int m,false)],rdS cR st0 ts (k+2+1)⟩) (xq (xie A (xl rfl)) (xq S (xqt (xik W (xrt (xtu (xcs N2 (xcs (xup rfl) rfl)))))))) rfl
    | false =>
     rw [e4,if_neg (by decide)] at N2;rw [if_neg (show ¬ false=true by decide)];refine .inr ⟨rfl,k+2+1,?_⟩;exact Bq (xq (xie A (xl rfl)) (xq S (xqr (xik W (xrr (xtr (ael N2))))))) rfl
end K
end
section
namespace K
open C PySem
abbrev Sm:=Int × List (Str × Int)
def smT (s:Sm):T:=.tup [.int s.1,.tup (s.2.map pT)]
theorem Es {x y:Str}:∀ {l:List Str},y∈Ei x l->y=x\/y∈l
 | [],h=>by simp [Ei] at h; exact .inl h
 | z::l,h=>by
  unfold Ei at h;split at h
  ·rcases List.mem_cons.mp h with rfl | h
   ·exact .inl rfl
   ·exact .inr h
  ·rcases List.mem_cons.mp h with rfl | h
   ·exact .inr List.mem_cons_self
   ·rcases Es h with h | h
    ·exact .inl h
    ·exact .inr (List.mem_cons_of_mem _ h)
theorem Sh {x:Str}:∀ {l:List Str},(Ei x l).length=l.length+1
 | []=>rfl
 | z::l=>by unfold Ei; split <;> simp [Sh]
theorem wj (l:List Str):∀ acc:List Str,(∀ y∈l.foldl (fun acc x=>Ei x acc) acc,y∈l\/y∈acc)/\(l.foldl (fun acc x=>Ei x acc) acc).length=l.length+acc.length:=by
 induction l with
 | nil=>intro acc; exact ⟨fun y h=>.inr h,by simp⟩
 | cons x l ih =>
  intro acc;obtain ⟨h1,h2⟩:=ih (Ei x acc);refine ⟨fun y hy=>?_,by rw [List.foldl_cons,h2,Sh,List.length_cons]; omega⟩;rcases h1 y hy with h | h
  ·exact .inl (List.mem_cons_of_mem _ h)
  ·rcases Es h with rfl | h
   ·exact .inl List.mem_cons_self
   ·exact .inr h
theorem Fd {l:List Str} {y:Str} (h:y∈n8 l):y∈l:=by
 rcases (wj l []).1 y h with h | h
 ·exact h
 ·cases h
theorem Cp {l:List Str}:(n8 l).length=l.length:=by have:=(wj l []).2; unfold n8; simpa using this
theorem strs_map:∀ l:List Str,Ga (l.map T.str)=some l
 | []=>rfl
 | x::l=>by simp [Ga,strs_map l]
theorem sorted_strs {l:List Str} (h:l.length<64):Bb [.lst (l.map T.str)]=some (.lst ((n8 l).map T.str)):=by
 simp [Bb,h,strs_map]
abbrev Pr:=Str × Int
def dd (d:List Pr):List (C.Key × T):=d.map fun p=>(.inr p.1,.int p.2)
def gt:List Pr->Str->Int
 | [],_=>0
 | (k,v)::r,b=>if k=b then v else gt r b
def ks (d:List Pr):List Str:=d.map (·.1)
noncomputable def pt (d:List Pr) (b:Str) (v:Int):List Pr:=if b∈ks d then d.map fun p=>if p.1=b then (p.1,v) else p else d++[(b,v)]
theorem Ks (b:Str):∀ d:List Pr,(Gj (.inr b) (dd d)).getD (.int 0)=.int (gt d b)
 | []=>rfl
 | (k,v)::r=>by
  have ih:=Ks b r;unfold dd at ih ⊢;simp only [List.map_cons,Gj,gt]
  by_cases h:k=b
  ·simp [h]
  ·rw [if_neg (by simpa using h),if_neg h,ih]
theorem M6 {b:Str}:∀ {d:List Pr},b∈ks d->Gj (.inr b) (dd d)=some (.int (gt d b))
 | [],h=>by simp [ks] at h
 | (k,v)::r,h=>by
  unfold dd;simp only [List.map_cons,Gj,gt]
  by_cases e:k=b
  ·simp [e]
  ·rw [if_neg (by simpa using e),if_neg e];simp only [ks,List.map_cons,List.mem_cons] at h;rcases h with h | h
   ·exact absurd h.symm e
   ·exact M6 (d:=r) h
theorem Zz {b:Str}:∀ {d:List Pr},b∉ks d->gt d b=0
 | [],_=>rfl
 | (k,v)::r,h=>by
  simp only [ks,List.map_cons,List.mem_cons,not_or] at h;rw [gt,if_neg (fun e=>h.1 e.symm)];exact Zz (d:=r) h.2
theorem R7 (b:Str) (v:Int) (d:List Pr):Vt (.inr b) (.int v) (dd d)=dd (pt d b v):=by
 have any:((dd d).any fun p=>decide (p.1=Sum.inr b))=decide (b∈ks d):=by
  rw [Bool.eq_iff_iff];simp only [List.any_eq_true,decide_eq_true_eq,dd,ks,List.mem_map];constructor
  ·rintro ⟨x,⟨p,hp,rfl⟩,h⟩;simp only [Sum.inr.injEq] at h;exact ⟨p,hp,h⟩
  ·rintro ⟨p,hp,h⟩;exact ⟨_,⟨p,hp,rfl⟩,by simp [h]⟩
 unfold Vt pt;rw [any]
 by_cases h:b∈ks d
 ·rw [if_pos (by simpa using h),if_pos h];unfold dd;rw [List.map_map,List.map_map];apply List.map_congr_left;intro p _;simp only [Function.comp,Sum.inr.injEq];split <;> rfl
 ·rw [if_neg (by simpa using h),if_neg h];unfold dd;rw [List.map_append]; rfl
theorem a9x (d:List Pr) (b:Str) (v:Int):ks (pt d b v)=if b∈ks d then ks d else ks d++[b]:=by
 unfold pt;split
 ·unfold ks;rw [List.map_map];apply List.map_congr_left;intro p _;simp only [Function.comp];split <;> rfl
 ·unfold ks; rw [List.map_append]; rfl
theorem Jj {b k:Str} {v:Int} {r:List Pr}:b∈ks ((k,v)::r)↔b=k\/b∈ks r:=by simp [ks]
theorem a4x {b:Str} {e:List Pr}:∀ {d:List Pr},gt (d++e) b=if b∈ks d then gt d b else gt e b
 | []=>by simp [ks]
 | (k,v)::r=>by
  simp only [List.cons_append,gt]
  by_cases h:k=b
  ·rw [if_pos h,if_pos h,if_pos (Jj.mpr (.inl h.symm))]
  ·rw [if_neg h,if_neg h,a4x (d:=r)];have bF:(b∈ks ((k,v)::r))↔b∈ks r:=Jj.trans ⟨fun z=>z.resolve_left fun z=>h z.symm,.inr⟩
   by_cases hr:b∈ks r
   ·rw [if_pos hr,if_pos (bF.mpr hr)]
   ·rw [if_neg hr,if_neg (fun z=>hr (bF.mp z))]
theorem a4p {b c:Str} {v:Int}:∀ {d:List Pr},gt (d.map fun p=>if p.1=b then (p.1,v) else p) c=if c=b/\c∈ks d then v else gt d c
 | []=>by simp [ks,gt]
 | (k,w)::r=>by
  have ih:=a4p (b:=b) (c:=c) (v:=v) (d:=r);rw [List.map_cons]
  by_cases h:k=b
  ·rw [if_pos h];simp only [gt]
   by_cases hc:k=c
   ·rw [if_pos hc,if_pos ⟨by rw [<- hc,h],Jj.mpr (.inl hc.symm)⟩]
   ·rw [if_neg hc,if_neg hc,ih];have hb:¬ c=b:=fun z=>hc (by rw [h,z]);rw [if_neg (fun z=>hb z.1),if_neg (fun z=>hb z.1)]
  ·rw [if_neg h];simp only [gt]
   by_cases hc:k=c
   ·rw [if_pos hc,if_pos hc];have hb:¬ c=b:=fun z=>h (by rw [hc,z]);rw [if_neg (fun z=>hb z.1)]
   ·rw [if_neg hc,if_neg hc,ih];have bF:(c∈ks ((k,w)::r))↔c∈ks r:=Jj.trans ⟨fun z=>z.resolve_left fun z=>hc z.symm,.inr⟩
    by_cases hr:c=b/\c∈ks r
    ·rw [if_pos hr,if_pos ⟨hr.1,bF.mpr hr.2⟩]
    ·rw [if_neg hr,if_neg (fun z=>hr ⟨z.1,bF.mp z.2⟩)]
theorem adp {d:List Pr} {b c:Str} {v:Int}:gt (pt d b v) c=if c=b then v else gt d c:=by
 unfold pt;split
 ·rename_i h;rw [a4p]
  by_cases e:c=b
  ·rw [if_pos ⟨e,by rw [e]; exact h⟩,if_pos e]
  ·rw [if_neg (fun z=>e z.1),if_neg e]
 ·rename_i h;rw [a4x]
  by_cases e:c=b
  ·subst e;rw [if_neg h,if_pos rfl]; simp [gt]
  ·rw [if_neg e];split
   ·rfl
   ·rename_i h2;have:¬ b=c:=fun z=>e z.symm;rw [Zz h2];simp [gt,this]
def tot:List Pr->Str->Int
 | [],_=>0
 | (k,v)::r,b=>(if k=b then v else 0)+tot r b
def J8 (l:List Pr) (d:List Pr):List Pr:=l.foldl (fun d p=>pt d p.1 (gt d p.1+p.2)) d
theorem Rr (b:Str):∀ (l d:List Pr),gt (J8 l d) b=gt d b+tot l b
 | [],d=>by simp [J8,tot]
 | (k,v)::r,d=>by
  have ih:=Rr b r (pt d k (gt d k+v));unfold J8 at ih ⊢;rw [List.foldl_cons,ih,adp,tot]
  by_cases h:b=k
  ·subst h; simp; omega
  ·have h2:¬ k=b:=fun z=>h z.symm;rw [if_neg h,if_neg h2]; omega
theorem Rj:∀ (l d:List Pr),(ks d).Nodup->(ks (J8 l d)).Nodup/\(∀ b,b∈ks (J8 l d)↔b∈ks d\/b∈ks l)
 | [],d,h=>⟨h,fun b=>by simp [J8,ks]⟩
 | (k,v)::r,d,h=>by
  have h1:(ks (pt d k (gt d k+v))).Nodup:=by
   rw [a9x];split
   ·exact h
   ·rename_i hn;rw [List.nodup_append];exact ⟨h,by simp,fun a ha b hb=>by simp at hb; subst hb; exact fun z=>hn (by rw [<- z]; exact ha)⟩
  obtain ⟨a1,a2⟩:=Rj r (pt d k (gt d k+v)) h1;unfold J8 at a1 a2 ⊢;rw [List.foldl_cons];refine ⟨a1,fun b=>?_⟩;rw [a2 b,a9x,Jj]
  by_cases hk:k∈ks d
  ·rw [if_pos hk];constructor
   ·rintro (z | z)
    ·exact .inl z
    ·exact .inr (.inr z)
   ·rintro (z | z | z)
    ·exact .inl z
    ·subst z; exact .inl hk
    ·exact .inr z
  ·rw [if_neg hk];constructor
   ·rintro (z | z)
    ·rcases List.mem_append.mp z with z | z
     ·exact .inl z
     ·simp at z; exact .inr (.inl z)
    ·exact .inr (.inr z)
   ·rintro (z | z | z)
    ·exact .inl (List.mem_append_left _ z)
    ·subst z; exact .inl (List.mem_append_right _ (by simp))
    ·exact .inr z
noncomputable def prt (l:List Pr):List Pr:=((n8 (ks (J8 l []))).filter fun b=>tot l b != 0).map fun b=>(b,tot l b)
section
variable {sto:List SO}
theorem keys_str:∀ d:List Pr,Ga ((dd d).map fun p=>Je p.1)=some (ks d)
 | []=>rfl
 | (k,v)::r=>by
  have ih:=keys_str r;show (Ga ((dd r).map fun p=>Je p.1)).map (k :: ·)=_;rw [ih]; rfl
theorem Xa {d:List Pr} (h:d.length<64):Bb [.dic (dd d)]=some (.lst ((n8 (ks d)).map T.str)):=by
 have h2:(dd d).length<64:=by simpa [dd] using h
 simp only [Bb,if_pos h2,keys_str,Option.map_some]
def prs (l:List Pr) (s:T):Prop:=s=.lst (l.map pT)\/s=.tup (l.map pT)
theorem a74 {l:List Pr} {s:T} (h:prs l s) (hl:l.length<1000000) {m:M T} {st aa:Sta} (e:m st=some (s,aa)):yx m st=some (l.map pT,aa):=by
 have h1:l.length<lim:=hl;rcases h with rfl | rfl <;> simp [yx,e,h1]
theorem abp {b:Str} {v:Int} {d:List Pr}:Vt (.inr b) (.int v) (dd d)=dd (pt d b v):=R7 b v d
theorem a6w {v:Int}:neO (.int v) (.int 0)=some (.bl (v != 0)):=by
 rw [Bh]; rfl
theorem ab4 {n:Int} {l:List Pr} {s:T} (hs:prs l s) (hl:l.length<1000) (bu:(ks (J8 l [])).length<64):Ez [.int n,s] sto=some (smT (n,prt l),sto):=by
 have e1:aq 1 ⟨[some (.int n,false),some (s,false),some (.dic (dd []),true),none,none,none],sto⟩=some (s,⟨[some (.int n,false),some (s,false),some (.dic (dd []),true),none,none,none],sto⟩):=rfl;have is:=a74 hs (by omega) e1;obtain ⟨hn,hk⟩:=Rj l [] (by simp [ks]);unfold Ez qp;rw [show ([T.int n,s].map (fun t=>some (t,false))++List.replicate (6 - [T.int n,s].length) none:List Slot)=[some (.int n,false),some (s,false),none,none,none,none] from rfl];rw [u5 (s':=⟨[some (.int n,false),some (s,false),some (.dic (dd []),true),none,none,none],sto⟩) rfl]
 have loop:(J7 (Gq [3,4]) (yx (aq 1)) (vp 2 (aq 3) (mOp jm (vo 2 (aq 3) (ak (.int 0))) (aq 4)))) ⟨[some (.int n,false),some (s,false),some (.dic (dd []),true),none,none,none],sto⟩
   = some (.next,⟨[some (.int n,false),some (s,false),some (.dic (dd (J8 l [])),true),(l.foldl (fun (x:List Pr × Slot × Slot) p=>(pt x.1 p.1 (gt x.1 p.1+p.2),some (.str p.1,false),some (.int p.2,false))) ([],none,none)).2.1,(l.foldl (fun (x:List Pr × Slot × Slot) p=>(pt x.1 p.1 (gt x.1 p.1+p.2),some (.str p.1,false),some (.int p.2,false))) ([],none,none)).2.2,none],sto⟩):=by
  unfold J7;rw [is];dsimp only;generalize hF:forL _ _ _ _=r
  obtain ⟨rfl,_⟩:=a2x hF pT l (fun (x:List Pr × Slot × Slot)=>(⟨[some (.int n,false),some (s,false),some (.dic (dd x.1),true),x.2.1,x.2.2,none],sto⟩:Sta)) ([],none,none)
   (fun x p=>(pt x.1 p.1 (gt x.1 p.1+p.2),some (.str p.1,false),some (.int p.2,false))) (fun r x=>x.1.length+r.length<=l.length) rfl rfl (by simp) (by
    rintro p r x h1;simp only [List.length_cons] at h1;have aK:(dd x.1).length<lim:=by simp only [dd,List.length_map]; show _<1000000; omega
    refine ⟨⟨_,by unfold pT; exact Qn,?_⟩,?_⟩
    ·simp! [vp,vo,Li,keyOf,Ks,aK,abp]
    ·have:(pt x.1 p.1 (gt x.1 p.1+p.2)).length<=x.1.length+1:=by
      unfold pt;split
      ·rw [List.length_map]; omega
      ·rw [List.length_append,List.length_singleton]; exact Nat.le_refl _
     dsimp only;omega)
  have fst:∀ (l:List Pr) (x:List Pr × Slot × Slot),(l.foldl (fun (x:List Pr × Slot × Slot) p=>(pt x.1 p.1 (gt x.1 p.1+p.2),some (T.str p.1,false),some (T.int p.2,false))) x).1=J8 l x.1:=fun l=>by
   induction l with
   | nil=>intro x; rfl
   | cons p l ih=>intro x; rw [List.foldl_cons,ih]; rfl
  rw [fst]
 rw [u5 loop];generalize (l.foldl (fun (x:List Pr × Slot × Slot) p=>(pt x.1 p.1 (gt x.1 p.1+p.2),some (T.str p.1,false),some (T.int p.2,false))) ([],none,none)).2.1=o3;generalize (l.foldl (fun (x:List Pr × Slot × Slot) p=>(pt x.1 p.1 (gt x.1 p.1+p.2),some (T.str p.1,false),some (T.int p.2,false))) ([],none,none)).2.2=o4;generalize hd:J8 l []=d at *;have hV:=Xa (d:=d) (by simpa [ks] using bu);have il:(n8 (ks d)).length<lim:=by rw [Cp]; show _<1000000; omega
 simp! [];generalize hF:lu 1 _ _ _ _ _ _=r
 have e:=Ew hF T.str (fun b=>pT (b,gt d b)) (fun b=>gt d b != 0) (n8 (ks d)) ⟨[some (.int n,false),some (s,false),some (.dic (dd d),false),o3,o4,none],sto⟩ [some (.int n,false),some (s,false),some (.dic (dd d),false),o3,o4,none] [some (.dic (dd d),false)] (by first | exact rfl | simp! [hV,il]) rfl rfl rfl (Nat.le_of_lt il) (fun b hb pre hp=>by
  have gO:b∈ks d:=Fd hb;have hg:=M6 gO
  match pre,hp with
  | [p0],_=>exact ⟨[some (.str b,false)],rfl,by first | exact rfl | simp! [],by first | exact rfl | simp! [dg,keyOf,hg,a6w],fun _=>by first | exact rfl | simp! [dg,keyOf,hg,pT]⟩)
 subst e;have hg:∀ b,gt d b=tot l b:=fun b=>by rw [<- hd,Rr]; simp [gt]
 simp! [Bw,smT,prt,hd];simp only [hg];rfl
end
theorem Ze {l:List Pr} {p:Pr} (h:p∈prt l):p.1∈ks l/\p.2=tot l p.1:=by
 obtain ⟨b,hb,rfl⟩:=List.mem_map.mp h;have h1:=Fd (List.mem_filter.mp hb).1;refine ⟨?_,rfl⟩;rcases ((Rj l [] (by simp [ks])).2 b).mp h1 with z | z
 ·simp [ks] at z
 ·exact z
theorem Zj {b:Str}:∀ {l:List Pr},b∉ks l->tot l b=0
 | [],_=>rfl
 | (k,v)::l,h=>by
  rw [Jj,not_or] at h;rw [tot,if_neg (fun e=>h.1 e.symm),Zj h.2]; rfl
theorem W4 (l:List Pr):(ks (J8 l [])).length<=l.length:=by
 have go:∀ (l d:List Pr),(J8 l d).length<=d.length+l.length:=by
  intro l
  induction l with
  | nil=>intro d; simp [J8]
  | cons p l ih =>
   intro d;have h1:=ih (pt d p.1 (gt d p.1+p.2))
   have h2:(pt d p.1 (gt d p.1+p.2)).length<=d.length+1:=by
    unfold pt;split
    ·rw [List.length_map]; omega
    ·rw [List.length_append,List.length_singleton]; exact Nat.le_refl _
   unfold J8 at h1 ⊢;rw [List.foldl_cons,List.length_cons];omega
 have:=go l [];simpa [ks] using this
variable {cR cN:Nat} {st0:List SO} {ts:List Str} {k:Nat}
def ab (i:Int):Int:=if i<0 then -i else i
def yq (s:Sm):Bool:=(s.1::s.2.map (·.2)).all fun i=>decide (ab i<=999999999)
theorem ints_map {α:Type} (f:α->Int):∀ l:List α,Oh (l.map fun a=>T.int (f a))=some (l.map f)
 | []=>rfl
 | a::l=>by simp [Oh,ints_map f l]
theorem a9z (l:List Int) (hl:l≠[]):∃ m,ac1 (l.map ab)=some m/\decide (999999999<m)=!l.all fun i=>decide (ab i<=999999999):=by
 obtain ⟨m,hm⟩:∃ m,ac1 (l.map ab)=some m:=by
  cases l with
  | nil=>exact absurd rfl hl
  | cons a l=>exact ⟨_,rfl⟩
 refine ⟨m,hm,?_⟩;obtain ⟨h1,h2⟩:=Mu hm;rw [Bool.eq_iff_iff,decide_eq_true_eq,Bool.not_eq_true',<- Bool.not_eq_true,List.all_eq_true];constructor
 ·intro h h3;obtain ⟨i,hi,e⟩:=List.mem_map.mp h1;have:=h3 i hi;rw [decide_eq_true_eq] at this;omega
 ·intro h
  by_cases z:999999999<m
  ·exact z
  ·exact absurd (fun i hi=>decide_eq_true (by have:=h2 _ (List.mem_map_of_mem hi); omega)) h
theorem bounded {s:Sm} (hl:s.2.length<1000):Fi cR cN [.obj st0.length,smT s] (rdS cR st0 ts k)=some (if yq s=true then .inl (smT s) else .inr (.int 1),rdS cR st0 ts k):=by
 have a6:s.2.length<lim:=by show _<1000000; omega
 have c1:lu 2 [] (Gq [0,1]) (yx (mOp dg (aq 1) (ak (.int 1)))) v9 (aq 1) ⟨[some (.obj st0.length,false),some (smT s,false),none],rdS cR st0 ts k⟩=some (.lst (s.2.map fun p=>.int p.2),⟨[some (.obj st0.length,false),some (smT s,false),none],rdS cR st0 ts k⟩):=by
  refine vd pT (fun p=>.int p.2) s.2 (s1:=⟨[some (.obj st0.length,false),some (smT s,false),none],rdS cR st0 ts k⟩) _ [] ?_ rfl rfl rfl (Nat.le_of_lt a6) ?_
  ·have:mOp dg (aq 1) (ak (.int 1)) ⟨[some (.obj st0.length,false),some (smT s,false),none],rdS cR st0 ts k⟩=some (.tup (s.2.map pT),⟨[some (.obj st0.length,false),some (smT s,false),none],rdS cR st0 ts k⟩):=zo rfl rfl Gg;unfold yx;rw [this];dsimp only;rw [if_pos (by rw [List.length_map]; exact a6)]
  ·intro p hp pre aB
   obtain ⟨a,b,rfl⟩:∃ a b,pre=[a,b]:=by
    match pre,aB with
    | [a,b],_=>exact ⟨a,b,rfl⟩
   exact ⟨[some (.str p.1,false),some (.int p.2,false)],rfl,by unfold pT; rw [Qn]; rfl,rfl,rfl⟩
 have L:(s.2.map fun p=>T.int p.2)=(s.2.map (·.2)).map T.int:=by rw [List.map_map]; rfl
 have A:lx (j8 2 (mOp jm (gk (fun l=>some (.lst l)) (ao (mOp dg (aq 1) (ak (.int 0))) d7)) (lu 2 [] (Gq [0,1]) (yx (mOp dg (aq 1) (ak (.int 1)))) v9 (aq 1)))) ⟨[some (.obj st0.length,false),some (smT s,false),none],rdS cR st0 ts k⟩=some (.inl .next,⟨[some (.obj st0.length,false),some (smT s,false),some (.lst ((s.1::s.2.map (·.2)).map T.int),false)],rdS cR st0 ts k⟩):=by
  refine xl (ys (zo (zm (zc (zo rfl rfl Fe) rfl) rfl) c1 (v:=.lst ((s.1::s.2.map (·.2)).map T.int)) ?_) rfl);rw [L];show (if [T.int s.1].length+((s.2.map (·.2)).map T.int).length<lim then some (T.lst ([T.int s.1]++(s.2.map (·.2)).map T.int)) else none)=_;rw [if_pos (by rw [List.length_map,List.length_map]; show 1+_<1000000; omega)];rfl
 have cJ:(s.1::s.2.map (·.2)).length<lim:=by rw [List.length_cons,List.length_map]; show _<1000000; omega
 have fk:yq s=(s.1::s.2.map (·.2)).all fun i=>decide (ab i<=999999999):=rfl;generalize hg:(s.1::s.2.map (·.2))=l at A cJ fk;have bV:l≠[]:=by rw [<- hg]; exact List.cons_ne_nil _ _
 obtain ⟨m,m1,m2⟩:=a9z l bV
 have c2:lu 1 [] (hName 0) (yx (aq 2)) v9 (gk Gp (ao (aq 0) d7)) ⟨[some (.obj st0.length,false),some (smT s,false),some (.lst (l.map T.int),false)],rdS cR st0 ts k⟩=some (.lst (l.map fun i=>.int (ab i)),⟨[some (.obj st0.length,false),some (smT s,false),some (.lst (l.map T.int),false)],rdS cR st0 ts k⟩):=by
  refine vd T.int (fun i=>.int (ab i)) l (s1:=⟨[some (.obj st0.length,false),some (smT s,false),some (.lst (l.map T.int),false)],rdS cR st0 ts k⟩) _ [] (zis rfl cJ) rfl rfl rfl (Nat.le_of_lt cJ) ?_;intro i hi pre aB
  obtain ⟨a,rfl⟩:∃ a,pre=[a]:=by
   match pre,aB with
   | [a],_=>exact ⟨a,rfl⟩
  exact ⟨[some (.int i,false)],rfl,rfl,rfl,rfl⟩
 have mx:a1v [.lst (l.map fun i=>.int (ab i))]=some (.int m):=by
  show (Oh (l.map fun i=>T.int (ab i))).bind (fun l=>(ac1 l).map T.int)=_;rw [ints_map,Option.bind_some,m1]; rfl
 have B:bw (mOp gtT (gk a1v (ao (lu 1 [] (hName 0) (yx (aq 2)) v9 (gk Gp (ao (aq 0) d7))) d7)) (ak (.int 999999999))) ⟨[some (.obj st0.length,false),some (smT s,false),some (.lst (l.map T.int),false)],rdS cR st0 ts k⟩=some (!yq s,⟨[some (.obj st0.length,false),some (smT s,false),some (.lst (l.map T.int),false)],rdS cR st0 ts k⟩):=by
  refine zt (zo (zm (zc c2 rfl) mx) rfl ?_);show some (T.bl (decide ((999999999:Int)<m)))=_;rw [m2,fk]
 cases e:yq s with
 | true =>
  rw [e] at B;rw [if_pos rfl];exact Gk (xq A (xq (xie B (xl rfl)) (xl (zr rfl)))) rfl
 | false =>
  rw [e] at B;rw [if_neg (by decide)];exact Bq (xq A (xqr (xik B (xra (fld rfl rfl a3j))))) rfl
theorem Tg (h:nameB (see ts k)=true):k<ts.length:=by
 by_cases z:k<ts.length
 ·exact z
 ·have:see ts k = "" := by unfold see; rw [List.getD_eq_getElem?_getD,List.getElem?_eq_none_iff.mpr (by omega)]; rfl
  rw [this] at h;exact absurd h (by decide +kernel)
theorem a83 (h:Dw (see ts k)=true):k<ts.length:=by
 by_cases z:k<ts.length
 ·exact z
 ·have:see ts k = "" := by unfold see; rw [List.getD_eq_getElem?_getD,List.getElem?_eq_none_iff.mpr (by omega)]; rfl
  rw [this] at h;exact absurd h (by decide +kernel)
theorem Tt (h:Pts ts) {sg:Int} {p:Str × Int} {j:Nat} (e:Bk ts k sg=some (p,j)):k<j/\j<=ts.length/\Pn p.1:=by
 unfold Bk at e;split at e
 ·rename_i h1;cases e;have:=Tg h1;exact ⟨by omega,by omega,h.see k⟩
 ·split at e
  ·rename_i h2;have:=a83 h2;split at e
   ·split at e
    ·rename_i h4;cases e;have:=Tg h4;exact ⟨by omega,by omega,h.see _⟩
    ·cases e
   ·cases e;exact ⟨by omega,by omega,Tj⟩
  ·cases e
end K
end
section
namespace K
open C PySem
variable {cR cN:Nat} {st0:List SO} {ts:List Str} {k:Nat}
def Ob:List Str:=["+","-"]
def sgn (x:Str):Int:=if (x==("+" : Str))=true then 1 else -1
noncomputable def Nz:Nat->List Str->Nat->List (Str × Int)->Option (List (Str × Int) × Nat)
 | 0,_,_,_=>none
 | n+1,ts,k,acc=>if Ob.contains (see ts k)=true then (match Bk ts (k+1) (sgn (see ts k)) with
   | some (p,j)=>Nz n ts j (acc++[p])
   | none=>none) else some (acc,k)
theorem Lj:∀ y∈Ob,okS y:=by unfold Ob okS; decide +kernel
theorem a8a (x:Str):xg (sgn x)=true:=by unfold sgn; split <;> decide
abbrev nsS (cR:Nat) (st0:List SO) (ts:List Str) (k:Nat) (acc:List (Str × Int)) (o:C.Slot):Sta:=⟨[some (.obj st0.length,false),some (.lst (acc.map pT),true),o,none,none],rdS cR st0 ts k⟩
abbrev nsC (cR cN:Nat):M Bool:=bw (mOp inT (ud cR "seen" (jc cR cN) (aq 0) (ao (ak (.int 0)) d7)) (gk (fun l=>some (.tup l)) (ao (ak (.str "+")) (ao (ak (.str "-")) d7))))
abbrev nsB (cR cN:Nat):SX:=Aa (lx (j8 2 (mIf (bw (mOp eqO (ud cR "next_token" (fj cR cN) (aq 0) d7) (ak (.str "+")))) (ak (.int 1)) (mUn a1o (ak (.int 1))))))
 (Cq 1 (qz (m6 cR cN) (ao (aq 0) (ao (aq 2) d7))))
theorem xap {i:Nat} {e:MX} {s s1 s2:Sta} {xs:List T} {t:T} (hs:G5 i s=true) (h:e s=some (.inl t,s1)) (hx:s1.env[i]? = some (some (.lst xs,true))) (hl:xs.length<lim) (e2:ig i (.lst (xs++[t])) true s1=s2):Cq i e s=some (.inl .next,s2):=by
 unfold Cq; rw [if_pos hs,h]; dsimp only; rw [hx]; dsimp only; rw [if_pos hl,e2]
theorem afs {i:Nat} {e:MX} {s s1:Sta} {x:T} (hs:G5 i s=true) (h:e s=some (.inr x,s1)):Cq i e s=some (.inr x,s1):=by
 unfold Cq; rw [if_pos hs,h]
theorem ag0 (h:Pts ts) {acc:List (Str × Int)} {o:C.Slot}:nsC cR cN (nsS cR st0 ts k acc o)=some (Ob.contains (see ts k),nsS cR st0 ts k acc o) :=
 zt (zo (meth (s1:=nsS cR st0 ts k acc o) (s2:=nsS cR st0 ts k acc o) rfl rfl rfl (seen h.1) Td) rfl (Km (h.see k).okS Lj))
theorem a5p (h:Pts ts) {acc:List (Str × Int)} {o:C.Slot}:j8 2 (mIf (bw (mOp eqO (ud cR "next_token" (fj cR cN) (aq 0) d7) (ak (.str "+")))) (ak (.int 1)) (mUn a1o (ak (.int 1)))) (nsS cR st0 ts k acc o)=some (.next,nsS cR st0 ts (k+1) acc (some (.int (sgn (see ts k)),false))):=by
 have c:bw (mOp eqO (ud cR "next_token" (fj cR cN) (aq 0) d7) (ak (.str "+"))) (nsS cR st0 ts k acc o)=some (see ts k == "+",nsS cR st0 ts (k+1) acc o) :=
  zt (zo (meth (s1:=nsS cR st0 ts k acc o) (s2:=nsS cR st0 ts k acc o) rfl rfl rfl (G8 h) ae9) rfl (Bs (h.see k).okS (Lj _ List.mem_cons_self)))
 unfold sgn;cases e:(see ts k==("+" : Str)) with
 | true=>rw [e] at c; exact ys (aeg c rfl) rfl
 | false=>rw [e] at c; exact ys (aer c rfl) rfl
theorem K7 (h:Pts ts) {sg:Int} (hs:xg sg=true) {e:List C.Slot} {ms:M (List T)} {s0:Sta} (hm:ms s0=some ([.obj st0.length,.int sg],⟨e,rdS cR st0 ts k⟩)) :
  (∃ p j,Bk ts k sg=some (p,j)/\qz (m6 cR cN) ms s0=some (.inl (pT p),⟨e,rdS cR st0 ts j⟩))\/(Bk ts k sg=none/\∃ j,qz (m6 cR cN) ms s0=some (.inr (.int 1),⟨e,rdS cR st0 ts j⟩)):=by
 rcases a5u (cR:=cR) (cN:=cN) (st0:=st0) (k:=k) h hs with ⟨t,j,g1,g2⟩ | ⟨g1,j,g2⟩
 ·obtain ⟨⟨p,j'⟩,g3,g4⟩:=Option.map_eq_some_iff.mp g1;cases g4;exact .inl ⟨p,j',g3,xmc hm g2⟩
 ·exact .inr ⟨Option.map_eq_none_iff.mp g1,j,xmc hm g2⟩
theorem Xo (h:Pts ts):∀ (n k:Nat) (acc:List (Str × Int)) (o:C.Slot),ts.length - k<n->acc.length<=k->k<=ts.length->(∀ p∈acc,Pn p.1) ->
  (∃ acc' j o',Nz n ts k acc=some (acc',j)/\nq n (nsC cR cN) (nsB cR cN) (nsS cR st0 ts k acc o)=some (.inl .next,nsS cR st0 ts j acc' o')/\acc'.length<=j/\j<=ts.length/\∀ p∈acc',Pn p.1) \/
  (Nz n ts k acc=none/\∃ s' j,nq n (nsC cR cN) (nsB cR cN) (nsS cR st0 ts k acc o)=some (.inr (.int 1),s')/\s'.sto=rdS cR st0 ts j)
 | 0,_,_,_,h0,_,_,_=>absurd h0 (by omega)
 | n+1,k,acc,o,hn,ha,hk,hp=>by
  have c:=ag0 (cR:=cR) (cN:=cN) (st0:=st0) (k:=k) h (acc:=acc) (o:=o);rw [Nz];cases e:Ob.contains (see ts k) with
  | false =>
   rw [e] at c;rw [if_neg (by decide)];exact .inl ⟨acc,k,o,rfl,wxf c,ha,hk,hp⟩
  | true =>
   rw [e] at c;rw [if_pos rfl]
   have zk:k<ts.length:=by
    by_cases z:k<ts.length
    ·exact z
    ·have:see ts k = "" := by unfold see; rw [List.getD_eq_getElem?_getD,List.getElem?_eq_none_iff.mpr (by omega)]; rfl
     rw [this] at e;exact absurd e (by decide +kernel)
   have S:=a5p (cR:=cR) (cN:=cN) (st0:=st0) (k:=k) h (acc:=acc) (o:=o);have al:(acc.map pT).length<lim:=by rw [List.length_map]; have:=h.1; show _<1000000; omega
   rcases K7 (cR:=cR) (cN:=cN) (st0:=st0) (k:=k+1) h (a8a (see ts k)) (ms:=ao (aq 0) (ao (aq 2) d7)) (s0:=nsS cR st0 ts (k+1) acc (some (.int (sgn (see ts k)),false))) (e:=[some (.obj st0.length,false),some (.lst (acc.map pT),true),some (.int (sgn (see ts k)),false),none,none]) rfl with ⟨p,j,g1,g2⟩ | ⟨g1,j,g2⟩
   ·obtain ⟨h1,h2,h3⟩:=Tt h g1;rw [g1];dsimp only;have B:nsB cR cN (nsS cR st0 ts k acc o)=some (.inl .next,nsS cR st0 ts j (acc++[p]) (some (.int (sgn (see ts k)),false))):=xq (xl S) (xap rfl g2 rfl al (by unfold ig nsS; simp))
    rcases Xo h n j (acc++[p]) (some (.int (sgn (see ts k)),false)) (by omega) (by rw [List.length_append,List.length_singleton]; omega) h2 (fun q hq=>by
     rcases List.mem_append.mp hq with z | z
     ·exact hp q z
     ·rw [List.mem_singleton] at z; subst z; exact h3) with ⟨acc',j',o',f1,f2,f3⟩ | ⟨f1,s',j',f2,f3⟩
    ·exact .inl ⟨acc',j',o',f1,wxt c B f2,f3⟩
    ·exact .inr ⟨f1,s',j',wxt c B f2,f3⟩
   ·rw [g1];exact .inr ⟨rfl,_,j,wxr c (xq (xl S) (afs rfl g2)),rfl⟩
noncomputable def a98 (ts:List Str):Option (Sm × Nat) :=
 match Bk ts (if (see ts 0==("-" : Str))=true then 1 else 0) (if (see ts 0==("-" : Str))=true then -1 else 1) with
 | none=>none
 | some (p,j)=>match Nz 1000 ts j [p] with
  | none=>none
  | some (l,k)=>if yq (((l.filter fun p=>p.1==("" : Str)).map (·.2)).sum,prt (l.filter fun p=>!(p.1==("" : Str))))=true then some ((((l.filter fun p=>p.1==("" : Str)).map (·.2)).sum,prt (l.filter fun p=>!(p.1==("" : Str)))),k) else none
theorem a4m (l:List Pr):(prt l).length<=l.length:=by
 unfold prt;rw [List.length_map];refine Nat.le_trans (List.length_filter_le _ _) ?_;rw [Cp];exact W4 l
theorem xnl {i:Nat} {a:MXs} {s s1 s2:Sta} {us:List T} (h:a s=some (.inl us,s1)) (e:ig i (.lst us) true s1=s2):Ms i a s=some (.inl .next,s2):=by unfold Ms; rw [h]; dsimp only; rw [e]
theorem xnr {i:Nat} {a:MXs} {s s1:Sta} {x:T} (h:a s=some (.inr x,s1)):Ms i a s=some (.inr x,s1):=by unfold Ms; rw [h]
theorem a3c (h:Pts ts) (dY:ts.length<60):Ans (Cz cR cN [.obj st0.length] (rdS cR st0 ts 0)) cR st0 ts ((a98 ts).map fun q=>(smT q.1,q.2)):=by
 have T1:=took (cR:=cR) (cN:=cN) (st0:=st0) (k:=0) h (Lj "-" (List.mem_cons_of_mem _ List.mem_cons_self))
 have W:bw (ud cR "took" (jw cR cN) (aq 0) (ao (ak (.str "-")) d7)) ⟨[some (.obj st0.length,false),none,none,none,none],rdS cR st0 ts 0⟩=some (see ts 0 == "-",⟨[some (.obj st0.length,false),none,none,none,none],rdS cR st0 ts (if (see ts 0 == "-")=true then 1 else 0)⟩) :=
  zt (meth (s1:=⟨[some (.obj st0.length,false),none,none,none,none],rdS cR st0 ts 0⟩) (s2:=⟨[some (.obj st0.length,false),none,none,none,none],rdS cR st0 ts 0⟩) rfl rfl rfl T1 a4a)
 have A0:ao (aq 0) (ao (mIf (bw (ud cR "took" (jw cR cN) (aq 0) (ao (ak (.str "-")) d7))) (mUn a1o (ak (.int 1))) (ak (.int 1))) d7) ⟨[some (.obj st0.length,false),none,none,none,none],rdS cR st0 ts 0⟩=some ([.obj st0.length,.int (if (see ts 0==("-" : Str))=true then -1 else 1)],⟨[some (.obj st0.length,false),none,none,none,none],rdS cR st0 ts (if (see ts 0 == "-")=true then 1 else 0)⟩):=by
  refine zc rfl (zc ?_ rfl);cases e:(see ts 0==("-" : Str)) with
  | true=>rw [e] at W; exact aeg W rfl
  | false=>rw [e] at W; exact aer W rfl
 unfold a98;rcases K7 (cR:=cR) (cN:=cN) (st0:=st0) h (show xg (if (see ts 0==("-" : Str))=true then -1 else 1)=true by split <;> decide) A0 with ⟨p,j,g1,g2⟩ | ⟨g1,j,g2⟩
 ·obtain ⟨h1,h2,h3⟩:=Tt h g1;rw [g1];dsimp only;have N:Ms 1 (m7 (qz (m6 cR cN) (ao (aq 0) (ao (mIf (bw (ud cR "took" (jw cR cN) (aq 0) (ao (ak (.str "-")) d7))) (mUn a1o (ak (.int 1))) (ak (.int 1))) d7))) Bo) ⟨[some (.obj st0.length,false),none,none,none,none],rdS cR st0 ts 0⟩=some (.inl .next,nsS cR st0 ts j [p] none):=xnl (xcs g2 rfl) rfl;rcases Xo (cR:=cR) (cN:=cN) (st0:=st0) h 1000 j [p] none (by have:=h.1; omega) (by show 1<=j; omega) h2 (fun q hq=>by rw [List.mem_singleton] at hq; subst hq; exact h3) with ⟨l,k,o,f1,f2,f3,f4,f5⟩ | ⟨f1,s',k,f2,f3⟩
  ·rw [f1];dsimp only;have ll:l.length<lim:=by show _<1000000; omega
   have eT:okS ("" : Str):=Tj.okS
   have is:∀ (b:Bool) (r:List C.Slot),yx (aq 1) ⟨some (.obj st0.length,false)::some (.lst (l.map pT),b)::r,rdS cR st0 ts k⟩=some (l.map pT,⟨some (.obj st0.length,false)::some (.lst (l.map pT),false)::r,rdS cR st0 ts k⟩):=fun b r=>by
    cases b <;> (unfold yx; dsimp only [aq,List.getElem?_cons_succ,List.getElem?_cons_zero,List.set]; rw [if_pos (by rw [List.length_map]; exact ll)])
   have c1:lu 2 [] (Gq [0,1]) (yx (aq 1)) (bw (mOp eqO (aq 0) (ak (.str "")))) (aq 1) (nsS cR st0 ts k l o)=some (.lst ((l.filter fun p=>p.1==("" : Str)).map fun p=>.int p.2),⟨[some (.obj st0.length,false),some (.lst (l.map pT),false),o,none,none],rdS cR st0 ts k⟩) :=
    Ew rfl pT (fun p=>.int p.2) (fun p=>p.1==("" : Str)) l ⟨[some (.obj st0.length,false),some (.lst (l.map pT),false),o,none,none],rdS cR st0 ts k⟩ _ [] (is true _) rfl rfl rfl (Nat.le_of_lt ll) (by
     intro p hp pre aB
     obtain ⟨a,b,rfl⟩:∃ a b,pre=[a,b]:=by
      match pre,aB with
      | [a,b],_=>exact ⟨a,b,rfl⟩
     exact ⟨[some (.str p.1,false),some (.int p.2,false)],rfl,by unfold pT; rw [Qn]; rfl,zt (zo rfl rfl (Bs (f5 p hp).okS eT)),fun _=>rfl⟩)
   have su:ac5 [.lst ((l.filter fun p=>p.1==("" : Str)).map fun p=>T.int p.2)]=some (.int ((l.filter fun p=>p.1==("" : Str)).map (·.2)).sum):=by
    show (Oh ((l.filter fun p=>p.1==("" : Str)).map fun p=>T.int p.2)).map (fun l=>T.int l.sum)=_;rw [ints_map]; rfl
   have S3:j8 3 (gk ac5 (ao (lu 2 [] (Gq [0,1]) (yx (aq 1)) (bw (mOp eqO (aq 0) (ak (.str "")))) (aq 1)) d7)) (nsS cR st0 ts k l o)=some (.next,⟨[some (.obj st0.length,false),some (.lst (l.map pT),false),o,some (.int ((l.filter fun p=>p.1==("" : Str)).map (·.2)).sum,false),none],rdS cR st0 ts k⟩):=ys (zm (zc c1 rfl) su) rfl;generalize ((l.filter fun p=>p.1==("" : Str)).map (·.2)).sum=m at S3 ⊢
   have c2:lu 1 [] (hName 0) (yx (aq 1)) (bw (mOp neO (mOp dg (aq 0) (ak (.int 0))) (ak (.str "")))) (aq 0) ⟨[some (.obj st0.length,false),some (.lst (l.map pT),false),o,some (.int m,false),none],rdS cR st0 ts k⟩=some (.lst ((l.filter fun p=>!(p.1==("" : Str))).map pT),⟨[some (.obj st0.length,false),some (.lst (l.map pT),false),o,some (.int m,false),none],rdS cR st0 ts k⟩) :=
    Ew rfl pT pT (fun p=>!(p.1==("" : Str))) l ⟨[some (.obj st0.length,false),some (.lst (l.map pT),false),o,some (.int m,false),none],rdS cR st0 ts k⟩ _ [] (is false _) rfl rfl rfl (Nat.le_of_lt ll) (by
     intro p hp pre aB
     obtain ⟨a,rfl⟩:∃ a,pre=[a]:=by
      match pre,aB with
      | [a],_=>exact ⟨a,rfl⟩
     exact ⟨[some (pT p,false)],rfl,rfl,zt (zo (zo rfl rfl Fe) rfl (Hv (f5 p hp).okS eT)),fun _=>rfl⟩)
   have fl:(l.filter fun p=>!(p.1==("" : Str))).length<=l.length:=List.length_filter_le _ _;generalize (l.filter fun p=>!(p.1==("" : Str)))=q at c2 fl ⊢;have so:=ab4 (sto:=rdS cR st0 ts k) (n:=m) (l:=q) (.inl rfl) (by omega) (Nat.lt_of_le_of_lt (W4 q) (by omega));have S4:j8 4 (dw Ez (ao (aq 3) (ao (lu 1 [] (hName 0) (yx (aq 1)) (bw (mOp neO (mOp dg (aq 0) (ak (.int 0))) (ak (.str "")))) (aq 0)) d7))) ⟨[some (.obj st0.length,false),some (.lst (l.map pT),false),o,some (.int m,false),none],rdS cR st0 ts k⟩=some (.next,⟨[some (.obj st0.length,false),some (.lst (l.map pT),false),o,some (.int m,false),some (smT (m,prt q),false)],rdS cR st0 ts k⟩):=ys (zf0 (s1:=⟨[some (.obj st0.length,false),some (.lst (l.map pT),false),o,some (.int m,false),none],rdS cR st0 ts k⟩) (zc rfl (zc c2 rfl)) so) rfl;have bo:=bounded (cR:=cR) (cN:=cN) (st0:=st0) (ts:=ts) (k:=k) (s:=(m,prt q)) (by have:=a4m q; show (prt q).length<1000; omega)
   have BC:qz (Fi cR cN) (ao (aq 0) (ao (aq 4) d7)) ⟨[some (.obj st0.length,false),some (.lst (l.map pT),false),o,some (.int m,false),some (smT (m,prt q),false)],rdS cR st0 ts k⟩=some (if yq (m,prt q)=true then .inl (smT (m,prt q)) else .inr (.int 1),⟨[some (.obj st0.length,false),some (.lst (l.map pT),false),o,some (.int m,false),some (smT (m,prt q),false)],rdS cR st0 ts k⟩) :=
    xmc (s1:=⟨[some (.obj st0.length,false),some (.lst (l.map pT),false),o,some (.int m,false),some (smT (m,prt q),false)],rdS cR st0 ts k⟩) (zc rfl (zc rfl rfl)) bo
   cases e:yq (m,prt q) with
   | true =>
    rw [e,if_pos rfl] at BC;rw [if_pos rfl];exact .inl ⟨_,_,rfl,Gk (xq N (xq f2 (xq (xl S3) (xq (xl S4) (xrt BC))))) rfl⟩
   | false =>
    rw [e,if_neg (by decide)] at BC;rw [if_neg (by decide)];exact .inr ⟨rfl,k,Bq (xq N (xq f2 (xq (xl S3) (xq (xl S4) (xrr BC))))) rfl⟩
  ·rw [f1];exact .inr ⟨rfl,k,Bq (xq N (xqr f2)) f3⟩
 ·rw [g1];exact .inr ⟨rfl,j,Bq (xqr (xnr (ael g2))) rfl⟩
end K
end
section
namespace K
open C PySem
variable {cR cN:Nat} {sto:List SO}
noncomputable def Xy (l:List Nat):Option Sm:=match toks 1000 l with
 | none=>none
 | some ts=>match a98 ts with
  | none=>none
  | some (s,k)=>if k<ts.length then none else some s
theorem X4:∀ (n:Nat) (l:List Nat) (ts:List Str),toks n l=some ts->(∀ c∈l,c<128)->ts.length<=l.length/\∀ t∈ts,(∀ c∈cs t,c<128)/\(cs t).length<=l.length
 | 0,_,_,h,_=>nomatch h
 | n+1,l,ts,h,hl=>by
  rw [toks] at h;split at h
  ·cases h; exact ⟨Nat.zero_le _,fun t ht=>by cases ht⟩
  ·cases hp:pieceAt l with
   | none=>rw [hp] at h; cases h
   | some w =>
    rw [hp] at h;obtain ⟨us,e1,e2⟩:=Option.map_eq_some_iff.mp h;obtain ⟨w1,w2,w3⟩:=T4 hp;obtain ⟨a,b⟩:=X4 n (l.drop w.length) us e1 fun c hc=>hl c (List.mem_of_mem_drop hc);rw [List.length_drop] at a b;have b':∀ t∈us,(∀ c∈cs t,c<128)/\(cs t).length<=l.length:=fun t ht=>⟨(b t ht).1,by have:=(b t ht).2; omega⟩;split at e2
    ·subst e2; exact ⟨by omega,b'⟩
    ·subst e2;refine ⟨by rw [List.length_cons]; omega,fun t ht=>?_⟩;rcases List.mem_cons.mp ht with rfl | ht
     ·exact ⟨fun c hc=>hl c (w3 c hc),w2⟩
     ·exact b' t ht
theorem a3a {st0:List SO} {ts:List Str} {k:Nat}:qe cR cN [.obj st0.length] (rdS cR st0 ts k)=some (if k<ts.length then .inr (.int 1) else .inl .non,rdS cR st0 ts k):=by
 have a1:Dt cR "spot" (aq 0) ⟨[some (.obj st0.length,false)],rdS cR st0 ts k⟩=some (.int (k:Int),⟨[some (.obj st0.length,false)],rdS cR st0 ts k⟩):=fld rfl rfl U8;have a2:Dt cR "tokens" (aq 0) ⟨[some (.obj st0.length,false)],rdS cR st0 ts k⟩=some (tsT ts,⟨[some (.obj st0.length,false)],rdS cR st0 ts k⟩):=fld rfl rfl a9e
 have c:bw (mOp ltT (Dt cR "spot" (aq 0)) (gk Ax (ao (Dt cR "tokens" (aq 0)) d7))) ⟨[some (.obj st0.length,false)],rdS cR st0 ts k⟩=some (decide (k<ts.length),⟨[some (.obj st0.length,false)],rdS cR st0 ts k⟩):=by
  refine zt (zo a1 (zm (zc a2 rfl) aec) ?_)
  by_cases z:k<ts.length
  ·rw [decide_eq_true z]; exact aea (by omega)
  ·rw [decide_eq_false z]; exact ace (by omega)
 by_cases z:k<ts.length
 ·rw [decide_eq_true z] at c;rw [if_pos z];exact Bq (xik c (xra (fld rfl rfl a3j))) rfl
 ·rw [decide_eq_false z] at c;rw [if_neg z];exact aeo (xie c (xl rfl)) rfl
theorem xmk {c:Nat} {F:FnX} {a:M (List T)} {s s1:Sta} {us:List T} {z:List SO} (h:a s=some (us,s1)) (hF:F (.obj s1.sto.length::us) (s1.sto++[.ins c []])=some (.inl .non,z)):El c F a s=some (.inl (.obj s1.sto.length),⟨s1.env,z⟩):=by
 unfold El; rw [h]; dsimp only; rw [hF]
theorem aev {c:Nat} {F:FnX} {a:M (List T)} {s s1:Sta} {us:List T} {z:List SO} {x:T} (h:a s=some (us,s1)) (hF:F (.obj s1.sto.length::us) (s1.sto++[.ins c []])=some (.inr x,z)):El c F a s=some (.inr x,⟨s1.env,z⟩):=by
 unfold El; rw [h]; dsimp only; rw [hF]
theorem xfs {c:Nat} {f:Str} {o:M T} {v:MX} {s s1 s2:Sta} {st0:List SO} {fs:List (Str × T)} {t:T} (hv:v s=some (.inl t,s1)) (h:o s1=some (.obj st0.length,s2)) (hs:s2.sto=st0++[.ins c fs]) (hl:fs.length<100):Cv c f o v s=some (.inl .next,⟨s2.env,st0++[.ins c (a0y f t fs)]⟩):=by
 unfold Cv;rw [hv]; dsimp only;rw [h]; dsimp only;rw [hs,Nt]; dsimp only;rw [if_pos hl,Xb]
theorem xfr {c:Nat} {f:Str} {o:M T} {v:MX} {s s1:Sta} {x:T} (hv:v s=some (.inr x,s1)):Cv c f o v s=some (.inr x,s1):=by
 unfold Cv;rw [hv]
theorem Rm {x:Str} (h:Pn x) {st0:List SO} {ts:List Str} (ht:toks 1000 (cs x)=some ts):qj cR cN [.obj st0.length,.str x,.int 1] (st0++[.ins cR []])=some (.inl .non,rdS cR st0 ts 0):=by
 have tk:=Mj (sto:=st0++[.ins cR []]) h (row:=1);rw [ht] at tk
 have A:Cv cR "tokens" (aq 0) (qz Bc (ao (aq 1) (ao (aq 2) d7))) ⟨[some (.obj st0.length,false),some (.str x,false),some (.int 1,false)],st0++[.ins cR []]⟩=some (.inl .next,⟨[some (.obj st0.length,false),some (.str x,false),some (.int 1,false)],st0++[.ins cR [("tokens",tsT ts)]]⟩) :=
  xfs (fs:=[]) (s2:=⟨[some (.obj st0.length,false),some (.str x,false),some (.int 1,false)],st0++[.ins cR []]⟩) (xmc (s1:=⟨[some (.obj st0.length,false),some (.str x,false),some (.int 1,false)],st0++[.ins cR []]⟩) (zc rfl (zc rfl rfl)) tk) rfl rfl (by decide)
 have B:lx (ug cR "row" (aq 0) (aq 2)) ⟨[some (.obj st0.length,false),some (.str x,false),some (.int 1,false)],st0++[.ins cR [("tokens",tsT ts)]]⟩=some (.inl .next,⟨[some (.obj st0.length,false),some (.str x,false),some (.int 1,false)],st0++[.ins cR [("tokens",tsT ts),("row",.int 1)]]⟩) :=
  xl (Ue (fs:=[("tokens",tsT ts)]) (s2:=⟨[some (.obj st0.length,false),some (.str x,false),some (.int 1,false)],st0++[.ins cR [("tokens",tsT ts)]]⟩) rfl rfl rfl (show 1<100 by decide))
 have C':lx (ug cR "spot" (aq 0) (ak (.int 0))) ⟨[some (.obj st0.length,false),some (.str x,false),some (.int 1,false)],st0++[.ins cR [("tokens",tsT ts),("row",.int 1)]]⟩=some (.inl .next,⟨[some (.obj st0.length,false),some (.str x,false),some (.int 1,false)],rdS cR st0 ts 0⟩) :=
  xl (Ue (fs:=[("tokens",tsT ts),("row",.int 1)]) (s2:=⟨[some (.obj st0.length,false),some (.str x,false),some (.int 1,false)],st0++[.ins cR [("tokens",tsT ts),("row",.int 1)]]⟩) rfl rfl rfl (show 2<100 by decide))
 exact aeo (xq A (xq B C')) rfl
theorem a82 {x:Str} (h:Pn x) {st0:List SO} (ht:toks 1000 (cs x)=none):qj cR cN [.obj st0.length,.str x,.int 1] (st0++[.ins cR []])=some (.inr (.int 1),st0++[.ins cR []]):=by
 have tk:=Mj (sto:=st0++[.ins cR []]) h (row:=1);rw [ht] at tk;exact Bq (xqr (xfr (xmc (s1:=⟨[some (.obj st0.length,false),some (.str x,false),some (.int 1,false)],st0++[.ins cR []]⟩) (zc rfl (zc rfl rfl)) tk))) rfl
theorem Sd {x:Str} (h:Pn x) (dY:∀ ts,toks 1000 (cs x)=some ts->ts.length<60):∃ fs,zy cR cN [.str x] sto=some ((match Xy (cs x) with | some s=>.inl (smT s) | none=>.inr (.int 1)),sto++[.ins cR fs]):=by
 unfold Xy;cases ht:toks 1000 (cs x) with
 | none=>exact ⟨[],Bq (xqr (xsr (aev (s1:=⟨[some (.str x,false),none,none],sto⟩) (zc rfl (zc rfl rfl)) (a82 h ht)))) rfl⟩
 | some ts =>
  dsimp only;have Mk:=xmk (c:=cR) (F:=qj cR cN) (s:=⟨[some (.str x,false),none,none],sto⟩) (s1:=⟨[some (.str x,false),none,none],sto⟩) (a:=ao (aq 0) (ao (ak (.int 1)) d7)) (zc rfl (zc rfl rfl)) (Rm (cN:=cN) h ht);have A:Pj 1 (El cR (qj cR cN) (ao (aq 0) (ao (ak (.int 1)) d7))) ⟨[some (.str x,false),none,none],sto⟩=some (.inl .next,⟨[some (.str x,false),some (.obj sto.length,false),none],rdS cR sto ts 0⟩):=xst Mk rfl;obtain ⟨p1,p2⟩:=X4 1000 (cs x) ts ht h.1;have gu:Pts ts:=⟨by have:=dY ts ht; omega,fun t m=>⟨(p2 t m).1,Nat.lt_of_le_of_lt (p2 t m).2 h.2⟩⟩;rcases a3c (cR:=cR) (cN:=cN) (st0:=sto) gu (dY ts ht) with ⟨t,j,g1,g2⟩ | ⟨g1,j,g2⟩
  ·obtain ⟨⟨s,j'⟩,g3,g4⟩:=Option.map_eq_some_iff.mp g1;cases g4;rw [g3];dsimp only;have B:Pj 2 (qz (Cz cR cN) (ao (aq 1) d7)) ⟨[some (.str x,false),some (.obj sto.length,false),none],rdS cR sto ts 0⟩=some (.inl .next,⟨[some (.str x,false),some (.obj sto.length,false),some (smT s,false)],rdS cR sto ts j'⟩):=xst (xmc (s1:=⟨[some (.str x,false),some (.obj sto.length,false),none],rdS cR sto ts 0⟩) (zc rfl rfl) g2) rfl;have E:=a6i (cR:=cR) (m := "need_end") (F:=qe cR cN) (o:=aq 1) (a:=Bo) (s:=⟨[some (.str x,false),some (.obj sto.length,false),some (smT s,false)],rdS cR sto ts j'⟩) (s1:=⟨[some (.str x,false),some (.obj sto.length,false),some (smT s,false)],rdS cR sto ts j'⟩) (s2:=⟨[some (.str x,false),some (.obj sto.length,false),some (smT s,false)],rdS cR sto ts j'⟩) rfl rfl rfl (a3a (cR:=cR) (cN:=cN) (st0:=sto) (ts:=ts) (k:=j')) afx;refine ⟨rdF ts j',?_⟩
   by_cases z:j'<ts.length
   ·rw [if_pos z] at E ⊢;exact Bq (xq A (xq B (xqr (xdr E)))) rfl
   ·rw [if_neg z] at E ⊢;exact Gk (xq A (xq B (xq (xdt E) (xl (zr rfl))))) rfl
  ·rw [Option.map_eq_none_iff.mp g1];exact ⟨rdF ts j,Bq (xq A (xqr (xsr (xmc (s1:=⟨[some (.str x,false),some (.obj sto.length,false),none],rdS cR sto ts 0⟩) (zc rfl rfl) g2)))) rfl⟩
end K
end
section
namespace K
open C PySem PySem.W PySem.NumText
def num (i:Int):Str:=Str.ofString (toString i)
theorem Ih {m:Nat} (h:10<=m):Nat.toDigits 10 m=Nat.toDigits 10 (m / 10)++[Nat.digitChar (m%10)]:=by
 have hm:m%10<10:=Nat.mod_lt m (by decide);have t:Nat.toDigits 10 (m / 10)++Nat.toDigits 10 (m%10)=Nat.toDigits 10 (10 * (m / 10)+m%10):=Nat.toDigits_append_toDigits (by decide) (by omega) hm;rw [Nat.div_add_mod,Nat.toDigits_of_lt_base hm] at t;exact t.symm
theorem Zo:∀ (k m:Nat),m<10 ^ (k+1)->(Nat.toDigits 10 m).length<=k+1
 | 0,m,h=>by rw [Nat.toDigits_of_lt_base (by simpa using h)]; exact Nat.le_refl _
 | k+1,m,h=>by
  by_cases z:m<10
  ·rw [Nat.toDigits_of_lt_base z]; simp
  ·rw [Ih (by omega),List.length_append,List.length_singleton];have:=Zo k (m / 10) (by rw [Nat.pow_succ] at h; omega);omega
theorem a08 (m:Nat):0<m->∃ c r,Nat.toDigits 10 m=c::r/\c.toNat≠48:=by
 induction m using Nat.strongRecOn with -- here
 | _ m ih =>
  intro h
  by_cases z:m<10
  ·refine ⟨_,_,Nat.toDigits_of_lt_base z,?_⟩
   have:∀ d:Nat,0<d->d<10->(Nat.digitChar d).toNat≠48:=by
    intro d h1 h2;have:d=1\/d=2\/d=3\/d=4\/d=5\/d=6\/d=7\/d=8\/d=9:=by omega
    rcases this with rfl | rfl | rfl | rfl | rfl | rfl | rfl | rfl | rfl <;> decide
   exact this m h z
  ·obtain ⟨c,r,e,hc⟩:=ih (m / 10) (by omega) (by omega);exact ⟨c,_,by rw [Ih (by omega),e]; rfl,hc⟩
theorem Mz (m:Nat):cs (num (m:Int))=(Nat.toDigits 10 m).map Char.toNat:=KIN.signs_num m
theorem Lf (m:Nat):∀ c∈cs (num (m:Int)),Tz c=true:=by
 intro c hc;rw [Mz] at hc;obtain ⟨ch,aL,e⟩:=List.mem_map.mp hc;have r:=PyProof.Rows.digit_range (Nat.isDigit_of_mem_toDigits (by decide) (by decide) aL);subst e;simp only [Tz,Bool.and_eq_true,decide_eq_true_eq];exact r
theorem N5 (m:Nat):cs (num (m:Int))≠[]:=by
 rw [Mz];intro e;have:=List.map_eq_nil_iff.mp e
 by_cases z:m<10
 ·rw [Nat.toDigits_of_lt_base z] at this; cases this
 ·rw [Ih (by omega)] at this;simp at this
theorem Wr {m:Nat} (h:m<=999999999):(cs (num (m:Int))).length<=9:=by
 rw [Mz,List.length_map];exact Zo 8 m (by omega)
theorem Mf (m:Nat):val (num (m:Int))=m:=by
 unfold val;rw [Mz];exact KIN.val_back m
theorem adq (m:Nat):Vu (num (m:Int))=true:=by
 unfold Vu
 have h1:(cs (num (m:Int))).isEmpty=false:=by
  cases h:cs (num (m:Int)) with
  | nil=>exact absurd h (N5 m)
  | cons a l=>rfl
 have h2:(cs (num (m:Int))).all Tz=true:=List.all_eq_true.mpr (Lf m);rw [h1,h2,Bool.not_false,Bool.true_and,Bool.true_and,Bool.or_eq_true]
 by_cases z:m=0
 ·subst z
  left
  decide +kernel
 ·right
  obtain ⟨c,r,e,hc⟩:=a08 m (by omega);rw [Mz,e];exact decide_eq_true hc
theorem a4j {m:Nat} (h:m<=999999999):Dw (num (m:Int))=true:=by
 unfold Dw;rw [adq,decide_eq_true (Wr h),Mf,decide_eq_true h]; rfl
theorem U9 (m:Nat):nameB (num (m:Int))=false:=by
 unfold nameB
 have:a03 ((cs (num (m:Int))).headD 0)=false:=by
  cases h:cs (num (m:Int)) with
  | nil=>rfl
  | cons a l =>
   have:=Lf m a (by rw [h]; exact List.mem_cons_self);simp only [Tz,Bool.and_eq_true,decide_eq_true_eq] at this;show a03 a=false;unfold a03;rw [decide_eq_false (show ¬ 97<=a by omega)]; rfl
 rw [this];simp only [Bool.and_false,Bool.false_and]
theorem a6b {c:Nat} (h:Tz c=true):Dp c=true:=by unfold Dp; rw [h,Bool.or_true]
theorem Lb (m:Nat):∀ c∈cs (num (m:Int)),Dp c=true:=fun c hc=>a6b (Lf m c hc)
theorem uz {x:Str} (h:nameB x=true):(∀ c∈cs x,Dp c=true)/\cs x≠[]/\(cs x).length<=8:=by
 unfold nameB at h;simp only [Bool.and_eq_true,decide_eq_true_eq,List.all_eq_true] at h;exact ⟨h.2.1.2,fun e=>by rw [e] at h; exact absurd h.1 (by decide),h.2.1.1.1⟩
def Tk (l:List Nat) (ts:List Str):Prop:=∀ n,l.length<n->toks n l=some ts
theorem Tk.nil:Tk [] []:=fun n h=>by
 obtain ⟨n,rfl⟩:∃ k,n=k+1:=⟨n - 1,by simp at h; omega⟩;rw [toks,if_pos rfl]
theorem Tk.sp {l:List Nat} {ts:List Str} (h:Tk l ts):Tk (32::l) ts:=fun n hn=>by
 rw [List.length_cons] at hn;obtain ⟨n,rfl⟩:∃ k,n=k+1:=⟨n - 1,by omega⟩
 have e:pieceAt (32::l)=some [32]:=by
  simp [pieceAt,show Dp 32=false from by decide]
 rw [toks,if_neg (List.cons_ne_nil _ _),e];dsimp only;rw [show (32::l).drop [32].length=l from rfl,h n (by omega)];rfl
def spc (g:Nat):List Nat:=List.replicate g 32
theorem Tk.sps {l:List Nat} {ts:List Str} (h:Tk l ts):∀ g,Tk (spc g++l) ts
 | 0=>h
 | g+1=>(Tk.sps h g).sp
theorem Tk.sign {c:Nat} (hc:c=42\/c=43\/c=45) {l:List Nat} {ts:List Str} (h:Tk l ts):Tk (c::l) (st [c]::ts):=fun n hn=>by
 rw [List.length_cons] at hn;obtain ⟨n,rfl⟩:∃ k,n=k+1:=⟨n - 1,by omega⟩
 have e:pieceAt (c::l)=some [c]:=by
  rcases hc with rfl | rfl | rfl <;> simp [pieceAt,show Dp 42=false from by decide,show Dp 43=false from by decide,show Dp 45=false from by decide]
 have ne:¬ [c]=[32]:=by rcases hc with rfl | rfl | rfl <;> decide
 rw [toks,if_neg (List.cons_ne_nil _ _),e];dsimp only;rw [show (c::l).drop [c].length=l from rfl,h n (by omega)];simp only [Option.map_some];rw [if_neg ne]
def noW (l:List Nat):Prop:=∀ c r,l=c::r->Dp c=false
theorem Tk.word {w l:List Nat} {ts:List Str} (hw:∀ c∈w,Dp c=true) (h0:w≠[]) (hl:noW l) (h:Tk l ts):Tk (w++l) (st w::ts):=fun n hn=>by
 rw [List.length_append] at hn;obtain ⟨n,rfl⟩:∃ k,n=k+1:=⟨n - 1,by omega⟩
 have tw:(w++l).takeWhile Dp=w:=by
  rw [List.takeWhile_append_of_pos hw];cases l with
  | nil=>simp
  | cons c r=>rw [List.takeWhile_cons,hl c r rfl]; simp
 have e:pieceAt (w++l)=some w:=by
  cases w with
  | nil=>exact absurd rfl h0
  | cons c r =>
   rw [List.cons_append] at tw ⊢;unfold pieceAt;dsimp only;rw [if_pos (hw c List.mem_cons_self),tw]
 have ne:¬ w=[32]:=fun z=>by
  have:=hw 32 (by rw [z]; exact List.mem_cons_self);exact absurd this (by decide)
 have lw:0<w.length:=List.length_pos_iff.mpr h0;rw [toks,if_neg (by simp [h0]),e];dsimp only;rw [List.drop_left,h n (by omega)];simp only [Option.map_some];rw [if_neg ne]
theorem a73:noW []:=fun c r h=>by cases h
theorem La {c:Nat} {l:List Nat} (h:Dp c=false):noW (c::l):=fun d r e=>by cases e; exact h
theorem a4u {g:Nat} {l:List Nat} (h:noW l):noW (spc g++l):=by
 cases g with
 | zero=>exact h
 | succ g=>exact La (by decide)
end K
end
section
namespace K
open C PySem
inductive Bd where
 | num (n:Nat) | mul (n:Nat) (x:Str) | nam (x:Str)
abbrev It5:=Bool × Bd
def J2:Bd->Prop
 | .num n=>n<=999999999
 | .mul n x=>n<=999999999/\nameB x=true
 | .nam x=>nameB x=true
def bt:Bd->List Str
 | .num n=>[num (n:Int)]
 | .mul n x=>[num (n:Int),"*",x]
 | .nam x=>[x]
noncomputable def bc (g:Nat):Bd->List Nat
 | .num n=>cs (num (n:Int))
 | .mul n x=>cs (num (n:Int))++(spc g++(42::(spc g++cs x)))
 | .nam x=>cs x
def sgI (b:Bool):Int:=if b then -1 else 1
noncomputable def pv:It5->Str × Int
 | (b,.num n)=>("",sgI b * (n:Int))
 | (b,.mul n x)=>(x,sgI b * (n:Int))
 | (b,.nam x)=>(x,sgI b)
def sgS (b:Bool):Str:=if b then "-" else "+"
def sgC (b:Bool):Nat:=if b then 45 else 43
def rt:List It5->List Str
 | []=>[]
 | (b,d)::l=>sgS b::(bt d++rt l)
def rc (g:Nat):List It5->List Nat
 | []=>[]
 | (b,d)::l=>spc g++(sgC b::(spc g++(bc g d++rc g l)))
def ft:It5->List Str
 | (b,d)=>(if b then ([("-" : Str)]:List Str) else [])++bt d
def fc (ga g:Nat):It5->List Nat
 | (b,d)=>(if b then spc ga++(45::spc ga) else [])++bc g d
theorem a94 (b:Bool):sgS b=st [sgC b]:=by cases b <;> decide +kernel
theorem a8j:("*" : Str)=st [42]:=by decide +kernel
theorem a3z (g:Nat):∀ l:List It5,noW (rc g l)
 | []=>a73
 | (b,d)::l=>a4u (La (by cases b <;> decide))
theorem Tk.body {g:Nat} {d:Bd} (hd:J2 d) {l:List Nat} {ts:List Str} (hl:noW l) (h:Tk l ts):Tk (bc g d++l) (bt d++ts):=by
 cases d with
 | num n =>
  have:=Tk.word (Lb n) (N5 n) hl h;rw [Ux] at this;exact this
 | nam x =>
  obtain ⟨h1,h2,_⟩:=uz hd;have:=Tk.word h1 h2 hl h;rw [Ux] at this;exact this
 | mul n x =>
  obtain ⟨h1,h2,_⟩:=uz hd.2;have a:=Tk.word h1 h2 hl h;rw [Ux] at a;have b:=Tk.sign (.inl rfl) (a.sps g);have c:=Tk.word (Lb n) (N5 n) (a4u (g:=g) (La (l:=spc g++(cs x++l)) (by decide))) (b.sps g);rw [Ux,<- a8j] at c;unfold bc;simp only [List.append_assoc,List.cons_append];exact c
theorem Tk.rest {g:Nat}:∀ l:List It5,(∀ i∈l,J2 i.2)->Tk (rc g l) (rt l)
 | [],_=>Tk.nil
 | (b,d)::l,h=>by
  have ih:=Tk.rest (g:=g) l fun i hi=>h i (List.mem_cons_of_mem _ hi);have a:=Tk.body (g:=g) (h _ List.mem_cons_self) (a3z g l) ih;have c:=Tk.sign (c:=sgC b) (by cases b <;> simp [sgC]) (a.sps g);rw [<- a94] at c;exact c.sps g
theorem Tk.all {ga g:Nat} {i:It5} {l:List It5} (hi:J2 i.2) (h:∀ i∈l,J2 i.2):Tk (fc ga g i++rc g l) (ft i++rt l):=by
 obtain ⟨b,d⟩:=i;have a:=Tk.body (g:=g) hi (a3z g l) (Tk.rest l h);cases b with
 | false=>exact a
 | true =>
  have c:=(Tk.sign (c:=45) (.inr (.inr rfl)) (a.sps ga)).sps ga
  have e:fc ga g (true,d)++rc g l=spc ga++(45::(spc ga++(bc g d++rc g l))):=by
   unfold fc;simp only [if_true,List.append_assoc,List.cons_append]
  have e2:ft (true,d)++rt l=st [45]::(bt d++rt l):=by
   rw [show st [45]=("-" : Str) by decide +kernel]; rfl
  rw [e,e2];exact c
theorem Ir {pre r:List Str} {a:Str}:see (pre++a::r) pre.length=a:=by
 unfold see;rw [List.getD_eq_getElem?_getD,List.getElem?_append_right (Nat.le_refl _),Nat.sub_self]; rfl
theorem adb {pre r:List Str} {a b:Str}:see (pre++a::b::r) (pre.length+1)=b:=by
 have:=Ir (pre:=pre++[a]) (r:=r) (a:=b);rw [List.length_append,List.length_singleton,List.append_assoc] at this;exact this
theorem aci {pre r:List Str} {a b c:Str}:see (pre++a::b::c::r) (pre.length+2)=c:=by
 have:=Ir (pre:=pre++[a,b]) (r:=r) (a:=c);rw [List.length_append,List.append_assoc] at this;exact this
theorem Xd {pre:List Str}:see pre pre.length = "" := by
 unfold see;rw [List.getD_eq_getElem?_getD,List.getElem?_eq_none_iff.mpr (Nat.le_refl _)]; rfl
theorem a6q (pre:List Str) (l:List It5):(see (pre++rt l) pre.length==("*" : Str))=false:=by
 cases l with
 | nil =>
  rw [show rt []=[] from rfl,List.append_nil,Xd]
  decide +kernel
 | cons i l =>
  obtain ⟨b,d⟩:=i;rw [show rt ((b,d)::l)=sgS b::(bt d++rt l) from rfl,Ir];cases b <;> decide +kernel
theorem Lr {pre:List Str} {b:Bool} {d:Bd} (hd:J2 d) {l:List It5}:Bk (pre++(bt d++rt l)) pre.length (sgI b)=some (pv (b,d),(pre++bt d).length):=by
 rw [List.length_append];cases d with
 | num n =>
  have s1:see (pre++(bt (.num n)++rt l)) pre.length=num (n:Int):=Ir
  have s2:see (pre++(bt (.num n)++rt l)) (pre.length+1)=see ((pre++[num (n:Int)])++rt l) (pre++[num (n:Int)]).length:=by
   rw [List.length_append,List.length_singleton,List.append_assoc]; rfl
  unfold Bk;rw [s1,s2,a6q,U9,a4j hd,Mf];rfl
 | nam x =>
  have s1:see (pre++(bt (.nam x)++rt l)) pre.length=x:=Ir;have hx:nameB x=true:=hd;unfold Bk;rw [s1,hx];rfl
 | mul n x =>
  have s1:see (pre++(bt (.mul n x)++rt l)) pre.length=num (n:Int):=Ir;have s2:see (pre++(bt (.mul n x)++rt l)) (pre.length+1) = "*" := adb;have s3:see (pre++(bt (.mul n x)++rt l)) (pre.length+2)=x:=aci;unfold Bk;rw [s1,s2,s3,U9,a4j hd.1,Mf,hd.2,if_neg (by decide),if_pos rfl,if_pos (beq_self_eq_true _),if_pos rfl];rfl
theorem adx (b:Bool):sgn (sgS b)=sgI b:=by cases b <;> decide +kernel
theorem Pq:∀ (l:List It5) (n:Nat) (pre:List Str) (acc:List (Str × Int)),l.length<n->(∀ i∈l,J2 i.2)->Nz n (pre++rt l) pre.length acc=some (acc++l.map pv,(pre++rt l).length)
 | [],n,pre,acc,hn,_=>by
  obtain ⟨n,rfl⟩:∃ k,n=k+1:=⟨n - 1,by simp at hn; omega⟩;rw [show rt []=[] from rfl,List.append_nil,Nz,Xd,if_neg (by decide +kernel)];simp
 | (b,d)::l,n,pre,acc,hn,h=>by
  rw [List.length_cons] at hn;obtain ⟨n,rfl⟩:∃ k,n=k+1:=⟨n - 1,by omega⟩;have hd:J2 d:=h _ List.mem_cons_self;have e:pre++rt ((b,d)::l)=pre++sgS b::(bt d++rt l):=rfl;rw [e,Nz,Ir,if_pos (by cases b <;> decide +kernel),adx];have p:=Lr (pre:=pre++[sgS b]) (b:=b) hd (l:=l);rw [List.length_append,List.length_singleton,List.append_assoc] at p;rw [show pre++([sgS b]++(bt d++rt l))=pre++sgS b::(bt d++rt l) from rfl] at p;rw [p];dsimp only;have ih:=Pq l n (pre++[sgS b]++bt d) (acc++[pv (b,d)]) (by omega) fun i hi=>h i (List.mem_cons_of_mem _ hi);have e2:pre++[sgS b]++bt d++rt l=pre++sgS b::(bt d++rt l):=by simp
  rw [e2] at ih;rw [ih];simp
noncomputable def Dh (l:List (Str × Int)):Sm:=(((l.filter fun p=>p.1==("" : Str)).map (·.2)).sum,prt (l.filter fun p=>!(p.1==("" : Str))))
theorem a81 {d:Bd} (hd:J2 d) {r:List Str}:(see (bt d++r) 0==("-" : Str))=false:=by
 have hn:∀ n:Nat,(num (n:Int)==("-" : Str))=false:=fun n=>beq_eq_false_iff_ne.mpr fun e=>by
  have:=Lf n 45 (by rw [e]; decide +kernel);exact absurd this (by decide)
 have hx:∀ x:Str,nameB x=true->(x==("-" : Str))=false:=fun x h=>beq_eq_false_iff_ne.mpr fun e=>by
  rw [e] at h;exact absurd h (by decide +kernel)
 cases d with
 | num n=>exact hn n
 | nam x=>exact hx x hd
 | mul n x=>exact hn n
theorem abz {i:It5} {l:List It5} (hi:J2 i.2) (h:∀ i∈l,J2 i.2) (hl:l.length<1000) (hs:yq (Dh ((i::l).map pv))=true):a98 (ft i++rt l)=some (Dh ((i::l).map pv),(ft i++rt l).length):=by
 obtain ⟨b,d⟩:=i;have bb:=hs;unfold Dh at bb;unfold a98;cases b with
 | false =>
  rw [show ft (false,d)=bt d from rfl,a81 hi];have p:=Lr (pre:=[]) (b:=false) (d:=d) hi (l:=l);rw [List.nil_append,List.nil_append] at p;rw [if_neg (by decide),if_neg (by decide),show (1:Int)=sgI false from rfl,show (0:Nat)=([]:List Str).length from rfl,p];dsimp only;rw [Pq l 1000 (bt d) [pv (false,d)] hl h];dsimp only;rw [show [pv (false,d)]++l.map pv=((false,d)::l).map pv from rfl,if_pos bb];rfl
 | true =>
  have e:ft (true,d)++rt l=(["-"]:List Str)++(bt d++rt l):=rfl;have s0:(see ((["-"]:List Str)++(bt d++rt l)) 0==("-" : Str))=true:=beq_self_eq_true _;have p:=Lr (pre:=["-"]) (b:=true) (d:=d) hi (l:=l);rw [e,s0,if_pos rfl,if_pos rfl,show (-1:Int)=sgI true from rfl,show (1:Nat)=(["-"]:List Str).length from rfl,p];dsimp only;have q:=Pq l 1000 ((["-"]:List Str)++bt d) [pv (true,d)] hl h;rw [List.append_assoc] at q;rw [q];dsimp only;rw [show [pv (true,d)]++l.map pv=((true,d)::l).map pv from rfl,if_pos bb];rfl
theorem a7i {ga g:Nat} {i:It5} {l:List It5} (hi:J2 i.2) (h:∀ i∈l,J2 i.2) (hl:(fc ga g i++rc g l).length<1000) (hn:l.length<1000) (hs:yq (Dh ((i::l).map pv))=true):Xy (fc ga g i++rc g l)=some (Dh ((i::l).map pv)):=by
 unfold Xy;rw [Tk.all hi h 1000 hl];dsimp only;rw [abz hi h hn hs];dsimp only;rw [if_neg (by omega)]
abbrev scr (cs:List Int):T:=.lst (cs.map .int)
def cell (cs:List Int) (k:Nat):Int:=cs.getD k 0
theorem a70 {cs:List Int} {k:Nat} {sto:List SO}:ji [scr cs,.int (k:Int)] sto=some (.int (cell cs k),sto):=by
 by_cases h:k<cs.length
 ·have h1:((k:Int)<(cs.length:Int)):=by omega
  have h2:cs[k]? = some cs[k]:=List.getElem?_eq_getElem h;simp! [ji,dg,ixI,h1,h2,cell,List.getD]
 ·have h1:¬ ((k:Int)<(cs.length:Int)):=by omega
  have h2:cs[k]? = none:=List.getElem?_eq_none_iff.mpr (by omega);simp! [ji,dg,ixI,h1,h2,cell,List.getD]
theorem Ys {cs:List Int} {k:Nat} {i:Int} {sto:List SO} (h:i=(k:Int)):ji [scr cs,.int i] sto=some (.int (cell cs k),sto):=by
 rw [h]; exact a70
def std (a:Int) (f:Bool):SO:=.dic [(.inr "left",.int a),(.inr "free",.bl f)]
def Ao (n:Nat) (sto:List SO):Prop:=∃ a f,sto[n]? = some (std a f)
theorem Ao.lt {n:Nat} {sto:List SO} (h:Ao n sto):n<sto.length:=by
 obtain ⟨a,f,h⟩:=h;exact (List.getElem?_eq_some_iff.mp h).1
theorem Ao.set {n:Nat} {sto:List SO} (h:Ao n sto) (a:Int) (f:Bool):Ao n (sto.set n (std a f)):=⟨a,f,List.getElem?_set_self h.lt⟩
theorem Ao.add {n:Nat} {sto:List SO} (h:Ao n sto) (l:List SO):Ao n (sto++l):=by
 have hl:=h.lt;obtain ⟨a,f,h⟩:=h;exact ⟨a,f,by rw [List.getElem?_append_left hl]; exact h⟩
theorem Ao.new {sto:List SO} {a:Int} {f:Bool}:Ao sto.length (sto++[std a f]):=⟨a,f,by rw [List.getElem?_append_right (Nat.le_refl _),Nat.sub_self]; rfl⟩
theorem nlf:¬ ((.inr "left" : Key)=.inr "free"):=by decide
theorem a5i {a f:T}:Gj (.inr "left") [(.inr "left",a),(.inr "free",f)]=some a:=by simp [Gj]
theorem a5h {a f:T}:Gj (.inr "free") [(.inr "left",a),(.inr "free",f)]=some f:=by
 rw [Gj,if_neg nlf,Gj,if_pos rfl]
theorem a3p {a f x:T}:Vt (.inr "left") x [(.inr "left",a),(.inr "free",f)]=[(.inr "left",x),(.inr "free",f)]:=by
 have:¬ ((.inr "free" : Key)=.inr "left"):=by decide
 unfold Vt;rw [if_pos (by simp)];simp only [List.map_cons,List.map_nil];rw [if_pos trivial,if_neg this]
theorem a9w {j:Int} (h0:0<=j) (h1:j<1000000000000000000000000000000000000000):j.natAbs<fdl:=Nat.lt_trans (show j.natAbs<1000000000000000000000000000000000000000 by omega) (by decide)
theorem take {n:Nat} {many:Int} {sto:List SO} (hs:Ao n sto) (hm:0<many) (hb:many<1000000000000000000000000000000000000000) :
  ∃ (r:Int) (aw:List SO),dz [.obj n,.int many] sto=some (.int r,aw)/\0<=r/\r<many/\Ao n aw/\aw.length=sto.length:=by
 have hf:=a9w (j:=many) (by omega) hb;have lt:∀ x:Int,0<=x%many/\x%many<many:=fun x=>⟨Int.emod_nonneg _ (by omega),Int.emod_lt_of_pos _ hm⟩;have hn:=hs.lt;have eY:=hs;obtain ⟨a,f,e⟩:=hs;have b1:xg 48271=true:=by decide
 have b2:xg 16807=true:=by decide
 have l2:2<lim:=by decide
 cases f with
 | true =>
  refine ⟨a%many,sto.set n (std (a / many) true),?_,(lt _).1,(lt _).2,eY.set _ _,List.length_set⟩;unfold std at e;simp! [dz,uy,Ed,e,keyOf,a5i,a5h,a3p,hm,hf,std,l2]
 | false =>
  refine ⟨((a * 48271%2147483647) * 16807%2147483629 / 5)%many,sto.set n (std (a * 48271%2147483647) false),?_,(lt _).1,(lt _).2,eY.set _ _,List.length_set⟩;unfold std at e;simp! [dz,uy,Ed,e,keyOf,a5i,a5h,a3p,hm,hf,std,l2,yg,b1,b2,List.getElem?_set_self hn]
def rep1 (c:Nat) (n:Nat):Str:=⟨((List.replicate n [c]).flatten).toArray⟩
def okN (x:Str):Prop:=okS x/\x.length<40/\nameB x=true
def ltr (i:Nat):Nat:=("bcdfghjkmn" : Str).cps.toList.getD i 0
def fil (i:Nat):Nat:=("qx7" : Str).cps.toList.getD i 0
theorem a3b {c:Nat} {j:Int} (h0:0<=j) (h1:j<=1000):yg (.str ⟨#[c]⟩) (.int j)=some (.str (rep1 c j.toNat)):=by
 have hl:Str.length (⟨#[c]⟩:Str)<=100:=by simp [Str.length]
 simp only [yg];rw [if_pos ⟨h0,h1,hl⟩]; rfl
theorem q1:("q" : Str)=⟨#[113]⟩:=by decide +kernel
theorem a8y {i:Nat} (h:i<10):dg (.str "bcdfghjkmn") (.int (i:Int))=some (.str ⟨#[ltr i]⟩):=by
 match i,h with
 | 0,_=>rfl
 | 1,_=>rfl
 | 2,_=>rfl
 | 3,_=>rfl
 | 4,_=>rfl
 | 5,_=>rfl
 | 6,_=>rfl
 | 7,_=>rfl
 | 8,_=>rfl
 | 9,_=>rfl
theorem ac0 {i:Nat} (h:i<3):dg (.str "qx7") (.int (i:Int))=some (.str ⟨#[fil i]⟩):=by
 match i,h with
 | 0,_=>rfl
 | 1,_=>rfl
 | 2,_=>rfl
def nm (p i f q:Nat):Str:=rep1 113 p++⟨#[ltr i]⟩++rep1 (fil f) q
noncomputable def okB (z p i f:Nat):Bool:=PyData.canLay0 (.str (nm p i f (z+1 - p)))&&decide ((nm p i f (z+1 - p)).length<40)&&nameB (nm p i f (z+1 - p))&&decide ((rep1 113 p).length+(⟨#[ltr i]⟩:Str).length<20)&&decide ((rep1 113 p++⟨#[ltr i]⟩).length+(rep1 (fil f) (z+1 - p)).length<40)
theorem aa3:∀ z,z<7->∀ p,p<z+1->∀ i,i<10->∀ f,f<3->okB z p i f=true:=by decide +kernel
theorem ad7 (z:Nat) (hz:z<7) (p:Nat) (hp:p<z+1) (i:Nat) (hi:i<10) (f:Nat) (hf:f<3):okN (nm p i f (z+1 - p))/\(rep1 113 p).length+(⟨#[ltr i]⟩:Str).length<20/\(rep1 113 p++⟨#[ltr i]⟩).length+(rep1 (fil f) (z+1 - p)).length<40:=by
 have h:=aa3 z hz p hp i hi f hf;simp only [okB,Bool.and_eq_true,decide_eq_true_eq] at h;exact ⟨⟨h.1.1.1.1,h.1.1.1.2,h.1.1.2⟩,h.1.2,h.2⟩
theorem w1:∀ x∈(["b","ab","abc","abcd","a","ba","aab","b1","bab","ab1"]:List Str),okN x:=by
 unfold okN okS
 decide +kernel
theorem w2:∀ x∈(["order","andes","note","iff","atlas","setup","waiter","handy","boxes","ends"]:List Str),okN x:=by
 unfold okN okS
 decide +kernel
theorem w3:∀ x∈(["or1","and2","not3","box4","at5","end6","own7","set8","iff9","says"]:List Str),okN x:=by
 unfold okN okS
 decide +kernel
noncomputable def nameOf (c:Int) (i:Nat):Str :=
 if c / 147%4=1 then (["b","ab","abc","abcd","a","ba","aab","b1","bab","ab1"]:List Str).getD i "b"
 else if c / 147%4=2 then (["order","andes","note","iff","atlas","setup","waiter","handy","boxes","ends"]:List Str).getD i "b"
 else if c / 147%4=3 then (["or1","and2","not3","box4","at5","end6","own7","set8","iff9","says"]:List Str).getD i "b"
 else nm (c / 7%(2+c%7 - 1)).toNat i (c / 49%3).toNat (2+c%7 - 1 - c / 7%(2+c%7 - 1)).toNat
theorem Ko {ws:List Str} (hw:∀ x∈ws,okN x) {i:Nat} (h:ws.length=10) (hi:i<10):dg (.lst (ws.map .str)) (.int (i:Int))=some (.str (ws.getD i "b"))/\okN (ws.getD i "b"):=by
 have cW:i<ws.length:=by omega
 rw [T8 T.str ws cW,List.getD_eq_getElem?_getD,List.getElem?_eq_getElem cW];exact ⟨rfl,hw _ (List.getElem_mem cW)⟩
theorem name {c k:Int} {i:Nat} {sto:List SO} (hi:i<10) (ei:k%10=(i:Int)):qy [.int c,.int k] sto=some (.str (nameOf c i),sto)/\okN (nameOf c i):=by
 unfold nameOf
 by_cases h1:c / 147%4=1
 ·obtain ⟨e,o⟩:=Ko w1 rfl hi;simp only [List.map_cons,List.map_nil] at e;rw [if_pos h1];exact ⟨by simp! [qy,ur,h1,ei,e],o⟩
 rw [if_neg h1]
 by_cases h2:c / 147%4=2
 ·obtain ⟨e,o⟩:=Ko w2 rfl hi;simp only [List.map_cons,List.map_nil] at e;rw [if_pos h2];exact ⟨by simp! [qy,ur,h2,ei,e],o⟩
 rw [if_neg h2]
 by_cases h3:c / 147%4=3
 ·obtain ⟨e,o⟩:=Ko w3 rfl hi;simp only [List.map_cons,List.map_nil] at e;rw [if_pos h3];exact ⟨by simp! [qy,ur,h3,ei,e],o⟩
 rw [if_neg h3];obtain ⟨z,hz,ez⟩:∃ z:Nat,z<7/\c%7=(z:Int):=⟨(c%7).toNat,by omega,by omega⟩;have hs:(0:Int)<2+(z:Int) - 1:=by omega
 have p0:=Int.emod_nonneg (c / 7) (show (2+(z:Int) - 1)≠0 by omega);have p1:=Int.emod_lt_of_pos (c / 7) hs;obtain ⟨p,ep⟩:∃ p:Nat,c / 7%(2+(z:Int) - 1)=(p:Int):=⟨(c / 7%(2+(z:Int) - 1)).toNat,by omega⟩;have hp:p<=z:=by omega
 obtain ⟨f,hf,ef⟩:∃ f:Nat,f<3/\c / 49%3=(f:Int):=⟨(c / 49%3).toNat,by omega,by omega⟩;obtain ⟨o1,o2,o3⟩:=ad7 z hz p (by omega) i hi f hf
 have eq:nm (c / 7%(2+c%7 - 1)).toNat i (c / 49%3).toNat (2+c%7 - 1 - c / 7%(2+c%7 - 1)).toNat=nm p i f (z+1 - p):=by
  rw [ez,ep,ef];congr 1;omega
 rw [eq];refine ⟨?_,o1⟩;have b1:(c / 147%4==1)=false:=beq_eq_false_iff_ne.mpr h1;have b2:(c / 147%4==2)=false:=beq_eq_false_iff_ne.mpr h2;have b3:(c / 147%4==3)=false:=beq_eq_false_iff_ne.mpr h3;have m1:=a3b (c:=113) (j:=(p:Int)) (by omega) (by omega);have m2:=a3b (c:=fil f) (j:=2+(z:Int) - 1 - (p:Int)) (by omega) (by omega);rw [Int.toNat_natCast,<- q1] at m1;rw [show (2+(z:Int) - 1 - (p:Int)).toNat=z+1 - p by omega] at m2;have l1:(rep1 113 p).length+(⟨#[ltr i]⟩:Str).length<lim:=by show _<1000000; omega
 have l2:(rep1 113 p++⟨#[ltr i]⟩).length+(rep1 (fil f) (z+1 - p)).length<lim:=by show _<1000000; omega
 have bb:(1:Int)<2+(z:Int):=by omega
 simp! [qy,ur,b1,b2,b3,ez,hs,bb,ep,m1,ei,a8y hi,ef,ac0 hf,l1,m2,l2,nm]
theorem a6m:∀ i,i<10->∀ j,j<10->ltr i=ltr j->i=j:=by decide +kernel
theorem T5 (c n:Nat):(rep1 c n).cps.toList=List.replicate n c:=by
 unfold rep1;simp only
 induction n with
 | zero=>rfl
 | succ n ih=>simp [List.replicate_succ] at ih ⊢
theorem a8z {p f q i j:Nat} (hi:i<10) (hj:j<10) (h:nm p i f q=nm p j f q):i=j:=by
 have e:=congrArg (fun x:Str=>x.cps.toList[p]?) h
 have bL:∀ k,(nm p k f q).cps.toList[p]? = some (ltr k):=fun k=>by
  have:(nm p k f q).cps.toList=(rep1 113 p).cps.toList++[ltr k]++(rep1 (fil f) q).cps.toList:=by
   show ((rep1 113 p).cps ++ #[ltr k]++(rep1 (fil f) q).cps).toList=_;simp
  rw [this,T5];simp
 simp only [bL] at e;exact a6m i hi j hj (Option.some.inj e)
theorem Im {ws:List Str} (h:ws.length=10) (hn:ws.Nodup) {i j:Nat} (hi:i<10) (hj:j<10) (e:ws.getD i "b" = ws.getD j "b"):i=j:=by
 have cW:i<ws.length:=by omega
 have gv:j<ws.length:=by omega
 rw [List.getD_eq_getElem?_getD,List.getD_eq_getElem?_getD,List.getElem?_eq_getElem cW,List.getElem?_eq_getElem gv] at e;exact (List.getElem_inj hn).mp e
theorem Uv {c:Int} {i j:Nat} (hi:i<10) (hj:j<10) (h:nameOf c i=nameOf c j):i=j:=by
 unfold nameOf at h
 by_cases h1:c / 147%4=1
 ·rw [if_pos h1,if_pos h1] at h;exact Im rfl (by decide +kernel) hi hj h
 rw [if_neg h1,if_neg h1] at h
 by_cases h2:c / 147%4=2
 ·rw [if_pos h2,if_pos h2] at h;exact Im rfl (by decide +kernel) hi hj h
 rw [if_neg h2,if_neg h2] at h
 by_cases h3:c / 147%4=3
 ·rw [if_pos h3,if_pos h3] at h;exact Im rfl (by decide +kernel) hi hj h
 rw [if_neg h3,if_neg h3] at h;exact a8z hi hj h
theorem Lk {n:Nat} {many:Int} {sto:List SO} {L:Nat} (hL:sto.length=L) (hs:Ao n sto) (hm:0<many) (hb:many<1000000000000000000000000000000000000000) :
  ∃ (r:Int) (aw:List SO),dz [.obj n,.int many] sto=some (.int r,aw)/\0<=r/\r<many/\Ao n aw/\aw.length=L:=by
 obtain ⟨r,s1,p,a,b,o,l⟩:=take hs hm hb;exact ⟨r,s1,p,a,b,o,by omega⟩
theorem number {n:Nat} {most:Int} {sto:List SO} {L:Nat} (hL:sto.length=L) (hs:Ao n sto) (hm:5<=most) :
  ∃ (r:Int) (aw:List SO),jy [.obj n,.int most] sto=some (.int r,aw)/\-most<r/\r<most/\Ao n aw/\aw.length=L:=by
 obtain ⟨w,s1,p1,a1,b1,o1,l1⟩:=Lk (many:=4) hL hs (by decide) (by decide)
 by_cases h3:w<3
 ·obtain ⟨r,s2,p2,a2,b2,o2,l2⟩:=Lk (many:=9) l1 o1 (by decide) (by decide);refine ⟨r - 4,s2,?_,by omega,by omega,o2,l2⟩;simp! [jy,p1,h3,p2]
 ·have c8:Qo (.int 10) (.int 8)=some (.int 100000000):=by simp [Qo]
  have b4:xg 4=true:=by decide
  have b8:xg 100000000=true:=by decide
  have b2:xg 2=true:=by decide
  have r4:rangeT 4=[.int 0,.int 1,.int 2,.int 3]:=rfl;have l4:4<lim:=by decide
  unfold jy;simp! [p1,h3,l4];generalize hF:forL _ _ _ _=r
  obtain ⟨s',rfl,P⟩:=Rf hF (fun ts s=>∃ (f:Int) (o:Slot) (st:List SO),s=⟨[some (.obj n,false),some (.int most,false),some (.int w,false),some (.int f,false),o],st⟩/\Ao n st/\st.length=L)
   ⟨0,none,s1,rfl,o1,l1⟩ (by
    rintro t r s ⟨f,o,st,rfl,e1,e2⟩;obtain ⟨v,t1,q1,c1,d1,w1,m1⟩:=Lk (n:=n) (many:=400000000) e2 e1 (by decide) (by decide);refine ⟨_,⟨[some (.obj n,false),some (.int most,false),some (.int w,false),some (.int (f * 4 * 100000000+v),false),some (t,false)],t1⟩,rfl,?_,_,_,_,rfl,w1,m1⟩;simp! [c8,yg,b4,b8,q1])
  obtain ⟨f,o,st,rfl,e1,e2⟩:=P;have hp:0<2 * most - 1:=by omega
  have bO:1<2 * most:=by omega
  have m0:=Int.emod_nonneg f (show (2 * most - 1)≠0 by omega);have m1:=Int.emod_lt_of_pos f hp;refine ⟨f%(2 * most - 1) - most+1,st,?_,by omega,by omega,e1,e2⟩;simp! [yg,b2,hp,bO]
def Le (a b:Str):Prop:=¬ b.cps.toList<a.cps.toList
theorem Y7 {x:Str}:∀ {l:List Str},l.Pairwise Le->(Ei x l).Pairwise Le
 | [],_=>by simp [Ei]
 | y::l,h=>by
  rw [List.pairwise_cons] at h;unfold Ei
  by_cases hx:x.cps.toList<y.cps.toList
  ·rw [if_pos (by simpa using hx)];refine List.pairwise_cons.mpr ⟨fun z hz=>?_,List.pairwise_cons.mpr h⟩;rcases List.mem_cons.mp hz with rfl | hz
   ·exact fun c=>absurd (List.lt_trans hx c) (List.lt_irrefl _)
   ·exact fun c=>h.1 z hz (List.lt_trans c hx)
  ·rw [if_neg (by simpa using hx)];refine List.pairwise_cons.mpr ⟨fun z hz=>?_,Y7 h.2⟩;rcases Es hz with rfl | hz
   ·exact hx
   ·exact h.1 z hz
theorem ab0:∀ (l acc:List Str),acc.Pairwise Le->(l.foldl (fun acc x=>Ei x acc) acc).Pairwise Le
 | [],acc,h=>h
 | x::l,acc,h=>ab0 l _ (Y7 h)
theorem a1u (l:List Str):(n8 l).Pairwise Le:=ab0 l [] List.Pairwise.nil
theorem Ui {x:Str}:∀ {l:List Str},(∀ y∈l,Le y x)->Ei x l=l++[x]
 | [],_=>rfl
 | y::l,h=>by
  unfold Ei;rw [if_neg (fun z=>h y List.mem_cons_self (of_decide_eq_true z)),Ui fun z hz=>h z (List.mem_cons_of_mem _ hz)]; rfl
theorem a0d {l:List Str} (h:l.Pairwise Le):n8 l=l:=by
 have go:∀ (l acc:List Str),(acc++l).Pairwise Le->l.foldl (fun acc x=>Ei x acc) acc=acc++l:=by
  intro l
  induction l with
  | nil=>intro acc _; simp
  | cons x l ih =>
   intro acc h;have h2:=List.pairwise_append.mp h;rw [List.foldl_cons,Ui (fun y hy=>h2.2.2 y hy x List.mem_cons_self),ih _ (by simpa using h)];simp
 exact go l [] (by simpa using h)
theorem Jy {x:Str}:∀ {l:List Str},x∉l->l.Nodup->(Ei x l).Nodup
 | [],_,_=>by simp [Ei]
 | y::l,hx,hn=>by
  simp only [List.mem_cons,not_or] at hx;rw [List.nodup_cons] at hn;unfold Ei;split
  ·exact List.nodup_cons.mpr ⟨by simp [hx],List.nodup_cons.mpr hn⟩
  ·refine List.nodup_cons.mpr ⟨fun h=>?_,Jy hx.2 hn.2⟩;rcases Es h with h | h
   ·exact hx.1 h.symm
   ·exact hn.1 h
theorem U6:∀ (l acc:List Str),(l++acc).Nodup->(l.foldl (fun acc x=>Ei x acc) acc).Nodup
 | [],acc,h=>h
 | x::l,acc,h=>by
  rw [List.cons_append,List.nodup_cons] at h;rw [List.foldl_cons];refine U6 l (Ei x acc) ?_;have h2:=List.nodup_append.mp h.2;refine List.nodup_append.mpr ⟨h2.1,Jy (fun z=>h.1 (List.mem_append_right _ z)) h2.2.1,fun a ha b hb e=>?_⟩;subst e;rcases Es hb with z | z
  ·exact h.1 (List.mem_append_left _ (z ▸ ha))
  ·exact h2.2.2 a ha a z rfl
theorem Qq {l:List Str} (h:l.Nodup):(n8 l).Nodup:=U6 l [] (by simpa using h)
def Uk (N:List Str):Prop:=N.length=6/\N.Nodup/\∀ x∈N,okN x
structure Vw (N:List Str) (s:Sm):Prop where
 sub:(s.2.map (·.1)).Sublist (n8 N)
 nz:∀ p∈s.2,p.2≠0/\-1000000000<p.2/\p.2<1000000000
 k:-1000000000<s.1/\s.1<1000000000
section
variable {N:List Str} {s:Sm}
theorem Vw.len (h:Vw N s) (hN:Uk N):s.2.length<=6:=by
 have:=h.sub.length_le;rw [Cp,hN.1,List.length_map] at this;exact this
theorem Vw.mem (h:Vw N s) {p:Str × Int} (hp:p∈s.2):p.1∈N:=Fd (h.sub.subset (List.mem_map_of_mem hp))
theorem W0:∀ (l d:List Pr),(ks d++ks l).Nodup->J8 l d=d++l
 | [],d,_=>by simp [J8]
 | (k,v)::l,d,h=>by
  have hk:k∉ks d:=fun z=>by
   have:=List.nodup_append.mp h;exact this.2.2 k z k List.mem_cons_self rfl
  have e:pt d k (gt d k+v)=d++[(k,v)]:=by
   unfold pt;rw [if_neg hk,Zz hk,Int.zero_add]
  have ih:=W0 l (d++[(k,v)]) (by
   have:ks (d++[(k,v)])++ks l=ks d++ks ((k,v)::l):=by simp [ks]
   rw [this]; exact h)
  unfold J8 at ih ⊢;rw [List.foldl_cons,e,ih];simp
theorem Xg:∀ {l:List Pr},(ks l).Nodup->∀ p∈l,tot l p.1=p.2
 | [],_,_,h=>by cases h
 | (k,v)::l,hn,p,hp=>by
  have cm:k∉ks l/\(ks l).Nodup:=List.nodup_cons.mp hn;rw [tot];rcases List.mem_cons.mp hp with rfl | hp
  ·rw [if_pos rfl,Zj cm.1,Int.add_zero]
  ·have:¬ k=p.1:=fun e=>cm.1 (by rw [e]; exact List.mem_map_of_mem hp);rw [if_neg this,Xg cm.2 p hp,Int.zero_add]
theorem a0h (h:Vw N s) (hN:Uk N):prt s.2=s.2:=by
 obtain ⟨m,l⟩:=s;have hs:(ks l).Sublist (n8 N):=h.sub;have nz:∀ p∈l,p.2≠0:=fun p hp=>(h.nz p hp).1;have nd:(ks l).Nodup:=hs.nodup (Qq hN.2.1)
 have e1:J8 l []=l:=by
  have:=W0 l [] (by simpa [ks] using nd);rw [List.nil_append] at this;exact this
 have e2:n8 (ks l)=ks l:=a0d ((a1u N).sublist hs);show prt l=l;unfold prt;rw [e1,e2]
 have e3:(ks l).filter (fun b=>tot l b != 0)=ks l:=List.filter_eq_self.mpr fun b hb=>by
  obtain ⟨p,hp,rfl⟩:=List.mem_map.mp hb;rw [Xg nd p hp];exact bne_iff_ne.mpr (nz p hp)
 rw [e3];unfold ks;rw [List.map_map]
 conv=>rhs; rw [<- List.map_id l]
 exact List.map_congr_left fun p hp=>by
  show (p.1,tot l p.1)=p;rw [Xg nd p hp]
end
def ac6 (r:Option (T × List SO)) (P:T->List SO->Prop):Prop:=∃ t z,r=some (t,z)/\P t z
theorem ac6.of {t:T} {z:List SO} {P:T->List SO->Prop} (h:P t z):ac6 (some (t,z)) P:=⟨t,z,rfl,h⟩
def afi (N:List Str) (n L:Nat) (t:T) (z:List SO):Prop:=∃ s,t=smT s/\Vw N s/\Ao n z/\z.length=L
theorem a7p {n:Nat} {N:List Str} {sto:List SO} {L:Nat} (hL:sto.length=L) (hs:Ao n sto) (d6:Uk N) :
  ac6 (vf [.obj n,.lst (N.map T.str)] sto) (afi N n L):=by
 have c9:Qo (.int 10) (.int 9)=some (.int 1000000000):=by simp [Qo]
 have hN:(n8 N).length=N.length:=Cp;have h2:=d6.1;have nn:(n8 N).length<lim:=by show _<1000000; omega
 have so:=sorted_strs (l:=N) (by omega);unfold vf;simp! [so,nn];generalize hF:forL _ _ _ _=r
 obtain ⟨s',rfl,P⟩:=Rf hF (fun ts s=>∃ (l:List Str) (acc:List (Str × Int)) (o4 o5:C.Slot) (st:List SO),ts=l.map T.str/\(acc.map (·.1)++l).Sublist (n8 N)/\s=⟨[some (.obj n,false),some (.lst (N.map T.str),false),some (.lst (acc.map pT),true),o4,o5],st⟩/\Ao n st/\st.length=L/\∀ p∈acc,p.2≠0/\-1000000000<p.2/\p.2<1000000000)
  ⟨n8 N,[],none,none,sto,rfl,List.Sublist.refl _,rfl,hs,hL,fun p hp=>by cases hp⟩ (by
   rintro t r s ⟨l,acc,o4,o5,st,e1,e2,rfl,e3,e4,e6⟩;cases l with
   | nil=>cases e1
   | cons x l =>
    cases e1;have skip:(acc.map (·.1)++l).Sublist (n8 N):=(List.Sublist.append_left (List.sublist_cons_self x l) _).trans e2
    have hl:acc.length<lim:=by
     have:=e2.length_le;rw [List.length_append,List.length_map,hN,h2] at this;show _<1000000; omega
    obtain ⟨v,t1,q1,c1,d1,w1,m1⟩:=Lk (n:=n) (many:=2) e4 e3 (by decide) (by decide)
    by_cases hv:v=1
    ·subst hv;obtain ⟨tm,t2,q2,g1,g2,w2,m2⟩:=number (n:=n) (most:=1000000000) m1 w1 (by decide)
     by_cases h0:tm=0
     ·refine ⟨_,⟨[some (.obj n,false),some (.lst (N.map T.str),false),some (.lst (acc.map pT),true),some (.str x,false),some (.int tm,false)],t2⟩,rfl,?_,l,acc,some (.str x,false),some (.int tm,false),t2,rfl,skip,rfl,w2,by omega,e6⟩;subst h0;simp! [q1,ur,c9,q2,Bh]
     ·have hb:(tm==0)=false:=beq_eq_false_iff_ne.mpr h0;refine ⟨_,⟨[some (.obj n,false),some (.lst (N.map T.str),false),some (.lst ((acc++[(x,tm)]).map pT),true),some (.str x,false),some (.int tm,false)],t2⟩,rfl,?_,l,acc++[(x,tm)],some (.str x,false),some (.int tm,false),t2,rfl,by rw [List.map_append,List.append_assoc]; exact e2,rfl,w2,by omega,?_⟩
      ·simp! [q1,ur,c9,q2,Bh,hb,hl,pT]
      ·intro p hp;rcases List.mem_append.mp hp with z | z
       ·exact e6 p z
       ·rw [List.mem_singleton] at z; subst z; exact ⟨h0,g1,g2⟩
    ·have hb:(v==1)=false:=beq_eq_false_iff_ne.mpr hv;refine ⟨_,⟨[some (.obj n,false),some (.lst (N.map T.str),false),some (.lst (acc.map pT),true),some (.str x,false),o5],t1⟩,rfl,?_,l,acc,some (.str x,false),o5,t1,rfl,skip,rfl,w1,by omega,e6⟩;simp! [q1,ur,hb])
 obtain ⟨l,acc,o4,o5,st,e1,e2,rfl,e3,e4,e6⟩:=P;cases l with
 | cons _ _=>cases e1
 | nil =>
  obtain ⟨k,t2,q2,g1,g2,w2,m2⟩:=number (n:=n) (most:=1000000000) e4 e3 (by decide);simp! [Bw,c9,q2];exact .of ⟨(k,acc),rfl,⟨by rw [List.append_nil] at e2; exact e2,e6,g1,g2⟩,w2,m2⟩
theorem sum {n:Nat} {N:List Str} {sto:List SO} {L:Nat} (hL:sto.length=L) (hs:Ao n sto) (d6:Uk N) :
  ∃ s aw,vf [.obj n,.lst (N.map T.str)] sto=some (smT s,aw)/\Vw N s/\Ao n aw/\aw.length=L:=by
 obtain ⟨t,z,h1,s,rfl,h2,h3,h4⟩:=a7p hL hs d6;exact ⟨s,z,h1,h2,h3,h4⟩
def oN (x:Str):Prop:=okS x/\x.length<40/\0<x.length
def oSm (N:List Str) (s:Sm):Prop:=(s.2.length<=N.length/\∀ p∈s.2,p.1∈N/\-1000000000<p.2/\p.2<1000000000)/\-1000000000<s.1/\s.1<1000000000
def oNs (N:List Str):Prop:=N.length<=6/\∀ x∈N,oN x
theorem Str.ext' {a b:Str} (h:a.cps=b.cps):a=b:=by cases a; cases b; cases h; rfl
theorem Gx (a b:Str):(a++b).cps=a.cps++b.cps:=rfl
theorem len_app (a b:Str):(a++b).length=a.length+b.length:=by show (a++b).cps.size=_; rw [Gx,Array.size_append]; rfl
theorem a88 (a:Str):("" : Str)++a=a:=Str.ext' (by rw [Gx]; show (#[]:Array Nat)++a.cps=a.cps; simp)
theorem M7 {a b:Str} (ha:okS a) (hb:okS b):okS (a++b):=by
 unfold okS PyData.canLay0 PyData.strOk at *;rw [Gx,Array.all_append,ha,hb]; rfl
theorem Ds (s:String):okS (Str.ofString s):=by
 unfold okS PyData.canLay0 PyData.strOk;rw [Str.ofString_eq_toList];simp only [List.all_toArray,List.all_map,List.all_eq_true,Function.comp,decide_eq_true_eq];intro c _;have:=c.valid;simp only [UInt32.isValidChar,Nat.isValidChar] at this;show c.val.toNat<_;omega
theorem Wu (i:Int):okS (num i):=Ds _
theorem Fb {i:Int} (h0:-10000000000<i) (h1:i<10000000000):(num i).length<=11:=by
 unfold num;rw [PySem.ofString_length];exact PySem.int_text_length_le10 (k:=10) (by decide) (by omega)
theorem a5s {i:Int} (h:i<0):num i=("-" : Str)++num (-i):=by
 cases i with
 | ofNat m=>exact absurd h (by simp)
 | negSucc m =>
  have e:toString (Int.negSucc m) = "-" ++ Nat.repr (m+1):=rfl;have e2:toString (-(Int.negSucc m))=Nat.repr (m+1):=rfl;unfold num;rw [e,e2];apply Str.ext';rw [Gx,Str.ofString_eq_toList,Str.ofString_eq_toList,Str.ofString_eq_toList];simp
theorem aes {i:Int} (h0:-10000000000<i) (h1:i<10000000000):xg i=true:=by simp only [xg,decide_eq_true_eq]; omega
theorem Xv {i:Int} (h0:-10000000000<i) (h1:i<10000000000):Pa [.int i]=some (.str (num i)):=by simp [Pa,aes h0 h1,num]
theorem aef {i:Int} (h0:-10000000000<i) (h1:i<10000000000):a4q (.int i)=some (.str (num i)):=by simp [a4q,aes h0 h1,num]
theorem acu {x:Str} (h:x.length<1000000):a4q (.str x)=some (.str x):=by simp [a4q,h]
theorem j3 {a b c:Str} (h:a.length+b.length+c.length<1000000):K5 [.str a,.str b,.str c]=some (.str (a++b++c)):=by
 simp only [K5,len_app];rw [if_pos ⟨by show _<1000000; omega,by show _<1000000; omega,by show _<1000000; omega⟩]
theorem V9 {i c:Int} (h0:-c<i) (h1:i<c):0<=ab i/\ab i<c:=by unfold ab; split <;> omega
def piece (p:Str × Int):Str:=if ab p.2=1 then p.1 else num (ab p.2) ++ " * " ++ p.1
def sg (e b:Bool):Str:=if e then (if b then "-" else "") else (if b then " - " else " + ")
def gl (t:Str) (q:Str × Int):Str:=t++sg (t==("" : Str)) (decide (q.2<0))++q.1
def qs (l:List (Str × Int)):List (Str × Int):=l.map fun p=>(piece p,p.2)
def nums (s:Sm):List (Str × Int):=if s.1≠0\/s.2=[] then qs s.2++[(num (ab s.1),s.1)] else qs s.2
def Mh (s:Sm):Str:=(nums s).foldl gl ""
theorem O1 (e b:Bool):(sg e b).length<=3:=by cases e <;> cases b <;> decide +kernel
theorem aa9 (e b:Bool):okS (sg e b):=by cases e <;> cases b <;> exact Ds _
theorem Zr (t:Str) (q:Str × Int):(gl t q).length<=t.length+3+q.1.length/\q.1.length<=(gl t q).length:=by
 have:=O1 (t==("" : Str)) (decide (q.2<0));unfold gl;rw [len_app,len_app];omega
def okQ (q:Str × Int):Prop:=okS q.1/\q.1.length<=55/\0<q.1.length/\-1000000000<q.2/\q.2<1000000000
theorem a8e {t:Str} {q:Str × Int} (ht:okS t) (hq:okQ q):okS (gl t q):=M7 (M7 ht (aa9 _ _)) hq.1
theorem Qj:∀ (l:List (Str × Int)) (t:Str),(∀ q∈l,okQ q)->okS t->okS (l.foldl gl t)/\(l.foldl gl t).length<=t.length+60 * l.length/\(l≠[]->0<(l.foldl gl t).length)
 | [],t,_,h=>⟨h,by simp,fun z=>absurd rfl z⟩
 | q::l,t,hl,h=>by
  have hq:=hl q List.mem_cons_self;have gq:=Zr t q;obtain ⟨a,b,c⟩:=Qj l (gl t q) (fun x hx=>hl x (List.mem_cons_of_mem _ hx)) (a8e h hq);have q2:=hq.2.1;refine ⟨a,by rw [List.foldl_cons,List.length_cons]; omega,fun _=>?_⟩
  by_cases z:l=[]
  ·subst z;show 0<(gl t q).length;have:=hq.2.2.1;omega
  ·exact c z
variable {N H:List Str}
theorem Lh {p:Str × Int} (hx:oN p.1) (h0:-1000000000<p.2) (h1:p.2<1000000000):okQ (piece p,p.2):=by
 obtain ⟨o1,o2,o3⟩:=hx;have ⟨a0,a1⟩:=V9 h0 h1;have nl:=Fb (i:=ab p.2) (by omega) (by omega);have l3:(" * " : Str).length=3:=by decide +kernel
 unfold okQ piece;split
 ·exact ⟨o1,by show p.1.length<=55; omega,o3,h0,h1⟩
 ·refine ⟨M7 (M7 (Wu _) (Ds _)) o1,?_,?_,h0,h1⟩
  ·simp only [len_app]; omega
  ·simp only [len_app]; omega
theorem Od (i:Int):0<(num i).length:=by
 unfold num;rw [PySem.ofString_length];cases i with
 | ofNat m =>
  have e:toString (Int.ofNat m)=Nat.repr m:=rfl;rw [e]; exact Nat.length_repr_pos
 | negSucc m =>
  have e:toString (Int.negSucc m) = "-" ++ Nat.repr (m+1):=rfl;rw [e,String.length_append];have e1 : "-".length=1:=rfl;omega
theorem Qc {s:Sm} (hN:oNs N) (hs:oSm N s):(∀ q∈qs s.2,okQ q)/\(∀ q∈nums s,okQ q)/\(nums s).length<=7:=by
 obtain ⟨⟨h1,h2⟩,h3,h4⟩:=hs
 have hq:∀ q∈qs s.2,okQ q:=by
  intro q hq;obtain ⟨p,hp,rfl⟩:=List.mem_map.mp hq;obtain ⟨a,b,c⟩:=h2 p hp;exact Lh (hN.2 _ a) b c
 have ln:=hN.1;have lq:(qs s.2).length=s.2.length:=by simp [qs]
 have hc:okQ (num (ab s.1),s.1):=by
  have ⟨a0,a1⟩:=V9 h3 h4;have:=Fb (i:=ab s.1) (by omega) (by omega);exact ⟨Wu _,by show (num _).length<=55; omega,Od _,h3,h4⟩
 refine ⟨hq,?_,?_⟩
 ·unfold nums;split
  ·intro q h;rcases List.mem_append.mp h with z | z
   ·exact hq q z
   ·rw [List.mem_singleton] at z; subst z; exact hc
  ·exact hq
 ·unfold nums;split
  ·rw [List.length_append,List.length_singleton]; omega
  ·omega
theorem a6v {s:Sm} (hN:oNs N) (hs:oSm N s):okS (Mh s)/\(Mh s).length<=420:=by
 obtain ⟨_,a,b⟩:=Qc hN hs;obtain ⟨c,d,_⟩:=Qj (nums s) "" a (Ds _);have z:("" : Str).length=0:=by decide +kernel
 refine ⟨c,?_⟩;unfold Mh;omega
section
variable {N H:List Str} {sto:List SO}
theorem Ul {s:Sm} (hN:oNs N) (hs:oSm N s):s.2.length<lim:=by
 have:=hs.1.1; have:=hN.1; show _<1000000; omega
theorem Y8 {p:Str × Int} (hx:oN p.1) (h0:-1000000000<p.2) (h1:p.2<1000000000):uf [.str p.1,.int (ab p.2)] sto=some (.str (piece p),sto):=by
 obtain ⟨o1,o2,o3⟩:=hx;have ⟨a0,a1⟩:=V9 h0 h1;have nl:=Fb (i:=ab p.2) (by omega) (by omega);have l3:(" * " : Str).length=3:=by decide +kernel
 have f1:=aef (i:=ab p.2) (by omega) (by omega);have f2:=acu (x:=p.1) (by omega);have j:=j3 (a:=num (ab p.2)) (b := " * ") (c:=p.1) (by omega);unfold uf piece
 by_cases e:ab p.2=1
 ·rw [if_pos e,e];simp! [ur]
 ·have c:(ab p.2==1)=false:=beq_eq_false_iff_ne.mpr e;rw [if_neg e];simp! [ur,c,f1,f2,j]
theorem Vn {e b:Bool}:v7 [.bl e,.bl b] sto=some (.str (sg e b),sto):=by
 cases e <;> cases b <;> simp! [v7,sg]
theorem ab3:∀ l:List (Str × Int),a4k (l.map fun q=>.str q.1) (l.map fun q=>.int q.2)=l.map pT
 | []=>rfl
 | q::l=>by
  have:=ab3 l;unfold a4k at this ⊢;simp only [List.map_cons,List.zip_cons_cons,this,pT]
theorem a7f (l:List (Str × Int)):(l.map fun p=>T.str (piece p))=(qs l).map fun q=>T.str q.1:=by simp [qs]
theorem a6k (l:List (Str × Int)):(l.map fun p=>T.int p.2)=(qs l).map fun q=>T.int q.2:=by simp [qs]
theorem Z4 {g:G} {b:S} {t:T} {r:List T} {s s1 s2:Sta} (h:g t s=some s1) (hb:b s1=some (.next,s2)):forL g b (t::r) s=forL g b r s2:=by
 rw [forL]; dsimp only; rw [h]; dsimp only; rw [hb]
abbrev a0e:S:=j8 3 (mOp jm (mOp jm (aq 3) (dw v7 (ao (mOp eqO (aq 3) (ak (.str ""))) (ao (mOp ltT (aq 5) (ak (.int 0))) d7)))) (aq 4))
theorem Ni {a b c:C.Slot}:∀ (l:List (Str × Int)) (t:Str) (u v:C.Slot),(∀ q∈l,okQ q)->okS t->t.length+60 * l.length<=420 ->
  ∃ u' v',forL (Gq [4,5]) a0e (l.map pT) ⟨[a,b,c,some (.str t,false),u,v],sto⟩=some (.next,⟨[a,b,c,some (.str (l.foldl gl t),false),u',v'],sto⟩)
 | [],t,u,v,_,_,_=>⟨u,v,by simp [forL]⟩
 | q::l,t,u,v,hl,ht,hn=>by
  have hq:=hl q List.mem_cons_self;have gq:=Zr t q;have q2:=hq.2.1;rw [List.length_cons] at hn;obtain ⟨u',v',ih⟩:=Ni (a:=a) (b:=b) (c:=c) l (gl t q) (some (.str q.1,false)) (some (.int q.2,false)) (fun x hx=>hl x (List.mem_cons_of_mem _ hx)) (a8e ht hq) (by omega);refine ⟨u',v',?_⟩;have sl:=O1 (t==("" : Str)) (decide (q.2<0));have e1:=Bs ht (Ds "");have a1:t.length+(sg (t==("" : Str)) (decide (q.2<0))).length<lim:=by show _<1000000; omega
  have a2:(t++sg (t==("" : Str)) (decide (q.2<0))).length+q.1.length<lim:=by rw [len_app]; show _<1000000; omega
  have st:a0e ⟨[a,b,c,some (.str t,false),some (.str q.1,false),some (.int q.2,false)],sto⟩=some (.next,⟨[a,b,c,some (.str (gl t q),false),some (.str q.1,false),some (.int q.2,false)],sto⟩):=by
   unfold a0e gl;simp! [e1,Vn,a1,a2]
  rw [List.map_cons,List.foldl_cons,<- ih];exact Z4 (s1:=⟨[a,b,c,some (.str t,false),some (.str q.1,false),some (.int q.2,false)],sto⟩) (by unfold pT; exact Qn) st
abbrev Hq:M (List T):=yx (mOp dg (aq 0) (ak (.int 1)))
theorem ade {s:Sm} {r:List C.Slot} (hN:oNs N) (hs:oSm N s):lu 2 [] (Gq [0,1]) Hq v9 (dw uf (ao (aq 0) (ao (gk Gp (ao (aq 1) d7)) d7))) ⟨some (smT s,false)::r,sto⟩=some (.lst ((qs s.2).map fun q=>.str q.1),⟨some (smT s,false)::r,sto⟩):=by
 have hl:=Ul hN hs;rw [<- a7f];refine vd pT (fun p=>.str (piece p)) s.2 (s1:=⟨some (smT s,false)::r,sto⟩) _ [] (by unfold smT; simp! [Gg,hl]) rfl rfl rfl (Nat.le_of_lt hl) ?_;intro p hp pre aB
 obtain ⟨a,b,rfl⟩:∃ a b,pre=[a,b]:=by
  match pre,aB with
  | [a,b],_=>exact ⟨a,b,rfl⟩
 obtain ⟨h1,h2,h3⟩:=hs.1.2 p hp;refine ⟨[some (.str p.1,false),some (.int p.2,false)],rfl,by unfold pT; rw [Qn]; rfl,rfl,?_⟩;have e:=Y8 (sto:=sto) (p:=p) (hN.2 _ h1) h2 h3;unfold ab at e;simp! [e]
theorem adf {s:Sm} {r:List C.Slot} (hN:oNs N) (hs:oSm N s):lu 2 [] (Gq [0,1]) Hq v9 (aq 1) ⟨some (smT s,false)::r,sto⟩=some (.lst ((qs s.2).map fun q=>.int q.2),⟨some (smT s,false)::r,sto⟩):=by
 have hl:=Ul hN hs;rw [<- a6k];refine vd pT (fun p=>.int p.2) s.2 (s1:=⟨some (smT s,false)::r,sto⟩) _ [] (by unfold smT; simp! [Gg,hl]) rfl rfl rfl (Nat.le_of_lt hl) ?_;intro p hp pre aB
 obtain ⟨a,b,rfl⟩:∃ a b,pre=[a,b]:=by
  match pre,aB with
  | [a,b],_=>exact ⟨a,b,rfl⟩
 refine ⟨[some (.str p.1,false),some (.int p.2,false)],rfl,by unfold pT; rw [Qn]; rfl,rfl,?_⟩;simp! []
abbrev a3e:S:=sIf (mOr (bw (mOp neO (mOp dg (aq 0) (ak (.int 0))) (ak (.int 0)))) (bw (mOp eqO (Dy 1) (ak (.int 0)))))
 (jf (u6 1 (gk Pa (ao (gk Gp (ao (mOp dg (aq 0) (ak (.int 0))) d7)) d7)))
 (u6 2 (mOp dg (aq 0) (ak (.int 0)))))
 yd
theorem a6p {s:Sm} (hN:oNs N) (hs:oSm N s):a3e ⟨[some (smT s,false),some (.lst ((qs s.2).map fun q=>.str q.1),true),some (.lst ((qs s.2).map fun q=>.int q.2),true),none,none,none],sto⟩
  = some (.next,⟨[some (smT s,false),some (.lst ((nums s).map fun q=>.str q.1),true),some (.lst ((nums s).map fun q=>.int q.2),true),none,none,none],sto⟩):=by
 have hl:=Ul hN hs;have lq:(qs s.2).length<lim:=by simpa [qs] using hl
 have ⟨a0,a1⟩:=V9 hs.2.1 hs.2.2;have si:=Xv (i:=ab s.1) (by omega) (by omega);have q0:(qs s.2).length=s.2.length:=by simp [qs]
 have ei:Gp [.int s.1]=some (.int (ab s.1)):=rfl;unfold ab at si
 by_cases c0:s.1=0
 ·by_cases n0:s.2=[]
  ·have e:nums s=qs s.2++[(num (ab s.1),s.1)]:=if_pos (.inr n0);have z:((qs s.2).length:Int)=0:=by rw [q0,n0]; rfl
   rw [e];unfold a3e smT ab;simp! [Fe,Bh,c0,ur,Dy,z,si,lq];simp [c0] at si;simp! [si,lq,Fe]
  ·have e:nums s=qs s.2:=if_neg (fun h=>h.elim (fun z=>z c0) n0)
   have z:(((qs s.2).length:Int)==0)=false:=beq_eq_false_iff_ne.mpr (by
    have:=List.length_pos_iff.mpr n0;omega)
   rw [e];unfold a3e smT;simp! [Fe,Bh,c0,ur,Dy,z]
 ·have e:nums s=qs s.2++[(num (ab s.1),s.1)]:=if_pos (.inl c0);have b:(s.1==0)=false:=beq_eq_false_iff_ne.mpr c0;rw [e];unfold a3e smT ab;simp! [Fe,Bh,b,si,lq]
theorem a0a {s:Sm} (hN:oNs N) (hs:oSm N s):uo [smT s] sto=some (.str (Mh s),sto):=by
 obtain ⟨_,q1,q2⟩:=Qc hN hs;have ln:(nums s).length<lim:=by show _<1000000; omega
 have z:("" : Str).length=0:=by decide +kernel
 obtain ⟨u,v,e⟩:=Ni (sto:=sto) (a:=some (smT s,false)) (b:=some (.lst ((nums s).map fun q=>.str q.1),false)) (c:=some (.lst ((nums s).map fun q=>.int q.2),false)) (nums s) "" none none q1 (Ds _) (by omega);unfold uo qp
 have A:∀ r:List C.Slot,sNew 1 (lu 2 [] (Gq [0,1]) Hq v9 (dw uf (ao (aq 0) (ao (gk Gp (ao (aq 1) d7)) d7)))) ⟨[some (smT s,false),none,none,none,none,none],sto⟩=some (.next,⟨[some (smT s,false),some (.lst ((qs s.2).map fun q=>.str q.1),true),none,none,none,none],sto⟩):=fun _=>by
  unfold sNew; rw [ade hN hs]; rfl
 have B:sNew 2 (lu 2 [] (Gq [0,1]) Hq v9 (aq 1)) ⟨[some (smT s,false),some (.lst ((qs s.2).map fun q=>.str q.1),true),none,none,none,none],sto⟩=some (.next,⟨[some (smT s,false),some (.lst ((qs s.2).map fun q=>.str q.1),true),some (.lst ((qs s.2).map fun q=>.int q.2),true),none,none,none],sto⟩):=by
  unfold sNew; rw [adf hN hs]; rfl
 have Z:a3o (aq 1) (aq 2) ⟨[some (smT s,false),some (.lst ((nums s).map fun q=>.str q.1),true),some (.lst ((nums s).map fun q=>.int q.2),true),some (.str "",false),none,none],sto⟩=some ((nums s).map pT,⟨[some (smT s,false),some (.lst ((nums s).map fun q=>.str q.1),false),some (.lst ((nums s).map fun q=>.int q.2),false),some (.str "",false),none,none],sto⟩):=by
  rw [<- ab3];simp! [a3o,ln]
 have F:J7 (Gq [4,5]) (a3o (aq 1) (aq 2)) a0e ⟨[some (smT s,false),some (.lst ((nums s).map fun q=>.str q.1),true),some (.lst ((nums s).map fun q=>.int q.2),true),some (.str "",false),none,none],sto⟩=some (.next,⟨[some (smT s,false),some (.lst ((nums s).map fun q=>.str q.1),false),some (.lst ((nums s).map fun q=>.int q.2),false),some (.str (Mh s),false),u,v],sto⟩):=by
  unfold J7; rw [Z]; exact e
 show (match jf _ _ ⟨[some (smT s,false),none,none,none,none,none],sto⟩ with | some (.ret t,s)=>some (t,s.sto) | some (.next,s)=>some (.non,s.sto) | _=>none)=_;rw [u5 (A []),u5 B,u5 (a6p hN hs),u5 (a:=j8 3 (ak (.str ""))) (s':=⟨[some (smT s,false),some (.lst ((nums s).map fun q=>.str q.1),true),some (.lst ((nums s).map fun q=>.int q.2),true),some (.str "",false),none,none],sto⟩) rfl,u5 F];rfl
end
section
variable {N H:List Str} {sto:List SO}
theorem adg {b:Bool}:yg (.str "-") (.int (if b then 1 else 0))=some (.str (sg true b)):=by
 have q:("-" : Str)=⟨#[45]⟩:=by decide +kernel
 have h:=a3b (c:=45) (j:=if b then 1 else 0) (by split <;> decide) (by split <;> decide);rw [<- q] at h;rw [h];cases b
 ·exact congrArg (fun x=>some (T.str x)) (show rep1 45 0=("" : Str) by decide +kernel)
 ·exact congrArg (fun x=>some (T.str x)) (show rep1 45 1=("-" : Str) by decide +kernel)
theorem a4f {b:Bool}:dg (.lst [.str " + ",.str " - "]) (.int (if b then 1 else 0))=some (.str (sg false b)):=by cases b <;> rfl
abbrev ac4:S:=jf (j8 4 (aq 2))
 (jf (sIf (bw (mOp neO (gk Gp (ao (aq 3) d7)) (ak (.int 1))))
 (j8 4 (mOp jm (mOp jm (gk Pa (ao (gk Gp (ao (aq 3) d7)) d7)) (ak (.str " * "))) (aq 2)))
 yd)
 (sIf (bw (mOp eqO (aq 1) (ak (.str ""))))
 (j8 1 (mOp jm (mOp yg (ak (.str "-")) (gk a04 (ao (mOp ltT (aq 3) (ak (.int 0))) d7))) (aq 4)))
 (j8 1 (mOp jm (mOp jm (aq 1) (mOp dg (gk (fun l=>some (.lst l)) (ao (ak (.str " + ")) (ao (ak (.str " - ")) d7))) (gk a04 (ao (mOp ltT (aq 3) (ak (.int 0))) d7)))) (aq 4)))))
theorem a2r {a:C.Slot} {p:Str × Int} {t:Str} {w:C.Slot} (hx:oN p.1) (h0:-1000000000<p.2) (h1:p.2<1000000000) (ht:okS t) (hn:t.length<=420) :
  ac4 ⟨[a,some (.str t,false),some (.str p.1,false),some (.int p.2,false),w],sto⟩=some (.next,⟨[a,some (.str (gl t (piece p,p.2)),false),some (.str p.1,false),some (.int p.2,false),some (.str (piece p),false)],sto⟩):=by
 obtain ⟨p1,p2⟩:=p;have pq:=Lh hx h0 h1;obtain ⟨o1,o2,o3⟩:=hx;simp only at o1 o2 o3 h0 h1;have ⟨a0,a1⟩:=V9 h0 h1;have nl:=Fb (i:=ab p2) (by omega) (by omega);have l3:(" * " : Str).length=3:=by decide +kernel
 have si:=Xv (i:=ab p2) (by omega) (by omega);have e1:=Bs ht (Ds "");have pl:=pq.2.1;simp only at pl;have sl:=O1 true (decide (p2<0));have dv:=O1 false (decide (p2<0));have ne:Gp [.int p2]=some (.int (ab p2)):=rfl;have A:j8 4 (aq 2) ⟨[a,some (.str t,false),some (.str p1,false),some (.int p2,false),w],sto⟩=some (.next,⟨[a,some (.str t,false),some (.str p1,false),some (.int p2,false),some (.str p1,false)],sto⟩):=rfl
 have B:sIf (bw (mOp neO (gk Gp (ao (aq 3) d7)) (ak (.int 1))))
   (j8 4 (mOp jm (mOp jm (gk Pa (ao (gk Gp (ao (aq 3) d7)) d7)) (ak (.str " * "))) (aq 2))) yd
   ⟨[a,some (.str t,false),some (.str p1,false),some (.int p2,false),some (.str p1,false)],sto⟩=some (.next,⟨[a,some (.str t,false),some (.str p1,false),some (.int p2,false),some (.str (piece (p1,p2)),false)],sto⟩):=by
  have b1:(num (ab p2)).length+(" * " : Str).length<lim:=by show _<1000000; omega
  have b2:(num (ab p2)++(" * " : Str)).length+p1.length<lim:=by rw [len_app]; show _<1000000; omega
  unfold piece
  by_cases c:ab p2=1
  ·rw [if_pos c];unfold ab at c;simp! [Bh,c]
  ·rw [if_neg c];have c':(ab p2==1)=false:=beq_eq_false_iff_ne.mpr c;unfold ab at c' si b1 b2 ⊢;simp! [Bh,c',si,b1,b2]
 have e4:∀ b:Bool,a04 [.bl b]=some (.int (if b then 1 else 0)):=fun b=>rfl
 have C':sIf (bw (mOp eqO (aq 1) (ak (.str ""))))
   (j8 1 (mOp jm (mOp yg (ak (.str "-")) (gk a04 (ao (mOp ltT (aq 3) (ak (.int 0))) d7))) (aq 4)))
   (j8 1 (mOp jm (mOp jm (aq 1) (mOp dg (gk (fun l=>some (.lst l)) (ao (ak (.str " + ")) (ao (ak (.str " - ")) d7))) (gk a04 (ao (mOp ltT (aq 3) (ak (.int 0))) d7)))) (aq 4)))
   ⟨[a,some (.str t,false),some (.str p1,false),some (.int p2,false),some (.str (piece (p1,p2)),false)],sto⟩=some (.next,⟨[a,some (.str (gl t (piece (p1,p2),p2)),false),some (.str p1,false),some (.int p2,false),some (.str (piece (p1,p2)),false)],sto⟩):=by
  generalize piece (p1,p2)=y at pl;have m1:=adg (b:=decide (p2<0));have m2:=a4f (b:=decide (p2<0));unfold gl
  by_cases c:t=("" : Str)
  ·have c':(t==("" : Str))=true:=by rw [c]; exact beq_self_eq_true _
   rw [c'];have b1:(sg true (decide (p2<0))).length+y.length<lim:=by show _<1000000; omega
   rw [c'] at e1;have eg:t++sg true (decide (p2<0))++y=sg true (decide (p2<0))++y:=by rw [c,a88]
   simp only at eg ⊢;rw [eg];simp only [sIf,bw,mOp,aq,ak,gk,ao,d7,j8,ltT,List.getElem?_cons_zero,List.getElem?_cons_succ,e1,yc,e4,m1,jm,b1,if_true,List.set_cons_succ,List.set_cons_zero];rfl
  ·have c':(t==("" : Str))=false:=beq_eq_false_iff_ne.mpr c;rw [c'];rw [c'] at e1;have b1:t.length+(sg false (decide (p2<0))).length<lim:=by show _<1000000; omega
   have b2:(t++sg false (decide (p2<0))).length+y.length<lim:=by rw [len_app]; show _<1000000; omega
   simp only [sIf,bw,mOp,aq,ak,gk,ao,d7,j8,ltT,List.getElem?_cons_zero,List.getElem?_cons_succ,e1,yc,e4,m2,jm,b1,b2,if_true,List.set_cons_succ,List.set_cons_zero];rfl
 unfold ac4;rw [u5 A,u5 B,C']
theorem Tq {a:C.Slot}:∀ (l:List (Str × Int)) (t:Str) (u v w:C.Slot),(∀ p∈l,oN p.1/\-1000000000<p.2/\p.2<1000000000)->okS t->t.length+60 * l.length<=420 ->
  ∃ u' v' w',forL (Gq [2,3]) ac4 (l.map pT) ⟨[a,some (.str t,false),u,v,w],sto⟩=some (.next,⟨[a,some (.str ((qs l).foldl gl t),false),u',v',w'],sto⟩)
 | [],t,u,v,w,_,_,_=>⟨u,v,w,by simp [forL,qs]⟩
 | p::l,t,u,v,w,hl,ht,hn=>by
  obtain ⟨hx,h0,h1⟩:=hl p List.mem_cons_self;have hq:=Lh hx h0 h1;have gq:=Zr t (piece p,p.2);have q2:=hq.2.1;rw [List.length_cons] at hn;obtain ⟨u',v',w',ih⟩:=Tq (a:=a) l (gl t (piece p,p.2)) (some (.str p.1,false)) (some (.int p.2,false)) (some (.str (piece p),false)) (fun x hx=>hl x (List.mem_cons_of_mem _ hx)) (a8e ht hq) (by omega);refine ⟨u',v',w',?_⟩;have e:(qs (p::l)).foldl gl t=(qs l).foldl gl (gl t (piece p,p.2)):=rfl;rw [List.map_cons,e,<- ih];exact Z4 (s1:=⟨[a,some (.str t,false),some (.str p.1,false),some (.int p.2,false),w],sto⟩) (by unfold pT; exact Qn) (a2r hx h0 h1 ht (by omega))
theorem ab7 (i:Int):sg true (decide (i<0))++num (ab i)=num i:=by
 unfold ab
 by_cases h:i<0
 ·rw [a5s h]; simp [sg,h]
 ·simp only [sg,h,decide_false,if_false,if_true];exact a88 _
theorem a1x {s:Sm} (hN:oNs N) (hs:oSm N s):uq [smT s] sto=some (.str (Mh s),sto):=by
 have hl:=Ul hN hs;obtain ⟨q0,q1,q2⟩:=Qc hN hs;have z:("" : Str).length=0:=by decide +kernel
 have n6:s.2.length<=6:=Nat.le_trans hs.1.1 hN.1;obtain ⟨u,v,w,e⟩:=Tq (sto:=sto) (a:=some (smT s,false)) s.2 "" none none none (fun p hp=>⟨hN.2 _ (hs.1.2 p hp).1,(hs.1.2 p hp).2⟩) (Ds _) (by omega);obtain ⟨g1,g2,g3⟩:=Qj (qs s.2) "" q0 (Ds _);have lq:(qs s.2).length=s.2.length:=by simp [qs]
 have F:J7 (Gq [2,3]) Hq ac4 ⟨[some (smT s,false),some (.str "",false),none,none,none],sto⟩=some (.next,⟨[some (smT s,false),some (.str ((qs s.2).foldl gl ""),false),u,v,w],sto⟩):=by
  have I:Hq ⟨[some (smT s,false),some (.str "",false),none,none,none],sto⟩=some (s.2.map pT,⟨[some (smT s,false),some (.str "",false),none,none,none],sto⟩):=by unfold smT Hq; simp! [Gg,hl]
  unfold J7; rw [I]; exact e
 have ⟨a0,a1⟩:=V9 hs.2.1 hs.2.2;have nl:=Fb (i:=ab s.1) (by omega) (by omega);have si:=Xv (i:=s.1) (by have:=hs.2.1; omega) (by have:=hs.2.2; omega);have sa:=Xv (i:=ab s.1) (by omega) (by omega);have e4:∀ b:Bool,a04 [.bl b]=some (.int (if b then 1 else 0)):=fun b=>rfl;have ea:Gp [.int s.1]=some (.int (ab s.1)):=rfl;unfold uq qp;show (match jf (j8 1 (ak (.str ""))) _ ⟨[some (smT s,false),none,none,none,none],sto⟩ with | some (.ret t,s)=>some (t,s.sto) | some (.next,s)=>some (.non,s.sto) | _=>none)=_;rw [u5 (a:=j8 1 (ak (.str ""))) (s':=⟨[some (smT s,false),some (.str "",false),none,none,none],sto⟩) rfl,u5 F];have i0:dg (smT s) (.int 0)=some (.int s.1):=Fe;have eq:=Bs g1 (Ds "");have n0:=ur (a:=s.1) (b:=0)
 by_cases hp:s.2=[]
 ·have E:(qs s.2).foldl gl "" = "" := by rw [hp]; rfl
  have X:Mh s=num s.1:=by
   unfold Mh;rw [show nums s=qs s.2++[(num (ab s.1),s.1)] from if_pos (.inr hp),List.foldl_append,E];show gl "" _=_;unfold gl;rw [a88];exact ab7 s.1
  rw [X];rw [E] at eq ⊢;have b:(("" : Str)==("" : Str))=true:=beq_self_eq_true _;rw [b] at eq;simp only [jf,sIf,sy,bw,mOp,aq,ak,gk,ao,d7,List.getElem?_cons_zero,List.getElem?_cons_succ,eq,yc,i0,si]
 ·have ln:qs s.2≠[]:=fun h=>hp (by have:=congrArg List.length h; rw [lq] at this; exact List.length_eq_zero_iff.mp this);have pos:=g3 ln;have b:((qs s.2).foldl gl "" == ("" : Str))=false:=beq_eq_false_iff_ne.mpr (fun h=>by rw [h] at pos; omega);rw [b] at eq
  by_cases c0:s.1=0
  ·have X:Mh s=(qs s.2).foldl gl "" := by
    unfold Mh;rw [show nums s=qs s.2 from if_neg (fun h=>h.elim (fun z=>z c0) hp)]
   rw [X];have c:(s.1==0)=true:=by rw [c0]; rfl
   rw [c] at n0;simp only [jf,sIf,sy,yd,bw,mOp,aq,ak,gk,ao,d7,List.getElem?_cons_zero,List.getElem?_cons_succ,eq,yc,i0,n0]
  ·have X:Mh s=gl ((qs s.2).foldl gl "") (num (ab s.1),s.1):=by
    unfold Mh;rw [show nums s=qs s.2++[(num (ab s.1),s.1)] from if_pos (.inl c0),List.foldl_append];rfl
   have c:(s.1==0)=false:=beq_eq_false_iff_ne.mpr c0;rw [c] at n0;rw [X];have m2:=a4f (b:=decide (s.1<0));have sl:=O1 false (decide (s.1<0));clear X F e;generalize (qs s.2).foldl gl "" = t at *;unfold gl;rw [b];have b1:t.length+(sg false (decide (s.1<0))).length<lim:=by show _<1000000; omega
   have b2:(t++sg false (decide (s.1<0))).length+(num (ab s.1)).length<lim:=by rw [len_app]; show _<1000000; omega
   simp only [jf,sIf,sy,yd,bw,mOp,aq,ak,gk,ao,d7,List.getElem?_cons_zero,List.getElem?_cons_succ,eq,yc,i0,n0,ltT,e4,m2,jm,b1,b2,if_true,ea,sa]
end
end K
end
section
namespace K
open C PySem
variable {cR cN:Nat} {sto:List SO}
theorem Jv {c:Nat} (h:Dp c=true):c<128:=by
 simp only [Dp,a03,Tz,Bool.or_eq_true,Bool.and_eq_true,decide_eq_true_eq] at h;omega
theorem aa8 {g:Nat} {d:Bd} (hd:J2 d):∀ c∈bc g d,c<128:=by
 have sp:∀ c∈spc g,c<128:=fun c hc=>by rw [List.eq_of_mem_replicate hc]; decide
 intro c hc;cases d with
 | num n=>exact Jv (Lb n c hc)
 | nam x=>exact Jv ((uz hd).1 c hc)
 | mul n x =>
  have hc:c∈cs (num (n:Int))++(spc g++(42::(spc g++cs x))):=hc;simp only [List.mem_append,List.mem_cons] at hc;rcases hc with z | z | rfl | z | z
  ·exact Jv (Lb n c z)
  ·exact sp c z
  ·decide
  ·exact sp c z
  ·exact Jv ((uz hd.2).1 c z)
theorem a9k {g:Nat}:∀ (l:List It5),(∀ i∈l,J2 i.2)->∀ c∈rc g l,c<128
 | [],_,c,hc=>by cases hc
 | (b,d)::l,h,c,hc=>by
  have hc:c∈spc g++(sgC b::(spc g++(bc g d++rc g l))):=hc;have sp:∀ c∈spc g,c<128:=fun c hc=>by rw [List.eq_of_mem_replicate hc]; decide
  simp only [List.mem_append,List.mem_cons] at hc;rcases hc with z | rfl | z | z | z
  ·exact sp c z
  ·cases b <;> decide
  ·exact sp c z
  ·exact aa8 (g:=g) (h _ List.mem_cons_self) c z
  ·exact a9k l (fun i hi=>h i (List.mem_cons_of_mem _ hi)) c z
theorem ae3 {ga g:Nat} {i:It5} (h:J2 i.2):∀ c∈fc ga g i,c<128:=by
 obtain ⟨b,d⟩:=i;have sp:∀ c∈spc ga,c<128:=fun c hc=>by rw [List.eq_of_mem_replicate hc]; decide
 intro c hc;unfold fc at hc;rcases List.mem_append.mp hc with z | z
 ·cases b with
  | false=>cases z
  | true =>
   have z:c∈spc ga++(45::spc ga):=z;simp only [List.mem_append,List.mem_cons] at z;rcases z with z | rfl | z
   ·exact sp c z
   ·decide
   ·exact sp c z
 ·exact aa8 (g:=g) h c z
theorem a4i (d:Bd):(bt d).length<=3:=by cases d <;> simp [bt]
theorem a3l:∀ l:List It5,(rt l).length<=4 * l.length
 | []=>Nat.le_refl _
 | (b,d)::l=>by
  have:=a3l l;have:=a4i d;show (sgS b::(bt d++rt l)).length<=_;rw [List.length_cons,List.length_append,List.length_cons];omega
theorem a97 (i:It5):(ft i).length<=4:=by
 obtain ⟨b,d⟩:=i;have:=a4i d;cases b
 ·show (bt d).length<=4;omega
 ·show (("-" : Str)::bt d).length<=4;rw [List.length_cons]; omega
theorem Hx {x:Str} {ga g:Nat} {i:It5} {l:List It5} (hx:cs x=fc ga g i++rc g l) (hi:J2 i.2) (h:∀ i∈l,J2 i.2) (hl:(cs x).length<1000) (hn:l.length<=10) (hs:yq (Dh ((i::l).map pv))=true) :
  Pn x/\∃ fs,jo cR cN [.str x] sto=some (smT (Dh ((i::l).map pv)),sto++[.ins cR fs]):=by
 have pn:Pn x:=⟨fun c hc=>by
  rw [hx] at hc;rcases List.mem_append.mp hc with z | z
  ·exact ae3 (ga:=ga) (g:=g) hi c z
  ·exact a9k (g:=g) l h c z,hl⟩
 refine ⟨pn,?_⟩;have dO:=hl;rw [hx] at dO
 obtain ⟨fs,e⟩:=Sd (cR:=cR) (cN:=cN) (sto:=sto) pn (by
  intro ts ht;rw [hx,Tk.all hi h 1000 dO] at ht;cases ht;have:=a3l l;have:=a97 i;rw [List.length_append]; omega)
 rw [hx,a7i hi h dO (by omega) hs] at e;refine ⟨fs,?_⟩;unfold jo norm;rw [e]
def it5 (p:Str × Int):It5:=(decide (p.2<0),if ab p.2=1 then .nam p.1 else .mul (ab p.2).toNat p.1)
def nit (k:Int):It5:=(decide (k<0),.num (ab k).toNat)
def its (s:Sm):List It5:=s.2.map it5++(if s.1≠0\/s.2=[] then [nit s.1] else [])
theorem Wm (k:Int):0<=ab k:=by unfold ab; split <;> omega
theorem a5c (k:Int):num (((ab k).toNat:Nat):Int)=num (ab k):=by rw [Int.toNat_of_nonneg (Wm k)]
theorem yj (a b:Str):cs (a++b)=cs a++cs b:=by show (a++b).cps.toList=_; rw [Gx,Array.toList_append]
theorem a0u (p:Str × Int):cs (piece p)=bc 1 (it5 p).2:=by
 unfold piece it5
 by_cases e:ab p.2=1
 ·rw [if_pos e,if_pos e]; rfl
 ·rw [if_neg e,if_neg e];show _=cs (num (((ab p.2).toNat:Nat):Int))++(spc 1++(42::(spc 1++cs p.1)));rw [a5c,yj,yj,List.append_assoc];congr 1
theorem a90 (k:Int):cs (num (ab k))=bc 1 (nit k).2:=by
 show _=cs (num (((ab k).toNat:Nat):Int));rw [a5c]
theorem af8 (b:Bool):cs (sg false b)=spc 1++(sgC b::spc 1):=by cases b <;> decide +kernel
theorem af4 (b:Bool):cs (sg true b)=if b then [45] else []:=by cases b <;> decide +kernel
theorem a9f {t:Str} (h:cs t≠[]):(t==("" : Str))=false:=beq_eq_false_iff_ne.mpr fun e=>h (by rw [e]; decide +kernel)
theorem Z7:∀ (L:List ((Str × Int) × It5)),(∀ x∈L,cs x.1.1=bc 1 x.2.2/\decide (x.1.2<0)=x.2.1)->∀ t:Str,cs t≠[]->cs ((L.map (·.1)).foldl gl t)=cs t++rc 1 (L.map (·.2))
 | [],_,t,_=>by simp [rc]
 | ((q,v),(b,d))::L,h,t,ht=>by
  obtain ⟨h1,h2⟩:=h _ List.mem_cons_self
  have e:cs (gl t (q,v))=cs t++(spc 1++(sgC b::(spc 1++bc 1 d))):=by
   unfold gl;rw [a9f ht,yj,yj];show cs t++cs (sg false (decide (v<0)))++cs q=_;rw [show decide (v<0)=b from h2,af8,show cs q=bc 1 d from h1];simp
  have ih:=Z7 L (fun x hx=>h x (List.mem_cons_of_mem _ hx)) (gl t (q,v)) (by rw [e]; simp [spc]);rw [List.map_cons,List.foldl_cons,ih,e];show _=cs t++(spc 1++(sgC b::(spc 1++(bc 1 d++rc 1 (L.map (·.2))))));simp
theorem a0w {q:Str} {v:Int} {b:Bool} {d:Bd} {L:List ((Str × Int) × It5)} (h:∀ x∈((q,v),(b,d))::L,cs x.1.1=bc 1 x.2.2/\decide (x.1.2<0)=x.2.1) (hq:cs q≠[]) :
  cs (((((q,v),(b,d))::L).map (·.1)).foldl gl "")=fc 0 1 (b,d)++rc 1 (L.map (·.2)):=by
 obtain ⟨h1,h2⟩:=h _ List.mem_cons_self
 have e:cs (gl "" (q,v))=fc 0 1 (b,d):=by
  unfold gl;rw [beq_self_eq_true,yj,yj];show cs "" ++ cs (sg true (decide (v<0)))++cs q=_;rw [show decide (v<0)=b from h2,af4,show cs q=bc 1 d from h1,show cs ("" : Str)=[] from rfl];cases b <;> rfl
 have ne:cs (gl "" (q,v))≠[]:=by
  rw [e];unfold fc;have:bc 1 d≠[]:=by rw [<- h1]; exact hq
  intro z;exact this (List.append_eq_nil_iff.mp z).2
 rw [List.map_cons,List.foldl_cons,Z7 L (fun x hx=>h x (List.mem_cons_of_mem _ hx)) _ ne,e]
noncomputable def both (s:Sm):List ((Str × Int) × It5):=s.2.map (fun p=>((piece p,p.2),it5 p))++(if s.1≠0\/s.2=[] then [((num (ab s.1),s.1),nit s.1)] else [])
theorem a9c (s:Sm):(both s).map (·.1)=nums s:=by
 unfold both nums qs
 by_cases h:s.1≠0\/s.2=[]
 ·rw [if_pos h,if_pos h,List.map_append,List.map_map]; rfl
 ·rw [if_neg h,if_neg h,List.map_append,List.map_map,List.map_nil,List.append_nil]; rfl
theorem aac (s:Sm):(both s).map (·.2)=its s:=by
 unfold both its
 by_cases h:s.1≠0\/s.2=[]
 ·rw [if_pos h,if_pos h,List.map_append,List.map_map]; rfl
 ·rw [if_neg h,if_neg h,List.map_append,List.map_map,List.map_nil]; rfl
theorem a7v (s:Sm):∀ x∈both s,cs x.1.1=bc 1 x.2.2/\decide (x.1.2<0)=x.2.1:=by
 intro x hx;unfold both at hx;rcases List.mem_append.mp hx with z | z
 ·obtain ⟨p,_,rfl⟩:=List.mem_map.mp z;exact ⟨a0u p,rfl⟩
 ·split at z
  ·rw [List.mem_singleton] at z; subst z; exact ⟨a90 _,rfl⟩
  ·cases z
theorem a6g (s:Sm):both s≠[]:=by
 unfold both
 by_cases h:s.2=[]
 ·rw [if_pos (.inr h)]; simp
 ·intro z;have:=(List.append_eq_nil_iff.mp z).1;exact h (List.map_eq_nil_iff.mp this)
end K
end
section
namespace K
open C PySem
variable {cR cN:Nat} {sto:List SO} {N:List Str} {s:Sm}
theorem okN.o {x:Str} (h:okN x):oN x:=⟨h.1,h.2.1,by rw [Ab]; exact List.length_pos_iff.mpr (uz h.2.2).2.1⟩
theorem a4n (hN:Uk N):oNs N:=⟨by have:=hN.1; omega,fun x hx=>(hN.2.2 x hx).o⟩
theorem a3u (h:Vw N s) (hN:Uk N):oSm N s:=⟨⟨by have:=h.len hN; have:=hN.1; omega,fun p hp=>⟨h.mem hp,(h.nz p hp).2⟩⟩,h.k⟩
theorem adh {p:Str × Int} (h:p.2≠0):pv (it5 p)=p:=by
 obtain ⟨x,v⟩:=p;have h:v≠0:=h;unfold it5;dsimp only
 by_cases e:ab v=1
 ·rw [if_pos e];show (x,sgI (decide (v<0)))=(x,v);unfold ab at e;unfold sgI
  by_cases z:v<0
  ·rw [if_pos z] at e;rw [decide_eq_true z,if_pos rfl,show v = -1 by omega]
  ·rw [if_neg z] at e;rw [decide_eq_false z,if_neg (by decide),e]
 ·rw [if_neg e];show (x,sgI (decide (v<0)) * (((ab v).toNat:Nat):Int))=(x,v);rw [Int.toNat_of_nonneg (Wm v)];unfold ab sgI
  by_cases z:v<0
  ·rw [decide_eq_true z,if_pos rfl,if_pos z,show (-1:Int) * -v=v by omega]
  ·rw [decide_eq_false z,if_neg (by decide),if_neg z,Int.one_mul]
theorem a3y (k:Int):pv (nit k)=(("" : Str),k):=by
 show (("" : Str),sgI (decide (k<0)) * (((ab k).toNat:Nat):Int))=(("" : Str),k);rw [Int.toNat_of_nonneg (Wm k)];unfold ab sgI
 by_cases z:k<0
 ·rw [decide_eq_true z,if_pos rfl,if_pos z,show (-1:Int) * -k=k by omega]
 ·rw [decide_eq_false z,if_neg (by decide),if_neg z,Int.one_mul]
theorem Q0 {x:Str} (h:nameB x=true):(x==("" : Str))=false:=a9f (uz h).2.1
theorem a2i (h:Vw N s) (hN:Uk N):Dh ((its s).map pv)=s:=by
 have pp:=a0h h hN;obtain ⟨k,l⟩:=s;have pp:prt l=l:=pp
 have e1:(l.map it5).map pv=l:=by
  rw [List.map_map]
  conv=>rhs; rw [<- List.map_id l]
  exact List.map_congr_left fun p hp=>adh (h.nz p hp).1
 have f1:(l.filter fun p=>p.1==("" : Str))=[]:=List.filter_eq_nil_iff.mpr fun p hp z=>by
  rw [Q0 (hN.2.2 _ (h.mem hp)).2.2] at z; cases z
 have f2:(l.filter fun p=>!(p.1==("" : Str)))=l:=List.filter_eq_self.mpr fun p hp=>by
  rw [Q0 (hN.2.2 _ (h.mem hp)).2.2]; rfl
 unfold its Dh;dsimp only;rw [List.map_append,e1,List.filter_append,List.filter_append,f1,f2]
 by_cases z:k≠0\/l=[]
 ·rw [if_pos z]
  have g1:(([nit k].map pv).filter fun p=>p.1==("" : Str))=[(("" : Str),k)]:=by
   rw [List.map_cons,List.map_nil,a3y]; rfl
  have g2:(([nit k].map pv).filter fun p=>!(p.1==("" : Str)))=[]:=by
   rw [List.map_cons,List.map_nil,a3y]; rfl
  rw [g1,g2,List.append_nil,pp];simp
 ·rw [if_neg z]
  have k0:k=0:=by
   by_cases y:k=0
   ·exact y
   ·exact absurd (.inl y) z
  rw [List.map_nil,List.filter_nil,List.filter_nil,List.append_nil,List.append_nil,pp,k0];rfl
theorem a3g {v:Int} (h0:-1000000000<v) (h1:v<1000000000):ab v<=999999999:=by unfold ab; split <;> omega
theorem a2v (h:Vw N s):yq s=true:=by
 unfold yq;refine List.all_eq_true.mpr fun i hi=>decide_eq_true ?_;rcases List.mem_cons.mp hi with rfl | hi
 ·exact a3g h.k.1 h.k.2
 ·obtain ⟨p,hp,rfl⟩:=List.mem_map.mp hi;exact a3g (h.nz p hp).2.1 (h.nz p hp).2.2
theorem aad (h:Vw N s) (hN:Uk N):∀ i∈its s,J2 i.2:=by
 intro i hi;unfold its at hi;rcases List.mem_append.mp hi with z | z
 ·obtain ⟨p,hp,rfl⟩:=List.mem_map.mp z;have hx:=(hN.2.2 _ (h.mem hp)).2.2;have hv:=a3g (h.nz p hp).2.1 (h.nz p hp).2.2;have:=Wm p.2;unfold it5;dsimp only;split
  ·exact hx
  ·exact ⟨by omega,hx⟩
 ·split at z
  ·rw [List.mem_singleton] at z;subst z;have hv:=a3g h.k.1 h.k.2;have:=Wm s.1;show (ab s.1).toNat<=999999999;omega
  ·cases z
theorem Uu (h:Vw N s) (hN:Uk N):Pn (Mh s)/\∃ fs,jo cR cN [.str (Mh s)] sto=some (smT s,sto++[.ins cR fs]):=by
 have hl:=(a6v (a4n hN) (a3u h hN)).2;rw [Ab] at hl;have ok:=aad h hN;have me:=a2i h hN;have sm:=a2v h;have b2:=aac s;have b1:=a9c s;have bo:=a7v s
 have ll:(its s).length<=7:=by
  have:=h.len hN;unfold its;rw [List.length_append,List.length_map];split <;> simp <;> omega
 cases hb:both s with
 | nil=>exact absurd hb (a6g s)
 | cons x L =>
  obtain ⟨⟨q,v⟩,b,d⟩:=x;rw [hb] at b1 b2 bo;have b2:(b,d)::L.map (·.2)=its s:=b2;rw [<- b2] at me ok ll;have hd:J2 d:=ok _ List.mem_cons_self
  have hq:cs q≠[]:=by
   rw [show cs q=bc 1 d from (bo _ List.mem_cons_self).1];cases d with
   | num n=>exact N5 n
   | nam x=>exact (uz hd).2.1
   | mul n x=>intro z; exact N5 n (List.append_eq_nil_iff.mp z).1
  have e:cs (Mh s)=fc 0 1 (b,d)++rc 1 (L.map (·.2)):=by
   unfold Mh;rw [<- b1];exact a0w bo hq
  have r:=Hx (cR:=cR) (cN:=cN) (sto:=sto) e hd (fun i hi=>ok i (List.mem_cons_of_mem _ hi)) (by omega) (by rw [List.length_cons] at ll; omega) (by rw [me]; exact sm);rw [me] at r;exact r
end K
end
section
namespace K
open C PySem
variable {cR cN:Nat} {N:List Str} {n L0:Nat}
def txt (g:Nat):List It5->List Nat
 | []=>[]
 | i::l=>fc g g i++rc g l
theorem a4b (g:Nat):∀ (a b:List It5),rc g (a++b)=rc g a++rc g b
 | [],b=>rfl
 | (c,d)::a,b=>by
  show spc g++(sgC c::(spc g++(bc g d++rc g (a++b))))=_;rw [a4b g a b];show _=(spc g++(sgC c::(spc g++(bc g d++rc g a))))++rc g b;simp
theorem a8m (g:Nat) (l:List It5) (i:It5):txt g (l++[i])=txt g l++(if l=[] then fc g g i else rc g [i]):=by
 cases l with
 | nil=>simp [txt,rc]
 | cons j l =>
  rw [if_neg (List.cons_ne_nil _ _)];show fc g g j++rc g (l++[i])=fc g g j++rc g l++rc g [i];rw [a4b,List.append_assoc]
def Df (l:List It5):Int:=(((l.map pv).filter fun p=>p.1==("" : Str)).map (·.2)).sum
def Vs (l:List It5):List Pr:=(l.map pv).filter fun p=>!(p.1==("" : Str))
def rm (l:List It5):List Pr:=J8 (Vs l) []
theorem a3h {l:List It5} {b:Bool} {m:Nat}:Df (l++[(b,.num m)])=Df l+sgI b * (m:Int):=by
 unfold Df;rw [List.map_append,List.filter_append,List.map_append,List.sum_append];congr 1;show (((([(b,Bd.num m)]:List It5).map pv).filter fun p=>p.1==("" : Str)).map (·.2)).sum=_;have:(([(b,Bd.num m)]:List It5).map pv)=[(("" : Str),sgI b * (m:Int))]:=rfl;rw [this,List.filter_cons,if_pos (beq_self_eq_true _)];simp
theorem a1t {l:List It5} {b:Bool} {m:Nat}:Vs (l++[(b,.num m)])=Vs l:=by
 unfold Vs;rw [List.map_append,List.filter_append];have:(([(b,Bd.num m)]:List It5).map pv)=[(("" : Str),sgI b * (m:Int))]:=rfl;rw [this,List.filter_cons,if_neg (by rw [beq_self_eq_true]; decide)];simp
theorem Te {l:List It5} {i:It5} {x:Str} {v:Int} (e:pv i=(x,v)) (h:(x==("" : Str))=false):Df (l++[i])=Df l:=by
 unfold Df;rw [List.map_append,List.filter_append,List.map_cons,List.map_nil,e,List.filter_cons,if_neg (by rw [h]; decide)];simp
theorem a0s {l:List It5} {i:It5} {x:Str} {v:Int} (e:pv i=(x,v)) (h:(x==("" : Str))=false):Vs (l++[i])=Vs l++[(x,v)]:=by
 unfold Vs;rw [List.map_append,List.filter_append,List.map_cons,List.map_nil,e,List.filter_cons,if_pos (by rw [h]; decide)];simp
theorem Sw {l:List It5} {i:It5} {x:Str} {v:Int} (e:pv i=(x,v)) (h:(x==("" : Str))=false):rm (l++[i])=pt (rm l) x (gt (rm l) x+v):=by
 unfold rm;rw [a0s e h];unfold J8;rw [List.foldl_append]; rfl
theorem Kh (l:List It5):(rm l).length<=l.length:=by
 have:=W4 (Vs l);unfold ks at this;rw [List.length_map] at this;refine Nat.le_trans this ?_;unfold Vs;refine Nat.le_trans (List.length_filter_le _ _) ?_;rw [List.length_map]; exact Nat.le_refl _
abbrev lpS (n:Nat) (N:List Str) (tx:Str) (nu:Int) (d:List Pr) (gp:Str) (o6 o7 o8 o9 o10 o11:C.Slot) (st:List SO):Sta :=
 ⟨[some (.obj n,false),some (.lst (N.map T.str),false),some (.str tx,false),some (.int nu,false),some (.dic (dd d),true),some (.str gp,false),o6,o7,o8,o9,o10,o11],st⟩
theorem zog {i:Nat} {k d:M T} {s s1 s2:Sta} {kt dt:T} {q:Key} {kv:List (Key × T)} {f:Bool} (hs:Li i s=true) (h1:k s=some (kt,s1)) (h2:d s1=some (dt,s2)) (hx:s2.env[i]? = some (some (.dic kv,f))) (hq:keyOf kt=some q):vo i k d s=some ((Gj q kv).getD dt,s2):=by
 unfold vo;rw [if_pos hs,h1]; dsimp only;rw [h2]; dsimp only;rw [hx]; dsimp only;rw [hq]
abbrev kindS:S:=(sIf (bw (mOp eqO (aq 9) (ak (.int 0))))
 (j8 3 (mOp jm (aq 3) (mOp yg (aq 8) (mOp Qs (ak (.int 1)) (mOp yg (ak (.int 2)) (aq 7))))))
 (sIf (bw (mOp eqO (aq 9) (ak (.int 1))))
 (jf (j8 10 (mOp jm (mOp jm (mOp jm (mOp jm (aq 10) (aq 5)) (ak (.str "*"))) (aq 5)) (aq 11)))
 (vp 4 (aq 11) (mOp jm (vo 4 (aq 11) (ak (.int 0))) (mOp yg (aq 8) (mOp Qs (ak (.int 1)) (mOp yg (ak (.int 2)) (aq 7)))))))
 (jf (j8 10 (aq 11))
 (vp 4 (aq 11) (mOp Qs (mOp jm (vo 4 (aq 11) (ak (.int 0))) (ak (.int 1))) (mOp yg (ak (.int 2)) (aq 7)))))))
def bodyOf (kd:Int) (m:Nat) (x:Str):Bd:=if kd=0 then .num m else if kd=1 then .mul m x else .nam x
theorem a9i {sg:Int} (h:sg=0\/sg=1):1 - 2 * sg=sgI (decide (sg=1)):=by
 rcases h with rfl | rfl <;> decide
theorem Z6 {tx gp x:Str} {g m:Nat} {l:List It5} {o6:C.Slot} {sg kd:Int} {st:List SO} (hg:cs gp=spc g) (g2:g<=2) (b6:sg=0\/sg=1) (hk:0<=kd/\kd<3) (hm:m<=9999999) (hx:nameB x=true) (hl:l.length<100) :
  ∃ y:Str,kindS (lpS n N tx (Df l) (rm l) gp o6 (some (.int sg,false)) (some (.int (m:Int),false)) (some (.int kd,false)) (some (.str (num (m:Int)),false)) (some (.str x,false)) st)=some (.next,lpS n N tx (Df (l++[(decide (sg=1),bodyOf kd m x)])) (rm (l++[(decide (sg=1),bodyOf kd m x)])) gp o6 (some (.int sg,false)) (some (.int (m:Int),false)) (some (.int kd,false)) (some (.str y,false)) (some (.str x,false)) st)/\cs y=bc g (bodyOf kd m x)/\y.length<=30:=by
 have b2:xg 2=true:=by decide
 have bm:xg (m:Int)=true:=by simp only [xg,decide_eq_true_eq]; omega
 have nx:=uz hx;have bY:=Q0 hx;have ln:(num (m:Int)).length<=9:=by rw [Ab]; exact Wr (by omega)
 have lx:x.length<=8:=by rw [Ab]; exact nx.2.2
 have lg:gp.length<=2:=by rw [Ab,hg]; unfold spc; rw [List.length_replicate]; exact g2
 have sm:=a9i b6;have dl:(dd (rm l)).length<lim:=by unfold dd; rw [List.length_map]; have:=Kh l; show _<1000000; omega
 have M2:∀ s:Sta,s.env[7]? = some (some (.int sg,false))->mOp yg (ak (.int 2)) (aq 7) s=some (.int (2 * sg),s):=fun s h=>zo rfl (by unfold aq; rw [h]) (mu b2)
 by_cases k0:kd=0
 ·subst k0;refine ⟨num (m:Int),?_,?_,by omega⟩
  ·rw [show bodyOf 0 m x=.num m from rfl,a3h,show rm (l++[(decide (sg=1),.num m)])=rm l from by unfold rm; rw [a1t]];refine zk (zt (zo rfl rfl (eq_i rfl))) (ys (t:=.int (Df l+sgI (decide (sg=1)) * (m:Int))) (zo rfl (zo rfl (zo rfl (M2 _ rfl) rfl) (mu bm)) ?_) rfl);show some (T.int (Df l+(m:Int) * (1 - 2 * sg)))=_;rw [sm,Int.mul_comm]
  ·rfl
 have n0:(kd==0)=false:=beq_eq_false_iff_ne.mpr k0
 by_cases k1:kd=1
 ·subst k1;have e:pv (decide (sg=1),.mul m x)=(x,sgI (decide (sg=1)) * (m:Int)):=rfl;refine ⟨num (m:Int)++gp ++ "*" ++ gp++x,?_,?_,?_⟩
  ·rw [show bodyOf 1 m x=.mul m x from rfl,Te e bY,Sw e bY];have s1:("*" : Str).length=1:=by decide +kernel
   have l1:(num (m:Int)).length+gp.length<lim:=by show _<1000000; omega
   have l2:(num (m:Int)++gp).length+("*" : Str).length<lim:=by rw [len_app]; show _<1000000; omega
   have l3:(num (m:Int)++gp ++ "*").length+gp.length<lim:=by rw [len_app,len_app]; show _<1000000; omega
   have l4:(num (m:Int)++gp ++ "*" ++ gp).length+x.length<lim:=by rw [len_app,len_app,len_app]; show _<1000000; omega
   refine ze (zt (zo rfl rfl (eq_i n0))) (zk (zt (zo rfl rfl (eq_i rfl))) (zq (ys (zo (zo (zo (zo rfl rfl (ad l1)) rfl (ad l2)) rfl (ad l3)) rfl (ad l4)) rfl) ?_));refine zw (t:=.int (gt (rm l) x+sgI (decide (sg=1)) * (m:Int))) (zo (zog rfl rfl rfl rfl rfl) (zo rfl (zo rfl (M2 _ rfl) rfl) (mu bm)) ?_) rfl rfl rfl rfl dl ?_
   ·rw [Ks];show some (T.int (gt (rm l) x+(m:Int) * (1 - 2 * sg)))=_;rw [sm,Int.mul_comm]
   ·rw [R7]; rfl
  ·show _=cs (num (m:Int))++(spc g++(42::(spc g++cs x)));rw [yj,yj,yj,yj,hg,show cs ("*" : Str)=[42] by decide +kernel];simp
  ·rw [len_app,len_app,len_app,len_app,show ("*" : Str).length=1 by decide +kernel]; omega
 have n1:(kd==1)=false:=beq_eq_false_iff_ne.mpr k1;have eb:bodyOf kd m x=.nam x:=by unfold bodyOf; rw [if_neg k0,if_neg k1]
 have e:pv (decide (sg=1),.nam x)=(x,sgI (decide (sg=1))):=rfl;refine ⟨x,?_,by rw [eb]; rfl,by omega⟩;rw [eb,Te e bY,Sw e bY];refine ze (zt (zo rfl rfl (eq_i n0))) (ze (zt (zo rfl rfl (eq_i n1))) (zq (ys rfl rfl) ?_));refine zw (t:=.int (gt (rm l) x+sgI (decide (sg=1)))) (zo (zo (zog rfl rfl rfl rfl rfl) rfl (v:=.int (gt (rm l) x+1)) ?_) (M2 _ rfl) ?_) rfl rfl rfl rfl dl ?_
 ·rw [Ks]; rfl
 ·have e3:gt (rm l) x+1 - 2 * sg=gt (rm l) x+sgI (decide (sg=1)):=by rw [<- sm]; omega
  exact congrArg (fun i=>some (T.int i)) e3
 ·rw [R7]; rfl
end K
end
section
namespace K
open C PySem
variable {cR cN:Nat} {N:List Str} {n:Nat}
abbrev aeh:S:=(sIf (mOr (bw (mOp gtT (aq 6) (ak (.int 0)))) (bw (mOp eqO (aq 7) (ak (.int 1)))))
 (j8 10 (mOp jm (mOp jm (mOp jm (aq 5) (mOp dg (ak (.str "+-")) (aq 7))) (aq 5)) (aq 10)))
 yd)
abbrev lpB:S:=(jf (j8 7 (dw dz (ao (aq 0) (ao (ak (.int 2)) d7))))
 (jf (j8 8 (gk Gp (ao (dw jy (ao (aq 0) (ao (mOp Qo (ak (.int 10)) (ak (.int 7))) d7))) d7)))
 (jf (j8 9 (dw dz (ao (aq 0) (ao (ak (.int 3)) d7))))
 (jf (j8 10 (gk Pa (ao (aq 8) d7)))
 (jf (j8 11 (mOp dg (aq 1) (dw dz (ao (aq 0) (ao (gk Ax (ao (aq 1) d7)) d7)))))
 (jf kindS
 (jf aeh
 (j8 2 (mOp jm (aq 2) (aq 10))))))))))
theorem a71 {sg:Int} (h:sg=0\/sg=1):dg (.str "+-") (.int sg)=some (.str (st [sgC (decide (sg=1))])):=by
 rcases h with rfl | rfl
 ·have:=item_at (x := "+-") (k:=0) (by decide +kernel) (by decide +kernel);exact this
 ·have:=item_at (x := "+-") (k:=1) (by decide +kernel) (by decide +kernel);exact this
theorem a09 {tx gp y:Str} {nu:Int} {d:List Pr} {j g:Nat} {sg:Int} {o8 o9 o11:C.Slot} {z:List SO} (hg:cs gp=spc g) (g2:g<=2) (b6:sg=0\/sg=1) (hy:y.length<=30) :
  ∃ w:Str,aeh (lpS n N tx nu d gp (some (.int (j:Int),false)) (some (.int sg,false)) o8 o9 (some (.str y,false)) o11 z)=some (.next,lpS n N tx nu d gp (some (.int (j:Int),false)) (some (.int sg,false)) o8 o9 (some (.str w,false)) o11 z) /\
   cs w=(if j=0 then (if sg=1 then spc g++(45::spc g) else [])++cs y else spc g++(sgC (decide (sg=1))::(spc g++cs y)))/\w.length<=40:=by
 have lg:gp.length<=2:=by rw [Ab,hg]; unfold spc; rw [List.length_replicate]; exact g2
 have is:=a71 b6;have ls:(st [sgC (decide (sg=1))]).length=1:=a9b _
 have go:∀ (s:Sta),s=lpS n N tx nu d gp (some (.int (j:Int),false)) (some (.int sg,false)) o8 o9 (some (.str y,false)) o11 z->j8 10 (mOp jm (mOp jm (mOp jm (aq 5) (mOp dg (ak (.str "+-")) (aq 7))) (aq 5)) (aq 10)) s=some (.next,lpS n N tx nu d gp (some (.int (j:Int),false)) (some (.int sg,false)) o8 o9 (some (.str (gp++st [sgC (decide (sg=1))]++gp++y),false)) o11 z):=by
  rintro s rfl;have l1:gp.length+(st [sgC (decide (sg=1))]).length<lim:=by rw [ls]; show _<1000000; omega
  have l2:(gp++st [sgC (decide (sg=1))]).length+gp.length<lim:=by rw [len_app,ls]; show _<1000000; omega
  have l3:(gp++st [sgC (decide (sg=1))]++gp).length+y.length<lim:=by rw [len_app,len_app,ls]; show _<1000000; omega
  exact ys (zo (zo (zo rfl (zo rfl rfl is) (ad l1)) rfl (ad l2)) rfl (ad l3)) rfl
 have cw:cs (gp++st [sgC (decide (sg=1))]++gp++y)=spc g++(sgC (decide (sg=1))::(spc g++cs y)):=by
  rw [yj,yj,yj,hg,aed]; simp
 have lw:(gp++st [sgC (decide (sg=1))]++gp++y).length<=40:=by rw [len_app,len_app,len_app,ls]; omega
 by_cases j0:j=0
 ·subst j0;have c1:bw (mOp gtT (aq 6) (ak (.int 0))) (lpS n N tx nu d gp (some (.int ((0:Nat):Int),false)) (some (.int sg,false)) o8 o9 (some (.str y,false)) o11 z)=some (false,lpS n N tx nu d gp (some (.int ((0:Nat):Int),false)) (some (.int sg,false)) o8 o9 (some (.str y,false)) o11 z):=zt (zo rfl rfl rfl);rcases b6 with rfl | rfl
  ·exact ⟨y,ze (Qk c1 (zt (zo rfl rfl (eq_i rfl)))) rfl,by rw [if_pos rfl,if_neg (by decide),List.nil_append],by omega⟩
  ·refine ⟨_,zk (Qk c1 (zt (zo rfl rfl (eq_i rfl)))) (go _ rfl),?_,lw⟩;rw [if_pos rfl,if_pos rfl,cw];simp [sgC]
 ·have c1:bw (mOp gtT (aq 6) (ak (.int 0))) (lpS n N tx nu d gp (some (.int (j:Int),false)) (some (.int sg,false)) o8 o9 (some (.str y,false)) o11 z)=some (true,lpS n N tx nu d gp (some (.int (j:Int),false)) (some (.int sg,false)) o8 o9 (some (.str y,false)) o11 z):=zt (zo rfl rfl (by show some (T.bl (decide ((0:Int)<(j:Int))))=_; rw [decide_eq_true (by omega)]));exact ⟨_,zk (aay c1) (go _ rfl),by rw [if_neg j0,cw],lw⟩
theorem a5n (hN:Uk N) {tx gp:Str} {g j L0:Nat} {l:List It5} {o7 o8 o9 o10 o11:C.Slot} {z:List SO} (hg:cs gp=spc g) (g2:g<=2) (hj:l.length=j) (h8:j<8) (fG:cs tx=txt g l) (hlen:tx.length<=40 * j) (hz:Ao n z) (hL:z.length=L0) :
  ∃ (i:It5) (bN:Str) (p7 p8 p9 cP de:C.Slot) (z':List SO),lpB (lpS n N tx (Df l) (rm l) gp (some (.int (j:Int),false)) o7 o8 o9 o10 o11 z)=some (.next,lpS n N bN (Df (l++[i])) (rm (l++[i])) gp (some (.int (j:Int),false)) p7 p8 p9 cP de z') /\
   J2 i.2/\-9999999<=(pv i).2/\(pv i).2<=9999999/\cs bN=txt g (l++[i])/\bN.length<=40 * (j+1)/\Ao n z'/\z'.length=L0:=by
 have c7:Qo (.int 10) (.int 7)=some (.int 10000000):=by simp [Qo]
 obtain ⟨sg,z1,p1,a1,b1,w1,m1⟩:=Lk (many:=2) hL hz (by decide) (by decide);obtain ⟨r,z2,p2,a2,b2,w2,m2⟩:=number (most:=10000000) m1 w1 (by decide);obtain ⟨kd,z3,p3,a3,b3,w3,m3⟩:=Lk (many:=3) m2 w2 (by decide) (by decide);obtain ⟨t,z4,p4,a4,b4,w4,m4⟩:=Lk (many:=6) m3 w3 (by decide) (by decide);obtain ⟨x,hx,ex⟩:=Oa T.str N a4 (by rw [hN.1]; exact b4);have b6:sg=0\/sg=1:=by omega
 obtain ⟨m,em,hm⟩:∃ m:Nat,(if r<0 then -r else r)=(m:Int)/\m<=9999999:=⟨(if r<0 then -r else r).toNat,by split <;> omega,by split <;> omega⟩;have ar:Gp [.int r]=some (.int (m:Int)):=by show some (T.int (if r<0 then -r else r))=_; rw [em]
 have si:=Xv (i:=(m:Int)) (by omega) (by omega);have eF:=(hN.2.2 x hx).2.2;obtain ⟨y,q1,q2,q3⟩:=Z6 (n:=n) (N:=N) (tx:=tx) (o6:=some (.int (j:Int),false)) (st:=z4) (l:=l) (kd:=kd) hg g2 b6 ⟨a3,b3⟩ hm eF (by omega);obtain ⟨w,r1,r2,r3⟩:=a09 (n:=n) (N:=N) (tx:=tx) (nu:=Df (l++[(decide (sg=1),bodyOf kd m x)])) (d:=rm (l++[(decide (sg=1),bodyOf kd m x)])) (j:=j) (o8:=some (.int (m:Int),false)) (o9:=some (.int kd,false)) (o11:=some (.str x,false)) (z:=z4) hg g2 b6 q3;have al:tx.length+w.length<lim:=by show _<1000000; omega
 have lN:Ax [.lst (N.map T.str)]=some (.int 6):=by rw [aec,hN.1]; rfl
 have S7:j8 7 (dw dz (ao (aq 0) (ao (ak (.int 2)) d7))) (lpS n N tx (Df l) (rm l) gp (some (.int (j:Int),false)) o7 o8 o9 o10 o11 z)=some (.next,lpS n N tx (Df l) (rm l) gp (some (.int (j:Int),false)) (some (.int sg,false)) o8 o9 o10 o11 z1):=ys (zf (zc rfl (zc rfl rfl)) p1) rfl;have S8:j8 8 (gk Gp (ao (dw jy (ao (aq 0) (ao (mOp Qo (ak (.int 10)) (ak (.int 7))) d7))) d7)) (lpS n N tx (Df l) (rm l) gp (some (.int (j:Int),false)) (some (.int sg,false)) o8 o9 o10 o11 z1)=some (.next,lpS n N tx (Df l) (rm l) gp (some (.int (j:Int),false)) (some (.int sg,false)) (some (.int (m:Int),false)) o9 o10 o11 z2):=ys (zm (zc (zf (zc rfl (zc (zo rfl rfl c7) rfl)) p2) rfl) ar) rfl;have S9:j8 9 (dw dz (ao (aq 0) (ao (ak (.int 3)) d7))) (lpS n N tx (Df l) (rm l) gp (some (.int (j:Int),false)) (some (.int sg,false)) (some (.int (m:Int),false)) o9 o10 o11 z2)=some (.next,lpS n N tx (Df l) (rm l) gp (some (.int (j:Int),false)) (some (.int sg,false)) (some (.int (m:Int),false)) (some (.int kd,false)) o10 o11 z3):=ys (zf (zc rfl (zc rfl rfl)) p3) rfl;have f6:j8 10 (gk Pa (ao (aq 8) d7)) (lpS n N tx (Df l) (rm l) gp (some (.int (j:Int),false)) (some (.int sg,false)) (some (.int (m:Int),false)) (some (.int kd,false)) o10 o11 z3)=some (.next,lpS n N tx (Df l) (rm l) gp (some (.int (j:Int),false)) (some (.int sg,false)) (some (.int (m:Int),false)) (some (.int kd,false)) (some (.str (num (m:Int)),false)) o11 z3):=ys (zm (zc rfl rfl) si) rfl;have gU:j8 11 (mOp dg (aq 1) (dw dz (ao (aq 0) (ao (gk Ax (ao (aq 1) d7)) d7)))) (lpS n N tx (Df l) (rm l) gp (some (.int (j:Int),false)) (some (.int sg,false)) (some (.int (m:Int),false)) (some (.int kd,false)) (some (.str (num (m:Int)),false)) o11 z3)=some (.next,lpS n N tx (Df l) (rm l) gp (some (.int (j:Int),false)) (some (.int sg,false)) (some (.int (m:Int),false)) (some (.int kd,false)) (some (.str (num (m:Int)),false)) (some (.str x,false)) z4):=ys (zo rfl (zf (zc rfl (zc (zm (zc rfl rfl) lN) rfl)) p4) ex) rfl;have SE:j8 2 (mOp jm (aq 2) (aq 10)) (lpS n N tx (Df (l++[(decide (sg=1),bodyOf kd m x)])) (rm (l++[(decide (sg=1),bodyOf kd m x)])) gp (some (.int (j:Int),false)) (some (.int sg,false)) (some (.int (m:Int),false)) (some (.int kd,false)) (some (.str w,false)) (some (.str x,false)) z4)=some (.next,lpS n N (tx++w) (Df (l++[(decide (sg=1),bodyOf kd m x)])) (rm (l++[(decide (sg=1),bodyOf kd m x)])) gp (some (.int (j:Int),false)) (some (.int sg,false)) (some (.int (m:Int),false)) (some (.int kd,false)) (some (.str w,false)) (some (.str x,false)) z4):=ys (zo rfl rfl (ad al)) rfl
 have bv:-9999999<=sgI (decide (sg=1)) * (m:Int)/\sgI (decide (sg=1)) * (m:Int)<=9999999:=by
  unfold sgI;split <;> omega
 have ff:-9999999<=sgI (decide (sg=1))/\sgI (decide (sg=1))<=9999999:=by
  unfold sgI;split <;> omega
 refine ⟨(decide (sg=1),bodyOf kd m x),tx++w,_,_,_,_,_,z4,zq S7 (zq S8 (zq S9 (zq f6 (zq gU (zq q1 (zq r1 SE)))))),?_,?_,?_,?_,by rw [len_app]; omega,w4,m4⟩
 ·show J2 (bodyOf kd m x);unfold bodyOf;split
  ·show m<=999999999; omega
  ·split
   ·exact ⟨by omega,eF⟩
   ·exact eF
 ·unfold bodyOf;split
  ·exact bv.1
  ·split
   ·exact bv.1
   ·exact ff.1
 ·unfold bodyOf;split
  ·exact bv.2
  ·split
   ·exact bv.2
   ·exact ff.2
 ·rw [yj,fG,a8m,r2,q2];refine congrArg (txt g l ++ ·) ?_
  by_cases j0:j=0
  ·have l0:l=[]:=List.length_eq_zero_iff.mp (by omega);rw [if_pos j0,if_pos l0];unfold fc
   by_cases s1:sg=1
   ·rw [if_pos s1,decide_eq_true s1]; rfl
   ·rw [if_neg s1,decide_eq_false s1]; rfl
  ·have l0:¬ l=[]:=fun e=>j0 (by rw [<- hj,e]; rfl);rw [if_neg j0,if_neg l0];show _=spc g++(sgC (decide (sg=1))::(spc g++(bc g (bodyOf kd m x)++[])));rw [List.append_nil]
end K
end
section
namespace K
open C PySem
variable {cR cN:Nat} {N:List Str} {n:Nat}
def okI (i:It5):Prop:=J2 i.2/\-9999999<=(pv i).2/\(pv i).2<=9999999
theorem Ws (hN:Uk N) {gp:Str} {g L0:Nat} (hg:cs gp=spc g) (g2:g<=2):∀ (r j:Nat) (l:List It5) (tx:Str) (o6 o7 o8 o9 o10 o11:C.Slot) (z:List SO),l.length=j->j+r<=8->(∀ i∈l,okI i)->cs tx=txt g l->tx.length<=40 * j->Ao n z->z.length=L0 ->
  ∃ (l':List It5) (bN:Str) (p6 p7 p8 p9 cP de:C.Slot) (z':List SO),forL (hName 6) lpB ((List.range' j r).map fun (k:Nat)=>T.int (k:Int)) (lpS n N tx (Df l) (rm l) gp o6 o7 o8 o9 o10 o11 z)=some (.next,lpS n N bN (Df l') (rm l') gp p6 p7 p8 p9 cP de z') /\
   l'.length=j+r/\(∀ i∈l',okI i)/\cs bN=txt g l'/\bN.length<=40 * (j+r)/\Ao n z'/\z'.length=L0
 | 0,j,l,tx,o6,o7,o8,o9,o10,o11,z,h1,_,h3,h4,h5,h6,h7=>⟨l,tx,o6,o7,o8,o9,o10,o11,z,rfl,h1,h3,h4,h5,h6,h7⟩
 | r+1,j,l,tx,o6,o7,o8,o9,o10,o11,z,h1,h2,h3,h4,h5,h6,h7=>by
  obtain ⟨i,tx1,p7,p8,p9,cP,de,z1,e,k1,k2,k3,k4,k5,k6,k7⟩:=a5n (n:=n) hN (o7:=o7) (o8:=o8) (o9:=o9) (o10:=o10) (o11:=o11) hg g2 h1 (by omega) h4 h5 h6 h7
  obtain ⟨l',bN,q6,q7,q8,q9,q10,q11,z',f,m1,m2⟩:=Ws hN hg g2 r (j+1) (l++[i]) tx1 (some (.int (j:Int),false)) p7 p8 p9 cP de z1 (by rw [List.length_append,h1]; rfl) (by omega) (fun q hq=>by
   rcases List.mem_append.mp hq with y | y
   ·exact h3 q y
   ·rw [List.mem_singleton] at y; subst y; exact ⟨k1,k2,k3⟩) k4 k5 k6 k7
  refine ⟨l',bN,q6,q7,q8,q9,q10,q11,z',?_,by omega,by rw [show j+(r+1)=j+1+r by omega]; exact m2⟩;rw [List.range'_succ,List.map_cons];exact (ad2 rfl e).trans f
def PcO (N:List Str) (n L0:Nat) (t:T) (z:List SO):Prop:=∃ (g:Nat) (i:It5) (l:List It5) (tx:Str),t=.tup [.str tx,smT (Dh ((i::l).map pv))]/\l.length<=7/\(∀ q∈i::l,okI q)/\cs tx=fc g g i++rc g l/\tx.length<=320/\Ao n z/\z.length=L0
theorem aav (l:List It5) (hl:l.length<=8):(ks (rm l)).length<64:=by
 have:=Kh l;unfold ks;rw [List.length_map]; omega
theorem pieces (hN:Uk N) {z:List SO} {L0:Nat} (hz:Ao n z) (hL:z.length=L0):ac6 (oh [.obj n,.lst (N.map T.str)] z) (PcO N n L0):=by
 obtain ⟨g0,z1,p1,a1,b1,w1,m1⟩:=Lk (many:=3) hL hz (by decide) (by decide);obtain ⟨g,eg⟩:∃ g:Nat,g0=(g:Int):=⟨g0.toNat,by omega⟩;subst eg;have gm:(" " : Str)=⟨#[32]⟩:=by decide +kernel
 have mg:=a3b (c:=32) (j:=(g:Int)) a1 (by omega);rw [<- gm,Int.toNat_natCast] at mg;have hg:cs (rep1 32 g)=spc g:=T5 32 g;obtain ⟨v,z2,p2,a2,b2,w2,m2⟩:=Lk (many:=8) m1 w1 (by decide) (by decide);obtain ⟨r,er⟩:∃ r:Nat,1+v=((r+1:Nat):Int):=⟨v.toNat,by omega⟩;obtain ⟨l,tx,o6,o7,o8,o9,o10,o11,z3,e,k1,k2,k3,k4,k5,k6⟩:=Ws (n:=n) hN hg (by omega) (r+1) 0 [] "" none none none none none none z2 rfl (by omega) (fun i hi=>by cases hi) rfl (by decide) w2 m2;rw [Nat.zero_add] at k1 k4
 have it:Bm (mOp jm (ak (.int 1)) (dw dz (ao (aq 0) (ao (ak (.int 8)) d7)))) (lpS n N "" 0 [] (rep1 32 g) none none none none none none z1)=some ((List.range' 0 (r+1)).map fun (k:Nat)=>T.int (k:Int),lpS n N "" 0 [] (rep1 32 g) none none none none none none z2):=by
  have TK:dw dz (ao (aq 0) (ao (ak (.int 8)) d7)) (lpS n N "" 0 [] (rep1 32 g) none none none none none none z1)=some (.int v,lpS n N "" 0 [] (rep1 32 g) none none none none none none z2):=zf (s1:=lpS n N "" 0 [] (rep1 32 g) none none none none none none z1) (zc rfl (zc rfl rfl)) p2;have:mOp jm (ak (.int 1)) (dw dz (ao (aq 0) (ao (ak (.int 8)) d7))) (lpS n N "" 0 [] (rep1 32 g) none none none none none none z1)=some (.int ((r+1:Nat):Int),lpS n N "" 0 [] (rep1 32 g) none none none none none none z2):=zo rfl TK (congrArg (fun i=>some (T.int i)) er);unfold Bm;rw [this];dsimp only;rw [if_pos (by show _<1000000; omega),Int.toNat_natCast];unfold rangeT;rw [List.range_eq_range']
 have F:J7 (hName 6) (Bm (mOp jm (ak (.int 1)) (dw dz (ao (aq 0) (ao (ak (.int 8)) d7))))) lpB (lpS n N "" 0 [] (rep1 32 g) none none none none none none z1)=some (.next,lpS n N tx (Df l) (rm l) (rep1 32 g) o6 o7 o8 o9 o10 o11 z3):=afn it e;have l8:l.length<=8:=by omega
 have dk:=aav l l8;have dl:(dd (rm l)).length<lim:=by unfold dd; rw [List.length_map]; have:=Kh l; show _<1000000; omega
 have ok:Ay 4 (lpS n N tx (Df l) (rm l) (rep1 32 g) o6 o7 o8 o9 o10 o11 z3)=some (.lst ((ks (rm l)).map T.str),lpS n N tx (Df l) (rm l) (rep1 32 g) o6 o7 o8 o9 o10 o11 z3):=by
  have em:(dd (rm l)).map (fun p=>Je p.1)=(ks (rm l)).map T.str:=by unfold dd ks; rw [List.map_map,List.map_map]; rfl
  unfold Ay;dsimp only [List.getElem?_cons_succ,List.getElem?_cons_zero];rw [if_pos dl,em]
 have il:(n8 (ks (rm l))).length<lim:=by rw [Cp]; show _<1000000; omega
 have so:=sorted_strs dk
 have cp:lu 1 [4] (hName 0) (yx (gk Bb (ao (Ay 4) d7))) (bw (mOp neO (mOp dg (aq 1) (aq 0)) (ak (.int 0)))) (gk (fun l=>some (.tup l)) (ao (aq 0) (ao (mOp dg (aq 1) (aq 0)) d7))) (lpS n N tx (Df l) (rm l) (rep1 32 g) o6 o7 o8 o9 o10 o11 z3)
   = some (.lst (((n8 (ks (rm l))).filter fun b=>gt (rm l) b != 0).map fun b=>pT (b,gt (rm l) b)),⟨[some (.obj n,false),some (.lst (N.map T.str),false),some (.str tx,false),some (.int (Df l),false),some (.dic (dd (rm l)),false),some (.str (rep1 32 g),false),o6,o7,o8,o9,o10,o11],z3⟩) :=
  Ew rfl T.str (fun b=>pT (b,gt (rm l) b)) (fun b=>gt (rm l) b != 0) (n8 (ks (rm l))) (lpS n N tx (Df l) (rm l) (rep1 32 g) o6 o7 o8 o9 o10 o11 z3) _ [some (.dic (dd (rm l)),false)] (zis (zm (zc ok rfl) so) il) rfl rfl rfl (Nat.le_of_lt il) (by
   intro b hb pre hp;have hg:=M6 (Fd hb)
   have ix:dg (.dic (dd (rm l))) (.str b)=some (.int (gt (rm l) b)):=by
    show (keyOf (.str b)).bind (Gj · (dd (rm l)))=_;exact hg
   obtain ⟨p0,rfl⟩:∃ a,pre=[a]:=by
    match pre,hp with
    | [a],_=>exact ⟨a,rfl⟩
   exact ⟨[some (.str b,false)],rfl,rfl,zt (zo (zo rfl rfl ix) rfl (by rw [Bh]; rfl)),fun _=>zm (zc rfl (zc (zo rfl rfl ix) rfl)) rfl⟩)
 have gg:∀ b,gt (rm l) b=tot (Vs l) b:=fun b=>by unfold rm; rw [Rr]; simp [gt]
 have ep:(((n8 (ks (rm l))).filter fun b=>gt (rm l) b != 0).map fun b=>pT (b,gt (rm l) b))=(prt (Vs l)).map pT:=by
  simp only [gg];unfold prt;rw [List.map_map]; rfl
 rw [ep] at cp;have S5:j8 5 (mOp yg (ak (.str " ")) (dw dz (ao (aq 0) (ao (ak (.int 3)) d7)))) ⟨[some (.obj n,false),some (.lst (N.map T.str),false),some (.str "",false),some (.int 0,false),some (.dic [],true),none,none,none,none,none,none,none],z⟩=some (.next,lpS n N "" 0 [] (rep1 32 g) none none none none none none z1):=ys (zo rfl (zf (zc rfl (zc rfl rfl)) p1) mg) rfl
 have R:oh [.obj n,.lst (N.map T.str)] z=some (.tup [.str tx,.tup [.int (Df l),.tup ((prt (Vs l)).map pT)]],z3) :=
  zrun (zq (ys rfl rfl) (zq (ys rfl rfl) (zq (yn rfl rfl) (zq S5 (zq F (zr (zm (zc rfl (zc (zm (zc rfl (zc (zm (zc cp rfl) rfl) rfl)) rfl) rfl)) rfl))))))) rfl
 rw [R];cases l with
 | nil=>cases k1
 | cons i l =>
  rw [List.length_cons] at k1 l8;exact .of ⟨g,i,l,tx,rfl,by omega,k2,k3,by omega,k5,k6⟩
theorem a4l {c:Int} (hc:0<=c) (b:Str):∀ l:List Pr,(∀ p∈l,-c<=p.2/\p.2<=c)->-((l.length:Int) * c)<=tot l b/\tot l b<=(l.length:Int) * c
 | [],_=>by simp [tot]
 | (k,v)::l,h=>by
  have ih:=a4l hc b l fun p hp=>h p (List.mem_cons_of_mem _ hp);have hv:=h _ List.mem_cons_self;simp only at hv;rw [tot,List.length_cons,Int.natCast_add,Int.add_mul];split <;> omega
theorem a4e {c:Int} (hc:0<=c):∀ l:List Int,(∀ v∈l,-c<=v/\v<=c)->-((l.length:Int) * c)<=l.sum/\l.sum<=(l.length:Int) * c
 | [],_=>by simp
 | v::l,h=>by
  have ih:=a4e hc l fun p hp=>h p (List.mem_cons_of_mem _ hp);have hv:=h _ List.mem_cons_self;rw [List.sum_cons,List.length_cons,Int.natCast_add,Int.add_mul];omega
theorem ae1 (b:Str) {l:List Pr} (hl:l.length<=8) (h:∀ p∈l,-9999999<=p.2/\p.2<=9999999):-79999992<=tot l b/\tot l b<=79999992:=by
 have:=a4l (c:=9999999) (by decide) b l h;have l3:(l.length:Int) * 9999999<=8 * 9999999:=Int.mul_le_mul_of_nonneg_right (by omega) (by decide);omega
theorem Xx {l:List It5} (hl:l.length<=8) (h:∀ i∈l,okI i):yq (Dh (l.map pv))=true:=by
 have hp:∀ p∈l.map pv,-9999999<=p.2/\p.2<=9999999:=fun p hp=>by
  obtain ⟨i,hi,rfl⟩:=List.mem_map.mp hp;exact (h i hi).2
 have ln:(l.map pv).length<=8:=by rw [List.length_map]; exact hl
 generalize l.map pv=q at hp ln;unfold yq Dh;refine List.all_eq_true.mpr fun i hi=>decide_eq_true ?_;rcases List.mem_cons.mp hi with rfl | hi
 ·have:=a4e (c:=9999999) (by decide) ((q.filter fun p=>p.1==("" : Str)).map (·.2)) (fun v hv=>by
   obtain ⟨p,bO,rfl⟩:=List.mem_map.mp hv;exact hp p (List.mem_filter.mp bO).1)
  have l2:(((q.filter fun p=>p.1==("" : Str)).map (·.2)).length:Int)<=8:=by
   rw [List.length_map];have:=List.length_filter_le (fun p:Str × Int=>p.1==("" : Str)) q;omega
  have l3:(((q.filter fun p=>p.1==("" : Str)).map (·.2)).length:Int) * 9999999<=8 * 9999999:=Int.mul_le_mul_of_nonneg_right l2 (by decide);show ab ((q.filter fun p=>p.1==("" : Str)).map (·.2)).sum<=_;unfold ab;split <;> omega
 ·obtain ⟨p,bO,rfl⟩:=List.mem_map.mp hi;have e:=(Ze bO).2;have t:-79999992<=p.2/\p.2<=79999992:=by rw [e]; exact ae1 p.1 (Nat.le_trans (List.length_filter_le _ _) ln) (fun v hv=>hp v (List.mem_filter.mp hv).1)
  unfold ab;split <;> omega
end K
end
section
namespace K
open C PySem
variable {cR cN:Nat} {N:List Str} {sto:List SO}
noncomputable def Nu:List Str:=[""," ","x +","+ x","x + + y","x - - y","--x","x y","2 x","x * 2","2 * 3","2 * 3 * x","2 *"]
noncomputable def a02:List Str:=["* x","(x)","[x]","x = y","x <= 1","2x","x2y * z","01","00 * x","1.5","1,000","1_0","X"]
def Yl:List Str:=["x;y"]
noncomputable def a69:List Str:=["x\n","and","2 * or","true","divides","1000000000","1000000000 * x","x + 999999999 + 1 + y"]
def abn:List Str:=["999999999 * x + x","-1000000000","abcdefghi","3 * -x","x + -1"]
def Yd:List Str:=Nu++a02++Yl++a69++abn
theorem a4v:∀ (l:List Str) (s:Sta),Dl l s=some (l.map T.str,s)
 | [],_=>rfl
 | x::l,s=>by
  show ao (ak (.str x)) (Dl l) s=_;exact zc rfl (a4v l s)
theorem add_l {a b:List Str} (h:a.length+b.length<1000000):jm (.lst (a.map T.str)) (.lst (b.map T.str))=some (.lst ((a++b).map T.str)):=by
 show (if (a.map T.str).length+(b.map T.str).length<lim then some (T.lst (a.map T.str++b.map T.str)) else none)=_;rw [if_pos (by rw [List.length_map,List.length_map]; exact h),List.map_append]
theorem a7b (c:Int):∃ x∈Yd,uw [.int c] sto=some (.str x,sto):=by
 obtain ⟨x,hx,e⟩:=Oa T.str Yd (i:=c%40) (by omega) (by
  have:Yd.length=40:=by decide +kernel
  omega)
 refine ⟨x,hx,?_⟩;have L:∀ (l:List Str) (s:Sta),gk (fun l=>some (T.lst l)) (Dl l) s=some (.lst (l.map T.str),s):=fun l s=>zm (a4v l s) rfl;have A:∀ (a b:List Str),a.length+b.length<1000000->j8 1 (mOp jm (aq 1) (gk (fun l=>some (T.lst l)) (Dl b))) ⟨[some (.int c,false),some (.lst (a.map T.str),false)],sto⟩=some (.next,⟨[some (.int c,false),some (.lst ((a++b).map T.str),false)],sto⟩):=fun a b h=>ys (zo rfl (L b _) (add_l h)) rfl;have A3:∀ (a:List Str),a.length+1<1000000->j8 1 (mOp jm (aq 1) (gk (fun l=>some (T.lst l)) (ao (ak (.str "x;y")) d7))) ⟨[some (.int c,false),some (.lst (a.map T.str),false)],sto⟩=some (.next,⟨[some (.int c,false),some (.lst ((a++Yl).map T.str),false)],sto⟩):=fun a h=>ys (zo rfl (zm (zc rfl rfl) rfl) (add_l (b:=Yl) h)) rfl;have S1:j8 1 (gk (fun l=>some (T.lst l)) (Dl Nu)) ⟨[some (.int c,false),none],sto⟩=some (.next,⟨[some (.int c,false),some (.lst (Nu.map T.str),false)],sto⟩):=ys (L Nu _) rfl;exact zrun (zq S1 (zq (A Nu a02 (by decide)) (zq (A3 (Nu++a02) (by decide)) (zq (A (Nu++a02++Yl) a69 (by decide)) (zq (A (Nu++a02++Yl++a69) abn (by decide)) (zr (zo rfl (zo rfl rfl (md (by decide))) e))))))) rfl
theorem a8d:∀ x∈Yd,(Xy (cs x)).isNone=true/\((∀ c∈cs x,c<128)/\(cs x).length<1000)/\((toks 1000 (cs x)).all fun ts=>decide (ts.length<60))=true:=by decide +kernel
theorem refused {x:Str} (hx:x∈Yd):∃ z,qg cR cN [.str x] sto=some (.bl true,sto++z):=by
 obtain ⟨h1,h2,h3⟩:=a8d x hx
 obtain ⟨fs,e⟩:=Sd (cR:=cR) (cN:=cN) (sto:=sto) (x:=x) h2 (fun ts ht=>by
  rw [ht] at h3;exact of_decide_eq_true h3)
 rw [Option.isNone_iff_eq_none.mp h1] at e;refine ⟨[.ins cR fs,.exc cN "row" (.int 1)],?_⟩;have el:(sto++[SO.ins cR fs]++[SO.exc cN "row" (.int 1)])=sto++[.ins cR fs,.exc cN "row" (.int 1)]:=by simp
 have T1:Z9 cN "row" (zy cR cN) (ao (aq 0) d7) 2 1 ⟨[some (.str x,false),some (.non,false),none],sto⟩=some (.next,⟨[some (.str x,false),some (.obj (sto++[SO.ins cR fs]).length,false),none],sto++[SO.ins cR fs]++[SO.exc cN "row" (.int 1)]⟩):=by
  unfold Z9;rw [show ao (aq 0) d7 ⟨[some (.str x,false),some (.non,false),none],sto⟩=some ([.str x],⟨[some (.str x,false),some (.non,false),none],sto⟩) from rfl];dsimp only;rw [e];rfl
 have gx:(sto++[SO.ins cR fs]++[SO.exc cN "row" (.int 1)])[(sto++[SO.ins cR fs]).length]? = some (.exc cN "row" (.int 1)):=by
  rw [List.getElem?_append_right (Nat.le_refl _),Nat.sub_self]; rfl
 have I:a8s [(cN,"row",true)] (aq 1) ⟨[some (.str x,false),some (.obj (sto++[SO.ins cR fs]).length,false),none],sto++[SO.ins cR fs]++[SO.exc cN "row" (.int 1)]⟩=some (.bl true,⟨[some (.str x,false),some (.obj (sto++[SO.ins cR fs]).length,false),none],sto++[SO.ins cR fs]++[SO.exc cN "row" (.int 1)]⟩):=by
  unfold a8s;rw [show aq 1 ⟨[some (.str x,false),some (.obj (sto++[SO.ins cR fs]).length,false),none],sto++[SO.ins cR fs]++[SO.exc cN "row" (.int 1)]⟩=some (.obj (sto++[SO.ins cR fs]).length,⟨[some (.str x,false),some (.obj (sto++[SO.ins cR fs]).length,false),none],sto++[SO.ins cR fs]++[SO.exc cN "row" (.int 1)]⟩) from rfl];dsimp only;rw [gx];simp
 have X:mXf cN "row" (aq 1) ⟨[some (.str x,false),some (.obj (sto++[SO.ins cR fs]).length,false),none],sto++[SO.ins cR fs]++[SO.exc cN "row" (.int 1)]⟩=some (.int 1,⟨[some (.str x,false),some (.obj (sto++[SO.ins cR fs]).length,false),none],sto++[SO.ins cR fs]++[SO.exc cN "row" (.int 1)]⟩):=by
  unfold mXf;rw [show aq 1 ⟨[some (.str x,false),some (.obj (sto++[SO.ins cR fs]).length,false),none],sto++[SO.ins cR fs]++[SO.exc cN "row" (.int 1)]⟩=some (.obj (sto++[SO.ins cR fs]).length,⟨[some (.str x,false),some (.obj (sto++[SO.ins cR fs]).length,false),none],sto++[SO.ins cR fs]++[SO.exc cN "row" (.int 1)]⟩) from rfl];dsimp only;rw [gx];simp
 rw [<- el];exact zrun (zq (ys rfl rfl) (zq T1 (zr (zba (j:=true) (k:=true) I fun _=>zba (j:=true) (k:=true) I fun _=>zo X rfl (eq_i rfl))))) rfl
theorem a5m {n:Nat} {ts:List T} (h:Pl n (.tup ts)) (hn:n<=40):neO (.tup ts) (.tup ts)=some (.bl false):=by
 obtain ⟨d,e1,e2⟩:=h;have:d.depth<=40:=Nat.le_trans e2 hn;simp [neO,eqT,eqD,e1,this,Uc d (Bj _ e1)]
theorem same {s:Sm} (hl:s.2.length<1000) (hs:∀ p∈s.2,okS p.1):mj [smT s,smT s] sto=some (.bl true,sto):=by
 have a6:s.2.length<lim:=by show _<1000000; omega
 have t1:∀ x:List T,isTup [.tup x]=some (.bl true):=fun x=>by simp [isTup]
 have pl:Pl 3 (smT s):=by
  refine Xf (n:=2) fun t ht=>?_;rcases List.mem_cons.mp ht with rfl | ht
  ·exact a5e 2 _
  ·rw [List.mem_singleton] at ht;subst ht;refine Xf (n:=1) fun t ht=>?_;obtain ⟨p,hp,rfl⟩:=List.mem_map.mp ht;refine Xf (n:=0) fun t ht=>?_;rcases List.mem_cons.mp ht with rfl | ht
   ·exact abh 0 (hs p hp)
   ·rw [List.mem_singleton] at ht; subst ht; exact a5e 0 _
 have ne:neO (smT s) (smT s)=some (.bl false):=a5m pl (by decide)
 have c0:mOr (Gi (bw (gk isTup (ao (aq 0) d7)))) (mOr (bw (mOp neO (aq 0) (aq 1))) (Gi (bw (gk isTup (ao (mOp dg (aq 0) (ak (.int 1))) d7))))) ⟨[some (smT s,false),some (smT s,false)],sto⟩=some (false,⟨[some (smT s,false),some (smT s,false)],sto⟩) :=
  Qk (Yr (k:=true) (zt (zm (zc rfl rfl) (t1 _)))) (Qk (zt (zo rfl rfl ne)) (Yr (k:=true) (zt (zm (zc (zo rfl rfl Gg) rfl) (t1 _)))))
 have c1:lu 1 [] (hName 0) (yx (mOp dg (aq 0) (ak (.int 1)))) v9 (mOp dg (aq 0) (ak (.int 1))) ⟨[some (smT s,false),some (smT s,false)],sto⟩=some (.lst (s.2.map fun p=>.int p.2),⟨[some (smT s,false),some (smT s,false)],sto⟩):=by
  refine vd pT (fun p=>.int p.2) s.2 (s1:=⟨[some (smT s,false),some (smT s,false)],sto⟩) _ [] ?_ rfl rfl rfl (Nat.le_of_lt a6) ?_
  ·have:mOp dg (aq 0) (ak (.int 1)) ⟨[some (smT s,false),some (smT s,false)],sto⟩=some (.tup (s.2.map pT),⟨[some (smT s,false),some (smT s,false)],sto⟩):=zo rfl rfl Gg;unfold yx;rw [this];dsimp only;rw [if_pos (by rw [List.length_map]; exact a6)]
  ·intro p hp pre aB
   obtain ⟨a,rfl⟩:∃ a,pre=[a]:=by
    match pre,aB with
    | [a],_=>exact ⟨a,rfl⟩
   exact ⟨[some (pT p,false)],rfl,rfl,rfl,zo rfl rfl Gg⟩
 have L:(s.2.map fun p=>T.int p.2)=(s.2.map (·.2)).map T.int:=by rw [List.map_map]; rfl
 have A:mOp jm (gk (fun l=>some (.lst l)) (ao (mOp dg (aq 0) (ak (.int 0))) d7)) (lu 1 [] (hName 0) (yx (mOp dg (aq 0) (ak (.int 1)))) v9 (mOp dg (aq 0) (ak (.int 1)))) ⟨[some (smT s,false),some (smT s,false)],sto⟩=some (.lst ((s.1::s.2.map (·.2)).map T.int),⟨[some (smT s,false),some (smT s,false)],sto⟩):=by
  refine zo (zm (zc (zo rfl rfl Fe) rfl) rfl) c1 ?_;rw [L];show (if [T.int s.1].length+((s.2.map (·.2)).map T.int).length<lim then some (T.lst ([T.int s.1]++(s.2.map (·.2)).map T.int)) else none)=_;rw [if_pos (by rw [List.length_map,List.length_map]; show 1+_<1000000; omega)];rfl
 have cJ:(s.1::s.2.map (·.2)).length<lim:=by rw [List.length_cons,List.length_map]; show _<1000000; omega
 have c2:lu 1 [] (hName 0) (yx (mOp jm (gk (fun l=>some (.lst l)) (ao (mOp dg (aq 0) (ak (.int 0))) d7)) (lu 1 [] (hName 0) (yx (mOp dg (aq 0) (ak (.int 1)))) v9 (mOp dg (aq 0) (ak (.int 1)))))) v9 (gk abl (ao (aq 0) d7)) ⟨[some (smT s,false),some (smT s,false)],sto⟩=some (.lst ((s.1::s.2.map (·.2)).map fun _=>.bl false),⟨[some (smT s,false),some (smT s,false)],sto⟩):=by
  refine vd (ci:=[]) T.int (fun _=>.bl false) (s.1::s.2.map (·.2)) (s1:=⟨[some (smT s,false),some (smT s,false)],sto⟩) _ [] (zis A cJ) rfl rfl rfl (Nat.le_of_lt cJ) ?_;intro i hi pre aB
  obtain ⟨a,rfl⟩:∃ a,pre=[a]:=by
   match pre,aB with
   | [a],_=>exact ⟨a,rfl⟩
  exact ⟨[some (.int i,false)],rfl,rfl,rfl,rfl⟩
 have an:acf [.lst ((s.1::s.2.map (·.2)).map fun _=>T.bl false)]=some (.bl false):=by
  rw [a9a.2];simp
 exact zrun (zq (ze c0 rfl) (zr (zb (Yr (k:=false) (zt (zm (zc c2 rfl) an)))))) rfl
end K
end
section
namespace K
open C PySem
variable {cR cN:Nat} {N:List Str} {sto:List SO}
theorem Z8 {c:Int} {f:Bool}:∃ a,qb [.int c,.bl f] sto=some (.obj sto.length,sto++[std a f]):=by
 cases f
 ·exact ⟨1+c%2147483646,by simp! [qb,Fz,a8t,acg,std]⟩
 ·exact ⟨c,by simp! [qb,Fz,a8t,std]⟩
abbrev a2a (cR cN:Nat):S:=(jf (j8 5 (dw qb (ao (aq 4) (ao (aq 3) d7))))
 (jf (j8 6 (dw vf (ao (aq 5) (ao (aq 2) d7))))
 (jf (j8 7 (dw uo (ao (aq 6) d7)))
 (jf (sIf (mOr (Gi (bw (gk isStr (ao (aq 7) d7)))) (mOr (bw (mOp neO (aq 7) (dw uq (ao (aq 6) d7)))) (Gi (bw (dw mj (ao (dw (jo cR cN) (ao (aq 7) d7)) (ao (aq 6) d7)))))))
 (sy (ak (.bl false)))
 yd)
 (jf (j8 8 (dw oh (ao (aq 5) (ao (aq 2) d7))))
 (jf (sIf (Gi (bw (dw mj (ao (dw (jo cR cN) (ao (mOp dg (aq 8) (ak (.int 0))) d7)) (ao (mOp dg (aq 8) (ak (.int 1))) d7)))))
 (sy (ak (.bl false)))
 yd)
 (sIf (Gi (bw (dw (qg cR cN) (ao (dw uw (ao (mOp Dg (mOp yg (mOp Dg (mOp Ck (aq 4) (ak (.int 7))) (ak (.int 65521))) (ak (.int 48271))) (ak (.int 65519))) d7)) d7))))
 (sy (ak (.bl false)))
 yd)))))))
abbrev lwS (a0 a1 a2 a3:T) (c:Int) (p5 p6 p7 p8:C.Slot) (z:List SO):Sta:=⟨[some (a0,false),some (a1,false),some (a2,false),some (a3,false),some (.int c,false),p5,p6,p7,p8],z⟩
theorem a85 (x:Str):isStr [.str x]=some (.bl true):=rfl
theorem a7o {a0 a1 a2 a3 o t y u w:T} {x:Str} {c:Int} {o5 o6 o7 o8:C.Slot} {z1 z2 z3 z4 z5 z6:List SO} (h1:qb [.int c,a3] sto=some (o,z1)) (h2:vf [o,a2] z1=some (t,z2)) (h3:uo [t] z2=some (.str x,z2)) (h4:uq [t] z2=some (.str x,z2)) (e7:neO (.str x) (.str x)=some (.bl false))
  (h5:jo cR cN [.str x] z2=some (t,z3)) (h6:mj [t,t] z3=some (.bl true,z3)) (h7:oh [o,a2] z3=some (.tup [y,u],z4)) (h8:jo cR cN [y] z4=some (u,z5)) (h9:mj [u,u] z5=some (.bl true,z5)) (h10:uw [.int (c / 7%65521 * 48271%65519)] z5=some (w,z5)) (h11:qg cR cN [w] z5=some (.bl true,z6)) :
  a2a cR cN (lwS a0 a1 a2 a3 c o5 o6 o7 o8 sto)=some (.next,lwS a0 a1 a2 a3 c (some (o,false)) (some (t,false)) (some (.str x,false)) (some (.tup [y,u],false)) z6):=by
 have S5:j8 5 (dw qb (ao (aq 4) (ao (aq 3) d7))) (lwS a0 a1 a2 a3 c o5 o6 o7 o8 sto)=some (.next,lwS a0 a1 a2 a3 c (some (o,false)) o6 o7 o8 z1):=ys (zf (s1:=lwS a0 a1 a2 a3 c o5 o6 o7 o8 sto) (zc rfl (zc rfl rfl)) h1) rfl;have S6:j8 6 (dw vf (ao (aq 5) (ao (aq 2) d7))) (lwS a0 a1 a2 a3 c (some (o,false)) o6 o7 o8 z1)=some (.next,lwS a0 a1 a2 a3 c (some (o,false)) (some (t,false)) o7 o8 z2):=ys (zf (s1:=lwS a0 a1 a2 a3 c (some (o,false)) o6 o7 o8 z1) (zc rfl (zc rfl rfl)) h2) rfl;have S7:j8 7 (dw uo (ao (aq 6) d7)) (lwS a0 a1 a2 a3 c (some (o,false)) (some (t,false)) o7 o8 z2)=some (.next,lwS a0 a1 a2 a3 c (some (o,false)) (some (t,false)) (some (.str x,false)) o8 z2):=ys (zf (s1:=lwS a0 a1 a2 a3 c (some (o,false)) (some (t,false)) o7 o8 z2) (zc rfl rfl) h3) rfl;have K1:Gi (bw (gk isStr (ao (aq 7) d7))) (lwS a0 a1 a2 a3 c (some (o,false)) (some (t,false)) (some (.str x,false)) o8 z2)=some (false,lwS a0 a1 a2 a3 c (some (o,false)) (some (t,false)) (some (.str x,false)) o8 z2):=Yr (k:=true) (zt (zm (zc rfl rfl) (a85 _)));have K2:bw (mOp neO (aq 7) (dw uq (ao (aq 6) d7))) (lwS a0 a1 a2 a3 c (some (o,false)) (some (t,false)) (some (.str x,false)) o8 z2)=some (false,lwS a0 a1 a2 a3 c (some (o,false)) (some (t,false)) (some (.str x,false)) o8 z2):=zt (zo rfl (zf (s1:=lwS a0 a1 a2 a3 c (some (o,false)) (some (t,false)) (some (.str x,false)) o8 z2) (zc rfl rfl) h4) e7);have K3:dw (jo cR cN) (ao (aq 7) d7) (lwS a0 a1 a2 a3 c (some (o,false)) (some (t,false)) (some (.str x,false)) o8 z2)=some (t,lwS a0 a1 a2 a3 c (some (o,false)) (some (t,false)) (some (.str x,false)) o8 z3):=zf (s1:=lwS a0 a1 a2 a3 c (some (o,false)) (some (t,false)) (some (.str x,false)) o8 z2) (zc rfl rfl) h5;have K4:dw mj (ao (dw (jo cR cN) (ao (aq 7) d7)) (ao (aq 6) d7)) (lwS a0 a1 a2 a3 c (some (o,false)) (some (t,false)) (some (.str x,false)) o8 z2)=some (.bl true,lwS a0 a1 a2 a3 c (some (o,false)) (some (t,false)) (some (.str x,false)) o8 z3):=zf (s1:=lwS a0 a1 a2 a3 c (some (o,false)) (some (t,false)) (some (.str x,false)) o8 z3) (zc K3 (zc rfl rfl)) h6;have S8:j8 8 (dw oh (ao (aq 5) (ao (aq 2) d7))) (lwS a0 a1 a2 a3 c (some (o,false)) (some (t,false)) (some (.str x,false)) o8 z3)=some (.next,lwS a0 a1 a2 a3 c (some (o,false)) (some (t,false)) (some (.str x,false)) (some (.tup [y,u],false)) z4):=ys (zf (s1:=lwS a0 a1 a2 a3 c (some (o,false)) (some (t,false)) (some (.str x,false)) o8 z3) (zc rfl (zc rfl rfl)) h7) rfl;have I0:mOp dg (aq 8) (ak (.int 0)) (lwS a0 a1 a2 a3 c (some (o,false)) (some (t,false)) (some (.str x,false)) (some (.tup [y,u],false)) z4)=some (y,lwS a0 a1 a2 a3 c (some (o,false)) (some (t,false)) (some (.str x,false)) (some (.tup [y,u],false)) z4):=zo rfl rfl Fe;have I1:mOp dg (aq 8) (ak (.int 1)) (lwS a0 a1 a2 a3 c (some (o,false)) (some (t,false)) (some (.str x,false)) (some (.tup [y,u],false)) z5)=some (u,lwS a0 a1 a2 a3 c (some (o,false)) (some (t,false)) (some (.str x,false)) (some (.tup [y,u],false)) z5):=zo rfl rfl Gg;have J3:dw (jo cR cN) (ao (mOp dg (aq 8) (ak (.int 0))) d7) (lwS a0 a1 a2 a3 c (some (o,false)) (some (t,false)) (some (.str x,false)) (some (.tup [y,u],false)) z4)=some (u,lwS a0 a1 a2 a3 c (some (o,false)) (some (t,false)) (some (.str x,false)) (some (.tup [y,u],false)) z5):=zf (s1:=lwS a0 a1 a2 a3 c (some (o,false)) (some (t,false)) (some (.str x,false)) (some (.tup [y,u],false)) z4) (zc I0 rfl) h8;have J4:dw mj (ao (dw (jo cR cN) (ao (mOp dg (aq 8) (ak (.int 0))) d7)) (ao (mOp dg (aq 8) (ak (.int 1))) d7)) (lwS a0 a1 a2 a3 c (some (o,false)) (some (t,false)) (some (.str x,false)) (some (.tup [y,u],false)) z4)=some (.bl true,lwS a0 a1 a2 a3 c (some (o,false)) (some (t,false)) (some (.str x,false)) (some (.tup [y,u],false)) z5):=zf (s1:=lwS a0 a1 a2 a3 c (some (o,false)) (some (t,false)) (some (.str x,false)) (some (.tup [y,u],false)) z5) (zc J3 (zc I1 rfl)) h9;have fd:Ck (.int c) (.int 7)=some (.int (c / 7)):=by simp [Ck]
 have mm:yg (.int (c / 7%65521)) (.int 48271)=some (.int (c / 7%65521 * 48271)):=mu2 (by decide)
 have AR:mOp Dg (mOp yg (mOp Dg (mOp Ck (aq 4) (ak (.int 7))) (ak (.int 65521))) (ak (.int 48271))) (ak (.int 65519)) (lwS a0 a1 a2 a3 c (some (o,false)) (some (t,false)) (some (.str x,false)) (some (.tup [y,u],false)) z5)=some (.int (c / 7%65521 * 48271%65519),lwS a0 a1 a2 a3 c (some (o,false)) (some (t,false)) (some (.str x,false)) (some (.tup [y,u],false)) z5) :=
  zo (zo (zo (zo rfl rfl fd) rfl (md (by decide))) rfl mm) rfl (md (by decide))
 generalize c / 7%65521 * 48271%65519=d at h10 AR;have J5:dw uw (ao (mOp Dg (mOp yg (mOp Dg (mOp Ck (aq 4) (ak (.int 7))) (ak (.int 65521))) (ak (.int 48271))) (ak (.int 65519))) d7) (lwS a0 a1 a2 a3 c (some (o,false)) (some (t,false)) (some (.str x,false)) (some (.tup [y,u],false)) z5)=some (w,lwS a0 a1 a2 a3 c (some (o,false)) (some (t,false)) (some (.str x,false)) (some (.tup [y,u],false)) z5):=zf (s1:=lwS a0 a1 a2 a3 c (some (o,false)) (some (t,false)) (some (.str x,false)) (some (.tup [y,u],false)) z5) (zc AR rfl) h10;have J6:dw (qg cR cN) (ao (dw uw (ao (mOp Dg (mOp yg (mOp Dg (mOp Ck (aq 4) (ak (.int 7))) (ak (.int 65521))) (ak (.int 48271))) (ak (.int 65519))) d7)) d7) (lwS a0 a1 a2 a3 c (some (o,false)) (some (t,false)) (some (.str x,false)) (some (.tup [y,u],false)) z5)=some (.bl true,lwS a0 a1 a2 a3 c (some (o,false)) (some (t,false)) (some (.str x,false)) (some (.tup [y,u],false)) z6):=zf (s1:=lwS a0 a1 a2 a3 c (some (o,false)) (some (t,false)) (some (.str x,false)) (some (.tup [y,u],false)) z5) (zc J5 rfl) h11;exact zq S5 (zq S6 (zq S7 (zq (ze (Qk K1 (Qk K2 (Yr (k:=true) (zt K4)))) rfl) (zq S8 (zq (ze (Yr (k:=true) (zt J4)) rfl) (ze (Yr (k:=true) (zt J6)) rfl))))))
theorem a7e (hN:Uk N) {cs:List Int} {c0 c:Int} {fr:Bool} {o5 o6 o7 o8:C.Slot}:∃ (p5 p6 p7 p8:C.Slot) (z:List SO),a2a cR cN (lwS (scr cs) (.int c0) (.lst (N.map T.str)) (.bl fr) c o5 o6 o7 o8 sto)=some (.next,lwS (scr cs) (.int c0) (.lst (N.map T.str)) (.bl fr) c p5 p6 p7 p8 z):=by
 obtain ⟨a,h1⟩:=Z8 (sto:=sto) (c:=c) (f:=fr);have A1:Ao sto.length (sto++[std a fr]):=Ao.new;obtain ⟨s,z2,h2,k2,A2,l2⟩:=sum (N:=N) (L:=sto.length+1) (by simp) A1 hN;have oS:=a3u k2 hN;have eV:=a4n hN;have h3:=a0a (sto:=z2) eV oS;have h4:=a1x (sto:=z2) eV oS;obtain ⟨pn,fs,h5⟩:=Uu (cR:=cR) (cN:=cN) (sto:=z2) k2 hN;have fW:∀ p∈s.2,okS p.1:=fun p hp=>(hN.2.2 _ (k2.mem hp)).1;have h6:=same (sto:=z2++[.ins cR fs]) (s:=s) (by have:=k2.len hN; omega) fW;have A3:Ao sto.length (z2++[.ins cR fs]):=A2.add _;obtain ⟨t,z4,h7,g,i,l,tx,rfl,l7,okI',hx,ltx,A4,l4⟩:=pieces (L0:=sto.length+1+1) hN A3 (by rw [List.length_append,l2]; rfl);have sm:=Xx (l:=i::l) (by rw [List.length_cons]; omega) okI';obtain ⟨pn2,fs2,h8⟩:=Hx (cR:=cR) (cN:=cN) (sto:=z4) hx (okI' _ List.mem_cons_self).1 (fun q hq=>(okI' q (List.mem_cons_of_mem _ hq)).1) (by rw [<- Ab]; omega) (by omega) sm
 have eD:∀ p∈(Dh ((i::l).map pv)).2,okS p.1:=fun p hp=>by
  have:=(Ze hp).1;obtain ⟨q,hq,e⟩:=List.mem_map.mp this;obtain ⟨j,hj,rfl⟩:=List.mem_map.mp (List.mem_filter.mp hq).1;have hb:=(okI' j hj).1;rw [<- e];obtain ⟨b,d⟩:=j;cases d with
  | num n=>exact Tj.okS
  | nam x =>
   obtain ⟨w1,w2,w3⟩:=uz hb;exact Pn.okS ⟨fun c hc=>Jv (w1 c hc),by show (K.cs x).length<1000; omega⟩
  | mul n x =>
   obtain ⟨w1,w2,w3⟩:=uz hb.2;exact Pn.okS ⟨fun c hc=>Jv (w1 c hc),by show (K.cs x).length<1000; omega⟩
 have lm:(Dh ((i::l).map pv)).2.length<1000:=by
  refine Nat.lt_of_le_of_lt (a4m _) (Nat.lt_of_le_of_lt (List.length_filter_le _ _) ?_);rw [List.length_map,List.length_cons];omega
 have h9:=same (sto:=z4++[.ins cR fs2]) (s:=Dh ((i::l).map pv)) lm eD;generalize Dh ((i::l).map pv)=s2 at *;obtain ⟨x,hxn,h10⟩:=a7b (sto:=z4++[.ins cR fs2]) (c / 7%65521 * 48271%65519);obtain ⟨z5,h11⟩:=refused (cR:=cR) (cN:=cN) (sto:=z4++[.ins cR fs2]) hxn
 have e7:neO (.str (Mh s)) (.str (Mh s))=some (.bl false):=by
  have:=Hv pn.okS pn.okS;rw [beq_self_eq_true] at this;exact this
 exact ⟨_,_,_,_,_,a7o h1 h2 h3 h4 e7 h5 h6 h7 h8 h9 h10 h11⟩
end K
end
section
namespace K
open C PySem
variable {cR cN:Nat}
theorem abj {g:G} {b:S} {it:M (List T)} {s s1:Sta} {ts:List T} {q:Option (C.Flow × Sta)} (h:it s=some (ts,s1)) (h2:forL g b ts s1=q):J7 g it b s=q:=by unfold J7; rw [h]; exact h2
theorem cells {xs:List Int} {a1 a2 a3:T} {z:List SO} (hl:xs.length<=63):yx (mOp jm (gk (fun l=>some (.lst l)) (ao (dw ji (ao (aq 0) (ao (ak (.int 1)) d7))) d7)) (Hw (aq 0) (Cw (ak (.int 2))) W3)) ⟨[some (scr xs,false),some (a1,false),some (a2,false),some (a3,false),none,none,none,none,none],z⟩=some ((cell xs 1::xs.drop 2).map T.int,⟨[some (scr xs,false),some (a1,false),some (a2,false),some (a3,false),none,none,none,none,none],z⟩):=by
 have dJ:=Ys (cs:=xs) (k:=1) (i:=1) (sto:=z) rfl;have hd:(min (2:Int).toNat xs.length)<=xs.length:=Nat.min_le_right _ _
 have ed:xs.drop (min 2 xs.length)=xs.drop 2:=by
  by_cases h:2<=xs.length
  ·rw [Nat.min_eq_left h]
  ·rw [Nat.min_eq_right (by omega),List.drop_length,List.drop_eq_nil_of_le (by omega)]
 have cx:a9g (some 2) none (scr xs)=some (.lst ((xs.drop 2).map T.int)):=by
  have:abw (xs.map T.int) (some 2) none=(xs.drop 2).map T.int:=by
   unfold abw sIx;simp only [List.length_map];rw [show (2:Int).toNat=2 from rfl,if_neg (by decide),<- List.map_drop,ed,<- List.map_take];congr 1;apply List.take_of_length_le;rw [List.length_drop];omega
  simp only [a9g,this]
 have sl:Hw (aq 0) (Cw (ak (.int 2))) W3 ⟨[some (scr xs,false),some (a1,false),some (a2,false),some (a3,false),none,none,none,none,none],z⟩=some (.lst ((xs.drop 2).map T.int),⟨[some (scr xs,false),some (a1,false),some (a2,false),some (a3,false),none,none,none,none,none],z⟩):=by
  unfold Hw;rw [show aq 0 ⟨[some (scr xs,false),some (a1,false),some (a2,false),some (a3,false),none,none,none,none,none],z⟩=some (scr xs,⟨[some (scr xs,false),some (a1,false),some (a2,false),some (a3,false),none,none,none,none,none],z⟩) from rfl];dsimp only;rw [zos (p:=2) (a:=ak (.int 2)) (s1:=⟨[some (scr xs,false),some (a1,false),some (a2,false),some (a3,false),none,none,none,none,none],z⟩) rfl];dsimp only [W3];rw [cx]
 have ll:1+(xs.length - 2)<lim:=by show _<1000000; omega
 have gI:jm (.lst [.int (cell xs 1)]) (.lst ((xs.drop 2).map T.int))=some (.lst ((cell xs 1::xs.drop 2).map T.int)):=by
  show (if [T.int (cell xs 1)].length+((xs.drop 2).map T.int).length<lim then some (T.lst ([T.int (cell xs 1)]++(xs.drop 2).map T.int)) else none)=_;rw [if_pos (by rw [List.length_map,List.length_drop]; exact ll)]; rfl
 exact zis (zo (zm (zc (zf0 (zc rfl (zc rfl rfl)) dJ) rfl) rfl) sl gI) (by rw [List.length_cons,List.length_drop]; show _<1000000; omega)
theorem a2n {cs:List Int} (hl:cs.length<=63):∃ st,a8c cR cN [scr cs] []=some (.bl true,st):=by
 have fV:=Ys (cs:=cs) (k:=0) (i:=0) (sto:=[]) rfl;have dJ:=Ys (cs:=cs) (k:=1) (i:=1) (sto:=[]) rfl;have l6:6<lim:=by decide
 generalize hc0:cell cs 0=c0 at *;obtain ⟨N,eN⟩:∃ N:List Str,N=(List.range 6).map fun i=>nameOf c0 i:=⟨_,rfl⟩
 have hN:Uk N:=by
  subst eN;refine ⟨by simp,?_,fun x hx=>?_⟩
  ·refine List.Pairwise.map _ ?_ (List.Pairwise.and_mem.mp List.nodup_range);intro i j z8 e;obtain ⟨hi,hj,aE⟩:=z8;exact aE (Uv (by have:=List.mem_range.mp hi; omega) (by have:=List.mem_range.mp hj; omega) e)
  ·obtain ⟨i,hi,rfl⟩:=List.mem_map.mp hx;have gf:=List.mem_range.mp hi;exact (name (c:=c0) (k:=(i:Int)) (i:=i) (sto:=[]) (by omega) (by omega)).2
 obtain ⟨fr,hfr⟩:∃ fr:Bool,(cell cs 1%2==0)=fr:=⟨_,rfl⟩;have r6:rangeT 6=(List.range 6).map fun (i:Nat)=>T.int (i:Int):=rfl
 have eU:=vd (fun (i:Nat)=>T.int (i:Int)) (fun (i:Nat)=>T.str (nameOf c0 i)) (List.range 6) (g:=hName 0) (nv:=1) (ci:=[1]) (c:=v9) (it:=Bm (ak (.int 6))) (e:=dw qy (ao (aq 1) (ao (aq 0) d7))) (s:=⟨[some (scr cs,false),some (.int c0,false),none,none,none,none,none,none,none],[]⟩) (s1:=⟨[some (scr cs,false),some (.int c0,false),none,none,none,none,none,none,none],[]⟩) [some (scr cs,false),some (.int c0,false),none,none,none,none,none,none,none] [some (.int c0,false)]
  (by simp! [l6,r6]) rfl rfl rfl (by decide) (by
   intro i hi pre hp
   obtain ⟨a,rfl⟩:∃ a,pre=[a]:=by
    match pre,hp with
    | [a],_=>exact ⟨a,rfl⟩
   have gf:=List.mem_range.mp hi;have:=(name (c:=c0) (k:=(i:Int)) (i:=i) (sto:=[]) (by omega) (by omega)).1;exact ⟨[some (.int (i:Int),false)],rfl,rfl,rfl,zf0 (zc rfl (zc rfl rfl)) this⟩)
 have gN:(List.range 6).map (fun (i:Nat)=>T.str (nameOf c0 i))=N.map T.str:=by rw [eN,List.map_map]; rfl
 rw [gN] at eU;clear eN gN;have it:=cells (xs:=cs) (a1:=.int c0) (a2:=.lst (N.map T.str)) (a3:=.bl fr) (z:=[]) hl
 have main:∃ (z:List SO) (e4 e5 e6 e7 e8:C.Slot),forL (hName 4) (a2a cR cN) ((cell cs 1::cs.drop 2).map T.int) ⟨[some (scr cs,false),some (.int c0,false),some (.lst (N.map T.str),false),some (.bl fr,false),none,none,none,none,none],[]⟩=some (.next,⟨[some (scr cs,false),some (.int c0,false),some (.lst (N.map T.str),false),some (.bl fr,false),e4,e5,e6,e7,e8],z⟩):=by
  generalize hF:forL (hName 4) (a2a cR cN) ((cell cs 1::cs.drop 2).map T.int) ⟨[some (scr cs,false),some (.int c0,false),some (.lst (N.map T.str),false),some (.bl fr,false),none,none,none,none,none],[]⟩=q
  obtain ⟨s',rfl,P⟩:=Rf hF (fun ts s=>∃ (l:List Int) (e4 e5 e6 e7 e8:C.Slot) (z:List SO),ts=l.map T.int/\s=⟨[some (scr cs,false),some (.int c0,false),some (.lst (N.map T.str),false),some (.bl fr,false),e4,e5,e6,e7,e8],z⟩)
   ⟨cell cs 1::cs.drop 2,none,none,none,none,none,[],rfl,rfl⟩ (by
    rintro t q s ⟨l,e4,e5,e6,e7,e8,z,e1,rfl⟩;cases l with
    | nil=>cases e1
    | cons c l =>
     cases e1;obtain ⟨p5,p6,p7,p8,z',h⟩:=a7e (cR:=cR) (cN:=cN) (sto:=z) (cs:=cs) (c0:=c0) (c:=c) (fr:=fr) (o5:=e5) (o6:=e6) (o7:=e7) (o8:=e8) hN;exact ⟨_,_,rfl,h,l,_,p5,p6,p7,p8,z',rfl,rfl⟩)
  obtain ⟨l,e4,e5,e6,e7,e8,z,e1,rfl⟩:=P;exact ⟨z,e4,e5,e6,e7,e8,rfl⟩
 obtain ⟨z,e4,e5,e6,e7,e8,em⟩:=main;refine ⟨z,?_⟩;exact zrun (zq (ys (zf0 (zc rfl (zc rfl rfl)) fV) rfl) (zq (ys eU rfl) (zq (ys (zo (zo (zf0 (zc rfl (zc rfl rfl)) dJ) rfl (md (by decide))) rfl (eq_i hfr)) rfl) (zq (abj it em) (zr rfl))))) rfl
end K
end
section
namespace D
open PySem L2 C
section
variable {K:PySem.W.Frag} {hp:Heap} {mg:Str->Option Value} (X:K.In hp) (G:hp.Ns mainGlobals mg)
include X G
theorem adw {x:Str} {st:Stmt} {f:Addr} {oc:Value} {od an:Option Addr} {bg:Array (Option Value)} {kV doc pm az ct:Value} (a:PySem.W.nsIn K mainGlobals x=some (some (.ref f)))
  (l:K.lookup f=some ⟨oc,od,.func (PySem.W.fnOf x x (Ea st) (u9 st) (f9 st) .none kV doc pm an az ct),bg⟩) (c:PySem.W.codeIn K az x=true) (k:PySem.W.keepIn K (.ref f)=true):FA K mg x st:=⟨_,_,U4 l c k,PySem.W.mg_of X G a⟩
theorem ae2 {Cl D fI:Addr} {f nm q:Str} {Na:Addr} {bs:List Value} {sn:List Str} {sub:List Value} {ab:Bool} {col:Option Bool} {dd:Option Addr} {k0 k1 k2 k3 k5:Option Value} {x q0:Str} {j:Nat} {Ca:Addr} {oc:Value} {od an:Option Addr} {bg:Array (Option Value)} {kV doc pm az ct:Value} (a:PySem.W.nsIn K mainGlobals x=some (some (.ref Cl))) (lk:K.lookup Cl=some (excClassObj nm q Cl Na bs (.ref D::My.vB) true sn sub ab col dd k0 k1 k2 k3 k5 "ValueError.__new__")) (b:PySem.W.excIn K D My.vB "ValueError.__new__" = true) (i:PySem.W.findIn K (.ref Cl) "__init__" = some (some (.ref fI))) (fn:PySem.W.isFn K (.ref fI)=true)
  (sa:PySem.W.findIn K (.ref Cl) "__setattr__" = some (some (.builtin "object.__setattr__"))) (ob:PySem.W.mroIn K Cl (.type "object")=some true) (na:PySem.W.findIn K (.ref Cl) f=some none) (kp:PySem.W.keepIn K (.ref Cl)=true)
  (l:K.lookup fI=some ⟨oc,od,.func (PySem.W.fnOf "__init__" q0 (Ea (Jw 0 (top j))) (u9 (Jw 0 (top j))) (f9 (Jw 0 (top j))) .none kV doc pm an az ct),bg⟩) (c:PySem.W.codeIn K az q0=true) (k:PySem.W.keepIn K (.ref fI)=true) (t:(Value.ref Cl :: .ref D::My.vB).contains (.ref Ca)=true):XE K mg x f q0 j Cl Ca :=
 ⟨D,fI,_,⟨⟨nm,q,Na,bs,sn,sub,ab,col,dd,k0,k1,k2,k3,k5,lk⟩,b,i,fn,sa,ob,na,kp⟩,⟨by simp,nm,q,Na,bs,true,sn,sub,ab,col,dd,k0,k1,k2,k3,k5,lk⟩,U4 l c k,t,PySem.W.mg_of X G a⟩
theorem acr {x:Str} {n:Int} {t:Tok} (a:PySem.W.nsIn K mainGlobals x=some (some (.int n t))):∃ tk,mg x=some (.int n tk):=⟨_,PySem.W.mg_of X G a⟩
theorem Mw {q:Addr} {t0 t1 t2 t3 t4 t5 t6 t7 t8 t9 fJ gs fE gc gP gL fM gS gY fZ gZ hG fX:Tok} {n:Nat} {s:Array (Option Value)} (a:PySem.W.nsIn K mainGlobals "KEY_WORDS" = some (some (.ref q))) (l:K.lookup q=some ⟨.type "tuple",none,.seq [.str "box" t0,.str "lock" t1,.str "hand" t2,.str "own" t3,.str "end" t4,.str "set" t5,.str "wait" t6,.str "if" t7,.str "else" t8,.str "while" t9,.str "rounds" fJ,.str "either" gs,.str "or" fE,.str "and" gc,.str "not" gP,.str "take" gL,.str "give" fM,.str "label" gS,.str "say" gY,.str "at" fZ,.str "divides" gZ,.str "true" hG,.str "false" fX].toArray n,s⟩):∃ u,mg "KEY_WORDS" = some u/\Held K u (.tup [(.str "box"),(.str "lock"),(.str "hand"),(.str "own"),(.str "end"),(.str "set"),(.str "wait"),(.str "if"),(.str "else"),(.str "while"),(.str "rounds"),(.str "either"),(.str "or"),(.str "and"),(.str "not"),(.str "take"),(.str "give"),(.str "label"),(.str "say"),(.str "at"),(.str "divides"),(.str "true"),(.str "false")]):=⟨_,PySem.W.mg_of X G a,(Held.tup l (by simp) (jz.cons Held.str (jz.cons Held.str (jz.cons Held.str (jz.cons Held.str (jz.cons Held.str (jz.cons Held.str (jz.cons Held.str (jz.cons Held.str (jz.cons Held.str (jz.cons Held.str (jz.cons Held.str (jz.cons Held.str (jz.cons Held.str (jz.cons Held.str (jz.cons Held.str (jz.cons Held.str (jz.cons Held.str (jz.cons Held.str (jz.cons Held.str (jz.cons Held.str (jz.cons Held.str (jz.cons Held.str (jz.cons Held.str jz.nil))))))))))))))))))))))))⟩
theorem Kl {q:Addr} {t0 t1:Tok} {n:Nat} {s:Array (Option Value)} (a:PySem.W.nsIn K mainGlobals "LONG_SIGNS" = some (some (.ref q))) (l:K.lookup q=some ⟨.type "tuple",none,.seq [.str "<=" t0,.str ">=" t1].toArray n,s⟩):∃ u,mg "LONG_SIGNS" = some u/\Held K u (.tup [(.str "<="),(.str ">=")]):=⟨_,PySem.W.mg_of X G a,(Held.tup l (by simp) (jz.cons Held.str (jz.cons Held.str jz.nil)))⟩
theorem Jb {q:Addr} {t0 t1 t2 t3 t4 t5 t6 t7 t8:Tok} {n:Nat} {s:Array (Option Value)} (a:PySem.W.nsIn K mainGlobals "SHORT_SIGNS" = some (some (.ref q))) (l:K.lookup q=some ⟨.type "tuple",none,.seq [.str "+" t0,.str "-" t1,.str "*" t2,.str "<" t3,.str ">" t4,.str "=" t5,.str "[" t6,.str "]" t7,.str "," t8].toArray n,s⟩):∃ u,mg "SHORT_SIGNS" = some u/\Held K u (.tup [(.str "+"),(.str "-"),(.str "*"),(.str "<"),(.str ">"),(.str "="),(.str "["),(.str "]"),(.str ",")]):=⟨_,PySem.W.mg_of X G a,(Held.tup l (by simp) (jz.cons Held.str (jz.cons Held.str (jz.cons Held.str (jz.cons Held.str (jz.cons Held.str (jz.cons Held.str (jz.cons Held.str (jz.cons Held.str (jz.cons Held.str jz.nil))))))))))⟩
theorem ad6 {x v:Str} {t:Tok} (a:PySem.W.nsIn K mainGlobals x=some (some (.str v t))):∃ u,mg x=some u/\Held K u (.str v):=⟨_,PySem.W.mg_of X G a,Held.str⟩
end
theorem a9n {K:PySem.W.Frag} {Cl:Addr} {bm:List Value} {nm q:Str} {Na:Addr} {bs:List Value} {hd:Bool} {sn:List Str} {sub:List Value} {ab:Bool} {col:Option Bool} {dd:Option Addr} {k0 k1 k2 k3 k5:Option Value}
  (lk:K.lookup Cl=some (excClassObj nm q Cl Na bs bm hd sn sub ab col dd k0 k1 k2 k3 k5 "ValueError.__new__")) (b:bm.contains (.type "BaseException")=true):XCl K Cl bm:=⟨b,nm,q,Na,bs,hd,sn,sub,ab,col,dd,k0,k1,k2,k3,k5,lk⟩
def spL (K:PySem.W.Frag):Sp:=fun vs H Q E=>∀ cR cN,spF K 1 (_root_.K.a8c cR cN) vs H Q E
theorem fin {l:PySem.W.OpenLaw} {w:World} {K:PySem.W.Frag} {mg:Str->Option Value} {fa cR cN Ca:Addr} {bm:List Value} (cA:mg "law" = some (.ref fa)) (Z:Zk K mg cR cN Ca bm) :
  ∃ fd:FuncData,(∀ (s:Shared) (v:Value),BindsTo s fd ⟨[v],[]⟩ [("_law_script",v)])/\∀ base:Heap,K.In base->base.Ns mainGlobals mg->Aw l.prog w K mg base CX0 9 fa fd ["_law_script"] (spL K):=by
 obtain ⟨f,fd,F,m⟩:=Z.h31;cases cA.symm.trans m;refine ⟨fd,?_,fun base _ _=>(aa6 Z F).imp fun _ _ _ _ h=>h _ _⟩;obtain ⟨oc,od,kV,doc,pm,an,az,ct,bg,rfl,lk,aR⟩:=F.ex;exact fun s v=>.of_eq rfl
theorem walk {l:PySem.W.OpenLaw} {q:Program} {loose:List Str} {XP:(Str->Option Value)->Heap->Prop} {YP:World->Heap->Prop} {d:DefRec} {K:Params->PySem.W.Frag} (hn:l.most=some 63) (c6:d.params.defaults=[])
  (hY:∀ (w:World) (h:Heap),YP w h->(K w.params).In h)
  (F:∀ (w:World) (mg:Str->Option Value) (fa:Addr) (h:Heap),(K w.params).In h->h.Ns mainGlobals mg->mg d.name=some (.ref fa) ->
   ∃ fd:FuncData,(∀ (s:Shared) (u:Value),BindsTo s fd ⟨[u],[]⟩ [("_law_script",u)])/\∀ base:Heap,(K w.params).In base->base.Ns mainGlobals mg->Aw l.prog w (K w.params) mg base CX0 9 fa fd ["_law_script"] (spL (K w.params))) :
  PySem.W.WalkO q loose XP YP l.row.toRowW d [] (fun f vs=>PySem.call f vs) :=
 L2.a8h (n:=63) (k:=9) (x := "_law_script") (CX:=fun _=>CX0) (sp:=fun w=>spL (K w.params)) hn (by decide) c6 ⟨rfl,by decide,by decide⟩ hY F (fun w H a ns hl _ hS=>fun cR cN=>a8g hS (_root_.K.a2n (cs:=ns) hl)) fun _ _ _ _ _ z=>z
end D
theorem PySem.W.Fast.tw7588038274400379328:True:=⟨⟩
theorem PySem.W.Fast.tw3885714605094147779:True:=⟨⟩
theorem PySem.W.Fast.tw10308189451456992580:True:=⟨⟩
theorem PySem.W.Fast.tw8665238481218967332:True:=⟨⟩
theorem PySem.W.Fast.tw2620068275492802213:True:=⟨⟩
theorem PySem.W.Fast.tw4275850324089269863:True:=⟨⟩
theorem PySem.W.Fast.tw15099175038380604168:True:=⟨⟩
theorem PySem.W.Fast.tw8356396696688312232:True:=⟨⟩
theorem PySem.W.Fast.tw5897274084278452106:True:=⟨⟩
theorem PySem.W.Fast.tw12913365120163751275:True:=⟨⟩
theorem PySem.W.Fast.tw7353336541145153524:True:=⟨⟩
theorem PySem.W.Fast.tw4939243830666389493:True:=⟨⟩
theorem PySem.W.Fast.tw13023371224419643126:True:=⟨⟩
theorem PySem.W.Fast.tw12741584822423453047:True:=⟨⟩
theorem PySem.W.Fast.tw7111288256981570519:True:=⟨⟩
theorem PySem.W.Fast.tw9868919572225939450:True:=⟨⟩
theorem PySem.W.Fast.tw7885673166273156158:True:=⟨⟩
theorem PySem.W.Fast.tw12295189730476754559:True:=⟨⟩
theorem PySem.W.Fast.tw17721162955815094559:True:=⟨⟩
theorem PySem.W.Fast.tw8158899140537617178:True:=⟨⟩
open PySem PySem.W PyProof.Rows
set_option maxRecDepth 100000 in
set_option maxHeartbeats 0 in
theorem PySem.Challenge.cw_calm_k05_sums_read_and_written_holds : PySem.Challenge.rw_calm_k05_sums_read_and_written.Holds := by
 w_on; o_law; k_head; (case hw=>w_witness2)
 k_fill
 refine D.walk (l:=PySem.Challenge.rw_calm_k05_sums_read_and_written) rfl rfl (fun w h Y=>PySem.W.kIn_of Y) ?F
 case F =>
  intro w mg fa h KX G cA;refine' D.fin cA ?Z
  case Z =>
   constructor
   case hR=>refine' PySem.W.mg_of KX G ?a; (case a=>k_is)
   case kc=>refine' ⟨D.a9n ?lj ?bj,PySem.W.mg_of KX G ?a⟩; (case a=>k_is); (case lj=>k_is); (case bj=>rfl)
   case e=>refine' D.ae2 KX G ?a ?lk ?b ?i ?fn ?sa ?ob ?na ?kp ?l ?c ?k ?tt; (case a=>k_is); (case lk=>k_is); (case b=>k_exc); (case i=>k_is); (case fn=>k_is); (case sa=>k_is); (case ob=>k_is); (case na=>k_is); (case kp=>k_is); (case l=>k_is); (case c=>k_is); (case k=>k_is); (case tt=>rfl)
   case g=>refine' L2.XG.mk ?ga ?gt ?bx ?dc ?na ?cl ?cg ?ct ?ob ?ve; (case ve=>kit_is); (case ga=>k_is); (case gt=>k_is); (case bx=>k_is); (case dc=>k_is); (case na=>k_is); (case cl=>k_is); (case cg=>k_is); (case ct=>k_is); (case ob=>k_is)
   case t=>kit_is
   case cls=>refine' L2.Cls.mk ?_ ?_ ?_ ?_ <;> k_is
   case na_row | na_spot | na_tokens=>refine' (show PySem.W.findIn _ _ _=some none from ?a); (case a=>k_is)
   case h9=>refine' ⟨_,_,L2.Mk.mk ?ma ?mi ?mf ?mk,L2.U4 ?l ?c ?k⟩; (case ma=>k_is); (case mi=>k_is); (case mf=>k_is); (case mk=>k_is); (case l=>k_is); (case c=>k_is); (case k=>k_is)
   case h11 | h12 | h13 | h14 | h15 | h18=>refine' ⟨_,_,L2.Meth.mk ?ma ?mf ?mk,L2.U4 ?l ?c ?k⟩; (case ma=>k_is); (case mf=>k_is); (case mk=>k_is); (case l=>k_is); (case c=>k_is); (case k=>k_is)
   case c_KEY_WORDS=>refine' D.Mw KX G ?a ?l; (case a=>k_is); (case l=>k_is)
   case c_LONG_SIGNS=>refine' D.Kl KX G ?a ?l; (case a=>k_is); (case l=>k_is)
   case c_SHORT_SIGNS=>refine' D.Jb KX G ?a ?l; (case a=>k_is); (case l=>k_is)
   case c_FIGURES | c_LETTERS | c_WORD_SIGNS=>refine' D.ad6 KX G ?a; (case a=>k_is)
   case c_GREATEST | c_LONGEST_NAME=>refine' D.acr KX G ?a; (case a=>k_is)
   case b_ValueError | b_abs | b_all | b_any | b_bool | b_int | b_isinstance | b_len | b_list | b_max | b_range | b_sorted | b_str | b_sum | b_tuple | b_zip=>refine' PySem.W.mg_none_of KX G ?a; (case a=>k_is)
   case h0 | h1 | h2 | h3 | h4 | h5 | h6 | h7 | h8 | h10 | h16 | h17 | h19 | h20 | h21 | h22 | h23 | h24 | h25 | h26 | h27 | h28 | h29 | h30 | h31=>refine' D.adw KX G ?a ?l ?c ?k; (case a=>k_is); (case l=>k_is); (case c=>k_is); (case k=>k_is)
#print axioms PySem.Challenge.cw_calm_k05_sums_read_and_written_holds
end
